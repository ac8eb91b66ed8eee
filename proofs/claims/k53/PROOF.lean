import PyProof.Rows.All
import Wide.All
import OpenK.AllK
import Wide.FinOn
import PySem.Challenge.RW_seer_k53_answered_by_steps
import PyProof.Rows.News
import PyProof.Rows.Nodes
import PyProof.Rows.Chain
import PyProof.Rows.TupSub
import PyProof.PureInt
import PyProof.Rules2
import PyProof.Rules3
import PyProof.Rows.Globals
import PyProof.Rows.RuleB_mod
import PyProof.Rows.RuleB_floordiv
import PyProof.Rows.RuleB_small
import PyProof.NoPylong
import PyProof.Rows.RuleB_pow
import PyProof.Rows.EqDataRows
import PyProof.Rows.StrTemp
import PyProof.Rows.TupAdd
import PyProof.Rows.ListMul
import PyProof.ListIndexNeg
import PyProof.SliceList
import PyProof.Methods
import PyProof.Rows.Tup
import PyProof.IsiPairs
import PyProof.IsiHeapPairs
import PyProof.IsiNone
import PyProof.Rows.RuleN_abs
import PyProof.Rows.SumAny
import PyProof.WalkInts
import PyProof.PvWalk
import PyProof.RulesRaise
import PyProof.Raises
import PyProof.Dict
import PyProof.Seq
import PyProof.Rows.ListAppend
import PyProof.ForAppend
import PyProof.ForAny
import PyProof.Walks
import PyProof.WalksT
import KE.KItem
import PyProof.WalksMore
import PyProof.RangeFor
import PyProof.Rows.Range3
import OpenK.KCell
import KE.KTree
import KE.RegLcTurns
import KE.KCompFold
import KE.KLcPair
import KE.LcTurns
import PyProof.CompUse
import PyProof.Rows.ZipGen
import OpenK.KLine
import KE.KState
import Wide.Well
import PyProof.ListCopy
import PyProof.Rows.TupleOfSeqD
import KE.LcSums
import KE.KCellOne
import PyProof.FitsBits
import KE.KEqDeep
import PyProof.Rows.TupMore
import PyProof.Rows.NestLooks
import PyProof.EnumMake
import PyProof.WalksEnum
import PyProof.Rows.SortWalk
import PyProof.DictStraight
import PyProof.EqAt
import PyProof.Rows.SeqMore2
import PyProof.ListRange
import PyProof.LongRange
import KE.KAnyBase
import PyProof.Rows.SeqSlice
set_option linter.all false
set_option maxRecDepth 100000
set_option maxHeartbeats 8000000
abbrev Zz0:=@Option.bind_eq_some_iff
abbrev Zz1:=@Option.map_eq_some_iff
abbrev Zz2:=@List.mem_cons_of_mem
abbrev Zz3:=@List.mem_append_right
abbrev Zz4:=@List.mem_append_left
abbrev Zz5:=@List.mem_cons_self
abbrev Zz6:=@List.getElem?_eq_some_iff
abbrev Zz7:=@List.mem_cons
abbrev Zz8:=@List.mem_append
abbrev Zz9:=@List.mem_singleton
abbrev Zz10:=@Nat.le_refl
abbrev Zz11:=@List.mem_map
set_option Elab.async false
set_option compiler.extract_closed false
section
set_option autoImplicit false
/-! The plain machine: values as trees, lists as places; and how it stands for the model's heap. -/
namespace PM
open PySem PyProof.Rows
inductive V where
 | none
 | bool (b:Bool)
 | int (i:Int)
 | str (s:Str)
 | tup (vs:List V)
 | ref (a:Nat)
noncomputable abbrev Hp:=List (List V)
noncomputable abbrev Lc:=Nat→Option V
noncomputable def LEN: Nat:=100000
theorem Zbg: LEN=100000:=rfl
theorem Zda{n:Nat}(h:n≤LEN): n≤sizeLine:=by
 have:sizeLine=2 ^ 24:=rfl
 rw[this];rw[Zbg]at h;omega
noncomputable abbrev ZeM(xs:List Value)(k:Nat): Obj:={ cls:=.type "tuple",data:=.seq xs.toArray k }
noncomputable abbrev ZbX(xs:List Value)(k:Nat): Obj:={ cls:=.type "list",data:=.seq xs.toArray k }
structure Wd where
 pi:List Addr
 tups:List (Addr×Obj)
 sc:Addr×Obj
structure Wd.Le(W W':Wd): Prop where
 pi:W.pi <+: W'.pi
 tups:∀q∈W.tups,q∈W'.tups
 sc:W'.sc=W.sc
theorem Wd.Le.refl(W:Wd): W.Le W:=⟨List.prefix_refl _,fun _ h=>h,rfl⟩
theorem Wd.Le.trans{W W' W'':Wd}(a:W.Le W')(b:W'.Le W''): W.Le W'':=⟨a.pi.trans b.pi,fun q h=>b.tups q (a.tups q h),b.sc.trans a.sc⟩
theorem Wd.Le.at{W W':Wd}(h:W.Le W'){i:Nat}{a:Addr}(e:W.pi[i]?=some a): W'.pi[i]?=some a:=by
 obtain⟨t,ht⟩:=h.pi
 have hi:i<W.pi.length:=(Zz6.mp e).1
 rw[←ht,List.getElem?_append_left hi]
 exact e
mutual
inductive VR(W:Wd): V→Value→Prop where
 | none:VR W .none .none
 | bool (b:Bool):VR W (.bool b) (.bool b)
 | int (i:Int) (t:Tok):VR W (.int i) (.int i t)
 | str (s:Str) (t:Tok):VR W (.str s) (.str s t)
 | tup {vs:List V} {a:Addr} {xs:List Value} {k:Nat}:(a,ZeM xs k)∈W.tups→vs.length≤LEN→VRs W vs xs→VR W (.tup vs) (.ref a)
 | ref {i:Nat} {a:Addr}:W.pi[i]?=some a→VR W (.ref i) (.ref a)
inductive VRs(W:Wd): List V→List Value→Prop where
 | nil:VRs W [] []
 | cons {v:V} {x:Value} {vs:List V} {xs:List Value}:VR W v x→VRs W vs xs→VRs W (v::vs) (x::xs)
end
mutual
theorem VR.mono{W W':Wd}(h:W.Le W'){v:V}{x:Value}(r:VR W v x): VR W' v x:=by
 cases r with
 | none=>exact .none
 | bool b=>exact .bool b
 | int i t=>exact .int i t
 | str s t=>exact .str s t
 | tup hm hl hs=>exact .tup (h.tups _ hm) hl (VRs.mono h hs)
 | ref e=>exact .ref (h.at e)
theorem VRs.mono{W W':Wd}(h:W.Le W'){vs:List V}{xs:List Value}(r:VRs W vs xs): VRs W' vs xs:=by
 cases r with
 | nil=>exact .nil
 | cons a b=>exact .cons (VR.mono h a) (VRs.mono h b)
end
theorem VRs.length{W:Wd}: ∀{vs:List V} {xs:List Value},VRs W vs xs→xs.length=vs.length
 | _,_,.nil=>rfl
 | _,_,.cons _ r=>by rw[List.length_cons,List.length_cons,r.length]
theorem VRs.at{W:Wd}: ∀{vs:List V} {xs:List Value} {i:Nat} {v:V},VRs W vs xs→vs[i]?=some v→∃x,xs[i]?=some x∧VR W v x
 | _,_,_,_,.nil,e=>by simp at e
 | _,_,0,_,.cons a _,e=>by
  simp at e
  exact⟨_,by simp,e▸a⟩
 | _,_,i+1,_,.cons _ r,e=>by
  simp at e
  obtain⟨x,hx,hr⟩:=r.at e
  exact⟨x,by simpa using hx,hr⟩
theorem VRs.append{W:Wd}: ∀{vs us:List V} {xs ys:List Value},VRs W vs xs→VRs W us ys→VRs W (vs++us) (xs++ys)
 | _,_,_,_,.nil,h=>h
 | _,_,_,_,.cons a r,h=>.cons a (r.append h)
theorem VRs.snoc{W:Wd}{vs:List V}{xs:List Value}{v:V}{x:Value}(h:VRs W vs xs)(r:VR W v x): VRs W (vs++[v]) (xs++[x]):=h.append (.cons r .nil)
theorem VRs.set{W:Wd}: ∀{vs:List V} {xs:List Value} {v:V} {x:Value} (i:Nat),VRs W vs xs→VR W v x→VRs W (vs.set i v) (xs.set i x)
 | _,_,_,_,_,.nil,_=>.nil
 | _,_,_,_,0,.cons _ r,h=>.cons h r
 | _,_,_,_,i+1,.cons a r,h=>.cons a (r.set i h)
theorem VRs.drop{W:Wd}: ∀{vs:List V} {xs:List Value} (i:Nat),VRs W vs xs→VRs W (vs.drop i) (xs.drop i)
 | _,_,0,h=>h
 | _,_,_+1,.nil=>.nil
 | _,_,i+1,.cons _ r=>r.drop i
structure HR(W:Wd)(H:Hp)(led:List (Addr×Obj)): Prop where
 len:W.pi.length=H.length
 nd:W.pi.Nodup
 lists:∀(i:Nat) (vs:List V),H[i]?=some vs→vs.length≤LEN∧∃a xs k,W.pi[i]?=some a∧(a,ZbX xs k)∈led∧VRs W vs xs
 tups:∀q∈W.tups,q∈led
 kind:∀q∈W.tups,∃xs k,q.2=ZeM xs k
theorem HR.mono{W:Wd}{H:Hp}{led led':List (Addr×Obj)}(R:HR W H led)(h:∀q∈led,q∈led'): HR W H led':=
 ⟨R.len,R.nd,fun i vs e=>by
  obtain⟨l,a,xs,k,h1,h2,h3⟩:=R.lists i vs e
  exact⟨l,a,xs,k,h1,h _ h2,h3⟩,fun q hq=>h q (R.tups q hq),R.kind⟩
structure Cx where
 A:Around
 env:Env
 h₀:Heap
 L:Addr
 hh:A.handled=none
 hu:A.units+200<cLine
 Own:Wd→Lc→(Str→Option Value)→List (Addr×Obj)→Prop
 mono:∀{W W':Wd} {ρ:Lc} {m:Str→Option Value} {c:List (Addr×Obj)},W.Le W'→Own W ρ m c→Own W' ρ m c
structure Rep'(Γ:Cx)(W:Wd)(ρ:Lc)(H:Hp)(fr:List (Addr×Obj))(h:Heap)(m:Str→Option Value)(cells led:List (Addr×Obj)): Prop where
 F:Fr Γ.h₀ Γ.L h m
 N:News Γ.h₀ Γ.L h led
 R:HR W H (W.sc::led)
 sc:Γ.h₀.get? W.sc.1=some W.sc.2
 sc0:W.pi[0]?=some W.sc.1
 frIn:∀q∈fr,q∈led
 frOff:∀q∈fr,q.1∉W.pi
 clIn:∀q∈cells,q∈led
 clOff:∀q∈cells,q.1∉W.pi
 apart:∀q∈cells,∀r∈fr,q.1≠r.1
 frTup:∀q∈fr,∀t∈W.tups,q.1≠t.1
 clTup:∀q∈cells,∀t∈W.tups,q.1≠t.1
 own:Γ.Own W ρ m cells
noncomputable def Rep(Γ:Cx)(W:Wd)(ρ:Lc)(H:Hp)(fr:List (Addr×Obj))(h:Heap): Prop:=∃m cells led,Rep' Γ W ρ H fr h m cells led
theorem Rep.grown{Γ:Cx}{W:Wd}{ρ:Lc}{H:Hp}{fr:List (Addr×Obj)}{h h':Heap}(r:Rep Γ W ρ H fr h)(up:∀b o,h.get? b=some o→h'.get? b=some o): Rep Γ W ρ H fr h':=by
 obtain⟨m,c,led,r⟩:=r
 refine⟨m,c,led,⟨⟨?_,fun b o e=>up b o (r.F.keep b o e),r.F.above⟩,fun q hq=>⟨up _ _ (r.N q hq).1,(r.N q hq).2⟩,r.R,r.sc,r.sc0,r.frIn,r.frOff,r.clIn,r.clOff,r.apart,r.frTup,r.clTup,r.own⟩⟩
 obtain⟨o,es,ep,h1,h2⟩:=r.F.ns
 exact⟨o,es,ep,up _ _ h1,h2⟩
theorem Rep.push{Γ:Cx}{W:Wd}{ρ:Lc}{H:Hp}{fr:List (Addr×Obj)}{h:Heap}(r:Rep Γ W ρ H fr h)(o:Obj): Rep Γ W ρ H fr (h.push o):=r.grown fun _ _ e=>Heap.get?_push_of_some _ e
theorem Zen{q s:Addr×Obj}{l l':List (Addr×Obj)}(h:q∈s::l)(m:q∈l→q∈l'): q∈s::l':=by
 rcases Zz7.mp h with e | h
 ·exact e▸List.mem_cons_self
 ·exact Zz2 _ (m h)
theorem Zfy{q s:Addr×Obj}{l l':List (Addr×Obj)}(h:q∈s::l)(m:∀x∈l,x∈l'): q∈s::l':=by
 rcases Zz7.mp h with e | h
 ·exact e▸List.mem_cons_self
 ·exact Zz2 _ (m q h)
theorem Rep'.get{Γ:Cx}{W:Wd}{ρ:Lc}{H:Hp}{fr:List (Addr×Obj)}{h:Heap}{m:Str→Option Value}{c led:List (Addr×Obj)}(r:Rep' Γ W ρ H fr h m c led){q:Addr×Obj}(hq:q∈W.sc::led): h.get? q.1=some q.2:=by
 rcases Zz7.mp hq with e | hq
 ·rw[e]
  exact r.F.keep _ _ r.sc
 ·exact(r.N q hq).1
theorem Rep'.off{Γ:Cx}{W:Wd}{ρ:Lc}{H:Hp}{fr:List (Addr×Obj)}{h:Heap}{m:Str→Option Value}{c led:List (Addr×Obj)}(r:Rep' Γ W ρ H fr h m c led): ∀q∈W.sc::led,q.1≠h.objs.size:=fun q hq=>Nat.ne_of_lt (Heap.lt_size (r.get hq))
theorem Rep'.same{Γ:Cx}{W:Wd}{ρ:Lc}{H:Hp}{fr:List (Addr×Obj)}{h h':Heap}{m:Str→Option Value}{c led:List (Addr×Obj)}(r:Rep' Γ W ρ H fr h m c led)(F':Fr Γ.h₀ Γ.L h' m)(N':News Γ.h₀ Γ.L h' led): Rep Γ W ρ H fr h':=
 ⟨m,c,led,F',N',r.R,r.sc,r.sc0,r.frIn,r.frOff,r.clIn,r.clOff,r.apart,r.frTup,r.clTup,r.own⟩
theorem Rep'.piIn{Γ:Cx}{W:Wd}{ρ:Lc}{H:Hp}{fr:List (Addr×Obj)}{h:Heap}{m:Str→Option Value}{c led:List (Addr×Obj)}(r:Rep' Γ W ρ H fr h m c led): ∀a∈W.pi,∃o,(a,o)∈W.sc::led:=by
 intro a ha
 obtain⟨i,hi,e⟩:=List.getElem_of_mem ha
 have hi':i<H.length:=r.R.len▸hi
 obtain⟨_,b,xs,k,h1,h2,_⟩:=r.R.lists i H[i] (List.getElem?_eq_getElem hi')
 have:b=a:=by rw[List.getElem?_eq_getElem hi,e]at h1;exact(Option.some.inj h1).symm
 exact⟨_,this▸h2⟩
theorem Rep'.inLed{Γ:Cx}{W:Wd}{ρ:Lc}{H:Hp}{fr:List (Addr×Obj)}{h:Heap}{m:Str→Option Value}{c led:List (Addr×Obj)}(r:Rep' Γ W ρ H fr h m c led){i:Nat}{a:Addr}{o:Obj}(hi:i≠0)(ea:W.pi[i]?=some a)(hm:(a,o)∈W.sc::led): (a,o)∈led:=by
 rcases Zz7.mp hm with e | hm
 ·have e1:a=W.sc.1:=congrArg (·.1) e
  have hl:i<W.pi.length:=(Zz6.mp ea).1
  have:i=0:=(List.getElem?_inj hl r.R.nd).mp (by rw[ea,r.sc0,e1])
  exact absurd this hi
 ·exact hm
theorem Rep'.notSc{Γ:Cx}{W:Wd}{ρ:Lc}{H:Hp}{fr:List (Addr×Obj)}{h:Heap}{m:Str→Option Value}{c led:List (Addr×Obj)}(r:Rep' Γ W ρ H fr h m c led): ∀q∈led,q.1≠W.sc.1:=fun q hq e=>by
 have:=(r.N q hq).2.2
 rw[e,r.sc]at this
 cases this
theorem Rep'.newTup{Γ:Cx}{W:Wd}{ρ:Lc}{H:Hp}{fr:List (Addr×Obj)}{h h':Heap}{m:Str→Option Value}{c led:List (Addr×Obj)}{vs:List V}{xs:List Value}{k:Nat}{n:Addr}(r:Rep' Γ W ρ H fr h m c led)(F':Fr Γ.h₀ Γ.L h' m)(N':News Γ.h₀ Γ.L h' ((n,ZeM xs k)::led))(hn:∀q∈W.sc::led,q.1≠n)(hv:VRs W vs xs)(hl:vs.length≤LEN):
  ∃W',W.Le W'∧Rep Γ W' ρ H fr h'∧VR W' (.tup vs) (.ref n):=by
 have le:W.Le ⟨W.pi,(n,ZeM xs k)::W.tups,W.sc⟩:=⟨List.prefix_refl _,fun q hq=>List.mem_cons_of_mem _ hq,rfl⟩
 refine⟨⟨W.pi,(n,ZeM xs k)::W.tups,W.sc⟩,le,⟨m,c,(n,ZeM xs k)::led,⟨F',N',?_,r.sc,r.sc0,fun q hq=>List.mem_cons_of_mem _ (r.frIn q hq),r.frOff,fun q hq=>List.mem_cons_of_mem _ (r.clIn q hq),r.clOff,r.apart,fun q hq t ht=>?_,fun q hq t ht=>?_,Γ.mono le r.own⟩⟩,.tup Zz5 hl (hv.mono le)⟩
 ·refine⟨r.R.len,r.R.nd,fun i us e=>?_,fun q hq=>?_,fun q hq=>?_⟩
  ·obtain⟨l,a,ys,j,h1,h2,h3⟩:=r.R.lists i us e
   exact⟨l,a,ys,j,h1,Zfy h2 fun x hx=>List.mem_cons_of_mem _ hx,h3.mono le⟩
  ·rcases Zz7.mp hq with e | hq
   ·exact e▸List.mem_cons_of_mem _ Zz5
   ·exact Zfy (r.R.tups q hq) fun x hx=>List.mem_cons_of_mem _ hx
  ·rcases Zz7.mp hq with e | hq
   ·exact⟨xs,k,by rw[e]⟩
   ·exact r.R.kind q hq
 ·rcases Zz7.mp ht with e | ht
  ·rw[e]
   exact hn q (Zz2 _ (r.frIn q hq))
  ·exact r.frTup q hq t ht
 ·rcases Zz7.mp ht with e | ht
  ·rw[e]
   exact hn q (Zz2 _ (r.clIn q hq))
  ·exact r.clTup q hq t ht
theorem Rep.tuple{Γ:Cx}{W:Wd}{ρ:Lc}{H:Hp}{fr:List (Addr×Obj)}{h:Heap}{vs:List V}{xs:List Value}{k:Nat}(r:Rep Γ W ρ H fr h)(hv:VRs W vs xs)(hl:vs.length≤LEN):
  ∃W',W.Le W'∧Rep Γ W' ρ H fr (h.push (ZeM xs k))∧VR W' (.tup vs) (.ref h.objs.size):=by
 obtain⟨m,c,led,r⟩:=r
 exact r.newTup (r.F.push _) (News.push r.F r.N _) r.off hv hl
theorem Rep'.newList{Γ:Cx}{W:Wd}{ρ:Lc}{H:Hp}{fr:List (Addr×Obj)}{h h':Heap}{m:Str→Option Value}{c led:List (Addr×Obj)}{vs:List V}{xs:List Value}{k:Nat}{n:Addr}(r:Rep' Γ W ρ H fr h m c led)(F':Fr Γ.h₀ Γ.L h' m)(N':News Γ.h₀ Γ.L h' ((n,ZbX xs k)::led))(hn:∀q∈W.sc::led,q.1≠n)(hv:VRs W vs xs)(hl:vs.length≤LEN):
  ∃W',W.Le W'∧Rep Γ W' ρ (H++[vs]) fr h'∧VR W' (.ref H.length) (.ref n):=by
 have le:W.Le ⟨W.pi++[n],W.tups,W.sc⟩:=⟨List.prefix_append _ _,fun q hq=>hq,rfl⟩
 have h0:0<W.pi.length:=(Zz6.mp r.sc0).1
 have at_n:(W.pi++[n])[H.length]?=some n:=by rw[←r.R.len];simp
 refine⟨⟨W.pi++[n],W.tups,W.sc⟩,le,⟨m,c,(n,ZbX xs k)::led,⟨F',N',?_,r.sc,(List.getElem?_append_left h0).trans r.sc0,fun q hq=>List.mem_cons_of_mem _ (r.frIn q hq),fun q hq=>?_,fun q hq=>List.mem_cons_of_mem _ (r.clIn q hq),fun q hq=>?_,r.apart,r.frTup,r.clTup,Γ.mono le r.own⟩⟩,.ref at_n⟩
 ·refine⟨by simp[r.R.len],?_,fun i us e=>?_,fun q hq=>Zfy (r.R.tups q hq) fun x hx=>List.mem_cons_of_mem _ hx,r.R.kind⟩
  ·show(W.pi++[n]).Nodup
   rw[List.nodup_append]
   refine⟨r.R.nd,by simp,fun a ha b hb=>?_⟩
   rw[List.mem_singleton.mp hb]
   obtain⟨o,ho⟩:=r.piIn a ha
   exact hn _ ho
  ·by_cases hi:i<H.length
   ·rw[List.getElem?_append_left hi]at e
    obtain⟨l,a,ys,j,h1,h2,h3⟩:=r.R.lists i us e
    exact⟨l,a,ys,j,le.at h1,Zfy h2 fun x hx=>List.mem_cons_of_mem _ hx,h3.mono le⟩
   ·have:i=H.length:=by
     have:=(Zz6.mp e).1
     simp at this
     omega
    subst this
    simp at e
    subst e
    exact⟨hl,n,xs,k,at_n,List.mem_cons_of_mem _ Zz5,hv.mono le⟩
 ·intro hm
  rcases Zz8.mp hm with hm | hm
  ·exact r.frOff q hq hm
  ·exact hn q (Zz2 _ (r.frIn q hq)) (Zz9.mp hm)
 ·intro hm
  rcases Zz8.mp hm with hm | hm
  ·exact r.clOff q hq hm
  ·exact hn q (Zz2 _ (r.clIn q hq)) (Zz9.mp hm)
theorem Rep.list{Γ:Cx}{W:Wd}{ρ:Lc}{H:Hp}{fr:List (Addr×Obj)}{h:Heap}{vs:List V}{xs:List Value}{k:Nat}(r:Rep Γ W ρ H fr h)(hv:VRs W vs xs)(hl:vs.length≤LEN):
  ∃W',W.Le W'∧Rep Γ W' ρ (H++[vs]) fr (h.push (ZbX xs k))∧VR W' (.ref H.length) (.ref h.objs.size):=by
 obtain⟨m,c,led,r⟩:=r
 exact r.newList (r.F.push _) (News.push r.F r.N _) r.off hv hl
theorem Rep.at{Γ:Cx}{W:Wd}{ρ:Lc}{H:Hp}{fr:List (Addr×Obj)}{h:Heap}{i:Nat}{a:Addr}{vs:List V}(r:Rep Γ W ρ H fr h)(e:H[i]?=some vs)(ea:W.pi[i]?=some a): vs.length≤LEN∧∃xs k,h.get? a=some (ZbX xs k)∧VRs W vs xs:=by
 obtain⟨m,c,led,r⟩:=r
 obtain⟨l,b,xs,k,h1,h2,h3⟩:=r.R.lists i vs e
 rw[ea]at h1
 cases h1
 exact⟨l,xs,k,r.get h2,h3⟩
theorem Rep.tupAt{Γ:Cx}{W:Wd}{ρ:Lc}{H:Hp}{fr:List (Addr×Obj)}{h:Heap}{q:Addr×Obj}(r:Rep Γ W ρ H fr h)(e:q∈W.tups): h.get? q.1=some q.2:=by
 obtain⟨m,c,led,r⟩:=r
 exact r.get (r.R.tups _ e)
theorem Rep'.changed{Γ:Cx}{W:Wd}{ρ:Lc}{H:Hp}{fr:List (Addr×Obj)}{h h':Heap}{m:Str→Option Value}{c led:List (Addr×Obj)}{i:Nat}{a:Addr}{vs us:List V}{ys:List Value}{k:Nat}(r:Rep' Γ W ρ H fr h m c led)(i0:i≠0)(e:H[i]?=some vs)(ea:W.pi[i]?=some a)(F':Fr Γ.h₀ Γ.L h' m)(N':News Γ.h₀ Γ.L h' ((a,ZbX ys k)::led.filter (fun q=>decide (q.1≠a))))(hv:VRs W us ys)(hl:us.length≤LEN):
  Rep Γ W ρ (H.set i us) fr h':=by
 obtain⟨_,b,xs,j,h1,h2,h3⟩:=r.R.lists i vs e
 rw[ea]at h1
 cases h1
 have h2:=r.inLed i0 ea h2
 have hN:=r.N _ h2
 have hm:a∈W.pi:=List.mem_of_getElem? ea
 have hi:i<H.length:=(Zz6.mp e).1
 refine⟨m,c,(a,ZbX ys k)::led.filter (fun q=>decide (q.1≠a)),⟨F',N',?_,r.sc,r.sc0,fun q hq=>?_,r.frOff,fun q hq=>?_,r.clOff,r.apart,r.frTup,r.clTup,r.own⟩⟩
 ·refine⟨by simp[r.R.len],r.R.nd,fun n ws en=>?_,fun q hq=>?_,r.R.kind⟩
  ·by_cases hn:n=i
   ·subst hn
    rw[List.getElem?_set_self hi]at en
    cases en
    exact⟨hl,a,ys,k,ea,List.mem_cons_of_mem _ Zz5,hv⟩
   ·rw[List.getElem?_set_ne (Ne.symm hn)]at en
    obtain⟨l,d,zs,j',g1,g2,g3⟩:=r.R.lists n ws en
    refine⟨l,d,zs,j',g1,Zen g2 fun g2=>List.mem_cons_of_mem _ (List.mem_filter.mpr ⟨g2,?_⟩),g3⟩
    have:d≠a:=fun e=>by
     subst e
     exact hn ((List.getElem?_inj (Zz6.mp g1).1 r.R.nd).mp (g1.trans ea.symm))
    simpa using this
  ·refine Zen (r.R.tups q hq) fun g2=>List.mem_cons_of_mem _ (List.mem_filter.mpr ⟨g2,?_⟩)
   have:q.1≠a:=fun e=>by
    obtain⟨zs,j',hk⟩:=r.R.kind q hq
    have g:=r.get (r.R.tups q hq)
    rw[e,hN.1,hk]at g
    have c:=congrArg Obj.cls (Option.some.inj g)
    exact absurd c (by simp)
   simpa using this
 ·refine Zz2 _ (List.mem_filter.mpr ⟨r.frIn q hq,?_⟩)
  have:q.1≠a:=fun e=>r.frOff q hq (e▸hm)
  simpa using this
 ·refine Zz2 _ (List.mem_filter.mpr ⟨r.clIn q hq,?_⟩)
  have:q.1≠a:=fun e=>r.clOff q hq (e▸hm)
  simpa using this
theorem Rep.change{Γ:Cx}{W:Wd}{ρ:Lc}{H:Hp}{fr:List (Addr×Obj)}{h h':Heap}{i:Nat}{a:Addr}{vs us:List V}{ys:List Value}{k:Nat}(r:Rep Γ W ρ H fr h)(i0:i≠0)(e:H[i]?=some vs)(ea:W.pi[i]?=some a)(sb:Heap.SameBut a h h')(ha:h'.get? a=some (ZbX ys k))(hv:VRs W us ys)(hl:us.length≤LEN):
  Rep Γ W ρ (H.set i us) fr h':=by
 obtain⟨m,c,led,r⟩:=r
 obtain⟨_,b,xs,j,h1,h2,h3⟩:=r.R.lists i vs e
 rw[ea]at h1
 cases h1
 have h2:=r.inLed i0 ea h2
 have hN:=r.N _ h2
 have keep:∀q∈led,q.1≠a→h'.get? q.1=some q.2:=fun q hq hn=>sb.extBut _ _ hn (r.N q hq).1
 refine r.changed (k:=k) i0 e ea ⟨r.F.ns.sameBut sb (Ne.symm hN.2.1),fun b o eb=>sb.extBut b o (fun q=>?_) (r.F.keep b o eb),r.F.above⟩ (fun q hq=>?_) hv hl
 ·subst q
  rw[hN.2.2]at eb
  cases eb
 ·rcases Zz7.mp hq with e | hq
  ·subst e
   exact⟨ha,hN.2⟩
  ·obtain⟨h1,h2⟩:=List.mem_filter.mp hq
   exact⟨keep q h1 (by simpa using h2),(r.N q h1).2⟩
theorem Rep.swap{Γ:Cx}{W:Wd}{ρ:Lc}{H:Hp}{fs fs' fr:List (Addr×Obj)}{h h':Heap}(r:Rep Γ W ρ H (fs++fr) h)(ap:∀q∈fs,∀t∈fr,q.1≠t.1)(keep:∀b o,b∉fs.map (·.1)→h.get? b=some o→h'.get? b=some o)(new:∀q∈fs',h'.get? q.1=some q.2∧q.1∈fs.map (·.1)): Rep Γ W ρ H (fs'++fr) h':=by
 obtain⟨m,c,led,r⟩:=r
 have inF:∀q∈fs,q∈fs++fr:=fun q hq=>List.mem_append_left _ hq
 have nL:∀a∈fs.map (·.1),a≠Γ.L∧Γ.h₀.get? a=none:=fun a ha=>by
  obtain⟨q,hq,e⟩:=Zz11.mp ha
  exact e▸(r.N q (r.frIn q (inF q hq))).2
 have kp:∀q∈led,q.1∉fs.map (·.1)→h'.get? q.1=some q.2:=fun q hq hn=>keep _ _ hn (r.N q hq).1
 refine⟨m,c,fs'++led.filter (fun q=>decide (q.1∉fs.map (·.1))),⟨⟨?_,fun b o e=>?_,r.F.above⟩,fun q hq=>?_,⟨r.R.len,r.R.nd,fun i vs e=>?_,fun q hq=>?_,r.R.kind⟩,r.sc,r.sc0,fun q hq=>?_,fun q hq=>?_,fun q hq=>?_,r.clOff,fun q hq t ht=>?_,fun q hq t ht=>?_,r.clTup,r.own⟩⟩
 ·obtain⟨o,es,ep,h1,h2⟩:=r.F.ns
  exact⟨o,es,ep,keep _ _ (fun q=>(nL _ q).1 rfl) h1,h2⟩
 ·refine keep b o (fun q=>?_) (r.F.keep b o e)
  rw[(nL b q).2]at e
  cases e
 ·rcases Zz8.mp hq with hq | hq
  ·obtain⟨h1,h2⟩:=new q hq
   exact⟨h1,nL _ h2⟩
  ·obtain⟨h1,h2⟩:=List.mem_filter.mp hq
   exact⟨kp q h1 (by simpa using h2),(r.N q h1).2⟩
 ·obtain⟨l,a,xs,k,h1,h2,h3⟩:=r.R.lists i vs e
  refine⟨l,a,xs,k,h1,Zen h2 fun h2=>List.mem_append_right _ (List.mem_filter.mpr ⟨h2,?_⟩),h3⟩
  have:a∉fs.map (·.1):=fun q=>by
   obtain⟨t,ht,e⟩:=Zz11.mp q
   exact r.frOff t (inF t ht) (e▸List.mem_of_getElem? h1)
  simpa using this
 ·refine Zen (r.R.tups q hq) fun h2=>List.mem_append_right _ (List.mem_filter.mpr ⟨h2,?_⟩)
  have:q.1∉fs.map (·.1):=fun z=>by
   obtain⟨t,ht,e⟩:=Zz11.mp z
   exact r.frTup t (inF t ht) q hq e
  simpa using this
 ·rcases Zz8.mp hq with hq | hq
  ·exact Zz4 _ hq
  ·refine Zz3 _ (List.mem_filter.mpr ⟨r.frIn q (Zz3 _ hq),?_⟩)
   have:q.1∉fs.map (·.1):=fun z=>by
    obtain⟨t,ht,e⟩:=Zz11.mp z
    exact ap t ht q hq e
   simpa using this
 ·rcases Zz8.mp hq with hq | hq
  ·obtain⟨t,ht,e⟩:=Zz11.mp (new q hq).2
   exact e▸r.frOff t (inF t ht)
  ·exact r.frOff q (Zz3 _ hq)
 ·refine Zz3 _ (List.mem_filter.mpr ⟨r.clIn q hq,?_⟩)
  have:q.1∉fs.map (·.1):=fun z=>by
   obtain⟨t,ht,e⟩:=Zz11.mp z
   exact r.apart q hq t (inF t ht) e.symm
  simpa using this
 ·rcases Zz8.mp ht with ht | ht
  ·obtain⟨u,hu,e⟩:=Zz11.mp (new t ht).2
   exact e▸r.apart q hq u (inF u hu)
  ·exact r.apart q hq t (Zz3 _ ht)
 ·rcases Zz8.mp hq with hq | hq
  ·obtain⟨u,hu,e⟩:=Zz11.mp (new q hq).2
   exact e▸r.frTup u (inF u hu) t ht
  ·exact r.frTup q (Zz3 _ hq) t ht
theorem Rep.more{Γ:Cx}{W:Wd}{ρ:Lc}{H:Hp}{fs fr:List (Addr×Obj)}{h h':Heap}(r:Rep Γ W ρ H fr h)(up:∀b o,h.get? b=some o→h'.get? b=some o)(new:∀q∈fs,h'.get? q.1=some q.2∧h.objs.size≤q.1): Rep Γ W ρ H (fs++fr) h'∧∀q∈fs,∀t∈fr,q.1≠t.1:=by
 have r':=r.grown up
 obtain⟨m,c,led,r⟩:=r
 have lt:∀q∈W.sc::led,q.1<h.objs.size:=fun q hq=>Heap.lt_size (r.get hq)
 have ne:∀q∈fs,∀t∈W.sc::led,q.1≠t.1:=fun q hq t ht=>Nat.ne_of_gt (Nat.lt_of_lt_of_le (lt t ht) (new q hq).2)
 refine⟨⟨m,c,fs++led,⟨⟨?_,fun b o e=>up b o (r.F.keep b o e),r.F.above⟩,fun q hq=>?_,r.R.mono fun q hq=>Zfy hq fun x hx=>List.mem_append_right _ hx,r.sc,r.sc0,fun q hq=>?_,fun q hq=>?_,fun q hq=>List.mem_append_right _ (r.clIn q hq),r.clOff,fun q hq t ht=>?_,fun q hq t ht=>?_,r.clTup,r.own⟩⟩,fun q hq t ht=>ne q hq t (Zz2 _ (r.frIn t ht))⟩
 ·obtain⟨o,es,ep,h1,h2⟩:=r.F.ns
  exact⟨o,es,ep,up _ _ h1,h2⟩
 ·rcases Zz8.mp hq with hq | hq
  ·obtain⟨h1,h2⟩:=new q hq
   refine⟨h1,fun e=>?_,?_⟩
   ·exact absurd (e▸r.F.ns.lt) (Nat.not_lt.mpr h2)
   ·cases e:Γ.h₀.get? q.1 with
    | none=>rfl
    | some o=>exact absurd (Heap.lt_size (r.F.keep _ _ e)) (Nat.not_lt.mpr h2)
  ·exact⟨up _ _ (r.N q hq).1,(r.N q hq).2⟩
 ·rcases Zz8.mp hq with hq | hq
  ·exact Zz4 _ hq
  ·exact Zz3 _ (r.frIn q hq)
 ·rcases Zz8.mp hq with hq | hq
  ·intro hm
   obtain⟨o,ho⟩:=r.piIn _ hm
   exact ne q hq _ ho rfl
  ·exact r.frOff q hq
 ·rcases Zz8.mp ht with ht | ht
  ·exact(ne t ht q (Zz2 _ (r.clIn q hq))).symm
  ·exact r.apart q hq t ht
 ·rcases Zz8.mp hq with hq | hq
  ·exact ne q hq t (r.R.tups t ht)
  ·exact r.frTup q hq t ht
theorem Rep.less{Γ:Cx}{W:Wd}{ρ:Lc}{H:Hp}{fs fr:List (Addr×Obj)}{h:Heap}(r:Rep Γ W ρ H fs h)(sub:∀q∈fr,q∈fs): Rep Γ W ρ H fr h:=by
 obtain⟨m,c,led,r⟩:=r
 exact⟨m,c,led,⟨r.F,r.N,r.R,r.sc,r.sc0,fun q hq=>r.frIn q (sub q hq),fun q hq=>r.frOff q (sub q hq),r.clIn,r.clOff,fun q hq t ht=>r.apart q hq t (sub t ht),fun q hq=>r.frTup q (sub q hq),r.clTup,r.own⟩⟩
theorem Rep.frAt{Γ:Cx}{W:Wd}{ρ:Lc}{H:Hp}{fr:List (Addr×Obj)}{h:Heap}{q:Addr×Obj}(r:Rep Γ W ρ H fr h)(hq:q∈fr): h.get? q.1=some q.2:=by
 obtain⟨m,c,led,r⟩:=r
 exact(r.N q (r.frIn q hq)).1
end PM
end
section
set_option autoImplicit false
namespace PM
open PySem PyProof.Rows PyProof
noncomputable abbrev Ex:=Lc→Hp→Option (V×Hp)
noncomputable abbrev Exs:=Lc→Hp→Option (List V×Hp)
noncomputable abbrev Ts:=Lc→Hp→Option (Bool×Hp)
noncomputable abbrev ZgV(Γ:Cx)(W:Wd)(ρ:Lc)(H:Hp)(fr:List (Addr×Obj))(s:Shared)(Q:Value→Shared→Prop)(v:V): Prop:=
 ∀(W':Wd) (h':Heap) (tk':Nat) (x:Value),W.Le W'→Rep Γ W' ρ H fr h'→VR W' v x→Q x { s with heap:=h',toks:=tk' }
noncomputable abbrev ZiI(Γ:Cx)(W:Wd)(ρ:Lc)(H:Hp)(fr:List (Addr×Obj))(s:Shared)(Q:Bool→Shared→Prop)(b:Bool): Prop:=
 ∀(W':Wd) (h':Heap) (tk':Nat),W.Le W'→Rep Γ W' ρ H fr h'→Q b { s with heap:=h',toks:=tk' }
section
variable (prog:Program) (w:World)
noncomputable def J(Γ:Cx)(e:Expr)(f:Ex): Prop:=∀(W:Wd) (ρ:Lc) (H:Hp) (fr:List (Addr×Obj)) (s:Shared) (Q E:Value→Shared→Prop) (v:V) (H':Hp),
 Rep Γ W ρ H fr s.heap→f ρ H=some (v,H')→ZgV Γ W ρ H' fr s Q v→wpAny (model prog w) Γ.A (eval e Γ.env) Q E s
noncomputable def Js(Γ:Cx)(es:List Expr)(f:Exs): Prop:=∀(pos:Pos) (W:Wd) (ρ:Lc) (H:Hp) (fr:List (Addr×Obj)) (s:Shared) (Q:List Value→Shared→Prop) (E:Value→Shared→Prop) (vs:List V) (H':Hp),
 Rep Γ W ρ H fr s.heap→f ρ H=some (vs,H')→(∀(W':Wd) (h':Heap) (tk':Nat) (xs:List Value),W.Le W'→Rep Γ W' ρ H' fr h'→VRs W' vs xs→Q xs { s with heap:=h',toks:=tk' })→wpAny (model prog w) Γ.A (spliced (backTo pos (starEach es Γ.env))) Q E s
noncomputable def JT(Γ:Cx)(e:Expr)(f:Ts): Prop:=∀(W:Wd) (ρ:Lc) (H:Hp) (fr:List (Addr×Obj)) (s:Shared) (Q:Bool→Shared→Prop) (E:Value→Shared→Prop) (b:Bool) (H':Hp),
 Rep Γ W ρ H fr s.heap→f ρ H=some (b,H')→ZiI Γ W ρ H' fr s Q b→wpAny (model prog w) Γ.A (isTrue e Γ.env (eval e Γ.env)) Q E s
noncomputable def Op2(m:Value→Value→Sem Value)(o:V→V→Hp→Option (V×Hp)): Prop:=∀(Γ:Cx) (W:Wd) (ρ:Lc) (H:Hp) (fr:List (Addr×Obj)) (s:Shared) (Q E:Value→Shared→Prop) (a b:V) (x y:Value) (v:V) (H':Hp),
 Rep Γ W ρ H fr s.heap→VR W a x→VR W b y→o a b H=some (v,H')→ZgV Γ W ρ H' fr s Q v→wpAny (model prog w) Γ.A (m x y) Q E s
noncomputable def Op1(m:Value→Sem Value)(o:V→Hp→Option (V×Hp)): Prop:=∀(Γ:Cx) (W:Wd) (ρ:Lc) (H:Hp) (fr:List (Addr×Obj)) (s:Shared) (Q E:Value→Shared→Prop) (a:V) (x:Value) (v:V) (H':Hp),
 Rep Γ W ρ H fr s.heap→VR W a x→o a H=some (v,H')→ZgV Γ W ρ H' fr s Q v→wpAny (model prog w) Γ.A (m x) Q E s
noncomputable def OpT(m:Value→Sem Bool)(o:V→Hp→Option Bool): Prop:=∀(Γ:Cx) (W:Wd) (ρ:Lc) (H:Hp) (fr:List (Addr×Obj)) (s:Shared) (Q:Bool→Shared→Prop) (E:Value→Shared→Prop) (a:V) (x:Value) (b:Bool),
 Rep Γ W ρ H fr s.heap→VR W a x→o a H=some b→ZiI Γ W ρ H fr s Q b→wpAny (model prog w) Γ.A (m x) Q E s
end
noncomputable def Zk(k:Int): Ex:=fun _ H=>some (.int k,H)
noncomputable def ZY: Ex:=fun _ H=>some (.none,H)
noncomputable def Zcg(b:Bool): Ex:=fun _ H=>some (.bool b,H)
noncomputable def Zb(i:Nat): Ex:=fun ρ H=>(ρ i).map fun v=>(v,H)
noncomputable def Ze(o:V→V→Hp→Option (V×Hp))(f g:Ex): Ex:=fun ρ H=>(f ρ H).bind fun p=>(g ρ p.2).bind fun q=>o p.1 q.1 q.2
noncomputable def eUn(o:V→Hp→Option (V×Hp))(f:Ex): Ex:=fun ρ H=>(f ρ H).bind fun p=>o p.1 p.2
noncomputable def eIf(t:Ts)(f g:Ex): Ex:=fun ρ H=>(t ρ H).bind fun p=>if p.1 then f ρ p.2 else g ρ p.2
noncomputable def Zn: Exs:=fun _ H=>some ([],H)
noncomputable def Zg(f:Ex)(g:Exs): Exs:=fun ρ H=>(f ρ H).bind fun p=>(g ρ p.2).bind fun q=>some (p.1::q.1,q.2)
noncomputable def Zaw(g:Exs): Ex:=fun ρ H=>(g ρ H).bind fun p=>if p.1.length≤LEN then some (.tup p.1,p.2)else none
noncomputable def Za4(g:Exs): Ex:=fun ρ H=>(g ρ H).bind fun p=>if p.1.length≤LEN then some (.ref p.2.length,p.2++[p.1])else none
noncomputable def ZcQ: V→Hp→Option Bool
 | .bool b,_=>some b
 | .int i,_=>some (i != 0)
 | .none,_=>some false
 | _,_=>none
noncomputable def ZK(f:Ex): Ts:=fun ρ H=>(f ρ H).bind fun p=>(ZcQ p.1 p.2).map fun b=>(b,p.2)
noncomputable def ZcM(t:Ts): Ts:=fun ρ H=>(t ρ H).map fun p=>(!p.1,p.2)
noncomputable def Zao: Ts:=fun _ H=>some (true,H)
noncomputable def Zcd: Ts:=fun _ H=>some (false,H)
noncomputable def ZaT(t u:Ts): Ts:=fun ρ H=>(t ρ H).bind fun p=>if p.1 then u ρ p.2 else some (false,p.2)
noncomputable def tOr(t u:Ts): Ts:=fun ρ H=>(t ρ H).bind fun p=>if p.1 then some (true,p.2)else u ρ p.2
noncomputable def ZiS(f:Ex): Ex:=fun ρ H=>(f ρ H).bind fun p=>(ZcQ p.1 p.2).map fun b=>(.bool (!b),p.2)
noncomputable def Zeo(f g:Ex): Ex:=fun ρ H=>(f ρ H).bind fun p=>(ZcQ p.1 p.2).bind fun b=>if b then g ρ p.2 else some p
noncomputable def eOr(f g:Ex): Ex:=fun ρ H=>(f ρ H).bind fun p=>(ZcQ p.1 p.2).bind fun b=>if b then some p else g ρ p.2
section
variable {prog:Program} {w:World} {Γ:Cx}
theorem J.int(k:Int)(n:Nat)(pos:Pos): J prog w Γ (.Constant (.int k) n pos) (Zk k):=fun W ρ H fr s Q E v H' r e post=>by
 cases e
 exact wpAny_Constant_int (post W s.heap _ _ (.refl W) r (.int k _))
theorem J.none(n:Nat)(pos:Pos): J prog w Γ (.Constant .none n pos) ZY:=fun W ρ H fr s Q E v H' r e post=>by
 cases e
 exact wpAny_Constant_none (post W s.heap s.toks _ (.refl W) r .none)
theorem J.bool(b:Bool)(n:Nat)(pos:Pos): J prog w Γ (.Constant (.bool b) n pos) (Zcg b):=fun W ρ H fr s Q E v H' r e post=>by
 cases e
 exact wpAny_Constant_bool (post W s.heap s.toks _ (.refl W) r (.bool b))
theorem ZD{e1 e2:Expr}{op:Operator}{pos:Pos}{f g:Ex}{o:V→V→Hp→Option (V×Hp)}(h1:J prog w Γ e1 f)(h2:J prog w Γ e2 g)(ho:Op2 prog w (binaryOp op) o): J prog w Γ (.BinOp e1 op e2 pos) (Ze o f g):=by
 intro W ρ H fr s Q E v H' r hf post
 obtain⟨p,e1,hf⟩:=Zz0.mp hf
 obtain⟨q,e2,e3⟩:=Zz0.mp hf
 refine wpAny_BinOp (h1 W ρ H fr s _ E _ _ r e1 fun W1 k1 t1 x l1 r1 x1=>?_)
 refine h2 W1 ρ _ fr _ _ E _ _ r1 e2 fun W2 k2 t2 y l2 r2 y2=>?_
 exact ho Γ W2 ρ _ fr _ Q E _ _ x y v H' r2 (x1.mono l2) y2 e3 fun W3 k3 t3 z l3 r3 z3=>post W3 k3 t3 z ((l1.trans l2).trans l3) r3 z3
theorem Zdk{e1 e2:Expr}{op:CmpOp}{pos:Pos}{f g:Ex}{o:V→V→Hp→Option (V×Hp)}(h1:J prog w Γ e1 f)(h2:J prog w Γ e2 g)(ho:Op2 prog w (compareOp op) o)(hm:behindInMarks op e2=false:=by with_unfolding_all rfl): J prog w Γ (.Compare e1 [op] [e2] pos) (Ze o f g):=by
 intro W ρ H fr s Q E v H' r hf post
 obtain⟨p,e1,hf⟩:=Zz0.mp hf
 obtain⟨q,e2,e3⟩:=Zz0.mp hf
 refine wpAny_Compare1 (h1 W ρ H fr s _ E _ _ r e1 fun W1 k1 t1 x l1 r1 x1=>?_) hm
 refine h2 W1 ρ _ fr _ _ E _ _ r1 e2 fun W2 k2 t2 y l2 r2 y2=>?_
 exact ho Γ W2 ρ _ fr _ Q E _ _ x y v H' r2 (x1.mono l2) y2 e3 fun W3 k3 t3 z l3 r3 z3=>post W3 k3 t3 z ((l1.trans l2).trans l3) r3 z3
theorem Zep{e1:Expr}{op:UnaryOp}{pos:Pos}{f:Ex}{o:V→Hp→Option (V×Hp)}(h1:J prog w Γ e1 f)(ho:Op1 prog w (unaryOp op) o): J prog w Γ (.UnaryOp op e1 pos) (eUn o f):=by
 intro W ρ H fr s Q E v H' r hf post
 obtain⟨p,e1,hf⟩:=Zz0.mp hf
 refine wpAny_UnaryOp (h1 W ρ H fr s _ E _ _ r e1 fun W1 k1 t1 x l1 r1 x1=>?_)
 exact ho Γ W1 ρ _ fr _ Q E _ x v H' r1 x1 hf fun W3 k3 t3 z l3 r3 z3=>post W3 k3 t3 z (l1.trans l3) r3 z3
theorem ZeG: OpT prog w truthy ZcQ:=by
 intro Γ W ρ H fr s Q E a x b r hx ho post
 cases hx with
 | none=>cases ho;exact truthy_none (post W s.heap s.toks (.refl W) r)
 | bool c=>cases ho;exact fun _ _ _=>post W s.heap s.toks (.refl W) r
 | int i t=>cases ho;exact P.truthy_int (post W s.heap s.toks (.refl W) r)
 | str _ _=>cases ho
 | tup _ _ _=>cases ho
 | ref _=>cases ho
theorem Zxg{e1:Expr}{pos:Pos}{f:Ex}(h1:J prog w Γ e1 f): J prog w Γ (.UnaryOp .Not e1 pos) (ZiS f):=by
 intro W ρ H fr s Q E v H' r hf post
 obtain⟨p,e1,hf⟩:=Zz0.mp hf
 obtain⟨b,e2,e3⟩:=Zz1.mp hf
 cases e3
 refine wpAny_UnaryOp (h1 W ρ H fr s _ E _ _ r e1 fun W1 k1 t1 x l1 r1 x1=>?_)
 exact not_of (ZeG Γ W1 ρ _ fr _ _ E _ x b r1 x1 e2 fun W2 k2 t2 l2 r2=>post W2 k2 t2 _ (l1.trans l2) r2 (.bool _))
theorem ZiJ{e1 e2:Expr}{pos:Pos}{f g:Ex}(h1:J prog w Γ e1 f)(h2:J prog w Γ e2 g): J prog w Γ (.BoolOp .And [e1,e2] pos) (Zeo f g):=by
 intro W ρ H fr s Q E v H' r hf post
 obtain⟨p,e1,hf⟩:=Zz0.mp hf
 obtain⟨b,e2,e3⟩:=Zz0.mp hf
 refine wpAny_And2 (h1 W ρ H fr s _ E _ _ r e1 fun W1 k1 t1 x l1 r1 x1=>?_)
 refine ZeG Γ W1 ρ _ fr _ _ E _ x b r1 x1 e2 fun W2 k2 t2 l2 r2=>?_
 cases b with
 | true=>exact h2 W2 ρ _ fr _ Q E v H' r2 e3 fun W3 k3 t3 z l3 r3 z3=>post W3 k3 t3 z ((l1.trans l2).trans l3) r3 z3
 | false=>
  cases e3
  exact post W2 k2 t2 x (l1.trans l2) r2 (x1.mono l2)
theorem ZxL{e1 e2:Expr}{pos:Pos}{f g:Ex}(h1:J prog w Γ e1 f)(h2:J prog w Γ e2 g): J prog w Γ (.BoolOp .Or [e1,e2] pos) (eOr f g):=by
 intro W ρ H fr s Q E v H' r hf post
 obtain⟨p,e1,hf⟩:=Zz0.mp hf
 obtain⟨b,e2,e3⟩:=Zz0.mp hf
 refine wpAny_Or2 (h1 W ρ H fr s _ E _ _ r e1 fun W1 k1 t1 x l1 r1 x1=>?_)
 refine ZeG Γ W1 ρ _ fr _ _ E _ x b r1 x1 e2 fun W2 k2 t2 l2 r2=>?_
 cases b with
 | false=>exact h2 W2 ρ _ fr _ Q E v H' r2 e3 fun W3 k3 t3 z l3 r3 z3=>post W3 k3 t3 z ((l1.trans l2).trans l3) r3 z3
 | true=>
  cases e3
  exact post W2 k2 t2 x (l1.trans l2) r2 (x1.mono l2)
theorem Zfz{t e1 e2:Expr}{pos:Pos}{u:Ts}{f g:Ex}(ht:JT prog w Γ t u)(h1:J prog w Γ e1 f)(h2:J prog w Γ e2 g): J prog w Γ (.IfExp t e1 e2 pos) (eIf u f g):=by
 intro W ρ H fr s Q E v H' r hf post
 obtain⟨p,e1,hf⟩:=Zz0.mp hf
 refine wpAny_IfExp (ht W ρ H fr s _ E _ _ r e1 fun W1 k1 t1 l1 r1=>?_)
 obtain⟨b,H1⟩:=p
 cases b with
 | true=>exact h1 W1 ρ _ fr _ Q E v H' r1 hf fun W3 k3 t3 z l3 r3 z3=>post W3 k3 t3 z (l1.trans l3) r3 z3
 | false=>exact h2 W1 ρ _ fr _ Q E v H' r1 hf fun W3 k3 t3 z l3 r3 z3=>post W3 k3 t3 z (l1.trans l3) r3 z3
theorem Zp: Js prog w Γ [] Zn:=fun pos W ρ H fr s Q E vs H' r hf post=>by
 cases hf
 exact wpAny_items_nil (post W s.heap s.toks [] (.refl W) r .nil)
theorem Zu6{e:Expr}{es:List Expr}{f:Ex}{g:Exs}(h1:J prog w Γ e f)(h2:Js prog w Γ es g)(he:starEach (e::es) Γ.env=(false,eval e Γ.env)::starEach es Γ.env:=by rfl): Js prog w Γ (e::es) (Zg f g):=by
 intro pos W ρ H fr s Q E vs H' r hf post
 obtain⟨p,e1,hf⟩:=Zz0.mp hf
 obtain⟨q,e2,e3⟩:=Zz0.mp hf
 cases e3
 refine wpAny_items_cons (h1 W ρ H fr s _ E _ _ r e1 fun W1 k1 t1 x l1 r1 x1=>?_) he
 exact h2 pos W1 ρ _ fr _ _ E _ _ r1 e2 fun W2 k2 t2 ys l2 r2 y2=>post W2 k2 t2 _ (l1.trans l2) r2 (.cons (x1.mono l2) y2)
theorem J.tup{es:List Expr}{k:Nat}{pos:Pos}{g:Exs}(h:Js prog w Γ es g): J prog w Γ (.Tuple es k pos) (Zaw g):=by
 intro W ρ H fr s Q E v H' r hf post
 obtain⟨p,e1,hf⟩:=Zz0.mp hf
 by_cases hl:p.1.length≤LEN
 ·rw[if_pos hl]at hf
  cases hf
  refine wpAny_Tuple (h pos W ρ H fr s _ E _ _ r e1 fun W1 k1 t1 xs l1 r1 x1=>⟨Zda (by rw[x1.length];exact hl),?_⟩)
  obtain⟨W2,l2,r2,v2⟩:=r1.tuple (k:=0) x1 hl
  exact post W2 _ _ _ (l1.trans l2) r2 v2
 ·rw[if_neg hl]at hf
  cases hf
theorem J.list{es:List Expr}{pos:Pos}{g:Exs}(h:Js prog w Γ es g): J prog w Γ (.List es pos) (Za4 g):=by
 intro W ρ H fr s Q E v H' r hf post
 obtain⟨p,e1,hf⟩:=Zz0.mp hf
 by_cases hl:p.1.length≤LEN
 ·rw[if_pos hl]at hf
  cases hf
  refine wpAny_List (h pos W ρ H fr s _ E _ _ r e1 fun W1 k1 t1 xs l1 r1 x1=>⟨Zda (by rw[x1.length];exact hl),?_⟩)
  obtain⟨W2,l2,r2,v2⟩:=r1.list (k:=0) x1 hl
  exact post W2 _ _ _ (l1.trans l2) r2 v2
 ·rw[if_neg hl]at hf
  cases hf
theorem Zde{e:Expr}{pos:Pos}{t:Ts}(h:JT prog w Γ e t): JT prog w Γ (.UnaryOp .Not e pos) (ZcM t):=by
 intro W ρ H fr s Q E b H' r hf post
 obtain⟨p,e1,e2⟩:=Zz1.mp hf
 cases e2
 exact isTrue_not (h W ρ H fr s _ E _ _ r e1 post)
noncomputable def JA(prog:Program)(w:World)(Γ:Cx)(op:BoolOp)(es:List Expr)(f:Ts): Prop:=∀(W:Wd) (ρ:Lc) (H:Hp) (fr:List (Addr×Obj)) (s:Shared) (Q:Bool→Shared→Prop) (E:Value→Shared→Prop) (b:Bool) (H':Hp),
 Rep Γ W ρ H fr s.heap→f ρ H=some (b,H')→ZiI Γ W ρ H' fr s Q b→wpAny (model prog w) Γ.A (allTrue op es Γ.env) Q E s
theorem Zcv: JA prog w Γ .And [] Zao:=fun W ρ H fr s Q E b H' r hf post=>by
 cases hf
 exact wpAny_allTrue_And_nil (post W s.heap s.toks (.refl W) r)
theorem ZcE: JA prog w Γ .Or [] Zcd:=fun W ρ H fr s Q E b H' r hf post=>by
 cases hf
 exact wpAny_allTrue_Or_nil (post W s.heap s.toks (.refl W) r)
theorem Za2{e:Expr}{es:List Expr}{t u:Ts}(h1:JT prog w Γ e t)(h2:JA prog w Γ .And es u): JA prog w Γ .And (e::es) (ZaT t u):=by
 intro W ρ H fr s Q E b H' r hf post
 obtain⟨p,e1,hf⟩:=Zz0.mp hf
 refine wpAny_allTrue_And_cons (h1 W ρ H fr s _ E _ _ r e1 fun W1 k1 t1 l1 r1=>?_)
 obtain⟨c,H1⟩:=p
 cases c with
 | true=>exact h2 W1 ρ _ fr _ Q E b H' r1 hf fun W3 k3 t3 l3 r3=>post W3 k3 t3 (l1.trans l3) r3
 | false=>
  cases hf
  exact post W1 k1 t1 l1 r1
theorem Zbb{e:Expr}{es:List Expr}{t u:Ts}(h1:JT prog w Γ e t)(h2:JA prog w Γ .Or es u): JA prog w Γ .Or (e::es) (tOr t u):=by
 intro W ρ H fr s Q E b H' r hf post
 obtain⟨p,e1,hf⟩:=Zz0.mp hf
 refine wpAny_allTrue_Or_cons (h1 W ρ H fr s _ E _ _ r e1 fun W1 k1 t1 l1 r1=>?_)
 obtain⟨c,H1⟩:=p
 cases c with
 | false=>exact h2 W1 ρ _ fr _ Q E b H' r1 hf fun W3 k3 t3 l3 r3=>post W3 k3 t3 (l1.trans l3) r3
 | true=>
  cases hf
  exact post W1 k1 t1 l1 r1
theorem Zbf{op:BoolOp}{es:List Expr}{pos:Pos}{t:Ts}(h:JA prog w Γ op es t): JT prog w Γ (.BoolOp op es pos) t:=fun W ρ H fr s Q E b H' r hf post=>wpAny_isTrue_BoolOp (h W ρ H fr s Q E b H' r hf post)
theorem Zce{e:Expr}{f:Ex}(h:J prog w Γ e f)(he:isTrue e Γ.env (eval e Γ.env)=(do let v ←eval e Γ.env;standAt e.pos;holding [v] (truthy v)):=by rfl): JT prog w Γ e (ZK f):=by
 intro W ρ H fr s Q E b H' r hf post
 obtain⟨p,e1,hf⟩:=Zz0.mp hf
 obtain⟨c,e2,e3⟩:=Zz1.mp hf
 cases e3
 refine isTrue_plain (h W ρ H fr s _ E _ _ r e1 fun W1 k1 t1 x l1 r1 x1=>?_) he
 exact ZeG Γ W1 ρ _ fr _ _ E _ x b r1 x1 e2 fun W2 k2 t2 l2 r2=>post W2 k2 t2 (l1.trans l2) r2
theorem ZT{e1 e2:Expr}{op:CmpOp}{pos:Pos}{f g:Ex}{o:V→V→Hp→Option (V×Hp)}(h1:J prog w Γ e1 f)(h2:J prog w Γ e2 g)(ho:Op2 prog w (compareOp op) o)(hm:behindInMarks op e2=false:=by with_unfolding_all rfl): JT prog w Γ (.Compare e1 [op] [e2] pos) (ZK (Ze o f g)):=by
 intro W ρ H fr s Q E b H' r hf post
 obtain⟨pp,e0,hf0⟩:=Zz0.mp hf
 obtain⟨c,e4,e5⟩:=Zz1.mp hf0
 cases e5
 obtain⟨p,e1,hf⟩:=Zz0.mp e0
 obtain⟨q,e2,e3⟩:=Zz0.mp hf
 refine wpAny_isTrue_Compare1 (h1 W ρ H fr s _ E _ _ r e1 fun W1 k1 t1 x l1 r1 x1=>?_) hm
 refine h2 W1 ρ _ fr _ _ E _ _ r1 e2 fun W2 k2 t2 y l2 r2 y2=>?_
 refine ho Γ W2 ρ _ fr _ _ E _ _ x y _ _ r2 (x1.mono l2) y2 e3 fun W3 k3 t3 z l3 r3 z3=>?_
 exact ZeG Γ W3 ρ _ fr _ _ E _ z b r3 z3 e4 fun W4 k4 t4 l4 r4=>post W4 k4 t4 (((l1.trans l2).trans l3).trans l4) r4
end
end PM
end
section
set_option autoImplicit false
namespace PM
open PySem PyProof.Rows PyProof
noncomputable def mulOk(a b:Int): Bool:=!(decide (Builtin.Int.intBits a>shortFactorBits) && decide (Builtin.Int.intBits b>shortFactorBits) && Builtin.Int.intTooBig (Builtin.Int.intBits a+Builtin.Int.intBits b))
theorem Zua{a b:Int}(h:mulOk a b=true): IntMulOk a b:=by
 unfold mulOk at h
 unfold IntMulOk
 intro c
 rw[c]at h
 cases h
noncomputable def Zba: V→V→Hp→Option (V×Hp)
 | .int a,.int b,H=>some (.int (a-b),H)
 | _,_,_=>none
noncomputable def oDiv: V→V→Hp→Option (V×Hp)
 | .int a,.int b,H=>if b≠0∧Builtin.divisionGoesByPylong a b=false then some (.int (a.fdiv b),H)else none
 | _,_,_=>none
noncomputable def oMod: V→V→Hp→Option (V×Hp)
 | .int a,.int b,H=>if b≠0 then some (.int (a.fmod b),H)else none
 | _,_,_=>none
noncomputable def oPow: V→V→Hp→Option (V×Hp)
 | .int a,.int b,H=>if 0≤b∧(Builtin.Int.intBits a:Int)*b≤2 ^ 27 then some (.int (a ^ b.toNat),H)else none
 | _,_,_=>none
noncomputable def ZdB: V→Hp→Option (V×Hp)
 | .int a,H=>some (.int (-a),H)
 | _,_=>none
noncomputable def ZiT(p:Int→Int→Bool): V→V→Hp→Option (V×Hp)
 | .int a,.int b,H=>some (.bool (p a b),H)
 | _,_,_=>none
noncomputable def oLt:=ZiT fun a b=>decide (a<b)
noncomputable def oLe:=ZiT fun a b=>decide (a≤b)
noncomputable def oGt:=ZiT fun a b=>decide (b<a)
section
variable {prog:Program} {w:World}
theorem Zbh: Op2 prog w (binaryOp .Sub) Zba:=by
 intro Γ W ρ H fr s Q E a b x y v H' r hx hy ho post
 cases hx <;> first | (cases ho;done) | skip
 cases hy <;> first | (cases ho;done) | skip
 cases ho
 exact PySem.P.sub_int (post W s.heap _ _ (.refl W) r (.int _ _))
theorem ZbC: Op2 prog w (binaryOp .Mod) oMod:=by
 intro Γ W ρ H fr s Q E a b x y v H' r hx hy ho post
 cases hx <;> first | (cases ho;done) | skip
 cases hy <;> first | (cases ho;done) | skip
 rename_i i t j u
 simp only[oMod]at ho
 by_cases hb:j≠0
 ·rw[if_pos hb]at ho
  cases ho
  exact mod_int' hb (post W s.heap _ _ (.refl W) r (.int _ _))
 ·rw[if_neg hb]at ho
  cases ho
theorem ZdP: Op2 prog w (binaryOp .FloorDiv) oDiv:=by
 intro Γ W ρ H fr s Q E a b x y v H' r hx hy ho post
 cases hx <;> first | (cases ho;done) | skip
 cases hy <;> first | (cases ho;done) | skip
 rename_i i t j u
 simp only[oDiv]at ho
 by_cases hb:j≠0∧Builtin.divisionGoesByPylong i j=false
 ·rw[if_pos hb]at ho
  cases ho
  exact floordiv_int hb.1 (post W s.heap _ _ (.refl W) r (.int _ _)) (.inl hb.2)
 ·rw[if_neg hb]at ho
  cases ho
theorem ZmY: Op2 prog w (binaryOp .Pow) oPow:=by
 intro Γ W ρ H fr s Q E a b x y v H' r hx hy ho post
 cases hx <;> first | (cases ho;done) | skip
 cases hy <;> first | (cases ho;done) | skip
 rename_i i t j u
 simp only[oPow]at ho
 by_cases hb:0≤j∧(Builtin.Int.intBits i:Int)*j≤2 ^ 27
 ·rw[if_pos hb]at ho
  cases ho
  exact pow_int hb.1 hb.2 (post W s.heap _ _ (.refl W) r (.int _ _))
 ·rw[if_neg hb]at ho
  cases ho
theorem Zd9: Op1 prog w (unaryOp .USub) ZdB:=by
 intro Γ W ρ H fr s Q E a x v H' r hx ho post
 cases hx <;> first | (cases ho;done) | skip
 cases ho
 exact PySem.P.neg_int (post W s.heap _ _ (.refl W) r (.int _ _))
theorem Zco: Op2 prog w (compareOp .Lt) oLt:=by
 intro Γ W ρ H fr s Q E a b x y v H' r hx hy ho post
 cases hx <;> first | (cases ho;done) | skip
 cases hy <;> first | (cases ho;done) | skip
 cases ho
 exact PySem.P.lt_int (post W s.heap s.toks _ (.refl W) r (.bool _))
theorem Znm: Op2 prog w (compareOp .LtE) oLe:=by
 intro Γ W ρ H fr s Q E a b x y v H' r hx hy ho post
 cases hx <;> first | (cases ho;done) | skip
 cases hy <;> first | (cases ho;done) | skip
 cases ho
 exact PySem.P.le_int (post W s.heap s.toks _ (.refl W) r (.bool _))
theorem ZfA: Op2 prog w (compareOp .Gt) oGt:=by
 intro Γ W ρ H fr s Q E a b x y v H' r hx hy ho post
 cases hx <;> first | (cases ho;done) | skip
 cases hy <;> first | (cases ho;done) | skip
 cases ho
 exact PySem.P.gt_int (post W s.heap s.toks _ (.refl W) r (.bool _))
end
end PM
end
section
set_option autoImplicit false
namespace PM
open PySem PyProof.Rows PyProof
noncomputable def ZfF(f:V→Option PyData): List V→Option (List PyData)
 | []=>some []
 | v::vs=>(f v).bind fun d=>(ZfF f vs).bind fun ds=>some (d::ds)
noncomputable def toD(H:Hp): Nat→V→Option PyData
 | _,.none=>some .none
 | _,.bool b=>some (.bool b)
 | _,.int i=>some (.int i)
 | _,.str x=>some (.str x)
 | n+1,.tup vs=>(ZfF (toD H n) vs).map .tuple
 | n+1,.ref a=>H[a]?.bind fun vs=>(ZfF (toD H n) vs).map .list
 | 0,.tup _=>none
 | 0,.ref _=>none
theorem ZkW{W:Wd}{h:Heap}{f:V→Option PyData}(ih:∀v x d,VR W v x→f v=some d→∃as,Reads h x d as): ∀{vs:List V} {xs:List Value} {ds:List PyData},VRs W vs xs→ZfF f vs=some ds→∃as,ReadsAll h xs ds as
 | _,_,_,.nil,e=>by
  cases e
  exact⟨_,.nil⟩
 | _,_,_,.cons a r,e=>by
  obtain⟨d,e1,e⟩:=Zz0.mp e
  obtain⟨ds,e2,e3⟩:=Zz0.mp e
  cases e3
  obtain⟨as,h1⟩:=ih _ _ _ a e1
  obtain⟨bs,h2⟩:=ZkW ih r e2
  exact⟨_,.cons h1 h2⟩
theorem Ze6{Γ:Cx}{W:Wd}{ρ:Lc}{H:Hp}{fr:List (Addr×Obj)}{h:Heap}(r:Rep Γ W ρ H fr h): ∀(n:Nat) (v:V) (x:Value) (d:PyData),VR W v x→toD H n v=some d→∃as,Reads h x d as:=by
 intro n
 induction n with
 | zero=>
  intro v x d hv e
  cases hv with
  | none=>cases e;exact⟨_,.none⟩
  | bool b=>cases e;exact⟨_,.bool b⟩
  | int i t=>cases e;exact⟨_,.int i t⟩
  | str y t=>cases e;exact⟨_,.str y t⟩
  | tup _ _ _=>cases e
  | ref _=>cases e
 | succ n ih=>
  intro v x d hv e
  cases hv with
  | none=>cases e;exact⟨_,.none⟩
  | bool b=>cases e;exact⟨_,.bool b⟩
  | int i t=>cases e;exact⟨_,.int i t⟩
  | str y t=>cases e;exact⟨_,.str y t⟩
  | @tup vs a xs k hm hl hs=>
   obtain⟨ds,e1,e2⟩:=Zz1.mp e
   subst e2
   obtain⟨as,h1⟩:=ZkW ih hs e1
   exact⟨_,.tuple (r.tupAt hm) rfl rfl (by simpa using h1)⟩
  | @ref i a ea=>
   obtain⟨vs,e0,e⟩:=Zz0.mp e
   obtain⟨ds,e1,e2⟩:=Zz1.mp e
   subst e2
   obtain⟨hl,xs,k,hg,hs⟩:=r.at e0 ea
   obtain⟨as,h1⟩:=ZkW ih hs e1
   exact⟨_,.list hg rfl rfl (by simpa using h1)⟩
noncomputable def ZbY: Nat:=8
noncomputable def ZiU(a b:V)(H:Hp): Option Bool:=(toD H ZbY a).bind fun d=>(toD H ZbY b).bind fun e=>if SeqAt.shaped d=true∧SeqAt.shaped e=true then some (PyData.eqv d e)else none
noncomputable def oEq(a b:V)(H:Hp): Option (V×Hp):=(ZiU a b H).map fun c=>(.bool c,H)
noncomputable def oNe(a b:V)(H:Hp): Option (V×Hp):=(ZiU a b H).map fun c=>(.bool (!c),H)
noncomputable def oIs: V→V→Hp→Option (V×Hp)
 | .none,.none,H=>some (.bool true,H)
 | .bool _,.none,H=>some (.bool false,H)
 | .int _,.none,H=>some (.bool false,H)
 | .str _,.none,H=>some (.bool false,H)
 | .tup _,.none,H=>some (.bool false,H)
 | .ref _,.none,H=>some (.bool false,H)
 | _,_,_=>none
noncomputable def Zcl(a b:V)(H:Hp): Option (V×Hp):=(oIs a b H).bind fun p=>match p.1 with | .bool c=>some (.bool (!c),p.2) | _=>none
section
variable {prog:Program} {w:World}
theorem ZaY: Op2 prog w (compareOp .Eq) oEq:=by
 intro Γ W ρ H fr s Q E a b x y v H' r hx hy ho post
 obtain⟨c,e1,e2⟩:=Zz1.mp ho
 cases e2
 obtain⟨d,h1,e1⟩:=Zz0.mp e1
 obtain⟨e,h2,e1⟩:=Zz0.mp e1
 by_cases hs:SeqAt.shaped d=true∧SeqAt.shaped e=true
 ·rw[if_pos hs]at e1
  cases e1
  obtain⟨as,R1⟩:=Ze6 r ZbY a x d hx h1
  obtain⟨bs,R2⟩:=Ze6 r ZbY b y e hy h2
  exact eq_dataH R1 R2 hs.1 hs.2 (by have:=Γ.hu;omega) (post W s.heap s.toks _ (.refl W) r (.bool _))
 ·rw[if_neg hs]at e1
  cases e1
theorem ZbL: Op2 prog w (compareOp .NotEq) oNe:=by
 intro Γ W ρ H fr s Q E a b x y v H' r hx hy ho post
 obtain⟨c,e1,e2⟩:=Zz1.mp ho
 cases e2
 obtain⟨d,h1,e1⟩:=Zz0.mp e1
 obtain⟨e,h2,e1⟩:=Zz0.mp e1
 by_cases hs:SeqAt.shaped d=true∧SeqAt.shaped e=true
 ·rw[if_pos hs]at e1
  cases e1
  obtain⟨as,R1⟩:=Ze6 r ZbY a x d hx h1
  obtain⟨bs,R2⟩:=Ze6 r ZbY b y e hy h2
  exact ne_dataH R1 R2 hs.1 hs.2 (by have:=Γ.hu;omega) (post W s.heap s.toks _ (.refl W) r (.bool _))
 ·rw[if_neg hs]at e1
  cases e1
theorem Zbk: Op2 prog w (compareOp .Is) oIs:=by
 intro Γ W ρ H fr s Q E a b x y v H' r hx hy ho post
 cases hy <;> first | (cases hx <;> cases ho;done) | skip
 refine PySem.is_none ?_
 cases hx <;> (cases ho;exact post W s.heap s.toks _ (.refl W) r (.bool _))
theorem ZcF: Op2 prog w (compareOp .IsNot) Zcl:=by
 intro Γ W ρ H fr s Q E a b x y v H' r hx hy ho post
 cases hy <;> first | (cases hx <;> cases ho;done) | skip
 refine PySem.isNot_none ?_
 cases hx <;> (cases ho;exact post W s.heap s.toks _ (.refl W) r (.bool _))
end
end PM
end
section
set_option autoImplicit false
namespace PM
open PySem PyProof.Rows PyProof
noncomputable def Zr: V→V→Hp→Option (V×Hp)
 | .ref a,.int k,H=>H[a]?.bind fun vs=>(seqIndex? k vs.length).bind fun j=>vs[j]?.map fun v=>(v,H)
 | .tup vs,.int k,H=>(seqIndex? k vs.length).bind fun j=>vs[j]?.map fun v=>(v,H)
 | _,_,_=>none
theorem ZnT{k:Int}{n j:Nat}(h:seqIndex? k n=some j): j<n∧(k:Int)<n∧-(n:Int)≤k∧(0≤k→k.toNat=j)∧(k<0→(k+n).toNat=j):=by
 unfold seqIndex? at h
 by_cases c:k<0
 ·simp only[c,if_true]at h
  split at h
  ·rename_i d
   simp at d h
   omega
  ·cases h
 ·simp only[c,if_false]at h
  split at h
  ·rename_i d
   simp at d h
   omega
  ·cases h
section
variable {prog:Program} {w:World} {Γ:Cx}
theorem Zu{e1 e2:Expr}{pos:Pos}{f g:Ex}(h1:J prog w Γ e1 f)(h2:J prog w Γ e2 g)(hs:∀a k u,subscripted e2 false (.ref a) (.int k u)=operate [.ref a,.int k u] (getItem (.ref a) (.int k u)):=by intros;with_unfolding_all rfl): J prog w Γ (.Subscript e1 e2 pos) (Ze Zr f g):=by
 intro W ρ H fr s Q E v H' r hf post
 obtain⟨p,e1,hf⟩:=Zz0.mp hf
 obtain⟨q,e2,e3⟩:=Zz0.mp hf
 refine Subscript_ (h1 W ρ H fr s _ E _ _ r e1 fun W1 k1 t1 x l1 r1 x1=>?_)
 refine h2 W1 ρ _ fr _ _ E _ _ r1 e2 fun W2 k2 t2 y l2 r2 y2=>?_
 have x2:=x1.mono l2
 obtain⟨v1,H1⟩:=p
 obtain⟨v2,H2⟩:=q
 simp only at e3 r2 x2 y2
 cases y2 <;> first | (cases x2 <;> cases e3;done) | skip
 rename_i k u
 cases x2 <;> first | (cases e3;done) | skip
 ·rename_i vs a xs kk hm hl hv
  obtain⟨j,hj,e4⟩:=Zz0.mp e3
  obtain⟨z,hz,e5⟩:=Zz1.mp e4
  cases e5
  obtain⟨z',hz',rz⟩:=hv.at hz
  have hx:xs.length=vs.length:=hv.length
  have hb:=ZnT hj
  rw[Zbg]at hl
  have it:IsTup k2 a xs.toArray:=⟨_,r2.tupAt hm,rfl,kk,rfl⟩
  exact item_tupleT it (by omega) (by omega) (by rw[hx];exact hj) hz' (post W2 k2 t2 z' (l1.trans l2) r2 rz) (hs _ _ _)
 ·rename_i i a ea
  obtain⟨vs,hvs,e3⟩:=Zz0.mp e3
  obtain⟨j,hj,e4⟩:=Zz0.mp e3
  obtain⟨z,hz,e5⟩:=Zz1.mp e4
  cases e5
  obtain⟨hl,xs,kk,hg,hv⟩:=r2.at hvs ea
  obtain⟨z',hz',rz⟩:=hv.at hz
  have hx:xs.length=vs.length:=hv.length
  have hb:=ZnT hj
  rw[Zbg]at hl
  have isl:k2.IsList a xs.toArray:=⟨_,hg,rfl,kk,rfl⟩
  refine tail_any (s:={ s with heap:=k2,toks:=t2 }) isl.typeIs slot_list_getitem.lookup ?_ (hs _ _ _)
  by_cases hk:0≤k
  ·exact wpAny_getItem_list isl hk (by omega) (by rw[hb.2.2.2.1 hk];simpa using hz') (post W2 k2 t2 z' (l1.trans l2) r2 rz)
  ·refine wpAny_getItem_list_neg isl (by omega) (by simp;omega) (by omega) ?_ (post W2 k2 t2 z' (l1.trans l2) r2 rz)
   have:=hb.2.2.2.2 (by omega)
   rw[←hx]at this
   simpa [this]using hz'
end
noncomputable def ZbH{α:Type}(vs:List α)(lo hi:Option Int): List α:=(sliceRange (sliceBounds lo hi none vs.length).1 (sliceBounds lo hi none vs.length).2.1 (sliceBounds lo hi none vs.length).2.2).filterMap fun i=>vs[i]?
theorem VRs.pick{W:Wd}{vs:List V}{xs:List Value}(h:VRs W vs xs)(l:List Nat): VRs W (l.filterMap fun i=>vs[i]?) (l.filterMap fun i=>xs[i]?):=by
 induction l with
 | nil=>exact .nil
 | cons i l ih=>
  simp only[List.filterMap_cons]
  have hl:=h.length
  cases e:vs[i]? with
  | none=>
   have:xs[i]?=none:=by rw[List.getElem?_eq_none_iff]at e ⊢;omega
   rw[this]
   exact ih
  | some v=>
   obtain⟨x,hx,hr⟩:=h.at e
   rw[hx]
   exact .cons hr ih
theorem Zub{α:Type}(vs:List α)(lo hi:Option Int): (ZbH vs lo hi).length≤vs.length:=by
 unfold ZbH
 refine Nat.le_trans (List.length_filterMap_le _ _) ?_
 refine sliceRange_length_le _ _ _ _ (fun _=>?_) fun c=>?_
 ·unfold sliceBounds
  cases lo <;> cases hi <;> simp <;> omega
 ·exact absurd (by unfold sliceBounds;simp) c
theorem Zuc{α:Type}(vs:List α)(a:Nat): ∀m:Nat,a+m≤vs.length→((List.range m).map fun k=>a+k).filterMap (fun i=>vs[i]?)=(vs.drop a).take m:=by
 intro m
 induction m with
 | zero=>intro _;simp
 | succ m ih=>
  intro h
  rw[List.range_succ,List.map_append,List.filterMap_append,ih (by omega),List.take_add_one]
  congr 1
  simp only[List.map_cons,List.map_nil,List.filterMap_cons,List.filterMap_nil,List.getElem?_drop]
  cases e:vs[a+m]? with
  | none=>rw[List.getElem?_eq_none_iff]at e;omega
  | some v=>rfl
theorem Zie{α:Type}(vs:List α)(lo hi:Option Int){a b:Nat}(ha:(sliceBounds lo hi none vs.length).1=(a:Int))(hb:(sliceBounds lo hi none vs.length).2.1=(b:Int))(h:b≤vs.length): ZbH vs lo hi=(vs.drop a).take (b-a):=by
 have hc:(sliceBounds lo hi none vs.length).2.2=1:=by unfold sliceBounds;rfl
 unfold ZbH
 rw[ha,hb,hc]
 have e:sliceRange (a:Int) (b:Int) 1=(List.range (b-a)).map fun k=>a+k:=by
  unfold sliceRange
  simp only[show(1:Int)>0 from by decide,if_true]
  by_cases c:(a:Int)<b
  ·rw[if_pos c]
   have:((b:Int)-a+1-1) / 1=((b-a:Nat):Int):=by omega
   rw[this]
   simp only[Int.toNat_natCast]
   refine List.map_congr_left fun k _=>?_
   omega
  ·rw[if_neg c]
   have:b-a=0:=by omega
   rw[this]
   rfl
 rw[e]
 by_cases c:a≤b
 ·exact Zuc vs a (b-a) (by omega)
 ·have:b-a=0:=by omega
  rw[this]
  simp
theorem Zor{α:Type}(vs:List α){k:Int}{a:Nat}(e:k=(a:Int)): ZbH vs (some k) none=vs.drop a:=by
 by_cases h:a≤vs.length
 ·rw[Zie vs (some k) none (a:=a) (b:=vs.length) (by unfold sliceBounds;simp;omega) (by unfold sliceBounds;simp) (Zz10 _)]
  rw[List.take_of_length_le (by simp)]
 ·rw[Zie vs (some k) none (a:=vs.length) (b:=vs.length) (by unfold sliceBounds;simp;omega) (by unfold sliceBounds;simp) (Zz10 _)]
  simp
  omega
theorem Zu7{α:Type}(vs:List α){k:Int}{a:Nat}(e:k=(a:Int)): ZbH vs none (some k)=vs.take a:=by
 by_cases h:a≤vs.length
 ·rw[Zie vs none (some k) (a:=0) (b:=a) (by unfold sliceBounds;simp) (by unfold sliceBounds;simp;omega) h]
  simp
 ·rw[Zie vs none (some k) (a:=0) (b:=vs.length) (by unfold sliceBounds;simp) (by unfold sliceBounds;simp;omega) (Zz10 _)]
  rw[List.drop_zero,Nat.sub_zero,List.take_of_length_le (Zz10 _),List.take_of_length_le (by omega)]
noncomputable def ZgP: Option V→Option (Option Int)
 | none=>some none
 | some (.int k)=>some (some k)
 | _=>none
noncomputable abbrev Pt:=Lc→Hp→Option (Option V×Hp)
noncomputable def Zeh: Pt:=fun _ H=>some (none,H)
noncomputable def Zei(f:Ex): Pt:=fun ρ H=>(f ρ H).map fun p=>(some p.1,p.2)
noncomputable def Zdf(f:Ex)(lo hi:Pt): Ex:=fun ρ H=>(f ρ H).bind fun p=>(lo ρ p.2).bind fun q=>(hi ρ q.2).bind fun u=>(ZgP q.1).bind fun a=>(ZgP u.1).bind fun b=>match p.1 with
 | .ref i=>u.2[i]?.bind fun vs=>some (.ref u.2.length,u.2++[ZbH vs a b])
 | _=>none
inductive VP(W:Wd): Option V→Value→Prop where
 | none:VP W none .none
 | some {v:V} {x:Value}:VR W v x→VP W (some v) x
theorem VP.mono{W W':Wd}{v:Option V}{x:Value}(l:W.Le W')(h:VP W v x): VP W' v x:=by
 cases h with
 | none=>exact .none
 | some h=>exact .some (h.mono l)
theorem VP.part{W:Wd}{v:Option V}{x:Value}{k:Option Int}(h:VP W v x)(e:ZgP v=Option.some k): IsPart x k:=by
 cases h with
 | none=>cases e;exact .none
 | some h=>cases h <;> cases e;exact .int _ _
noncomputable def JP(prog:Program)(w:World)(Γ:Cx)(e:Option Expr)(f:Pt): Prop:=∀(W:Wd) (ρ:Lc) (H:Hp) (fr:List (Addr×Obj)) (s:Shared) (Q E:Value→Shared→Prop) (v:Option V) (H':Hp),
 Rep Γ W ρ H fr s.heap→f ρ H=some (v,H')→(∀(W':Wd) (h':Heap) (tk':Nat) (x:Value),W.Le W'→Rep Γ W' ρ H' fr h'→VP W' v x→Q x { s with heap:=h',toks:=tk' })→wpAny (model prog w) Γ.A (evalPart e Γ.env) Q E s
section
variable {prog:Program} {w:World} {Γ:Cx}
theorem JP.none: JP prog w Γ none Zeh:=fun W ρ H fr s Q E v H' r hf post=>by
 cases hf
 exact wpAny_evalPart_none (post W s.heap s.toks _ (.refl W) r .none)
theorem JP.some{e:Expr}{f:Ex}(h:J prog w Γ e f): JP prog w Γ (some e) (Zei f):=fun W ρ H fr s Q E v H' r hf post=>by
 obtain⟨p,e1,e2⟩:=Zz1.mp hf
 cases e2
 exact wpAny_evalPart_some (h W ρ H fr s _ E _ _ r e1 fun W1 k1 t1 x l1 r1 x1=>post W1 k1 t1 x l1 r1 (.some x1))
theorem Zif{e:Expr}{lo hi:Option Expr}{p pos:Pos}{f:Ex}{a b:Pt}(h:J prog w Γ e f)(hlo:JP prog w Γ lo a)(hhi:JP prog w Γ hi b)(ht:∀o r,letTemporaryGo e o r=pure ():=by intro _ _;rfl): J prog w Γ (.Subscript e (.Slice lo hi Option.none p) pos) (Zdf f a b):=by
 intro W ρ H fr s Q E v H' r hf post
 obtain⟨p,e1,hf⟩:=Zz0.mp hf
 obtain⟨q,e2,hf⟩:=Zz0.mp hf
 obtain⟨u,e3,hf⟩:=Zz0.mp hf
 obtain⟨ka,e4,hf⟩:=Zz0.mp hf
 obtain⟨kb,e5,hf⟩:=Zz0.mp hf
 refine wpAny_Subscript_list_slice (h W ρ H fr s _ E _ _ r e1 fun W1 k1 t1 x l1 r1 x1=>?_) ht
 refine hlo W1 ρ _ fr _ _ E _ _ r1 e2 fun W2 k2 t2 y l2 r2 y2=>?_
 refine hhi W2 ρ _ fr _ _ E _ _ r2 e3 fun W3 k3 t3 z l3 r3 z3=>?_
 have x3:=x1.mono (l2.trans l3)
 obtain⟨v1,H1⟩:=p
 simp only at hf x3
 cases x3 with
 | none=>cases hf
 | bool _=>cases hf
 | int _ _=>cases hf
 | str _ _=>cases hf
 | tup _ _ _=>cases hf
 | @ref i a ea=>
  obtain⟨vs,hvs,e6⟩:=Zz0.mp hf
  cases e6
  obtain⟨hl,xs,kk,hg,hv⟩:=r3.at hvs ea
  have isl:k3.IsList a xs.toArray:=⟨_,hg,rfl,kk,rfl⟩
  refine⟨a,xs.toArray,ka,kb,rfl,isl,Zda (by simp[hv.length];exact hl),(y2.mono l3).part e4,z3.part e5,?_⟩
  have hp:VRs W3 (ZbH vs ka kb) (ZbH xs ka kb):=by
   unfold ZbH
   rw[hv.length]
   exact hv.pick _
  have hx:slicePick xs.toArray ka kb Option.none=(ZbH xs ka kb).toArray:=by
   unfold slicePick ZbH
   simp
  obtain⟨W4,l4,r4,v4⟩:=(r3.push { cls:=.type "slice",data:=.fields #[y,z,.none] }).list (k:=0) hp (Nat.le_trans (Zub vs ka kb) hl)
  rw[hx]
  have:=post W4 _ t3 _ (((l1.trans l2).trans l3).trans l4) r4 v4
  rw[Heap.size_push]at this
  exact this
end
end PM
end
section
set_option autoImplicit false
namespace PM
open PySem PyProof.Rows PyProof
noncomputable def Nm(prog:Program)(w:World)(Γ:Cx)(x:Str)(v:Value): Prop:=∀(pos:Pos) (m:Str→Option Value) (s:Shared) (Q E:Value→Shared→Prop),Fr Γ.h₀ Γ.L s.heap m→Q v s→wpAny (model prog w) Γ.A (eval (.Name x pos) Γ.env) Q E s
theorem Nm.use{prog:Program}{w:World}{Γ:Cx}{x:Str}{y:Value}(h:Nm prog w Γ x y){pos:Pos}{W:Wd}{ρ:Lc}{H:Hp}{fr:List (Addr×Obj)}{s:Shared}{Q E:Value→Shared→Prop}(r:Rep Γ W ρ H fr s.heap)(q:Q y s): wpAny (model prog w) Γ.A (eval (.Name x pos) Γ.env) Q E s:=by
 obtain⟨m,c,led,r⟩:=r
 exact h pos m s Q E r.F q
noncomputable def OpN(prog:Program)(w:World)(m:List Value→Sem Value)(o:List V→Hp→Option (V×Hp)): Prop:=∀(Γ:Cx) (W:Wd) (ρ:Lc) (H:Hp) (fr:List (Addr×Obj)) (s:Shared) (Q E:Value→Shared→Prop) (as:List V) (xs:List Value) (v:V) (H':Hp),
 Rep Γ W ρ H fr s.heap→VRs W as xs→o as H=some (v,H')→ZgV Γ W ρ H' fr s Q v→wpAny (model prog w) Γ.A (m xs) Q E s
noncomputable def ZA(o:List V→Hp→Option (V×Hp))(g:Exs): Ex:=fun ρ H=>(g ρ H).bind fun p=>o p.1 p.2
section
variable {prog:Program} {w:World} {Γ:Cx}
theorem Zas{x:Str}{np pos:Pos}{id:String}{e:Expr}{es:List Expr}{g:Exs}{o:List V→Hp→Option (V×Hp)}(hn:Nm prog w Γ x (.builtin id))(h:Js prog w Γ (e::es) g)(ho:OpN prog w (fun xs=>call (.builtin id) xs) o)
  (he:starEach (e::es) Γ.env=(false,eval e Γ.env)::starEach es Γ.env:=by rfl) (hp:∀pos,(backTo pos (starEach es Γ.env)).any (·.1)=false:=by intro _;rfl):J prog w Γ (.Call (.Name x np) (e::es) [] pos) (ZA o g):=by
 intro W ρ H fr s Q E v H' r hf post
 obtain⟨p,e1,hf⟩:=Zz0.mp hf
 refine wpAny_Call_ofName (hn.use r ?_)
 refine callWith_builtin1 (h pos W ρ H fr s _ E _ _ r e1 fun W1 k1 t1 xs l1 r1 x1=>?_) he (hp pos)
 exact ho Γ W1 ρ _ fr _ Q E _ xs v H' r1 x1 hf fun W2 k2 t2 y l2 r2 y2=>post W2 k2 t2 y (l1.trans l2) r2 y2
theorem Zdr{x:Str}{np pos:Pos}{T:String}{e:Expr}{es:List Expr}{g:Exs}{o:List V→Hp→Option (V×Hp)}(hn:Nm prog w Γ x (.type T))(h:Js prog w Γ (e::es) g)(ho:OpN prog w (fun xs=>call (.type T) xs) o)
  (he:starEach (e::es) Γ.env=(false,eval e Γ.env)::starEach es Γ.env:=by rfl) (hp:∀pos,(backTo pos (starEach es Γ.env)).any (·.1)=false:=by intro _;rfl):J prog w Γ (.Call (.Name x np) (e::es) [] pos) (ZA o g):=by
 intro W ρ H fr s Q E v H' r hf post
 obtain⟨p,e1,hf⟩:=Zz0.mp hf
 refine wpAny_Call_ofName (hn.use r ?_)
 refine PySem.Pv.callWith_type1 (h pos W ρ H fr s _ E _ _ r e1 fun W1 k1 t1 xs l1 r1 x1=>?_) he (hp pos)
 exact ho Γ W1 ρ _ fr _ Q E _ xs v H' r1 x1 hf fun W2 k2 t2 y l2 r2 y2=>post W2 k2 t2 y (l1.trans l2) r2 y2
end
noncomputable def ZmD: V→String
 | .none=>"NoneType"
 | .bool _=>"bool"
 | .int _=>"int"
 | .str _=>"str"
 | .tup _=>"tuple"
 | .ref _=>"list"
noncomputable def ZmZ(T:String)(v:V): Bool:=ZmD v == T || (T == "int" && ZmD v == "bool")
noncomputable def eIs(T:String)(f:Ex): Ex:=fun ρ H=>(f ρ H).map fun p=>(.bool (ZmZ T p.1),p.2)
section
variable {prog:Program} {w:World} {Γ:Cx}
theorem isinst{T:String}(hT:T="int"∨T="bool"∨T="list"∨T="tuple"){W:Wd}{ρ:Lc}{H:Hp}{fr:List (Addr×Obj)}{s:Shared}{Q E:Value→Shared→Prop}{a:V}{x:Value}(r:Rep Γ W ρ H fr s.heap)(hx:VR W a x)(hin:∀i,a=.ref i→i<H.length)
  (post:∀tk,Q (.bool (ZmZ T a)) { s with toks:=tk }):wpAny (model prog w) Γ.A (call (.builtin "isinstance") [x,.type T]) Q E s:=by
 cases hx with
 | none=>
      rcases hT with e | e | e | e <;> subst e
      ·exact call_isinstance (isinstance_false_none (by decide +kernel) F.isi_meta_int (by rw[isSubtype_type];kernel_rfl)) (post _)
      ·exact call_isinstance (isinstance_false_none (by decide +kernel) F.isi_meta_bool (by rw[isSubtype_type];kernel_rfl)) (post _)
      ·exact call_isinstance (isinstance_false_none (by decide +kernel) F.isi_meta_list (by rw[isSubtype_type];kernel_rfl)) (post _)
      ·exact call_isinstance (isinstance_false_none (by decide +kernel) F.isi_meta_tuple (by rw[isSubtype_type];kernel_rfl)) (post _)
 | bool b=>
       rcases hT with e | e | e | e <;> subst e
       ·exact IsiPair.bool_int (post s.toks)
       ·exact IsiPair.bool_bool (post s.toks)
       ·exact IsiPair.bool_list (post _)
       ·exact IsiPair.bool_tuple (post _)
 | int i t=>
       rcases hT with e | e | e | e <;> subst e
       ·exact IsiPair.int_int (post s.toks)
       ·exact IsiPair.int_bool (post _)
       ·exact IsiPair.int_list (post _)
       ·exact IsiPair.int_tuple (post _)
 | str y t=>
       rcases hT with e | e | e | e <;> subst e
       ·exact IsiPair.str_int (post _)
       ·exact IsiPair.str_bool (post _)
       ·exact IsiPair.str_list (post _)
       ·exact IsiPair.str_tuple (post _)
 | tup hm hl hs=>
  have hg:=r.tupAt hm
  rcases hT with e | e | e | e <;> subst e
  ·exact IsiPair.tuple_int hg rfl (post _)
  ·exact IsiPair.tuple_bool hg rfl (post _)
  ·exact IsiPair.tuple_list hg rfl (post _)
  ·exact IsiPair.tuple_tuple hg rfl (post s.toks)
 | @ref i a ea=>
  obtain⟨hl,xs,k,hg,hv⟩:=r.at (List.getElem?_eq_getElem (hin i rfl)) ea
  rcases hT with e | e | e | e <;> subst e
  ·exact IsiPair.list_int hg rfl (post _)
  ·exact IsiPair.list_bool hg rfl (post _)
  ·exact IsiPair.list_list hg rfl (post s.toks)
  ·exact IsiPair.list_tuple hg rfl (post _)
end
theorem Rep.refIn{Γ:Cx}{W:Wd}{ρ:Lc}{H:Hp}{fr:List (Addr×Obj)}{h:Heap}{i:Nat}{x:Value}(r:Rep Γ W ρ H fr h)(hx:VR W (.ref i) x): i<H.length:=by
 obtain⟨m,c,led,r⟩:=r
 cases hx with
 | ref e=>rw[←r.R.len];exact(Zz6.mp e).1
section
variable {prog:Program} {w:World} {Γ:Cx}
theorem ZdL{np tp pos:Pos}{x y:Str}{T:String}{e:Expr}{f:Ex}(hn:Nm prog w Γ x (.builtin "isinstance"))(hy:Nm prog w Γ y (.type T))(hT:T="int"∨T="bool"∨T="list"∨T="tuple")(h:J prog w Γ e f)
  (he:starEach [e,.Name y tp] Γ.env=(false,eval e Γ.env)::starEach [.Name y tp] Γ.env:=by rfl) (hp:∀pos,(backTo pos (starEach [.Name y tp] Γ.env)).any (·.1)=false:=by intro _;rfl):J prog w Γ (.Call (.Name x np) [e,.Name y tp] [] pos) (eIs T f):=by
 intro W ρ H fr s Q E v H' r hf post
 obtain⟨p,e1,e2⟩:=Zz1.mp hf
 cases e2
 refine wpAny_Call_ofName (hn.use r ?_)
 refine callWith_builtin1 (wpAny_items_cons (h W ρ H fr s _ E _ _ r e1 fun W1 k1 t1 z l1 r1 z1=>?_) he) he (hp pos)
 refine wpAny_items_cons (hy.use (s:={ s with heap:=k1,toks:=t1 }) r1 ?_)
 refine wpAny_items_nil ?_
 exact PM.isinst hT r1 z1 (fun i e=>by rw[e]at z1;exact r1.refIn z1) fun tk=>post W1 k1 tk _ l1 r1 (.bool _)
end
noncomputable def Zay: List V→Hp→Option (V×Hp)
 | [.ref a],H=>H[a]?.map fun vs=>(.int vs.length,H)
 | [.tup vs],H=>some (.int vs.length,H)
 | _,_=>none
noncomputable def ZdC: List V→Hp→Option (V×Hp)
 | [.int a],H=>some (.int (if a<0 then -a else a),H)
 | _,_=>none
noncomputable def Zdv: List V→Option (List Int)
 | []=>some []
 | .int k::vs=>(Zdv vs).map fun ks=>k::ks
 | _::_=>none
noncomputable def ZgW: List V→Hp→Option (V×Hp)
 | [.ref a],H=>H[a]?.bind fun vs=>(Zdv vs).map fun ks=>(.int ks.sum,H)
 | _,_=>none
theorem VRs.one{W:Wd}{v:V}{xs:List Value}(h:VRs W [v] xs): ∃x,xs=[x]∧VR W v x:=by
 cases h with
 | cons a b=>cases b;exact⟨_,rfl,a⟩
theorem VRs.two{W:Wd}{v u:V}{xs:List Value}(h:VRs W [v,u] xs): ∃x y,xs=[x,y]∧VR W v x∧VR W u y:=by
 cases h with
 | cons a b=>obtain⟨y,e,r⟩:=b.one;subst e;exact⟨_,_,rfl,a,r⟩
theorem ZrP{W:Wd}: ∀{vs:List V} {xs:List Value} {ks:List Int},VRs W vs xs→Zdv vs=some ks→∃ts:Array (Int×Tok),xs.toArray=intItems ts∧preSum (numAt ts) ts.size=ks.sum:=by
 have key:∀{vs:List V} {xs:List Value} {ks:List Int},VRs W vs xs→Zdv vs=some ks→∃ts:List (Int×Tok),xs=ts.map (fun p=>Value.int p.1 p.2)∧ts.map (·.1)=ks:=by
  intro vs
  induction vs with
  | nil=>intro xs ks h e;cases h;cases e;exact⟨[],rfl,rfl⟩
  | cons v vs ih=>
   intro xs ks h e
   cases h with
   | cons a b=>
    cases v with
    | int i=>
     obtain⟨js,e1,e2⟩:=Zz1.mp e
     subst e2
     cases a with
     | int _ t=>
      obtain⟨ts,h1,h2⟩:=ih b e1
      exact⟨(i,t)::ts,by rw[h1];rfl,by rw[List.map_cons,h2]⟩
    | none=>cases e
    | bool _=>cases e
    | str _=>cases e
    | tup _=>cases e
    | ref _=>cases e
 intro vs xs ks h e
 obtain⟨ts,h1,h2⟩:=key h e
 refine⟨ts.toArray,by rw[h1];simp[intItems],?_⟩
 rw[preSum_eq,List.take_of_length_le (by simp),←h2]
noncomputable def Z3: V→V→Hp→Option (V×Hp)
 | .int a,.int b,H=>some (.int (a+b),H)
 | .ref a,.ref b,H=>H[a]?.bind fun vs=>H[b]?.bind fun us=>if(vs++us).length≤LEN then some (.ref H.length,H++[vs++us])else none
 | .tup vs,.tup us,H=>if(vs++us).length≤LEN then some (.tup (vs++us),H)else none
 | _,_,_=>none
noncomputable def ZeN(vs:List V): Nat→List V
 | 0=>[]
 | n+1=>ZeN vs n++vs
noncomputable def ZaO: V→V→Hp→Option (V×Hp)
 | .int a,.int b,H=>if mulOk a b=true then some (.int (a*b),H)else none
 | .ref a,.int k,H=>H[a]?.bind fun vs=>if vs.length*k.toNat≤LEN∧-(2 ^ 63:Int)≤k∧k<2 ^ 63 then some (.ref H.length,H++[ZeN vs k.toNat])else none
 | _,_,_=>none
section
variable {prog:Program} {w:World}
theorem ZaL: OpN prog w (fun xs=>call (.builtin "len") xs) Zay:=by
 intro Γ W ρ H fr s Q E as xs v H' r hx ho post
 unfold Zay at ho
 split at ho
 ·rename_i a
  obtain⟨vs,e1,e2⟩:=Zz1.mp ho
  cases e2
  obtain⟨x,ex,rx⟩:=hx.one
  subst ex
  cases rx with
  | ref ea=>
   obtain⟨hl,ys,k,hg,hv⟩:=r.at e1 ea
   have isl:s.heap.IsList _ ys.toArray:=⟨_,hg,rfl,k,rfl⟩
   have e3:(ys.toArray.size:Int)=vs.length:=by simp[hv.length]
   rw[Zbg]at hl
   refine Calls.call_len_list isl (by rw[e3];omega) ?_
   rw[e3]
   exact post W s.heap _ _ (.refl W) r (.int _ _)
 ·rename_i vs
  cases ho
  obtain⟨x,ex,rx⟩:=hx.one
  subst ex
  cases rx with
  | @tup _ a ys k hm hl hs=>
   have it:IsTup s.heap a ys.toArray:=⟨_,r.tupAt hm,rfl,k,rfl⟩
   have e3:(ys.toArray.size:Int)=vs.length:=by simp[hs.length]
   rw[Zbg]at hl
   refine len_tuple it (by rw[e3];omega) ?_
   rw[e3]
   exact post W s.heap _ _ (.refl W) r (.int _ _)
 ·cases ho
theorem ZeD: OpN prog w (fun xs=>call (.builtin "abs") xs) ZdC:=by
 intro Γ W ρ H fr s Q E as xs v H' r hx ho post
 unfold ZdC at ho
 split at ho
 ·cases ho
  obtain⟨x,ex,rx⟩:=hx.one
  subst ex
  cases rx with
  | int i t=>exact call_abs_int fun u tk=>post W s.heap tk _ (.refl W) r (.int _ _)
 ·cases ho
theorem Zwo: OpN prog w (fun xs=>call (.builtin "sum") xs) ZgW:=by
 intro Γ W ρ H fr s Q E as xs v H' r hx ho post
 unfold ZgW at ho
 split at ho
 ·obtain⟨vs,e1,e2⟩:=Zz0.mp ho
  obtain⟨ks,e3,e4⟩:=Zz1.mp e2
  cases e4
  obtain⟨x,ex,rx⟩:=hx.one
  subst ex
  cases rx with
  | ref ea=>
   obtain⟨hl,ys,k,hg,hv⟩:=r.at e1 ea
   obtain⟨ts,h1,h2⟩:=ZrP hv e3
   have isl:s.heap.IsList _ (intItems ts):=⟨_,hg,rfl,k,by rw[←h1]⟩
   refine sum_intListG Γ.hh isl fun h' tk t' up=>?_
   rw[h2]
   exact post W h' tk _ (.refl W) (r.grown up) (.int _ _)
 ·cases ho
theorem Z9: Op2 prog w (binaryOp .Add) Z3:=by
 intro Γ W ρ H fr s Q E a b x y v H' r hx hy ho post
 unfold Z3 at ho
 split at ho
 ·cases ho
  cases hx;cases hy
  exact PySem.P.add_int (post W s.heap _ _ (.refl W) r (.int _ _))
 ·obtain⟨vs,e1,ho⟩:=Zz0.mp ho
  obtain⟨us,e2,ho⟩:=Zz0.mp ho
  by_cases hl:(vs++us).length≤LEN
  ·rw[if_pos hl]at ho
   cases ho
   cases hx with
   | ref ea=>
   cases hy with
   | ref eb=>
   obtain⟨l1,ys,k,hg,hv⟩:=r.at e1 ea
   obtain⟨l2,zs,k2,hg2,hv2⟩:=r.at e2 eb
   obtain⟨m,c,led,r'⟩:=r
   have i1:s.heap.IsList _ ys.toArray:=⟨_,hg,rfl,k,rfl⟩
   have i2:s.heap.IsList _ zs.toArray:=⟨_,hg2,rfl,k2,rfl⟩
   refine add_lists (hsz:=Zda (by rw[hv.length,hv2.length,←List.length_append];exact hl)) r'.F r'.N i1 i2 fun h' F' N'=>?_
   obtain⟨W2,le2,r2,v2⟩:=r'.newList F' N' r'.off (hv.append hv2) hl
   exact post W2 h' s.toks _ le2 r2 v2
  ·rw[if_neg hl]at ho
   cases ho
 ·rename_i vs us
  by_cases hl:(vs++us).length≤LEN
  ·rw[if_pos hl]at ho
   cases ho
   cases hx with
   | @tup _ a ys k hm h1 hv=>
   cases hy with
   | @tup _ b zs k2 hm2 h2 hv2=>
   have t1:IsTup s.heap a ys.toArray:=⟨_,r.tupAt hm,rfl,k,rfl⟩
   have t2:IsTup s.heap b zs.toArray:=⟨_,r.tupAt hm2,rfl,k2,rfl⟩
   have r0:=r
   obtain⟨m,c,led,r'⟩:=r
   refine add_tuples (hsz:=Zda (by rw[hv.length,hv2.length,←List.length_append];exact hl)) r'.F r'.N t1 t2 (fun e=>?_) (fun _ e=>?_) fun _ _ h' F' N'=>?_
   ·have:vs=[]:=List.length_eq_zero_iff.mp (by rw[←hv.length,e];rfl)
    subst this
    exact post W s.heap s.toks _ (.refl W) r0 (.tup hm2 h2 hv2)
   ·have:us=[]:=List.length_eq_zero_iff.mp (by rw[←hv2.length,e];rfl)
    subst this
    rw[List.append_nil]at post
    exact post W s.heap s.toks _ (.refl W) r0 (.tup hm h1 hv)
   ·obtain⟨W2,le2,r2,v2⟩:=r'.newTup F' N' r'.off (hv.append hv2) hl
    exact post W2 h' s.toks _ le2 r2 v2
  ·rw[if_neg hl]at ho
   cases ho
 ·cases ho
theorem ZoS(vs:List V): ∀n,(ZeN vs n).length=vs.length*n
 | 0=>rfl
 | n+1=>by rw[ZeN,List.length_append,ZoS vs n,Nat.mul_succ]
theorem Ztq(xs:List Value)(n:Nat): ∀acc:Array Value,(List.foldl (fun x1 x2=>x1++x2) acc (List.replicate n xs.toArray))=acc++(List.replicate n xs).flatten.toArray:=by
 induction n with
 | zero=>intro acc;simp
 | succ n ih=>
  intro acc
  rw[List.replicate_succ,List.foldl_cons,ih,List.replicate_succ,List.flatten_cons]
  simp[Array.append_assoc]
theorem Zpv{W:Wd}{vs:List V}{xs:List Value}(h:VRs W vs xs): ∀n,VRs W (ZeN vs n) (List.replicate n xs).flatten
 | 0=>.nil
 | n+1=>by
  rw[ZeN,List.replicate_succ',List.flatten_append]
  simp only[List.flatten_cons,List.flatten_nil,List.append_nil]
  exact(Zpv h n).append h
theorem ZaX: Op2 prog w (binaryOp .Mult) ZaO:=by
 intro Γ W ρ H fr s Q E a b x y v H' r hx hy ho post
 unfold ZaO at ho
 split at ho
 ·rename_i i j
  by_cases hm:mulOk i j=true
  ·rw[if_pos hm]at ho
   cases ho
   cases hx;cases hy
   exact PySem.P.mul_int (post W s.heap _ _ (.refl W) r (.int _ _)) (Zua hm)
  ·rw[if_neg hm]at ho
   cases ho
 ·rename_i i k
  obtain⟨vs,e1,ho⟩:=Zz0.mp ho
  by_cases hc:vs.length*k.toNat≤LEN∧-(2 ^ 63:Int)≤k∧k<2 ^ 63
  ·rw[if_pos hc]at ho
   cases ho
   cases hx with
   | ref ea=>
   cases hy with
   | int _ u=>
   obtain⟨l1,ys,kk,hg,hv⟩:=r.at e1 ea
   obtain⟨m,c,led,r'⟩:=r
   have hl:=hc.1
   rw[Zbg]at hl
   refine mul_list r'.F r'.N hg hc.2.1 hc.2.2 (by rw[List.size_toArray,hv.length];omega) fun h' F' N'=>?_
   have e2:(List.foldl (fun x1 x2=>x1++x2) #[] (List.replicate (if ys.toArray.isEmpty=true then 0 else k.toNat) ys.toArray))=(List.replicate k.toNat ys).flatten.toArray:=by
    cases ys with
    | nil=>
     simp
    | cons y0 ys0=>
     have:((y0::ys0).toArray.isEmpty=true)=False:=by simp
     simp only[this,if_false]
     rw[Ztq]
     simp
   rw[e2]at N'
   obtain⟨W2,le2,r2,v2⟩:=r'.newList F' N' r'.off (Zpv hv k.toNat) (by rw[ZoS];exact hc.1)
   exact post W2 h' s.toks _ le2 r2 v2
  ·rw[if_neg hc]at ho
   cases ho
 ·cases ho
end
end PM
end
section
set_option autoImplicit false
namespace PM
open PySem PyProof.Rows PyProof
noncomputable def upd(ρ:Lc)(i:Nat)(v:V): Lc:=fun j=>if j=i then some v else ρ j
noncomputable abbrev Sm:=Lc→Hp→Option (Option V×Lc×Hp)
noncomputable def Z6: Sm:=fun ρ H=>some (none,ρ,H)
noncomputable def Zs(a b:Sm): Sm:=fun ρ H=>(a ρ H).bind fun p=>match p.1 with
 | some _=>some p
 | none=>b p.2.1 p.2.2
noncomputable def ZG(f:Ex): Sm:=fun ρ H=>(f ρ H).map fun p=>(some p.1,ρ,p.2)
noncomputable def ZE(i:Nat)(f:Ex): Sm:=fun ρ H=>(f ρ H).map fun p=>(none,upd ρ i p.1,p.2)
noncomputable def Z1(t:Ts)(a b:Sm): Sm:=fun ρ H=>(t ρ H).bind fun p=>if p.1 then a ρ p.2 else b ρ p.2
noncomputable def Zcr(f:Ex): Sm:=fun ρ H=>(f ρ H).map fun p=>(none,ρ,p.2)
noncomputable def ZiV: V→V→V→Hp→Option Hp
 | .ref a,.int k,v,H=>H[a]?.bind fun vs=>if a≠0∧0≤k∧k<vs.length then some (H.set a (vs.set k.toNat v))else none
 | _,_,_,_=>none
noncomputable def Zbt(f o i:Ex): Sm:=fun ρ H=>(f ρ H).bind fun p=>(o ρ p.2).bind fun q=>(i ρ q.2).bind fun u=>(ZiV q.1 u.1 p.1 u.2).map fun K=>(none,ρ,K)
noncomputable def ZcZ(t:Ts)(b:Sm): Nat→Sm
 | 0=>fun _ _=>none
 | n+1=>fun ρ H=>(t ρ H).bind fun p=>if p.1 then(b ρ p.2).bind fun q=>(match q.1 with
   | some _=>some q
   | none=>ZcZ t b n q.2.1 q.2.2)else some (none,ρ,p.2)
noncomputable def PostS(Γ:Cx)(W:Wd)(fr:List (Addr×Obj))(s:Shared)(Q:Flow→Shared→Prop): Option V×Lc×Hp→Prop
 | (none,ρ',H')=>∀(W':Wd) (h':Heap) (tk':Nat),W.Le W'→Rep Γ W' ρ' H' fr h'→Q .next { s with heap:=h',toks:=tk' }
 | (some v,ρ',H')=>∀(W':Wd) (h':Heap) (tk':Nat) (x:Value),W.Le W'→Rep Γ W' ρ' H' fr h'→VR W' v x→Q (.ret x) { s with heap:=h',toks:=tk' }
theorem PostS.le{Γ:Cx}{W W':Wd}{fr:List (Addr×Obj)}{s:Shared}{h:Heap}{tk:Nat}{Q:Flow→Shared→Prop}{r:Option V×Lc×Hp}(l:W.Le W')(p:PostS Γ W fr s Q r): PostS Γ W' fr { s with heap:=h,toks:=tk } Q r:=by
 obtain⟨o,ρ',H'⟩:=r
 cases o with
 | none=>exact fun W2 h2 t2 l2 r2=>p W2 h2 t2 (l.trans l2) r2
 | some v=>exact fun W2 h2 t2 x l2 r2 x2=>p W2 h2 t2 x (l.trans l2) r2 x2
section
variable (prog:Program) (w:World)
noncomputable def S1(Γ:Cx)(st:Stmt)(g:Sm): Prop:=∀(W:Wd) (ρ:Lc) (H:Hp) (fr:List (Addr×Obj)) (s:Shared) (Q:Flow→Shared→Prop) (E:Value→Shared→Prop) (r:Option V×Lc×Hp),
 Rep Γ W ρ H fr s.heap→g ρ H=some r→PostS Γ W fr s Q r→wpAny (model prog w) Γ.A (exec st Γ.env) Q E s
noncomputable def Ss(Γ:Cx)(ss:List Stmt)(g:Sm): Prop:=∀(W:Wd) (ρ:Lc) (H:Hp) (fr:List (Addr×Obj)) (s:Shared) (Q:Flow→Shared→Prop) (E:Value→Shared→Prop) (r:Option V×Lc×Hp),
 Rep Γ W ρ H fr s.heap→g ρ H=some r→PostS Γ W fr s Q r→wpAny (model prog w) Γ.A (execs ss Γ.env) Q E s
noncomputable def Sto(Γ:Cx)(x:Str)(i:Nat): Prop:=∀(W:Wd) (ρ:Lc) (H:Hp) (fr:List (Addr×Obj)) (s:Shared) (Q:Unit→Shared→Prop) (E:Value→Shared→Prop) (v:V) (y:Value),
 Rep Γ W ρ H fr s.heap→VR W v y→(∀(h':Heap) (tk':Nat),Rep Γ W (upd ρ i v) H fr h'→Q () { s with heap:=h',toks:=tk' })→wpAny (model prog w) Γ.A (storeName Γ.env x y) Q E s
noncomputable def Rd(Γ:Cx)(x:Str)(i:Nat): Prop:=∀(W:Wd) (ρ:Lc) (H:Hp) (fr:List (Addr×Obj)) (s:Shared) (Q E:Value→Shared→Prop) (v:V) (pos:Pos),
 Rep Γ W ρ H fr s.heap→ρ i=some v→(∀y,VR W v y→Q y s)→wpAny (model prog w) Γ.A (eval (.Name x pos) Γ.env) Q E s
end
section
variable {prog:Program} {w:World} {Γ:Cx}
theorem ZiK{x:Str}{i:Nat}{pos:Pos}(h:Rd prog w Γ x i): J prog w Γ (.Name x pos) (Zb i):=by
 intro W ρ H fr s Q E v H' r hf post
 obtain⟨u,e1,e2⟩:=Zz1.mp hf
 cases e2
 exact h W ρ H fr s Q E v pos r e1 fun y hy=>post W s.heap s.toks y (.refl W) r hy
theorem Zaf: Ss prog w Γ [] Z6:=fun W ρ H fr s Q E r rp hf post=>by
 cases hf
 exact wpAny_execs_nil (post W s.heap s.toks (.refl W) rp)
theorem Zv{st:Stmt}{ss:List Stmt}{a b:Sm}(h1:S1 prog w Γ st a)(h2:Ss prog w Γ ss b): Ss prog w Γ (st::ss) (Zs a b):=by
 intro W ρ H fr s Q E r rp hf post
 obtain⟨p,e1,hf⟩:=Zz0.mp hf
 refine wpAny_execs_cons (h1 W ρ H fr s _ E p rp e1 ?_)
 obtain⟨o,ρ1,H1⟩:=p
 cases o with
 | some v=>
  cases hf
  exact fun W1 k1 t1 x l1 r1 x1=>post W1 k1 t1 x l1 r1 x1
 | none=>exact fun W1 k1 t1 l1 r1=>h2 W1 ρ1 H1 fr _ Q E r r1 hf (post.le l1)
theorem ZB{st:Stmt}{a:Sm}(h1:S1 prog w Γ st a): Ss prog w Γ [st] a:=by
 intro W ρ H fr s Q E r rp hf post
 refine wpAny_execs_cons (h1 W ρ H fr s _ E r rp hf ?_)
 obtain⟨o,ρ1,H1⟩:=r
 cases o with
 | some v=>exact fun W1 k1 t1 x l1 r1 x1=>post W1 k1 t1 x l1 r1 x1
 | none=>exact fun W1 k1 t1 l1 r1=>wpAny_execs_nil (post W1 k1 t1 l1 r1)
theorem ZL{e:Expr}{pos:Pos}{f:Ex}(h:J prog w Γ e f): S1 prog w Γ (.Return (some e) pos) (ZG f):=by
 intro W ρ H fr s Q E r rp hf post
 obtain⟨p,e1,e2⟩:=Zz1.mp hf
 cases e2
 exact wpAny_Return_some (h W ρ H fr s _ E _ _ rp e1 post)
theorem Zac{t:Expr}{a b:List Stmt}{pos:Pos}{u:Ts}{f g:Sm}(ht:JT prog w Γ t u)(h1:Ss prog w Γ a f)(h2:Ss prog w Γ b g): S1 prog w Γ (.If t a b pos) (Z1 u f g):=by
 intro W ρ H fr s Q E r rp hf post
 obtain⟨p,e1,hf⟩:=Zz0.mp hf
 refine wpAny_If (ht W ρ H fr s _ E _ _ rp e1 fun W1 k1 t1 l1 r1=>?_)
 obtain⟨c,H1⟩:=p
 cases c with
 | true=>exact h1 W1 ρ H1 fr _ Q E r r1 hf (post.le l1)
 | false=>exact h2 W1 ρ H1 fr _ Q E r r1 hf (post.le l1)
theorem ZdQ{e:Expr}{pos:Pos}{f:Ex}(h:J prog w Γ e f)(hi:interactive Γ.env=false:=by rfl)(hs:swapsWith e none pos.line Γ.env=pure false:=by rfl): S1 prog w Γ (.Expr e pos) (Zcr f):=by
 intro W ρ H fr s Q E r rp hf post
 obtain⟨p,e1,e2⟩:=Zz1.mp hf
 cases e2
 exact wpAny_Expr_any (h W ρ H fr s _ E _ _ rp e1 fun W1 k1 t1 x l1 r1 x1=>post W1 k1 t1 l1 r1) hi hs
theorem ZO{x:Str}{i:Nat}{e:Expr}{pos' pos:Pos}{f:Ex}(hx:Sto prog w Γ x i)(h:J prog w Γ e f)(hs:swapsWith e (some (.Name x pos')) pos.line Γ.env=pure false:=by rfl): S1 prog w Γ (.Assign [.Name x pos'] e pos) (ZE i f):=by
 intro W ρ H fr s Q E r rp hf post
 obtain⟨p,e1,e2⟩:=Zz1.mp hf
 cases e2
 refine wpAny_Assign_Name (h W ρ H fr s _ E _ _ rp e1 fun W1 k1 t1 y l1 r1 y1=>?_) hs
 exact hx W1 ρ _ fr _ _ E _ y r1 y1 fun h' tk' r2=>post W1 h' tk' l1 r2
theorem Zgl{t:Expr}{a:List Stmt}{pos:Pos}{u:Ts}{f:Sm}(n:Nat)(ht:JT prog w Γ t u)(h1:Ss prog w Γ a f): S1 prog w Γ (.While t a [] pos) (ZcZ u f n):=by
 intro W ρ H fr s Q E r rp hf post
 refine wpAny_While ?_
 refine codeAny_whileLoop (fun k s'=>∃W' ρ' H' h' tk',s' = { s with heap:=h',toks:=tk' }∧W.Le W'∧Rep Γ W' ρ' H' fr h'∧ZcZ u f k ρ' H'=some r) ?_ n ⟨W,ρ,H,s.heap,s.toks,rfl,.refl W,rp,hf⟩
 rintro k s' ⟨W1,ρ1,H1,k1,t1,rfl,l1,r1,e⟩
 cases k with
 | zero=>cases e
 | succ k=>
  obtain⟨p,e1,e⟩:=Zz0.mp e
  refine ht W1 ρ1 H1 fr _ _ _ _ _ r1 e1 fun W2 k2 t2 l2 r2=>?_
  obtain⟨c,H2⟩:=p
  cases c with
  | false=>
   cases e
   exact wpAny_execs_nil (post W2 k2 t2 (l1.trans l2) r2)
  | true=>
   obtain⟨q,e2,e⟩:=Zz0.mp e
   refine h1 W2 ρ1 H2 fr _ _ _ q r2 e2 ?_
   obtain⟨o,ρ3,H3⟩:=q
   cases o with
   | some v=>
    cases e
    exact fun W3 k3 t3 x l3 r3 x3=>post W3 k3 t3 x ((l1.trans l2).trans l3) r3 x3
   | none=>exact fun W3 k3 t3 l3 r3=>⟨k,Nat.lt_succ_self k,W3,ρ3,H3,k3,t3,rfl,(l1.trans l2).trans l3,r3,e⟩
end
noncomputable def Zgt: List V→Hp→Option (V×Hp)
 | [.ref a,v],H=>H[a]?.bind fun vs=>if a≠0∧vs.length<LEN then some (.none,H.set a (vs++[v]))else none
 | _,_=>none
section
variable {prog:Program} {w:World} {Γ:Cx}
theorem Ztr: OpN prog w (fun xs=>call (.builtin "list.append") xs) Zgt:=by
 intro Γ W ρ H fr s Q E as xs v H' r hx ho post
 unfold Zgt at ho
 split at ho
 ·obtain⟨vs,e1,e2⟩:=Zz0.mp ho
  obtain⟨x,y,ex,rx,ry⟩:=hx.two
  subst ex
  split at e2
  ·rename_i hl
   cases e2
   cases rx with
   | @ref _ a0 ea=>
    obtain⟨_,ys,k,hg,hv⟩:=r.at e1 ea
    refine append_at (hsz:=Zda (by rw[List.size_toArray,hv.length];omega)) hg fun h' sb hg'=>?_
    have hg2:h'.get? a0=some (ZbX (ys++[y]) (k+1)):=by rw[hg'];simp
    exact post W h' s.toks _ (.refl W) (r.change hl.1 e1 ea sb hg2 (hv.snoc ry) (by simp;omega)) .none
  ·cases e2
 ·cases ho
end
end PM
end
section
set_option autoImplicit false
namespace PM
open PySem PySem.W PyProof.Rows PyProof
theorem Zpw: ∀{l:List Value} {k:Nat} {v:Value},k<l.length→ki_setL l k v=some (l.set k v)
 | [],_,_,h=>by simp at h
 | x::r,0,v,_=>by simp[ki_setL]
 | x::r,k+1,v,h=>by
  have:=Zpw (l:=r) (k:=k) (v:=v) (by simpa using h)
  simp[ki_setL,this]
theorem Zts{a k v:V}{H K:Hp}(h:ZiV a k v H=some K): ∃i j vs,a=.ref i∧k=.int j∧H[i]?=some vs∧(i≠0∧0≤j∧j<vs.length)∧K=H.set i (vs.set j.toNat v):=by
 cases a <;> first | (cases h;done) | skip
 cases k <;> first | (cases h;done) | skip
 obtain⟨vs,e1,e2⟩:=Zz0.mp h
 split at e2
 ·rename_i c
  cases e2
  exact⟨_,_,vs,rfl,rfl,e1,c,rfl⟩
 ·cases e2
theorem ZrQ{a v x:V}{H K:Hp}(h:Zgt [a,v] H=some (x,K)): ∃i,a=.ref i:=by
 cases a <;> first | (cases h;done) | skip
 exact⟨_,rfl⟩
noncomputable def Zds(o f:Ex): Ex:=fun ρ H=>(o ρ H).bind fun p=>(f ρ p.2).bind fun q=>Zgt [p.1,q.1] q.2
section
variable {prog:Program} {w:World} {Γ:Cx}
theorem S1.put{o i value:Expr}{pos' pos:Pos}{f g k:Ex}(hf:J prog w Γ value f)(ho:J prog w Γ o g)(hi:J prog w Γ i k)(hs:swapsWith value (some (.Subscript o i pos')) pos.line Γ.env=pure false:=by rfl): S1 prog w Γ (.Assign [.Subscript o i pos'] value pos) (Zbt f g k):=by
 intro W ρ H fr s Q E r rp hx post
 obtain⟨p,e1,hx⟩:=Zz0.mp hx
 obtain⟨q,e2,hx⟩:=Zz0.mp hx
 obtain⟨u,e3,hx⟩:=Zz0.mp hx
 obtain⟨K,e4,e5⟩:=Zz1.mp hx
 cases e5
 refine wpAny_Assign_Subscript (hf W ρ H fr s _ E _ _ rp e1 fun W1 k1 t1 x l1 r1 x1=>?_) hs
 refine ho W1 ρ _ fr _ _ E _ _ r1 e2 fun W2 k2 t2 y l2 r2 y2=>?_
 refine hi W2 ρ _ fr _ _ E _ _ r2 e3 fun W3 k3 t3 z l3 r3 z3=>?_
 have x3:=x1.mono (l2.trans l3)
 have y3:=y2.mono l3
 obtain⟨b,kk,vs,eb,ek,hvs,hc,e6⟩:=Zts e4
 subst e6
 rw[eb]at y3
 rw[ek]at z3
 cases y3 with
 | @ref _ a ea=>
 cases z3 with
 | int _ tz=>
 obtain⟨hl,xs,n,hg,hv⟩:=r3.at hvs ea
 obtain⟨m,c,led,r'⟩:=r3
 have hll:=hl
 rw[Zbg]at hll
 have hk:kk.toNat<xs.length:=by rw[hv.length];omega
 obtain⟨_,a',xs',n',h1,h2,h3⟩:=r'.R.lists b vs hvs
 rw[ea]at h1
 cases h1
 have h2:=r'.inLed hc.1 ea h2
 have N2:News Γ.h₀ Γ.L k3 ((a,ZbX xs n)::led.filter (fun q=>decide (q.1≠a))):=by
  intro q hq
  rcases Zz7.mp hq with e | hq
  ·subst e
   exact⟨hg,(r'.N _ h2).2⟩
  ·exact r'.N q (List.mem_filter.mp hq).1
 refine ki_set (its:=xs.toArray) (n:=n) (q:=xs.set kk.toNat x) r'.F N2 hc.2.1 (by omega) (by simpa using Zpw hk) (Upd.head fun q hq=>by simpa using (List.mem_filter.mp hq).2) fun h' F' N'=>?_
 exact post W3 h' t3 ((l1.trans l2).trans l3) (r'.changed hc.1 hvs ea F' N' (hv.set _ x3) (by simpa using hl))
theorem J.append{o e:Expr}{apos pos:Pos}{f g:Ex}(ho:J prog w Γ o f)(he:J prog w Γ e g)(hbase:attributeBase o "append" Γ.env (eval o Γ.env)=eval o Γ.env:=by rfl)
  (hfew:((backTo pos (starEach [e] Γ.env)).all (fun x=>!x.1) && (backToKw pos (keywordEach [] Γ.env)).all (fun x=>x.1.isSome) && decide (([e]:List Expr).length+([]:List Keyword).length+(if([]:List Keyword).isEmpty then 0 else 1)<30))=true:=by rfl)
  (hline:(apos.endLine == pos.line)=true:=by rfl) (htrees:backTo pos (starEach [e] Γ.env)=[(false,eval e Γ.env)]:=by rfl):J prog w Γ (.Call (.Attribute o "append" apos) [e] [] pos) (Zds f g):=by
 intro W ρ H fr s Q E v H' r hx post
 obtain⟨p,e1,hx⟩:=Zz0.mp hx
 obtain⟨q,e2,e3⟩:=Zz0.mp hx
 refine wpAny_Call_append hbase hfew hline htrees (ho W ρ H fr s _ E _ _ r e1 fun W1 k1 t1 x l1 r1 x1=>?_)
 obtain⟨v1,H1⟩:=p
 obtain⟨b,hb⟩:=ZrQ e3
 subst hb
 have hb:=r1.refIn x1
 cases x1 with
 | @ref _ a ea=>
 obtain⟨_,xs,n,hg,hv⟩:=r1.at (List.getElem?_eq_getElem hb) ea
 refine⟨a,xs.toArray,rfl,⟨_,n,hg,rfl,rfl,rfl⟩,?_⟩
 refine he W1 ρ _ fr _ _ E _ _ r1 e2 fun W2 k2 t2 y l2 r2 y2=>?_
 exact Ztr Γ W2 ρ _ fr _ Q E _ [.ref a,y] v H' r2 (.cons (.ref (l2.at ea)) (.cons y2 .nil)) e3 fun W3 k3 t3 z l3 r3 z3=>post W3 k3 t3 z ((l1.trans l2).trans l3) r3 z3
end
end PM
end
section
set_option autoImplicit false
namespace PM
open PySem PySem.W PyProof.Rows PyProof
noncomputable abbrev Nx:=Nat→Hp→Option (Option V)
noncomputable def Zxh(Γ:Cx)(W:Wd)(ρ:Lc)(H:Hp)(fr:List (Addr×Obj))(s:Shared)(It:Nat→List (Addr×Obj)→Prop)(i:Nat)(Q:Option Value→Shared→Prop): Option V→Prop
 | none=>∀(h':Heap) (tk':Nat),Rep Γ W ρ H fr h'→Q none { s with heap:=h',toks:=tk' }
 | some v=>∀(fs':List (Addr×Obj)) (h':Heap) (tk':Nat) (x:Value),It (i+1) fs'→Rep Γ W ρ H (fs'++fr) h'→VR W v x→Q (some x) { s with heap:=h',toks:=tk' }
structure Itr(prog:Program)(w:World)(Γ:Cx)(W0:Wd)(it:Value)(as:List Addr)(It:Nat→List (Addr×Obj)→Prop)(nx:Nx): Prop where
 adr:∀i fs,It i fs→fs.map (·.1)=as
 next:∀(i:Nat) (W:Wd) (ρ:Lc) (H:Hp) (fr fs:List (Addr×Obj)) (s:Shared) (Q:Option Value→Shared→Prop) (E:Value→Shared→Prop) (o:Option V),W0.Le W→Rep Γ W ρ H (fs++fr) s.heap→(∀a∈as,∀t∈fr,a≠t.1)→It i fs→nx i H=some o →
  Zxh Γ W ρ H fr s It i Q o→wpAny (model prog w) Γ.A (pyNext it) Q E s
 self:∀(i:Nat) (W:Wd) (ρ:Lc) (H:Hp) (fr fs:List (Addr×Obj)) (s:Shared) (Q E:Value→Shared→Prop),W0.Le W→Rep Γ W ρ H (fs++fr) s.heap→It i fs→Q it s→wpAny (model prog w) Γ.A (pyIter it) Q E s
noncomputable abbrev Src:=Lc→Hp→Option (Nx×Nat×Hp)
noncomputable def JI(prog:Program)(w:World)(Γ:Cx)(e:Expr)(g:Src): Prop:=∀(W:Wd) (ρ:Lc) (H:Hp) (fr:List (Addr×Obj)) (s:Shared) (Q E:Value→Shared→Prop) (nx:Nx) (n:Nat) (H':Hp),
 Rep Γ W ρ H fr s.heap→g ρ H=some (nx,n,H') →
 (∀(W':Wd) (h':Heap) (tk':Nat) (it:Value) (as:List Addr) (It:Nat→List (Addr×Obj)→Prop) (fs:List (Addr×Obj)),W.Le W'→It 0 fs→Rep Γ W' ρ H' (fs++fr) h'→(∀a∈as,∀t∈fr,a≠t.1)→Itr prog w Γ W' it as It nx→Q it { s with heap:=h',toks:=tk' }) →
 wpAny (model prog w) Γ.A (eval e Γ.env) (fun xv s₁=>wpAny (model prog w) Γ.A (pyIter xv) Q E s₁) E s
noncomputable def Zm0(a:Nat): Nx:=fun i H=>H[a]?.map fun vs=>vs[i]?
noncomputable def Zqb(vs:List V): Nx:=fun i _=>some vs[i]?
noncomputable def Zex(a c:Int)(n:Nat): Nx:=fun i _=>some (if i<n then some (.int (a+i*c))else none)
noncomputable def Zbe(f:Ex): Src:=fun ρ H=>(f ρ H).bind fun p=>match p.1 with
 | .ref a=>p.2[a]?.map fun vs=>(Zm0 a,vs.length+1,p.2)
 | .tup vs=>some (Zqb vs,vs.length+1,p.2)
 | _=>none
noncomputable def rngN(a b c:Int): Nat:=(Builtin.Range.rangeSize a b c).toNat
noncomputable def Zcw(a b c:Int)(H:Hp): Option (Nx×Nat×Hp):=if c≠0∧Builtin.Range.small a b c=true∧0≤Builtin.Range.rangeSize a b c∧rngN a b c≤LEN∧Builtin.divisionGoesByPylong (b-a) c=false then some (Zex a c (rngN a b c),rngN a b c+1,H)else none
noncomputable def ZaM(g:Exs): Src:=fun ρ H=>(g ρ H).bind fun p=>match p.1 with
 | [.int b]=>Zcw 0 b 1 p.2
 | [.int a,.int b]=>Zcw a b 1 p.2
 | [.int a,.int b,.int c]=>Zcw a b c p.2
 | _=>none
section
variable {prog:Program} {w:World} {Γ:Cx}
theorem Zm1{W0:Wd}{I:Addr}{nx:Nx}(P:Nat→Obj→Prop)
  (next:∀(i:Nat) (W:Wd) (ρ:Lc) (H:Hp) (fr:List (Addr×Obj)) (ob:Obj) (s:Shared) (Q:Option Value→Shared→Prop) (E:Value→Shared→Prop) (o:Option V),W0.Le W→Rep Γ W ρ H ((I,ob)::fr) s.heap→P i ob→nx i H=some o →
   (match o with
    | none=>∀(h':Heap) (tk':Nat),(∀b o,b≠I→s.heap.get? b=some o→h'.get? b=some o)→Q none { s with heap:=h',toks:=tk' }
    | some v=>∀(ob':Obj) (h':Heap) (tk':Nat) (x:Value),P (i+1) ob'→h'.get? I=some ob'→(∀b o,b≠I→s.heap.get? b=some o→h'.get? b=some o)→VR W v x→Q (some x) { s with heap:=h',toks:=tk' })→wpAny (model prog w) Γ.A (pyNext (.ref I)) Q E s)
  (self:∀(i:Nat) (W:Wd) (ρ:Lc) (H:Hp) (fr:List (Addr×Obj)) (ob:Obj) (s:Shared) (Q E:Value→Shared→Prop),W0.Le W→Rep Γ W ρ H ((I,ob)::fr) s.heap→P i ob→Q (.ref I) s→wpAny (model prog w) Γ.A (pyIter (.ref I)) Q E s):
  Itr prog w Γ W0 (.ref I) [I] (fun i fs=>∃ob,fs=[(I,ob)]∧P i ob) nx:=by
 refine⟨?_,?_,?_⟩
 ·rintro i fs ⟨ob,e,_⟩
  rw[e]
  rfl
 ·rintro i W ρ H fr fs s Q E o le r ap ⟨ob,e,hp⟩ hn post
  subst e
  refine next i W ρ H fr ob s Q E o le r hp hn ?_
  have ap':∀q∈[(I,ob)],∀t∈fr,q.1≠t.1:=fun q hq t ht=>by rw[List.mem_singleton.mp hq];exact ap I Zz5 t ht
  cases o with
  | none=>
   intro h' tk' keep
   have:=Rep.swap (fs:=[(I,ob)]) (fs':=[]) r ap' (fun b o hb e=>keep b o (fun q=>hb (by simp[q])) e) (fun q hq=>nomatch hq)
   exact post h' tk' this
  | some v=>
   intro ob' h' tk' x hp' hg keep hx
   have:=Rep.swap (fs:=[(I,ob)]) (fs':=[(I,ob')]) r ap' (fun b o hb e=>keep b o (fun q=>hb (by simp[q])) e) (fun q hq=>by rw[List.mem_singleton.mp hq];exact⟨hg,by simp⟩)
   exact post [(I,ob')] h' tk' x ⟨ob',rfl,hp'⟩ this hx
 ·rintro i W ρ H fr fs s Q E le r ⟨ob,e,hp⟩ q
  subst e
  exact self i W ρ H fr ob s Q E le r hp q
theorem JI.seq{e:Expr}{f:Ex}(h:J prog w Γ e f): JI prog w Γ e (Zbe f):=by
 intro W ρ H fr s Q E nx n H' r hf post
 obtain⟨p,e1,hf⟩:=Zz0.mp hf
 refine h W ρ H fr s _ E _ _ r e1 fun W1 k1 t1 x l1 r1 x1=>?_
 obtain⟨v,H1⟩:=p
 cases x1 with
 | none=>cases hf
 | bool _=>cases hf
 | int _ _=>cases hf
 | str _ _=>cases hf
 | @tup vs a xs k hm hl hs=>
  cases hf
  have it:k1.IsTuple a xs.toArray:=⟨_,r1.tupAt hm,rfl,k,rfl⟩
  refine wpAny_pyIter_tuple it ?_
  obtain⟨r2,ap⟩:=r1.more (fs:=[(k1.objs.size,{ cls:=.type "tuple_iterator",data:=.fields #[.ref a,.int 0 0] })]) (fun b o e=>Heap.get?_push_of_some { cls:=.type "tuple_iterator",data:=.fields #[.ref a,.int 0 0] } e) (fun q hq=>by rw[List.mem_singleton.mp hq];exact⟨Heap.get?_push_size _ rfl,Nat.le_refl _⟩)
  refine post W1 _ t1 _ [k1.objs.size] _ _ l1 ⟨_,rfl,?_⟩ r2 (fun b hb t ht=>by rw[List.mem_singleton.mp hb];exact ap _ Zz5 t ht)
   (Zm1 (fun i ob=>ob.cls=.type "tuple_iterator"∧ob.data=.fields #[.ref a,.int i 0]) ?_ ?_)
  ·intro i W ρ H fr ob s Q E o le r hp hn post
   have g1:s.heap.IsTupleIter k1.objs.size a i:=⟨ob,r.frAt Zz5,hp.1,hp.2⟩
   have g2:s.heap.IsTuple a xs.toArray:=⟨_,r.tupAt (le.tups _ hm),rfl,k,rfl⟩
   have ne:a≠k1.objs.size:=Nat.ne_of_lt (Heap.lt_size (r1.tupAt hm))
   have Wk:=Walks.tuple (prog:=prog) (w:=w) Γ.hh k1.objs.size a ne xs.toArray
   cases hn
   cases ev:vs[i]? with
   | none=>
    rw[ev]at post
    have hi:xs.toArray[i]?=none:=by have:=List.getElem?_eq_none_iff.mp ev;rw[←hs.length]at this;simpa using this
    exact wpAny_pyNext_tuple_end Γ.hh g1 g2 hi fun h' he'=>post h' s.toks fun b o hb e=>he' b o hb e
   | some v=>
    rw[ev]at post
    obtain⟨y,hy,ry⟩:=hs.at ev
    refine wpAny_pyNext_tuple_item g1 g2 (x:=y) (by simpa using hy) fun h' hit' hs'=>?_
    obtain⟨ob',h1,h2,h3⟩:=hit'
    exact post ob' h' s.toks y ⟨h2,h3⟩ h1 (fun b o hb e=>hs'.extBut b o hb e) (ry.mono le)
  ·intro i W ρ H fr ob s Q E le r hp q
   exact wpAny_pyIter_tupleiter (⟨ob,r.frAt Zz5,hp.1,hp.2⟩:s.heap.IsTupleIter k1.objs.size a i) q
  ·exact⟨rfl,rfl⟩
 | @ref i0 a ea=>
  obtain⟨vs,e2,e3⟩:=Zz1.mp hf
  cases e3
  obtain⟨hl,xs,k,hg,hv⟩:=r1.at e2 ea
  have isl:k1.IsList a xs.toArray:=⟨_,hg,rfl,k,rfl⟩
  refine wpAny_pyIter_list isl ?_
  obtain⟨r2,ap⟩:=r1.more (fs:=[(k1.objs.size,{ cls:=.type "list_iterator",data:=.fields #[.ref a,.int 0 0] })]) (fun b o e=>Heap.get?_push_of_some { cls:=.type "list_iterator",data:=.fields #[.ref a,.int 0 0] } e) (fun q hq=>by rw[List.mem_singleton.mp hq];exact⟨Heap.get?_push_size _ rfl,Nat.le_refl _⟩)
  refine post W1 _ t1 _ [k1.objs.size] _ _ l1 ⟨_,rfl,?_⟩ r2 (fun b hb t ht=>by rw[List.mem_singleton.mp hb];exact ap _ Zz5 t ht)
   (Zm1 (fun i ob=>ob.cls=.type "list_iterator"∧ob.data=.fields #[.ref a,.int i 0]) ?_ ?_)
  ·intro i W ρ H fr ob s Q E o le r hp hn post
   obtain⟨us,eu,e4⟩:=Zz1.mp hn
   subst e4
   obtain⟨hl2,ys,k2,hg2,hv2⟩:=r.at eu (le.at ea)
   have g1:s.heap.IsListIter k1.objs.size a i:=⟨ob,r.frAt Zz5,hp.1,hp.2⟩
   have g2:s.heap.IsList a ys.toArray:=⟨_,hg2,rfl,k2,rfl⟩
   cases ev:us[i]? with
   | none=>
    rw[ev]at post
    have hi:ys.toArray[i]?=none:=by have:=List.getElem?_eq_none_iff.mp ev;rw[←hv2.length]at this;simpa using this
    exact wpAny_pyNext_list_end Γ.hh g1 g2 hi fun h' he'=>post h' s.toks fun b o hb e=>he' b o hb e
   | some v=>
    rw[ev]at post
    obtain⟨y,hy,ry⟩:=hv2.at ev
    refine wpAny_pyNext_list_item g1 g2 (x:=y) (by simpa using hy) fun h' hit' hs'=>?_
    obtain⟨ob',h1,h2,h3⟩:=hit'
    exact post ob' h' s.toks y ⟨h2,h3⟩ h1 (fun b o hb e=>hs'.extBut b o hb e) ry
  ·intro i W ρ H fr ob s Q E le r hp q
   exact wpAny_pyIter_listiter (⟨ob,r.frAt Zz5,hp.1,hp.2⟩:s.heap.IsListIter k1.objs.size a i) q
  ·exact⟨rfl,rfl⟩
theorem ZrR{a b c:Int}{H:Hp}{z:Nx×Nat×Hp}(h:Zcw a b c H=some z): c≠0∧Builtin.divisionGoesByPylong (b-a) c=false:=by
 unfold Zcw at h
 split at h
 ·rename_i hc
  exact⟨hc.1,hc.2.2.2.2⟩
 ·cases h
theorem Zud{W0:Wd}{I:Addr}{a c:Int}{n:Nat}: Itr prog w Γ W0 (.ref I) [I] (fun i fs=>∃ob,fs=[(I,ob)]∧(i≤n∧ob = { cls:=.type "range_iterator",dict:=none,data:=.fields #[rawInt (a+(i:Nat)*c),rawInt ((n:Int)-(i:Nat)),rawInt c],slots:=#[] })) (Zex a c n):=by
 have Wk:=Walks.range (prog:=prog) (w:=w) Γ.hh I a c n
 refine Zm1 (fun i ob=>i≤n∧ob = { cls:=.type "range_iterator",dict:=none,data:=.fields #[rawInt (a+(i:Nat)*c),rawInt ((n:Int)-(i:Nat)),rawInt c],slots:=#[] }) ?_ ?_
 ·intro i W ρ H fr ob s Q E o le r hp hn post
  have g:IsRangeIter s.heap I (a+(i:Nat)*c) ((n:Int)-(i:Nat)) c:=(r.frAt Zz5).trans (congrArg some hp.2)
  cases hn
  by_cases hi:i<n
  ·rw[if_pos hi]at post
   refine Wk.item i s Q E hi g fun v h' tk hv st keep=>?_
   obtain⟨t,e⟩:=hv
   subst e
   exact post _ h' tk _ ⟨hi,rfl⟩ st (fun b o hb e=>keep b o (by simpa using hb) e) (.int _ _)
  ·rw[if_neg hi]at post
   have e:i=n:=by have:=hp.1;omega
   subst e
   exact Wk.done s Q E g fun h' tk keep=>post h' tk fun b o hb e=>keep b o (by simpa using hb) e
 ·intro i W ρ H fr ob s Q E le r hp q
  have g:IsRangeIter s.heap I (a+(i:Nat)*c) ((n:Int)-(i:Nat)) c:=(r.frAt Zz5).trans (congrArg some hp.2)
  exact Wk.self i s Q E g q
theorem ZkX{a b c:Int}{t u v:Tok}{W:Wd}{ρ:Lc}{H:Hp}{fr:List (Addr×Obj)}{s:Shared}{k:Heap}{tk:Nat}{Q E:Value→Shared→Prop}{nx:Nx}{n:Nat}{H':Hp}(r:Rep Γ W ρ H fr k)(hm:Zcw a b c H=some (nx,n,H'))
  (post:∀(W':Wd) (h':Heap) (tk':Nat) (it:Value) (as:List Addr) (It:Nat→List (Addr×Obj)→Prop) (fs:List (Addr×Obj)),W.Le W'→It 0 fs→Rep Γ W' ρ H' (fs++fr) h'→(∀a∈as,∀t∈fr,a≠t.1)→Itr prog w Γ W' it as It nx→Q it { s with heap:=h',toks:=tk' }):
  wpAny (model prog w) Γ.A (pyIter (.ref k.objs.size)) Q E { s with heap:=k.push { cls:=.type "range",data:=.fields #[.int a t,.int b u,.int c v] },toks:=tk }:=by
 unfold Zcw at hm
 split at hm
 ·rename_i hc
  cases hm
  have hr:IsRange (k.push { cls:=.type "range",data:=.fields #[.int a t,.int b u,.int c v] }) k.objs.size a b c t u v:=IsRange.new ..
  refine wpAny_pyIter_range hr hc.2.1 ?_
  have rp:=r.push { cls:=.type "range",data:=.fields #[.int a t,.int b u,.int c v] }
  have en:Builtin.Range.rangeSize a b c=((rngN a b c:Nat):Int):=(Int.toNat_of_nonneg hc.2.2.1).symm
  dsimp only
  generalize hk:k.push { cls:=.type "range",data:=.fields #[.int a t,.int b u,.int c v] } = k2 at rp ⊢
  obtain⟨r2,ap⟩:=rp.more (fs:=[(k2.objs.size,{ cls:=.type "range_iterator",data:=.fields #[rawInt a,rawInt (Builtin.Range.rangeSize a b c),rawInt c] })]) (fun b' o e=>Heap.get?_push_of_some { cls:=.type "range_iterator",data:=.fields #[rawInt a,rawInt (Builtin.Range.rangeSize a b c),rawInt c] } e) (fun q hq=>by rw[List.mem_singleton.mp hq];exact⟨Heap.get?_push_size _ rfl,Nat.le_refl _⟩)
  refine post W _ tk _ [k2.objs.size] _ _ (.refl W) ⟨_,rfl,Nat.zero_le _,?_⟩ r2 (fun b hb t ht=>by rw[List.mem_singleton.mp hb];exact ap _ Zz5 t ht) (Zud (a:=a) (c:=c) (n:=rngN a b c))
  rw[en]
  simp
 ·cases hm
theorem JI.range{x:Str}{np pos:Pos}{e:Expr}{es:List Expr}{g:Exs}(hn:Nm prog w Γ x (.type "range"))(h:Js prog w Γ (e::es) g)
  (he:starEach (e::es) Γ.env=(false,eval e Γ.env)::starEach es Γ.env:=by rfl) (hp:∀pos,(backTo pos (starEach es Γ.env)).any (·.1)=false:=by intro _;rfl):JI prog w Γ (.Call (.Name x np) (e::es) [] pos) (ZaM g):=by
 intro W ρ H fr s Q E nx n H' r hf post
 obtain⟨p,e1,hf⟩:=Zz0.mp hf
 refine wpAny_Call_ofName (hn.use r ?_)
 refine PySem.Pv.callWith_type1 (h pos W ρ H fr s _ E _ _ r e1 fun W1 k1 t1 xs l1 r1 x1=>?_) he (hp pos)
 obtain⟨vs,H1⟩:=p
 dsimp only at hf x1 r1
 have post1:=fun W' h' tk' it as It fs (l:W1.Le W')=>post W' h' tk' it as It fs (l1.trans l)
 split at hf
 ·obtain⟨y,ex,ry⟩:=x1.one
  subst ex
  cases ry
  exact call_range_1 (ZkX r1 hf post1)
 ·obtain⟨y,z,ex,ry,rz⟩:=x1.two
  subst ex
  cases ry
  cases rz
  exact call_range_2 (ZkX r1 hf post1)
 ·cases x1 with
  | cons ry x1=>
  obtain⟨y,z,ex,rz,ru⟩:=x1.two
  subst ex
  cases ry
  cases rz
  cases ru
  have hc:=ZrR hf
  exact call_range_3 hc.1 (ZkX r1 hf post1) (.inl hc.2)
 ·cases hf
end
noncomputable def Zdy(nx:Nx)(put:V→Lc→Option Lc)(b:Sm): Nat→Nat→Sm
 | 0,_=>fun _ _=>none
 | n+1,i=>fun ρ H=>(nx i H).bind fun o=>match o with
  | none=>some (none,ρ,H)
  | some v=>(put v ρ).bind fun ρ1=>(b ρ1 H).bind fun q=>match q.1 with
   | some _=>some q
   | none=>Zdy nx put b n (i+1) q.2.1 q.2.2
noncomputable def ZaU(g:Src)(put:V→Lc→Option Lc)(b:Sm): Sm:=fun ρ H=>(g ρ H).bind fun z=>Zdy z.1 put b z.2.1 0 ρ z.2.2
noncomputable def Zak(i:Nat): V→Lc→Option Lc:=fun v ρ=>some (upd ρ i v)
section
variable {prog:Program} {w:World} {Γ:Cx}
theorem ZbD{x:Str}{i:Nat}{px pos:Pos}{it:Expr}{body:List Stmt}{g:Src}{b:Sm}(hx:Sto prog w Γ x i)(hg:JI prog w Γ it g)(hb:Ss prog w Γ body b)(hs:∀x,foldedSetIterable it Γ.env x=pure x:=by intro _;rfl): S1 prog w Γ (.For (.Name x px) it body [] pos) (ZaU g (Zak i) b):=by
 intro W ρ H fr s Q E r rp hf post
 obtain⟨z,e1,hf⟩:=Zz0.mp hf
 obtain⟨nx,n,H0⟩:=z
 refine wpAny_For (hg W ρ H fr s _ E nx n H0 rp e1 fun W1 k1 t1 itv as It fs l1 i1 r1 ap I1=>?_) hs
 refine codeAny_forLoop (fun k s'=>∃W' ρ' H' h' tk' j fs',s' = { s with heap:=h',toks:=tk' }∧W1.Le W'∧It j fs'∧Rep Γ W' ρ' H' (fs'++fr) h'∧Zdy nx (Zak i) b k j ρ' H'=some r) ?_ n ⟨W1,ρ,H0,k1,t1,0,fs,rfl,.refl _,i1,r1,hf⟩
 rintro k s' ⟨W2,ρ2,H2,k2,t2,j,fs2,rfl,l2,i2,r2,e⟩
 cases k with
 | zero=>cases e
 | succ k=>
  obtain⟨o,e2,e⟩:=Zz0.mp e
  refine I1.next j W2 ρ2 H2 fr fs2 _ _ _ o l2 r2 ap i2 e2 ?_
  cases o with
  | none=>
   cases e
   intro h' tk' r3
   exact wpAny_execs_nil (post W2 h' tk' (l1.trans l2) r3)
  | some v=>
   intro fs3 k3 t3 y i3 r3 y3
   obtain⟨ρ3,e3,e⟩:=Zz0.mp e
   cases e3
   obtain⟨q,e4,e⟩:=Zz0.mp e
   refine wpAny_assign_Name (hx W2 ρ2 H2 (fs3++fr) _ _ _ v y r3 y3 fun k4 t4 r4=>?_)
   refine hb W2 _ H2 (fs3++fr) _ _ _ q r4 e4 ?_
   obtain⟨u,ρ5,H5⟩:=q
   cases u with
   | some u=>
    cases e
    exact fun W5 k5 t5 x5 l5 r5 v5=>post W5 k5 t5 x5 ((l1.trans l2).trans l5) (r5.less fun q hq=>List.mem_append_right _ hq) v5
   | none=>exact fun W5 k5 t5 l5 r5=>⟨k,Nat.lt_succ_self k,W5,ρ5,H5,k5,t5,j+1,fs3,rfl,l2.trans l5,i3,r5,e⟩
end
end PM
end
section
set_option autoImplicit false
namespace PM
open PySem PySem.W PySem.Calls PyProof.Rows PyProof
structure OwnF(names:List Str)(cs:Scope)(cl:List (Str×Addr))(W:Wd)(ρ:Lc)(m:Str→Option Value)(cells:List (Addr×Obj)): Prop where
 loc:∀(i:Nat) (x:Str) (v:V),names[i]?=some x→cs.names.lookup x=some .local→ρ i=some v→∃y,m x=some y∧VR W v y
 cel:∀(i:Nat) (x:Str) (v:V),names[i]?=some x→cs.names.lookup x=some .cell→ρ i=some v→∃c o y,cl.lookup x=some c∧(c,o)∈cells∧o.data=.cell (some y)∧VR W v y
 all:∀(x:Str) (c:Addr),cl.lookup x=some c→∃o v₀,(c,o)∈cells∧o.data=.cell v₀
 one:∀(x y:Str) (c:Addr),cl.lookup x=some c→cl.lookup y=some c→x=y
theorem OwnF.mono{names:List Str}{cs:Scope}{cl:List (Str×Addr)}{W W':Wd}{ρ:Lc}{m:Str→Option Value}{cells:List (Addr×Obj)}(l:W.Le W')(h:OwnF names cs cl W ρ m cells): OwnF names cs cl W' ρ m cells:=
 ⟨fun i x v a b c=>by
  obtain⟨y,h1,h2⟩:=h.loc i x v a b c
  exact⟨y,h1,h2.mono l⟩,fun i x v a b c=>by
  obtain⟨d,o,y,h1,h2,h3,h4⟩:=h.cel i x v a b c
  exact⟨d,o,y,h1,h2,h3,h4.mono l⟩,h.all,h.one⟩
noncomputable def ZbS(dp un:Nat)(gd:Option (List Code))(cn:Str)(cs:Scope)(L a:Addr)(ccd:Value)(cl:List (Str×Addr))(outer:List Env)(h₀:Heap)(hu:un+200<cLine)(names:List Str): Cx where
 A:=ktrTop dp un gd cn cs L a ccd cl outer
 env:=envX cn cs L a ccd cl
 h₀:=h₀
 L:=L
 hh:=rfl
 hu:=hu
 Own:=OwnF names cs cl
 mono:=OwnF.mono
section
variable {prog:Program} {w:World} {dp un:Nat} {gd:Option (List Code)} {cn:Str} {cs:Scope} {L a:Addr} {ccd:Value} {cl:List (Str×Addr)} {outer:List Env} {h₀:Heap} {hu:un+200<cLine} {names:List Str}
theorem Zwp{x:Str}{i:Nat}(hi:names[i]?=some x)(hx:cs.names.lookup x=some .local)(hk:cs.kind=.function)(hd:(x == ("__debug__":Str))=false): Rd prog w (ZbS dp un gd cn cs L a ccd cl outer h₀ hu names) x i:=by
 intro W ρ H fr s Q E v pos r e q
 obtain⟨m,c,led,r⟩:=r
 obtain⟨y,h1,h2⟩:=r.own.loc i x v hi hx e
 exact nameX_L r.F h1 (q y h2) hk hx hd
theorem Zwq{x:Str}{i:Nat}(hi:names[i]?=some x)(hx:cs.names.lookup x=some .cell)(hk:cs.kind=.function)(hd:(x == ("__debug__":Str))=false): Rd prog w (ZbS dp un gd cn cs L a ccd cl outer h₀ hu names) x i:=by
 intro W ρ H fr s Q E v pos r e q
 obtain⟨m,c,led,r⟩:=r
 obtain⟨d,o,y,h1,h2,h3,h4⟩:=r.own.cel i x v hi hx e
 exact nameX_C r.N h1 (r.clIn _ h2) h3 (q y h4) hk hx hd
theorem Zu8{x:Str}{i:Nat}(nd:names.Nodup)(hi:names[i]?=some x)(hx:cs.names.lookup x=some .local)(hk:cs.kind=.function): Sto prog w (ZbS dp un gd cn cs L a ccd cl outer h₀ hu names) x i:=by
 intro W ρ H fr s Q E v y r vy q
 obtain⟨m,c,led,r⟩:=r
 have hi':i<names.length:=(Zz6.mp hi).1
 refine storeX_L r.F r.N (fun h' F' N'=>q h' _ ⟨_,c,led,⟨F',N',r.R,r.sc,r.sc0,r.frIn,r.frOff,r.clIn,r.clOff,r.apart,r.frTup,r.clTup,⟨fun j z u hj hz hu=>?_,fun j z u hj hz hu=>?_,r.own.all,r.own.one⟩⟩⟩) hk hx
 ·by_cases e:j=i
  ·subst e
   rw[hi]at hj
   cases hj
   simp only[upd,if_true]at hu
   cases hu
   exact⟨y,by simp,vy⟩
  ·have hzx:z≠x:=fun e'=>by
    subst e'
    exact e ((List.getElem?_inj (Zz6.mp hj).1 nd).mp (hj.trans hi.symm))
   simp only[upd,if_neg e]at hu
   obtain⟨y',h1,h2⟩:=r.own.loc j z u hj hz hu
   exact⟨y',by simp[hzx,h1],h2⟩
 ·by_cases e:j=i
  ·subst e
   rw[hi]at hj
   cases hj
   rw[hx]at hz
   cases hz
  ·simp only[upd,if_neg e]at hu
   exact r.own.cel j z u hj hz hu
theorem Zu9{x:Str}{i:Nat}(nd:names.Nodup)(hi:names[i]?=some x)(hx:cs.names.lookup x=some .cell)(hk:cs.kind=.function)(hcl:(cl.lookup x).isSome=true): Sto prog w (ZbS dp un gd cn cs L a ccd cl outer h₀ hu names) x i:=by
 intro W ρ H fr s Q E v y r vy q
 obtain⟨m,c,led,r⟩:=r
 obtain⟨d,hd⟩:=Option.isSome_iff_exists.mp hcl
 obtain⟨o,v₀,ho,hv₀⟩:=r.own.all x d hd
 have inl:=r.clIn _ ho
 have N2:News h₀ L s.heap ((d,o)::led.filter (fun q=>decide (q.1≠d))):=by
  intro q hq
  rcases Zz7.mp hq with e | hq
  ·subst e
   exact r.N _ inl
  ·exact r.N q (List.mem_filter.mp hq).1
 refine storeX_C r.F N2 hd (UpdF.head fun q hq=>by simpa using (List.mem_filter.mp hq).2) hv₀ (fun h' o' F' N' ho'=>?_) hk hx
 have keep:∀q∈led,q.1≠d→q∈(d,o')::led.filter (fun q=>decide (q.1≠d)):=fun q hq hn=>List.mem_cons_of_mem _ (List.mem_filter.mpr ⟨hq,by simpa using hn⟩)
 refine q h' s.toks ⟨m,(d,o')::c.filter (fun q=>decide (q.1≠d)),_,⟨F',N',⟨r.R.len,r.R.nd,fun j vs e=>?_,fun q hq=>Zen (r.R.tups q hq) fun z=>keep q z (r.clTup _ ho q hq).symm,r.R.kind⟩,r.sc,r.sc0,fun q hq=>keep q (r.frIn q hq) (r.apart _ ho q hq).symm,r.frOff,fun q hq=>?_,fun q hq=>?_,fun q hq t ht=>?_,r.frTup,fun q hq t ht=>?_,⟨fun j z u hj hz hu=>?_,fun j z u hj hz hu=>?_,fun z e hz=>?_,r.own.one⟩⟩⟩
 ·obtain⟨l,b,xs,k,h1,h2,h3⟩:=r.R.lists j vs e
  exact⟨l,b,xs,k,h1,Zen h2 fun z=>keep _ z fun e=>r.clOff _ ho (e▸List.mem_of_getElem? h1),h3⟩
 ·rcases Zz7.mp hq with e | hq
  ·exact e▸List.mem_cons_self
  ·obtain⟨h1,h2⟩:=List.mem_filter.mp hq
   exact keep q (r.clIn q h1) (by simpa using h2)
 ·rcases Zz7.mp hq with e | hq
  ·rw[e]
   exact(r.clOff _ ho:d∉W.pi)
  ·exact r.clOff q (List.mem_filter.mp hq).1
 ·rcases Zz7.mp hq with e | hq
  ·rw[e]
   exact(r.apart _ ho t ht:d≠t.1)
  ·exact r.apart q (List.mem_filter.mp hq).1 t ht
 ·rcases Zz7.mp hq with e | hq
  ·rw[e]
   exact(r.clTup _ ho t ht:d≠t.1)
  ·exact r.clTup q (List.mem_filter.mp hq).1 t ht
 ·by_cases e:j=i
  ·subst e
   rw[hi]at hj
   cases hj
   rw[hx]at hz
   cases hz
  ·simp only[upd,if_neg e]at hu
   exact r.own.loc j z u hj hz hu
 ·by_cases e:j=i
  ·subst e
   rw[hi]at hj
   cases hj
   simp only[upd,if_true]at hu
   cases hu
   exact⟨d,o',y,hd,List.mem_cons_self,ho',vy⟩
  ·have hzx:z≠x:=fun e'=>by
    subst e'
    exact e ((List.getElem?_inj (Zz6.mp hj).1 nd).mp (hj.trans hi.symm))
   simp only[upd,if_neg e]at hu
   obtain⟨b,ob,y',h1,h2,h3,h4⟩:=r.own.cel j z u hj hz hu
   have:b≠d:=fun e'=>by
    subst e'
    exact hzx (r.own.one z x b h1 hd)
   exact⟨b,ob,y',h1,List.mem_cons_of_mem _ (List.mem_filter.mpr ⟨h2,by simpa using this⟩),h3,h4⟩
 ·by_cases e':e=d
  ·subst e'
   exact⟨o',_,List.mem_cons_self,ho'⟩
  ·obtain⟨ob,v1,h1,h2⟩:=r.own.all z e hz
   exact⟨ob,v1,List.mem_cons_of_mem _ (List.mem_filter.mpr ⟨h1,by simpa using e'⟩),h2⟩
end
end PM
end
section
set_option autoImplicit false
namespace PM
open PySem PySem.W PySem.Calls PyProof.Rows PyProof PyProof.Rows.LCg
theorem Zgd{Γ:Cx}{W:Wd}{ρ:Lc}{H:Hp}{fr:List (Addr×Obj)}{h:Heap}{D:Addr}{ys:List Value}{k:Nat}{vs:List V}(r:Rep Γ W ρ H ((D,ZbX ys k)::fr) h)(ap:∀t∈fr,D≠t.1)(hv:VRs W vs ys)(hl:vs.length≤LEN):
  ∃W',W.Le W'∧Rep Γ W' ρ (H++[vs]) fr h∧VR W' (.ref H.length) (.ref D):=by
 obtain⟨m,c,led,r⟩:=r
 have le:W.Le ⟨W.pi++[D],W.tups,W.sc⟩:=⟨List.prefix_append _ _,fun q hq=>hq,rfl⟩
 have h0:0<W.pi.length:=(Zz6.mp r.sc0).1
 have at_n:(W.pi++[D])[H.length]?=some D:=by rw[←r.R.len];simp
 have off:=r.frOff _ Zz5
 refine⟨⟨W.pi++[D],W.tups,W.sc⟩,le,⟨m,c,led,⟨r.F,r.N,⟨by simp[r.R.len],?_,fun i us e=>?_,r.R.tups,r.R.kind⟩,r.sc,(List.getElem?_append_left h0).trans r.sc0,fun q hq=>r.frIn q (Zz2 _ hq),fun q hq=>?_,r.clIn,fun q hq=>?_,fun q hq t ht=>r.apart q hq t (Zz2 _ ht),fun q hq=>r.frTup q (Zz2 _ hq),r.clTup,Γ.mono le r.own⟩⟩,.ref at_n⟩
 ·show(W.pi++[D]).Nodup
  rw[List.nodup_append]
  refine⟨r.R.nd,by simp,fun a ha b hb=>?_⟩
  rw[List.mem_singleton.mp hb]
  exact fun e=>off (e▸ha)
 ·by_cases hi:i<H.length
  ·rw[List.getElem?_append_left hi]at e
   obtain⟨l,a,zs,j,h1,h2,h3⟩:=r.R.lists i us e
   exact⟨l,a,zs,j,le.at h1,h2,h3.mono le⟩
  ·have:i=H.length:=by
    have:=(Zz6.mp e).1
    simp at this
    omega
   subst this
   simp at e
   subst e
   exact⟨hl,D,ys,k,at_n,List.mem_cons_of_mem _ (r.frIn _ Zz5),hv.mono le⟩
 ·intro hm
  rcases Zz8.mp hm with hm | hm
  ·exact r.frOff q (Zz2 _ hq) hm
  ·exact ap q hq (Zz9.mp hm).symm
 ·intro hm
  rcases Zz8.mp hm with hm | hm
  ·exact r.clOff q hq hm
  ·exact r.apart q hq _ Zz5 (Zz9.mp hm)
noncomputable def ZxM(Γ:Cx)(C:Addr)(ts:List (Str×Nat))(ρ0:Lc)(W:Wd)(ρ:Lc)(m:Str→Option Value)(cells:List (Addr×Obj)): Prop:=
 ∃oC m₂ cs,cells=(C,oC)::cs∧(∀q∈cs,q.1≠C)∧NsObj oC m₂∧(∀p∈ts,∃v y,ρ p.2=some v∧m₂ p.1=some y∧VR W v y)∧(∀j,(∀p∈ts,p.2≠j)→ρ j=ρ0 j)∧Γ.Own W ρ0 m cs
noncomputable def Zbu(Γ:Cx)(scope:Scope)(cl:List (Str×Addr))(C:Addr)(ts:List (Str×Nat))(ρ0:Lc): Cx where
 A:=Γ.A
 env:=compEnvC scope cl C Γ.env
 h₀:=Γ.h₀
 L:=Γ.L
 hh:=Γ.hh
 hu:=Γ.hu
 Own:=ZxM Γ C ts ρ0
 mono:=fun l h=>by
  obtain⟨oC,m₂,cs,e,h0,h1,h2,h3,h4⟩:=h
  exact⟨oC,m₂,cs,e,h0,h1,fun p hp=>by
   obtain⟨v,y,a,b,c⟩:=h2 p hp
   exact⟨v,y,a,b,c.mono l⟩,h3,Γ.mono l h4⟩
section
variable {Γ:Cx} {scope:Scope} {cl:List (Str×Addr)} {C:Addr} {ts:List (Str×Nat)} {ρ0:Lc} {W:Wd} {ρ:Lc} {H:Hp} {fr:List (Addr×Obj)} {h:Heap}
theorem Zpx{oC:Obj}{m₂:Str→Option Value}(r:Rep Γ W ρ0 H ((C,oC)::fr) h)(ap:∀t∈fr,C≠t.1)(hC:NsObj oC m₂)(ht:∀p∈ts,∃v y,ρ p.2=some v∧m₂ p.1=some y∧VR W v y)(hj:∀j,(∀p∈ts,p.2≠j)→ρ j=ρ0 j): Rep (Zbu Γ scope cl C ts ρ0) W ρ H fr h:=by
 obtain⟨m,c,led,r⟩:=r
 refine⟨m,(C,oC)::c,led,⟨r.F,r.N,r.R,r.sc,r.sc0,fun q hq=>r.frIn q (Zz2 _ hq),fun q hq=>r.frOff q (Zz2 _ hq),fun q hq=>?_,fun q hq=>?_,fun q hq t ht=>?_,fun q hq=>r.frTup q (Zz2 _ hq),fun q hq t ht=>?_,⟨oC,m₂,c,rfl,fun q hq=>r.apart q hq _ Zz5,hC,ht,hj,r.own⟩⟩⟩
 ·rcases Zz7.mp hq with e | hq
  ·exact e▸r.frIn _ Zz5
  ·exact r.clIn q hq
 ·rcases Zz7.mp hq with e | hq
  ·exact e▸r.frOff _ Zz5
  ·exact r.clOff q hq
 ·rcases Zz7.mp hq with e | hq
  ·exact e▸ap t ht
  ·exact r.apart q hq t (Zz2 _ ht)
 ·rcases Zz7.mp hq with e | hq
  ·exact e▸r.frTup _ Zz5 t ht
  ·exact r.clTup q hq t ht
theorem Rep.fromC(r:Rep (Zbu Γ scope cl C ts ρ0) W ρ H fr h): ∃oC m₂,NsObj oC m₂∧Rep Γ W ρ0 H ((C,oC)::fr) h:=by
 obtain⟨m,c,led,r⟩:=r
 obtain⟨oC,m₂,cs,e,h0,h1,h2,h3,h4⟩:=r.own
 subst e
 refine⟨oC,m₂,h1,m,cs,led,⟨r.F,r.N,r.R,r.sc,r.sc0,fun q hq=>?_,fun q hq=>?_,fun q hq=>r.clIn q (Zz2 _ hq),fun q hq=>r.clOff q (Zz2 _ hq),fun q hq t ht=>?_,fun q hq t ht=>?_,fun q hq=>r.clTup q (Zz2 _ hq),h4⟩⟩
 ·rcases Zz7.mp hq with e | hq
  ·exact e▸r.clIn _ Zz5
  ·exact r.frIn q hq
 ·rcases Zz7.mp hq with e | hq
  ·exact e▸r.clOff _ Zz5
  ·exact r.frOff q hq
 ·rcases Zz7.mp ht with e | ht
  ·rw[e]
   exact h0 q hq
  ·exact r.apart q (Zz2 _ hq) t ht
 ·rcases Zz7.mp hq with e | hq
  ·exact e▸r.clTup _ Zz5 t ht
  ·exact r.frTup q hq t ht
end
noncomputable def JF(prog:Program)(w:World)(Γ:Cx)(ifs:List Expr)(f:Ts): Prop:=∀(W:Wd) (ρ:Lc) (H:Hp) (fr:List (Addr×Obj)) (s:Shared) (Q:Bool→Shared→Prop) (E:Value→Shared→Prop) (b:Bool) (H':Hp),
 Rep Γ W ρ H fr s.heap→f ρ H=some (b,H')→ZiI Γ W ρ H' fr s Q b →
 wpAny (model prog w) Γ.A (forIn ifs true fun c r=>if r=true then do let ok ←isTrue c Γ.env (eval c Γ.env);pure (ForInStep.yield ok)else pure (ForInStep.yield r)) Q E s
section
variable {prog:Program} {w:World} {Γ:Cx}
theorem JF.nil: JF prog w Γ [] Zao:=fun W ρ H fr s Q E b H' r hf post=>by
 cases hf
 exact wpAny_pure (post W s.heap s.toks (.refl W) r)
theorem JF.one{e:Expr}{t:Ts}(h:JT prog w Γ e t): JF prog w Γ [e] t:=fun W ρ H fr s Q E b H' r hf post=>by
 rw[List.forIn_cons]
 simp only[if_true,List.forIn_nil]
 refine wpAny_bind (wpAny_bind (h W ρ H fr s _ E b H' r hf fun W1 k1 t1 l1 r1=>wpAny_pure ?_))
 exact wpAny_pure (post W1 k1 t1 l1 r1)
end
end PM
end
section
set_option autoImplicit false
namespace PM
open PySem PySem.W PySem.Calls PyProof.Rows PyProof PyProof.Rows.LCg
noncomputable def ZcR(nx:Nx)(put:V→Lc→Option Lc)(c:Ts)(f:Ex)(ρ:Lc): Nat→Nat→List V→Hp→Option (List V×Hp)
 | 0,_,_,_=>none
 | n+1,i,acc,H=>(nx i H).bind fun o=>match o with
  | none=>some (acc,H)
  | some v=>(put v ρ).bind fun ρ1=>(c ρ1 H).bind fun b=>if b.1 then(f ρ1 b.2).bind fun p=>(if acc.length<LEN then ZcR nx put c f ρ n (i+1) (acc++[p.1]) p.2 else none)else ZcR nx put c f ρ n (i+1) acc b.2
noncomputable def Zar(g:Src)(put:V→Lc→Option Lc)(c:Ts)(f:Ex): Ex:=fun ρ H=>(g ρ H).bind fun z=>(ZcR z.1 put c f ρ z.2.1 0 [] z.2.2).map fun q=>(.ref q.2.length,q.2++[q.1])
noncomputable def ZgX(Γ:Cx)(W0:Wd)(ρ:Lc)(fr:List (Addr×Obj))(C D:Addr)(It:Nat→List (Addr×Obj)→Prop)(nx:Nx)(put:V→Lc→Option Lc)(c:Ts)(f:Ex)(q:List V×Hp)(s:Shared)(k:Nat)(s':Shared): Prop:=
 ∃W' H' h' tk' j fs acc ys oC m₂,s' = { s with heap:=h',toks:=tk' }∧W0.Le W'∧It j fs∧NsObj oC m₂∧VRs W' acc ys∧acc.length≤LEN∧Rep Γ W' ρ H' ((C,oC)::(D,lst ys)::(fs++fr)) h'∧ZcR nx put c f ρ k j acc H'=some q
section
variable {prog:Program} {w:World} {Γ:Cx}
theorem Zos{scope:Scope}{cl:List (Str×Addr)}{elt:Expr}{ts:List (Str×Nat)}{W0 W:Wd}{ρ ρ1:Lc}{H:Hp}{fr fs:List (Addr×Obj)}{C D:Addr}{It:Nat→List (Addr×Obj)→Prop}{nx:Nx}{put:V→Lc→Option Lc}{c:Ts}{f:Ex}{q:List V×Hp}{s:Shared}{h:Heap}{tk:Nat}{k j:Nat}{acc:List V}{ys:List Value}{E:Value→Shared→Prop}
  (hel:J prog w (Zbu Γ scope cl C ts ρ) elt f) (aD:∀t∈fs++fr,D≠t.1) (cd:C≠D) (l0:W0.Le W) (hit:It (j+1) fs) (hv:VRs W acc ys) (r:Rep (Zbu Γ scope cl C ts ρ) W ρ1 H ((D,lst ys)::(fs++fr)) h)
  (e:((f ρ1 H).bind fun p=>(if acc.length<LEN then ZcR nx put c f ρ k (j+1) (acc++[p.1]) p.2 else none))=some q):
  wpAny (model prog w) Γ.A (eval elt (compEnvC scope cl C Γ.env)) (fun x s₄=>wpAny (model prog w) Γ.A (call (.builtin "list.append") [.ref D,x]) (fun _ s₅=>∃m,m<k+1∧ZgX Γ W0 ρ fr C D It nx put c f q s m s₅) E s₄) E { s with heap:=h,toks:=tk }:=by
 obtain⟨p,e2,e⟩:=Zz0.mp e
 by_cases hlt:acc.length<LEN
 ·rw[if_pos hlt]at e
  refine hel W ρ1 H _ _ _ E _ _ r e2 fun W2 k2 t2 x l2 r2 x2=>?_
  obtain⟨oC',m₃,hC',r3⟩:=r2.fromC
  have hD:k2.get? D=some (lst ys):=r3.frAt (q:=(D,lst ys)) (Zz2 _ Zz5)
  refine append_at (hsz:=Zda (by rw[List.size_toArray,hv.length];omega)) hD fun h' sb hg=>?_
  have hg':h'.get? D=some (lst (ys++[x])):=hg.trans (congrArg some (lst_snoc ys x))
  have r4:Rep Γ W2 ρ p.2 ([(D,lst ys)]++((C,oC')::(fs++fr))) k2:=r3.less fun q hq=>by
   rcases Zz8.mp hq with hq | hq
   ·rw[List.mem_singleton.mp hq]
    exact Zz2 _ Zz5
   ·rcases Zz7.mp hq with e | hq
    ·exact e▸List.mem_cons_self
    ·exact Zz2 _ (Zz2 _ hq)
  have r5:Rep Γ W2 ρ p.2 ([(D,lst (ys++[x]))]++((C,oC')::(fs++fr))) h':=by
   refine r4.swap (fun q hq t ht=>?_) (fun b o hb e=>sb.extBut b o (fun z=>hb (by simp[z])) e) fun q hq=>?_
   ·rw[List.mem_singleton.mp hq]
    rcases Zz7.mp ht with e | ht
    ·rw[e]
     exact cd.symm
    ·exact aD t ht
   ·rw[List.mem_singleton.mp hq]
    exact⟨hg',by simp⟩
  have r6:Rep Γ W2 ρ p.2 ((C,oC')::(D,lst (ys++[x]))::(fs++fr)) h':=r5.less fun q hq=>by
   rcases Zz7.mp hq with e | hq
   ·exact e▸List.mem_append_right _ Zz5
   ·rcases Zz7.mp hq with e | hq
    ·exact e▸List.mem_append_left _ Zz5
    ·exact Zz3 _ (Zz2 _ hq)
  exact⟨k,Nat.lt_succ_self k,W2,p.2,h',t2,j+1,fs,acc++[p.1],ys++[x],oC',m₃,rfl,l0.trans l2,hit,hC',(hv.mono l2).snoc x2,by simp;omega,r6,e⟩
 ·rw[if_neg hlt]at e
  cases e
theorem Zue{scope:Scope}{cl:List (Str×Addr)}{elt:Expr}{ifs:List Expr}{ts:List (Str×Nat)}{W0 W:Wd}{ρ ρ1:Lc}{H:Hp}{fr fs:List (Addr×Obj)}{C D:Addr}{It:Nat→List (Addr×Obj)→Prop}{nx:Nx}{put:V→Lc→Option Lc}{c:Ts}{f:Ex}{q:List V×Hp}{s s1:Shared}{k j:Nat}{acc:List V}{ys:List Value}{oC:Obj}{m₂:Str→Option Value}{E:Value→Shared→Prop}
  (hel:J prog w (Zbu Γ scope cl C ts ρ) elt f) (hif:JF prog w (Zbu Γ scope cl C ts ρ) ifs c) (hs:∃h tk,s1 = { s with heap:=h,toks:=tk })
  (aC:∀t∈(D,lst ys)::(fs++fr),C≠t.1) (aD:∀t∈fs++fr,D≠t.1) (l0:W0.Le W) (hit:It (j+1) fs) (hC:NsObj oC m₂) (hv:VRs W acc ys) (hl:acc.length≤LEN) (r:Rep Γ W ρ H ((C,oC)::(D,lst ys)::(fs++fr)) s1.heap)
  (ht:∀p∈ts,∃v y,ρ1 p.2=some v∧m₂ p.1=some y∧VR W v y) (hj:∀i,(∀p∈ts,p.2≠i)→ρ1 i=ρ i)
  (e:((c ρ1 H).bind fun b=>if b.1 then(f ρ1 b.2).bind fun p=>(if acc.length<LEN then ZcR nx put c f ρ k (j+1) (acc++[p.1]) p.2 else none)else ZcR nx put c f ρ k (j+1) acc b.2)=some q):
  wpAny (model prog w) Γ.A (forIn ifs true fun c r=>if r=true then do let ok ←isTrue c (compEnvC scope cl C Γ.env) (eval c (compEnvC scope cl C Γ.env));pure (ForInStep.yield ok)else pure (ForInStep.yield r)) (fun ok s₃=>
   if ok=true then wpAny (model prog w) Γ.A (eval elt (compEnvC scope cl C Γ.env)) (fun x s₄=>wpAny (model prog w) Γ.A (call (.builtin "list.append") [.ref D,x]) (fun _ s₅=>∃m,m<k+1∧ZgX Γ W0 ρ fr C D It nx put c f q s m s₅) E s₄) E s₃
   else ∃m,m<k+1∧ZgX Γ W0 ρ fr C D It nx put c f q s m s₃) E s1:=by
 obtain⟨h,tk,rfl⟩:=hs
 obtain⟨b,e1,e⟩:=Zz0.mp e
 obtain⟨b,H1⟩:=b
 have rc:=Zpx (scope:=scope) (cl:=cl) r aC hC ht hj
 refine hif W ρ1 H _ _ _ E b H1 rc e1 fun W1 k1 t1 l1 r1=>?_
 cases b with
 | false=>
  obtain⟨oC',m₃,hC',r2⟩:=r1.fromC
  exact⟨k,Nat.lt_succ_self k,W1,H1,k1,t1,j+1,fs,acc,ys,oC',m₃,rfl,l0.trans l1,hit,hC',hv.mono l1,hl,r2,e⟩
 | true=>exact Zos hel aD (aC (D,lst ys) Zz5) (l0.trans l1) hit (hv.mono l1) r1 e
theorem comp_core{elt iter:Expr}{x:Str}{px:Pos}{ifs:List Expr}{scope:Scope}{pos:Pos}{cl:List (Str×Addr)}{t:Nat}{g:Src}{c:Ts}{f:Ex}(hg:JI prog w Γ iter g)(hel:∀C ρ,J prog w (Zbu Γ scope cl C [(x,t)] ρ) elt f)(hif:∀C ρ,JF prog w (Zbu Γ scope cl C [(x,t)] ρ) ifs c)
  (hcell:∀y∈scope.names,y.2≠.cell) (hkind:scope.kind=.function) (hx:scope.names.lookup x=some .local)
  {W:Wd} {ρ:Lc} {H:Hp} {fr:List (Addr×Obj)} {s:Shared} {E:Value→Shared→Prop} {q:List V×Hp} {RR:Value→Addr→Result→Shared→Prop} (r:Rep Γ W ρ H fr s.heap) (hf:((g ρ H).bind fun z=>ZcR z.1 (Zak t) c f ρ z.2.1 0 [] z.2.2)=some q)
  (hR:∀(W':Wd) (h':Heap) (tk':Nat) (C D:Addr) (oC:Obj) (m₂:Str→Option Value) (ys:List Value),W.Le W'→NsObj oC m₂→VRs W' q.1 ys→q.1.length≤LEN→(∀t∈fr,D≠t.1)→(∀t∈fr,C≠t.1)→C≠D→Rep Γ W' ρ q.2 ((C,oC)::(D,lst ys)::fr) h'→RR (.ref D) C (.ok .next) { s with heap:=h',toks:=tk' }):
  wpAny (model prog w) Γ.A (eval iter Γ.env) (fun xv s₁=>wpAny (model prog w) Γ.A (pyIter xv) (fun it s₂=>wpAny (model prog w) Γ.A (newList []) (fun acc s₃=>wpAny (model prog w) Γ.A (newFunctionEnv scope Γ.env.globals cl [] Γ.env.qual none .none (some Γ.env)) (fun cenv s₄=>
   codeAny (model prog w) Γ.A (.compStart (.ListComp elt [⟨.Name x px,iter,ifs,0⟩] scope pos) 0 it acc { cenv with scope:=relabel scope Γ.env }) (RR acc cenv.locals) s₄) E s₃) E s₂) E s₁) E s:=by
 obtain⟨z,e1,e2⟩:=Zz0.mp hf
 obtain⟨nx,n,H0⟩:=z
 refine hg W ρ H fr s _ E nx n H0 r e1 fun W1 k1 t1 itv as It fs l1 i1 r1 ap I1=>?_
 refine wpAny_newObj_type (wpAny_newFunctionEnv hcell (fun y hy=>by simp at hy) (fun h₂ hns hsb=>?_) hkind)
 dsimp only at hns hsb ⊢
 obtain⟨rD,aD⟩:=r1.more (fs:=[(k1.objs.size,lst [])]) (fun b o e=>Heap.get?_push_of_some (lst []) e) (fun q hq=>by rw[List.mem_singleton.mp hq];exact⟨Heap.get?_push_size _ rfl,Nat.le_refl _⟩)
 generalize eH:k1.push { cls:=.type "list",dict:=none,data:=.seq ([]:List Value).toArray } = K at hns hsb ⊢
 have eK:k1.push (lst [])=K:=eH
 rw[eK]at rD
 obtain⟨oC,gC,nC⟩:=ns_obj hns
 have up:∀b o,K.get? b=some o→h₂.get? b=some o:=fun b o e=>hsb.extBut b o (Nat.ne_of_lt (Heap.lt_size e)) (Heap.get?_push_of_some _ e)
 obtain⟨rC,aC⟩:=rD.more (fs:=[(K.objs.size,oC)]) up (fun q hq=>by rw[List.mem_singleton.mp hq];exact⟨gC,Nat.le_refl _⟩)
 have adr0:=I1.adr 0 fs i1
 have offs:∀b∈as,b≠k1.objs.size∧b≠K.objs.size:=fun b hb=>by
  rw[←adr0]at hb
  obtain⟨q,hq,e⟩:=Zz11.mp hb
  exact⟨e▸(aD _ Zz5 q (Zz4 _ hq)).symm,e▸(aC _ Zz5 q (Zz3 _ (Zz4 _ hq))).symm⟩
 have cd:K.objs.size≠k1.objs.size:=aC _ Zz5 (k1.objs.size,lst []) (Zz4 _ Zz5)
 have cfr:∀t∈fr,K.objs.size≠t.1:=fun t ht=>aC _ Zz5 t (Zz3 _ (Zz3 _ ht))
 have dfr:∀t∈fr,k1.objs.size≠t.1:=fun t ht=>aD _ Zz5 t (Zz3 _ ht)
 generalize k1.objs.size=D at *
 generalize K.objs.size=C at *
 have loop:∀s₃:Shared,s₃ = { s with heap:=h₂,toks:=t1+([]:List (Str×Value)).length } →
   codeAny (model prog w) Γ.A (.compLoop (.ListComp elt [⟨.Name x px,iter,ifs,0⟩] scope pos) 0 itv (.ref D) (compEnvC scope cl C Γ.env)) (RR (.ref D) C) s₃:=by
  intro s₃ hs₃
  subst hs₃
  refine codeAny_compLoop_tests (ZgX Γ W1 ρ fr C D It nx (Zak t) c f q s) ?_ n ⟨W1,H0,h₂,_,0,fs,[],[],oC,_,rfl,.refl _,i1,nC,.nil,Nat.zero_le _,rC,e2⟩
  rintro k s' ⟨W2,H2,k2,t2,j,fs2,acc,ys,oC2,m₂,rfl,l2,i2,hC2,hv2,hl2,r2,e⟩
  cases k with
  | zero=>cases e
  | succ k=>
   obtain⟨o,e4,e⟩:=Zz0.mp e
   have r2':Rep Γ W2 ρ H2 (fs2++((C,oC2)::(D,lst ys)::fr)) k2:=r2.less fun q hq=>by
    rcases Zz8.mp hq with hq | hq
    ·exact Zz2 _ (Zz2 _ (Zz4 _ hq))
    ·rcases Zz7.mp hq with e | hq
     ·exact e▸List.mem_cons_self
     ·rcases Zz7.mp hq with e | hq
      ·exact e▸List.mem_cons_of_mem _ Zz5
      ·exact Zz2 _ (Zz2 _ (Zz3 _ hq))
   have ap2:∀b∈as,∀t∈(C,oC2)::(D,lst ys)::fr,b≠t.1:=fun b hb t ht=>by
    rcases Zz7.mp ht with e | ht
    ·rw[e]
     exact(offs b hb).2
    ·rcases Zz7.mp ht with e | ht
     ·rw[e]
      exact(offs b hb).1
     ·exact ap b hb t ht
   refine I1.next j W2 ρ H2 _ fs2 _ _ _ o l2 r2' ap2 i2 e4 ?_
   cases o with
   | none=>
    cases e
    intro h' tk' r3
    exact hR W2 h' tk' C D oC2 m₂ ys (l1.trans l2) hC2 hv2 hl2 dfr cfr cd r3
   | some v=>
    intro fs3 k3 t3 y i3 r3 y3
    obtain⟨ρ3,e5,e⟩:=Zz0.mp e
    cases e5
    have a3:∀t∈fs3,t.1∈as:=fun t ht=>by
     rw[←I1.adr _ _ i3]
     exact List.mem_map_of_mem ht
    have gC3:k3.get? C=some oC2:=r3.frAt (q:=(C,oC2)) (Zz3 _ Zz5)
    have nC3:k3.Ns C m₂:=hC2.ns gC3
    refine wpAny_assign_Name (wpAny_storeName_local (lookup_relabel_local hx) nC3 (fun h4 hn4 sb4=>?_) (by simp[compEnvC,relabel,hkind]))
    obtain⟨oC4,gC4,nC4⟩:=ns_obj hn4
    have r3':Rep Γ W2 ρ H2 ([(C,oC2)]++((D,lst ys)::(fs3++fr))) k3:=r3.less fun q hq=>by
     rcases Zz8.mp hq with hq | hq
     ·rw[List.mem_singleton.mp hq]
      exact Zz3 _ Zz5
     ·rcases Zz7.mp hq with e | hq
      ·exact e▸List.mem_append_right _ (Zz2 _ Zz5)
      ·rcases Zz8.mp hq with hq | hq
       ·exact Zz4 _ hq
       ·exact Zz3 _ (Zz2 _ (Zz2 _ hq))
    have aC3:∀t∈(D,lst ys)::(fs3++fr),C≠t.1:=fun t ht=>by
     rcases Zz7.mp ht with e | ht
     ·rw[e]
      exact cd
     ·rcases Zz8.mp ht with ht | ht
      ·exact(offs _ (a3 t ht)).2.symm
      ·exact cfr t ht
    have aD3:∀t∈fs3++fr,D≠t.1:=fun t ht=>by
     rcases Zz8.mp ht with ht | ht
     ·exact(offs _ (a3 t ht)).1.symm
     ·exact dfr t ht
    have r4:Rep Γ W2 ρ H2 ([(C,oC4)]++((D,lst ys)::(fs3++fr))) h4:=by
     refine r3'.swap (fun q hq t ht=>?_) (fun b o hb e=>sb4.extBut b o (fun z=>hb (by simp[z,compEnvC])) e) fun q hq=>?_
     ·rw[List.mem_singleton.mp hq]
      exact aC3 t ht
     ·rw[List.mem_singleton.mp hq]
      exact⟨gC4,by simp⟩
    refine Zue (hel C ρ) (hif C ρ) ⟨h4,_,rfl⟩ aC3 aD3 l2 i3 nC4 hv2 hl2 r4 (fun p hp=>?_) (fun i hi=>?_) e
    ·rw[List.mem_singleton.mp hp]
     exact⟨v,y,by simp[upd],by simp,y3⟩
    ·have:i≠t:=fun e=>hi (x,t) Zz5 e.symm
     simp[upd,this]
 refine codeAny_compStart_list (loop _ rfl) ?_
 exact I1.self 0 W1 ρ H0 (([(C,oC)]++[(D,lst [])])++fr) fs _ _ _ (.refl _) (rC.less fun q hq=>by
  rcases Zz8.mp hq with hq | hq
  ·exact Zz3 _ (Zz3 _ (Zz4 _ hq))
  ·rcases Zz8.mp hq with hq | hq
   ·rcases Zz8.mp hq with hq | hq
    ·exact Zz4 _ hq
    ·exact Zz3 _ (Zz4 _ hq)
   ·exact Zz3 _ (Zz3 _ (Zz3 _ hq))) i1 (loop _ rfl)
theorem ZoT{W:Wd}{ρ:Lc}{q:List V×Hp}{fr:List (Addr×Obj)}{C D:Addr}{oC:Obj}{ys:List Value}{h' h'':Heap}(hv:VRs W q.1 ys)(hl:q.1.length≤LEN)(aD:∀t∈fr,D≠t.1)(aC:∀t∈fr,C≠t.1)(cd:C≠D)(r:Rep Γ W ρ q.2 ((C,oC)::(D,lst ys)::fr) h')(sb:Heap.SameBut C h' h''):
  ∃W',W.Le W'∧Rep Γ W' ρ (q.2++[q.1]) fr h''∧VR W' (.ref q.2.length) (.ref D):=by
 have r4:Rep Γ W ρ q.2 ([]++((D,lst ys)::fr)) h'':=by
  refine Rep.swap (fs:=[(C,oC)]) (fs':=[]) r (fun q hq t ht=>?_) (fun b o hb e=>sb.extBut b o (fun z=>hb (by simp[z])) e) fun q hq=>nomatch hq
  rw[List.mem_singleton.mp hq]
  rcases Zz7.mp ht with e | ht
  ·rw[e]
   exact cd
  ·exact aC t ht
 exact Zgd r4 aD hv hl
theorem Zwr{elt iter:Expr}{x:Str}{px:Pos}{ifs:List Expr}{scope:Scope}{pos:Pos}{cl:List (Str×Addr)}{t:Nat}{g:Src}{c:Ts}{f:Ex}(hg:JI prog w Γ iter g)(hel:∀C ρ,J prog w (Zbu Γ scope cl C [(x,t)] ρ) elt f)(hif:∀C ρ,JF prog w (Zbu Γ scope cl C [(x,t)] ρ) ifs c)
  (hclos:closureFor scope Γ.env=pure cl) (hcell:∀y∈scope.names,y.2≠.cell) (hkind:scope.kind=.function) (hnames:∀y∈scope.names,y.2=.local→scope.names.lookup y.1=some .local) (hx:scope.names.lookup x=some .local) (hs:∀x,foldedSetIterable iter Γ.env x=pure x:=by intro _;rfl):
  J prog w Γ (.ListComp elt [⟨.Name x px,iter,ifs,0⟩] scope pos) (Zar g (Zak t) c f):=by
 intro W ρ H fr s Q E v H' r hf post
 obtain⟨z,e1,hf⟩:=Zz0.mp hf
 obtain⟨q,e2,e3⟩:=Zz1.mp hf
 cases e3
 rw[eval_ListComp]
 refine wpAny_comprehension_free (use:=Option.none) rfl hs hclos hkind hnames ?_
 refine comp_core (RR:=fun acc C=>compPost (model prog w) Γ.A E Option.none Q acc C) hg hel hif hcell hkind hx r (q:=q) (by rw[e1];exact e2) fun W2 h' tk' C D oC m₂ ys l2 hC hv hl aD aC cd r3=>?_
 refine⟨m₂,hC.ns (r3.frAt (q:=(C,oC)) Zz5),fun h'' sb=>?_⟩
 obtain⟨W5,l5,r5,v5⟩:=ZoT hv hl aD aC cd r3 sb
 exact post W5 h'' tk' _ (l2.trans l5) r5 v5
theorem ZsE{elt iter:Expr}{x y:Str}{px py pos spos:Pos}{ifs:List Expr}{scope:Scope}{cl:List (Str×Addr)}{t i:Nat}{g:Src}{c:Ts}{f:Ex}(hy:Sto prog w Γ y i)(hg:JI prog w Γ iter g)(hel:∀C ρ,J prog w (Zbu Γ scope cl C [(x,t)] ρ) elt f)(hif:∀C ρ,JF prog w (Zbu Γ scope cl C [(x,t)] ρ) ifs c)
  (hsw:swapsWith (.ListComp elt [⟨.Name x px,iter,ifs,0⟩] scope pos) (some (.Name y py)) spos.line Γ.env=pure true)
  (hclos:closureFor scope Γ.env=pure cl) (hcell:∀y∈scope.names,y.2≠.cell) (hkind:scope.kind=.function) (hnames:∀y∈scope.names,y.2=.local→scope.names.lookup y.1=some .local) (hx:scope.names.lookup x=some .local) (hs:∀x,foldedSetIterable iter Γ.env x=pure x:=by intro _;rfl):
  S1 prog w Γ (.Assign [.Name y py] (.ListComp elt [⟨.Name x px,iter,ifs,0⟩] scope pos) spos) (ZE i (Zar g (Zak t) c f)):=by
 intro W ρ H fr s Q E r rp hf post
 obtain⟨p,e0,e9⟩:=Zz1.mp hf
 cases e9
 obtain⟨z,e1,hf⟩:=Zz0.mp e0
 obtain⟨q,e2,e3⟩:=Zz1.mp hf
 cases e3
 rw[exec_Assign_Name_used _ _ _ _ hsw]
 refine wpAny_bind (wpAny_standAt (wpAny_bind ?_))
 show wpAny _ Γ.A (do let _ ←comprehension (.ListComp elt [⟨.Name x px,iter,ifs,0⟩] scope pos) scope Γ.env _ (newList []) false (eval iter Γ.env) (some (assign (.Name y py) Γ.env))) _ _ s
 refine wpAny_bind (wpAny_mono (wpAny_comprehension_free (use:=some (assign (.Name y py) Γ.env)) (Q:=fun _ s'=>Q .next s') rfl hs hclos hkind hnames ?_) (fun _ s' h'=>wpAny_pure (wpAny_pure h')) fun _ _ e=>e)
 refine comp_core (RR:=fun acc C=>compPost (model prog w) Γ.A E (some (assign (.Name y py) Γ.env)) (fun _ s'=>Q .next s') acc C) hg hel hif hcell hkind hx rp (q:=q) (by rw[e1];exact e2) fun W2 h' tk' C D oC m₂ ys l2 hC hv hl aD aC cd r3=>?_
 have r4:Rep Γ W2 ρ q.2 ((D,lst ys)::(C,oC)::fr) h':=r3.less fun t ht=>by
  rcases Zz7.mp ht with e | ht
  ·exact e▸List.mem_cons_of_mem _ Zz5
  ·rcases Zz7.mp ht with e | ht
   ·exact e▸List.mem_cons_self
   ·exact Zz2 _ (Zz2 _ ht)
 obtain⟨W5,l5,r5,v5⟩:=Zgd r4 (fun t ht=>by
  rcases Zz7.mp ht with e | ht
  ·rw[e]
   exact cd.symm
  ·exact aD t ht) hv hl
 refine wpAny_assign_Name (hy W5 ρ _ _ _ _ _ _ _ r5 v5 fun h6 t6 r6=>?_)
 refine⟨m₂,hC.ns (r6.frAt (q:=(C,oC)) Zz5),fun h'' sb=>?_⟩
 have r7:Rep Γ W5 (upd ρ i (.ref q.2.length)) (q.2++[q.1]) ([]++fr) h'':=
  Rep.swap (fs:=[(C,oC)]) (fs':=[]) r6 (fun q hq t ht=>by rw[List.mem_singleton.mp hq];exact aC t ht) (fun b o hb e=>sb.extBut b o (fun z=>hb (by simp[z])) e) fun q hq=>nomatch hq
 exact post W5 h'' t6 (l2.trans l5) r7
end
end PM
end
section
set_option autoImplicit false
namespace PM
open PySem PySem.W PySem.Calls PyProof.Rows PyProof PyProof.Rows.LCg PyProof.Rows.LCp
theorem Znu(h:Heap): ∀as:List Addr,(∀a∈as,∃o,h.get? a=some o)→∃fs:List (Addr×Obj),fs.map (·.1)=as∧∀q∈fs,h.get? q.1=some q.2
 | [],_=>⟨[],rfl,fun q hq=>nomatch hq⟩
 | a::as,d=>by
  obtain⟨o,ho⟩:=d a Zz5
  obtain⟨fs,h1,h2⟩:=Znu h as fun b hb=>d b (Zz2 _ hb)
  refine⟨(a,o)::fs,by rw[List.map_cons,h1],fun q hq=>?_⟩
  rcases Zz7.mp hq with e | hq
  ·rw[e]
   exact ho
  ·exact h2 q hq
structure Itr2(prog:Program)(w:World)(Γ:Cx)(W0:Wd)(it:Value)(as:List Addr)(It:Nat→List (Addr×Obj)→Prop)(nx:Nx): Prop where
 adr:∀i fs,It i fs→fs.map (·.1)=as
 pair:∀i H v,nx i H=some (some v)→∃a b,v=.tup [a,b]
 item:∀(i:Nat) (W:Wd) (ρ:Lc) (H:Hp) (fr fs:List (Addr×Obj)) (s:Shared) (Q:Option Value→Shared→Prop) (E:Value→Shared→Prop) (a b:V),W0.Le W→Rep Γ W ρ H (fs++fr) s.heap→(∀a∈as,∀t∈fr,a≠t.1)→It i fs→nx i H=some (some (.tup [a,b])) →
  (∀(T:Addr) (h1:Heap) (t1:Nat),(∀(elts:List Expr) (k:Nat) (pos:Pos) (s1:Shared) (Q1:Unit→Shared→Prop) (E1:Value→Shared→Prop),s1 = { s with heap:=h1,toks:=t1 } →
    (∀(fs':List (Addr×Obj)) (h':Heap) (x y:Value),It (i+1) fs'→Rep Γ W ρ H (fs'++fr) h'→IsTup h' T #[x,y]→VR W a x→VR W b y→Q1 () { s with heap:=h',toks:=t1 })→wpAny (model prog w) Γ.A (letOwnedTupleGo (.Tuple elts k pos) it (.ref T)) Q1 E1 s1)→Q (some (.ref T)) { s with heap:=h1,toks:=t1 })→wpAny (model prog w) Γ.A (pyNext it) Q E s
 done:∀(i:Nat) (W:Wd) (ρ:Lc) (H:Hp) (fr fs:List (Addr×Obj)) (s:Shared) (Q:Option Value→Shared→Prop) (E:Value→Shared→Prop),W0.Le W→Rep Γ W ρ H (fs++fr) s.heap→(∀a∈as,∀t∈fr,a≠t.1)→It i fs→nx i H=some none →
  (∀(h':Heap) (tk':Nat),Rep Γ W ρ H fr h'→Q none { s with heap:=h',toks:=tk' })→wpAny (model prog w) Γ.A (pyNext it) Q E s
 self:∀(i:Nat) (W:Wd) (ρ:Lc) (H:Hp) (fr fs:List (Addr×Obj)) (s:Shared) (Q E:Value→Shared→Prop) (o:Option V),W0.Le W→Rep Γ W ρ H (fs++fr) s.heap→It i fs→nx i H=some o→Q it s→wpAny (model prog w) Γ.A (pyIter it) Q E s
noncomputable def JI2(prog:Program)(w:World)(Γ:Cx)(e:Expr)(g:Src): Prop:=∀(W:Wd) (ρ:Lc) (H:Hp) (fr:List (Addr×Obj)) (s:Shared) (Q E:Value→Shared→Prop) (nx:Nx) (n:Nat) (H':Hp),
 Rep Γ W ρ H fr s.heap→g ρ H=some (nx,n,H') →
 (∀(W':Wd) (h':Heap) (tk':Nat) (it:Value) (as:List Addr) (It:Nat→List (Addr×Obj)→Prop) (fs:List (Addr×Obj)),W.Le W'→It 0 fs→Rep Γ W' ρ H' (fs++fr) h'→(∀a∈as,∀t∈fr,a≠t.1)→Itr2 prog w Γ W' it as It nx→(∃o,nx 0 H'=some o)→Q it { s with heap:=h',toks:=tk' }) →
 wpAny (model prog w) Γ.A (eval e Γ.env) (fun xv s₁=>wpAny (model prog w) Γ.A (pyIter xv) Q E s₁) E s
noncomputable def ZgQ(a b:Nat): Nx:=fun i H=>H[a]?.bind fun vs=>H[b]?.bind fun us=>match vs[i]?,us[i]? with
 | some x,some y=>some (some (.tup [x,y]))
 | _,_=>if i=min vs.length us.length then some none else none
noncomputable def Zc4(f g:Ex): Src:=fun ρ H=>(f ρ H).bind fun p=>(g ρ p.2).bind fun q=>match p.1,q.1 with
 | .ref a,.ref b=>q.2[a]?.bind fun vs=>q.2[b]?.map fun us=>(ZgQ a b,min vs.length us.length+1,q.2)
 | _,_=>none
noncomputable def Zb6(i j:Nat): V→Lc→Option Lc
 | .tup [a,b],ρ=>some (upd (upd ρ i a) j b)
 | _,_=>none
noncomputable def ZS(z TI TO i1 i2 l1 l2:Addr)(i:Nat)(h:Heap): Prop:=IsZip h z TI TO .none∧PySem.IsPair h TI (.ref i1) (.ref i2)∧(∃a b,PySem.IsPair h TO a b)∧h.IsListIter i1 l1 i∧h.IsListIter i2 l2 i
theorem ZS.at{z TI TO i1 i2 l1 l2:Addr}{i:Nat}{h h':Heap}(x:ZS z TI TO i1 i2 l1 l2 i h)(e:∀a∈[z,TI,TO,i1,i2],∀o,h.get? a=some o→h'.get? a=some o): ZS z TI TO i1 i2 l1 l2 i h':=by
 obtain⟨h1,h2,⟨a,b,h3⟩,h4,h5⟩:=x
 exact⟨e z (by simp) _ h1,e TI (by simp) _ h2,⟨a,b,e TO (by simp) _ h3⟩,h4.at fun o x=>e i1 (by simp) o x,h5.at fun o x=>e i2 (by simp) o x⟩
theorem ZS.have{z TI TO i1 i2 l1 l2:Addr}{i:Nat}{h:Heap}(x:ZS z TI TO i1 i2 l1 l2 i h): ∀a∈[z,TI,TO,i1,i2],∃o,h.get? a=some o:=by
 obtain⟨h1,h2,⟨a,b,h3⟩,⟨o4,h4,_⟩,⟨o5,h5,_⟩⟩:=x
 intro c hc
 simp only[List.mem_cons,List.not_mem_nil,or_false]at hc
 rcases hc with e | e | e | e | e <;> subst e
 ·exact⟨_,h1⟩
 ·exact⟨_,h2⟩
 ·exact⟨_,h3⟩
 ·exact⟨_,h4⟩
 ·exact⟨_,h5⟩
noncomputable def ZIt(z TI TO i1 i2 l1 l2:Addr)(i:Nat)(fs:List (Addr×Obj)): Prop:=fs.map (·.1)=[z,TI,TO,i1,i2]∧∀h:Heap,(∀q∈fs,h.get? q.1=some q.2)→ZS z TI TO i1 i2 l1 l2 i h
theorem Zpy{z TI TO i1 i2 l1 l2:Addr}{i:Nat}{h:Heap}(x:ZS z TI TO i1 i2 l1 l2 i h): ∃fs,ZIt z TI TO i1 i2 l1 l2 i fs∧∀q∈fs,h.get? q.1=some q.2:=by
 obtain⟨fs,h1,h2⟩:=Znu h [z,TI,TO,i1,i2] x.have
 refine⟨fs,⟨h1,fun h' e=>x.at fun a ha o ho=>?_⟩,h2⟩
 rw[←h1]at ha
 obtain⟨q,hq,eq⟩:=Zz11.mp ha
 have:=h2 q hq
 rw[eq,ho]at this
 cases this
 exact eq▸e q hq
section
variable {prog:Program} {w:World} {Γ:Cx}
theorem Zws{W0:Wd}{z TI TO i1 i2 l1 l2:Addr}{a b:Nat}(ea:W0.pi[a]?=some l1)(eb:W0.pi[b]?=some l2)(D:ZipApart z TI TO i1 i2 l1 l2):
  Itr2 prog w Γ W0 (.ref z) [z,TI,TO,i1,i2] (ZIt z TI TO i1 i2 l1 l2) (ZgQ a b):=by
 refine⟨fun i fs h=>h.1,?_,?_,?_,?_⟩
 ·intro i H v e
  obtain⟨vs,e1,e⟩:=Zz0.mp e
  obtain⟨us,e2,e⟩:=Zz0.mp e
  split at e
  ·cases e
   exact⟨_,_,rfl⟩
  ·split at e <;> cases e
 ·intro i W ρ H fr fs s Q E va vb le r ap hit hn post
  obtain⟨vs,e1,e⟩:=Zz0.mp hn
  obtain⟨us,e2,e⟩:=Zz0.mp e
  have hvu:vs[i]?=some va∧us[i]?=some vb:=by
   split at e
   ·rename_i x y h1 h2
    cases e
    exact⟨h1,h2⟩
   ·split at e <;> cases e
  obtain⟨_,xs,k1,g1,v1⟩:=r.at e1 (le.at ea)
  obtain⟨_,ys,k2,g2,v2⟩:=r.at e2 (le.at eb)
  obtain⟨x,hx,rx⟩:=v1.at hvu.1
  obtain⟨y,hy,ry⟩:=v2.at hvu.2
  have st:ZS z TI TO i1 i2 l1 l2 i s.heap:=hit.2 _ fun q hq=>r.frAt (Zz4 _ hq)
  have Wk:=WalksT.zip2 (prog:=prog) (w:=w) (A:=Γ.A) Γ.hh z TI TO i1 i2 l1 l2 D xs.toArray ys.toArray
  have isl1:s.heap.IsList l1 xs.toArray:=⟨_,g1,rfl,k1,rfl⟩
  have isl2:s.heap.IsList l2 ys.toArray:=⟨_,g2,rfl,k2,rfl⟩
  have hi:i<min xs.toArray.size ys.toArray.size:=by
   have h1:=(Zz6.mp hx).1
   have h2:=(Zz6.mp hy).1
   simp
   omega
  refine Wk.item i s Q E hi ⟨st.1,st.2.1,st.2.2.1,st.2.2.2.1,st.2.2.2.2,isl1,isl2⟩ fun T vals h1 t1 hp hT hTup hmid keep1=>post T h1 t1 ?_
  intro elts k pos s1 Q1 E1 es1 q1
  subst es1
  have hTw:=Wk.apart i T _ hmid
  refine Wk.go elts k pos i T _ Q1 E1 hmid fun h2 st2 keep2=>?_
  obtain⟨x',y',hx',hy',ev⟩:=hp
  have ex:x'=x:=by
   have:xs[i]?=some x':=by simpa using hx'
   rw[hx]at this
   exact(Option.some.inj this).symm
  have ey:y'=y:=by
   have:ys[i]?=some y':=by simpa using hy'
   rw[hy]at this
   exact(Option.some.inj this).symm
  subst ex ey ev
  obtain⟨fs',hit',at'⟩:=Zpy (h:=h2) (⟨st2.1,st2.2.1,st2.2.2.1,st2.2.2.2.1,st2.2.2.2.2.1⟩:ZS z TI TO i1 i2 l1 l2 (i+1) h2)
  obtain⟨oT,gT,cT,nT,dT⟩:=hTup
  refine q1 fs' h2 x' y' hit' ?_ ⟨oT,keep2 T oT hTw gT,cT,nT,dT⟩ rx ry
  refine r.swap (fs':=fs') (fun q hq t ht=>?_) (fun c o hc e=>?_) fun q hq=>⟨at' q hq,?_⟩
  ·exact ap _ (hit.1▸List.mem_map_of_mem hq) t ht
  ·rw[hit.1]at hc
   have hcw:c∉[z,TO,i1,i2]:=fun h=>hc (by simp at h ⊢;rcases h with h | h | h | h <;> simp[h])
   exact keep2 c o hcw (keep1 c o hcw e)
  ·rw[hit.1,←hit'.1]
   exact List.mem_map_of_mem hq
 ·intro i W ρ H fr fs s Q E le r ap hit hn post
  obtain⟨vs,e1,e⟩:=Zz0.mp hn
  obtain⟨us,e2,e⟩:=Zz0.mp e
  obtain⟨_,xs,k1,g1,v1⟩:=r.at e1 (le.at ea)
  obtain⟨_,ys,k2,g2,v2⟩:=r.at e2 (le.at eb)
  have hi:i=min vs.length us.length:=by
   split at e
   ·cases e
   ·split at e
    ·assumption
    ·cases e
  have st:ZS z TI TO i1 i2 l1 l2 i s.heap:=hit.2 _ fun q hq=>r.frAt (Zz4 _ hq)
  have Wk:=WalksT.zip2 (prog:=prog) (w:=w) (A:=Γ.A) Γ.hh z TI TO i1 i2 l1 l2 D xs.toArray ys.toArray
  have hm:min xs.toArray.size ys.toArray.size=i:=by simp[v1.length,v2.length,hi]
  refine Wk.done s Q E (by rw[hm];exact⟨st.1,st.2.1,st.2.2.1,st.2.2.2.1,st.2.2.2.2,⟨_,g1,rfl,k1,rfl⟩,⟨_,g2,rfl,k2,rfl⟩⟩) fun h' tk keep=>post h' tk ?_
  have:=r.swap (fs':=[]) (fun q hq t ht=>ap _ (hit.1▸List.mem_map_of_mem hq) t ht) (fun c o hc e=>keep c o (fun h=>hc (by rw[hit.1];simp at h ⊢;rcases h with h | h | h | h <;> simp[h])) e) (fun q hq=>nomatch hq)
  exact this
 ·intro i W ρ H fr fs s Q E o le r hit hn q
  obtain⟨vs,e1,e⟩:=Zz0.mp hn
  obtain⟨us,e2,e⟩:=Zz0.mp e
  obtain⟨_,xs,k1,g1,v1⟩:=r.at e1 (le.at ea)
  obtain⟨_,ys,k2,g2,v2⟩:=r.at e2 (le.at eb)
  have st:ZS z TI TO i1 i2 l1 l2 i s.heap:=hit.2 _ fun q hq=>r.frAt (Zz4 _ hq)
  have Wk:=WalksT.zip2 (prog:=prog) (w:=w) (A:=Γ.A) Γ.hh z TI TO i1 i2 l1 l2 D xs.toArray ys.toArray
  exact Wk.self i s Q E ⟨st.1,st.2.1,st.2.2.1,st.2.2.2.1,st.2.2.2.2,⟨_,g1,rfl,k1,rfl⟩,⟨_,g2,rfl,k2,rfl⟩⟩ q
theorem JI2.zip{x:Str}{np pos:Pos}{e1 e2:Expr}{f g:Ex}(hn:Nm prog w Γ x (.type "zip"))(h1:J prog w Γ e1 f)(h2:J prog w Γ e2 g)
  (he:starEach [e1,e2] Γ.env=(false,eval e1 Γ.env)::starEach [e2] Γ.env:=by rfl) (he2:starEach [e2] Γ.env=(false,eval e2 Γ.env)::starEach [] Γ.env:=by rfl) (hp:∀pos,(backTo pos (starEach [e2] Γ.env)).any (·.1)=false:=by intro _;rfl):JI2 prog w Γ (.Call (.Name x np) [e1,e2] [] pos) (Zc4 f g):=by
 intro W ρ H fr s Q E nx n H' r hf post
 obtain⟨p,a1,hf⟩:=Zz0.mp hf
 obtain⟨q,a2,hf⟩:=Zz0.mp hf
 refine wpAny_Call_ofName (hn.use r ?_)
 refine PySem.Pv.callWith_type1 (wpAny_items_cons (h1 W ρ H fr s _ E _ _ r a1 fun W1 k1 t1 y1 l1 r1 v1=>?_) he) he (hp pos)
 refine wpAny_items_cons (h2 W1 ρ _ fr _ _ E _ _ r1 a2 fun W2 k2 t2 y2 l2 r2 v2=>wpAny_items_nil ?_) he2
 have v1':=v1.mono l2
 obtain⟨u1,H1⟩:=p
 obtain⟨u2,H2⟩:=q
 simp only at hf v1' v2 r2
 cases u1 <;> first | (cases hf;done) | skip
 rename_i b1
 cases u2 <;> first | (cases hf;done) | skip
 rename_i b2
 obtain⟨vs,c1,hf⟩:=Zz0.mp hf
 obtain⟨us,c2,c3⟩:=Zz1.mp hf
 cases c3
 cases v1' with
 | @ref _ m1 ea=>
 cases v2 with
 | @ref _ m2 eb=>
 obtain⟨_,xs,n1,g1,w1⟩:=r2.at c1 ea
 obtain⟨_,ys,n2,g2,w2⟩:=r2.at c2 eb
 have isl1:k2.IsList m1 xs.toArray:=⟨_,g1,rfl,n1,rfl⟩
 have isl2:k2.IsList m2 ys.toArray:=⟨_,g2,rfl,n2,rfl⟩
 refine call_zip_2 (s:={ s with heap:=k2,toks:=t2 }) isl1 isl2 fun h₁ hz hTI hTO hi1 hi2 hsz up=>?_
 have ap:=zipApart_new (n:=k2.objs.size) (Heap.lt_size g1) (Heap.lt_size g2)
 have Wk:=WalksT.zip2 (prog:=prog) (w:=w) (A:=Γ.A) Γ.hh _ _ _ _ _ m1 m2 ap xs.toArray ys.toArray
 have zs:ZS (k2.objs.size+4) (k2.objs.size+2) (k2.objs.size+3) k2.objs.size (k2.objs.size+1) m1 m2 0 h₁:=⟨hz,hTI,⟨_,_,hTO⟩,hi1,hi2⟩
 refine Wk.self 0 _ _ _ ⟨hz,hTI,⟨_,_,hTO⟩,hi1,hi2,isl1.at fun o e=>up _ o e,isl2.at fun o e=>up _ o e⟩ ?_
 obtain⟨fs,hit,at'⟩:=Zpy zs
 obtain⟨r3,ap3⟩:=r2.more (fs:=fs) (h':=h₁) (fun b o e=>up b o e) (fun q hq=>⟨at' q hq,by
  have:q.1∈fs.map (·.1):=List.mem_map_of_mem hq
  rw[hit.1]at this
  simp at this
  rcases this with e | e | e | e | e <;> rw[e] <;> omega⟩)
 refine post W2 h₁ t2 _ _ _ fs (l1.trans l2) hit r3 (fun b hb t ht=>?_) (Zws ea eb ap) ?_
 ·rw[←hit.1]at hb
  obtain⟨q,hq,e⟩:=Zz11.mp hb
  exact e▸ap3 q hq t ht
 ·simp only[ZgQ,c1,c2,Option.bind_some]
  split
  ·exact⟨_,rfl⟩
  ·rename_i hno
   have:0=min vs.length us.length:=by
    rcases Nat.eq_zero_or_pos vs.length with z | z
    ·rw[z];simp
    ·rcases Nat.eq_zero_or_pos us.length with z' | z'
     ·rw[z'];simp
     ·exact(hno vs[0] us[0] (by simp[z]) (by simp[z'])).elim
   rw[if_pos this]
   exact⟨_,rfl⟩
theorem Zva{x1 x2:Str}{i1 i2 kt:Nat}{p1 p2 tp:Pos}(h1:Sto prog w Γ x1 i1)(h2:Sto prog w Γ x2 i2){W:Wd}{ρ:Lc}{H:Hp}{fr:List (Addr×Obj)}{s:Shared}{Q:Unit→Shared→Prop}{E:Value→Shared→Prop}{T:Addr}{y1 y2:Value}{a b:V}(r:Rep Γ W ρ H fr s.heap)(ht:IsTup s.heap T #[y1,y2])(v1:VR W a y1)(v2:VR W b y2)
  (post:∀(h':Heap) (tk':Nat),Rep Γ W (upd (upd ρ i1 a) i2 b) H fr h'→Q () { s with heap:=h',toks:=tk' }):wpAny (model prog w) Γ.A (assign (.Tuple [.Name x1 p1,.Name x2 p2] kt tp) Γ.env (.ref T)) Q E s:=by
 refine assign_Tuple_tuple Γ.hh ht rfl rfl fun g₄ he=>?_
 have r4:=r.grown (h':=g₄) fun b o e=>he b o (Nat.ne_of_lt (Heap.lt_size e)) e
 refine assignInOrder_cons (wpAny_assign_Name (h1 W ρ H fr _ _ _ a y1 r4 v1 fun k5 t5 r5=>?_))
 refine assignInOrder_cons (wpAny_assign_Name (h2 W _ H fr _ _ _ b y2 r5 v2 fun k6 t6 r6=>?_))
 exact assignInOrder_nil (post k6 t6 r6)
theorem Zey{x1 x2:Str}{i1 i2 kt:Nat}{p1 p2 tp pos:Pos}{it:Expr}{body:List Stmt}{g:Src}{b:Sm}(h1:Sto prog w Γ x1 i1)(h2:Sto prog w Γ x2 i2)(hg:JI2 prog w Γ it g)(hb:Ss prog w Γ body b)(hs:∀x,foldedSetIterable it Γ.env x=pure x:=by intro _;rfl):
  S1 prog w Γ (.For (.Tuple [.Name x1 p1,.Name x2 p2] kt tp) it body [] pos) (ZaU g (Zb6 i1 i2) b):=by
 intro W ρ H fr s Q E r rp hf post
 obtain⟨z,e1,hf⟩:=Zz0.mp hf
 obtain⟨nx,n,H0⟩:=z
 refine wpAny_For (hg W ρ H fr s _ E nx n H0 rp e1 fun W1 k1 t1 itv as It fs l1 j1 r1 ap I1 _=>?_) hs
 refine codeAny_forLoop_any (fun k s'=>∃W' ρ' H' h' tk' j fs',s' = { s with heap:=h',toks:=tk' }∧W1.Le W'∧It j fs'∧Rep Γ W' ρ' H' (fs'++fr) h'∧Zdy nx (Zb6 i1 i2) b k j ρ' H'=some r) ?_ n ⟨W1,ρ,H0,k1,t1,0,fs,rfl,.refl _,j1,r1,hf⟩
 rintro k s' ⟨W2,ρ2,H2,k2,t2,j,fs2,rfl,l2,j2,r2,e⟩
 cases k with
 | zero=>cases e
 | succ k=>
  obtain⟨o,e2,e⟩:=Zz0.mp e
  cases o with
  | none=>
   cases e
   exact I1.done j W2 ρ2 H2 fr fs2 _ _ _ l2 r2 ap j2 e2 fun h' tk' r3=>wpAny_execs_nil (post W2 h' tk' (l1.trans l2) r3)
  | some v=>
   obtain⟨va,vb,ev⟩:=I1.pair j H2 v e2
   subst ev
   refine I1.item j W2 ρ2 H2 fr fs2 _ _ _ va vb l2 r2 ap j2 e2 fun T h3 t3 go=>?_
   obtain⟨ρ3,e3,e⟩:=Zz0.mp e
   cases e3
   obtain⟨q,e4,e⟩:=Zz0.mp e
   refine go _ _ _ _ _ _ rfl fun fs3 k3 y1 y2 j3 r3 ht w1 w2=>?_
   refine Zva h1 h2 (s:={ s with heap:=k3,toks:=t3 }) r3 ht w1 w2 fun k4 t4 r4=>?_
   refine hb W2 _ H2 (fs3++fr) _ _ _ q r4 e4 ?_
   obtain⟨u,ρ5,H5⟩:=q
   cases u with
   | some u=>
    cases e
    exact fun W5 k5 t5 x5 l5 r5 v5=>post W5 k5 t5 x5 ((l1.trans l2).trans l5) (r5.less fun q hq=>List.mem_append_right _ hq) v5
   | none=>exact fun W5 k5 t5 l5 r5=>⟨k,Nat.lt_succ_self k,W5,ρ5,H5,k5,t5,j+1,fs3,rfl,l2.trans l5,j3,r5,e⟩
theorem Zn5{elt iter:Expr}{x x₂:Str}{px px₂ tp:Pos}{kt:Nat}{scope:Scope}{pos:Pos}{cl:List (Str×Addr)}{t t₂:Nat}{g:Src}{f:Ex}(hg:JI2 prog w Γ iter g)(hel:∀C ρ,J prog w (Zbu Γ scope cl C [(x,t),(x₂,t₂)] ρ) elt f)
  (hcell:∀y∈scope.names,y.2≠.cell) (hkind:scope.kind=.function) (hx:scope.names.lookup x=some .local) (hx₂:scope.names.lookup x₂=some .local) (hxx:x≠x₂) (htt:t≠t₂)
  {W:Wd} {ρ:Lc} {H:Hp} {fr:List (Addr×Obj)} {s:Shared} {E:Value→Shared→Prop} {q:List V×Hp} {RR:Value→Addr→Result→Shared→Prop} (r:Rep Γ W ρ H fr s.heap) (hf:((g ρ H).bind fun z=>ZcR z.1 (Zb6 t t₂) Zao f ρ z.2.1 0 [] z.2.2)=some q)
  (hR:∀(W':Wd) (h':Heap) (tk':Nat) (C D:Addr) (oC:Obj) (m₂:Str→Option Value) (ys:List Value),W.Le W'→NsObj oC m₂→VRs W' q.1 ys→q.1.length≤LEN→(∀t∈fr,D≠t.1)→(∀t∈fr,C≠t.1)→C≠D→Rep Γ W' ρ q.2 ((C,oC)::(D,lst ys)::fr) h'→RR (.ref D) C (.ok .next) { s with heap:=h',toks:=tk' }):
  wpAny (model prog w) Γ.A (eval iter Γ.env) (fun xv s₁=>wpAny (model prog w) Γ.A (pyIter xv) (fun it s₂=>wpAny (model prog w) Γ.A (newList []) (fun acc s₃=>wpAny (model prog w) Γ.A (newFunctionEnv scope Γ.env.globals cl [] Γ.env.qual none .none (some Γ.env)) (fun cenv s₄=>
   codeAny (model prog w) Γ.A (.compStart (.ListComp elt [⟨.Tuple [.Name x px,.Name x₂ px₂] kt tp,iter,[],0⟩] scope pos) 0 it acc { cenv with scope:=relabel scope Γ.env }) (RR acc cenv.locals) s₄) E s₃) E s₂) E s₁) E s:=by
 obtain⟨z,e1,e2⟩:=Zz0.mp hf
 obtain⟨nx,n,H0⟩:=z
 refine hg W ρ H fr s _ E nx n H0 r e1 fun W1 k1 t1 itv as It fs l1 i1 r1 ap I1 hstart=>?_
 refine wpAny_newObj_type (wpAny_newFunctionEnv hcell (fun y hy=>by simp at hy) (fun h₂ hns hsb=>?_) hkind)
 dsimp only at hns hsb ⊢
 obtain⟨rD,aD⟩:=r1.more (fs:=[(k1.objs.size,lst [])]) (fun b o e=>Heap.get?_push_of_some (lst []) e) (fun q hq=>by rw[List.mem_singleton.mp hq];exact⟨Heap.get?_push_size _ rfl,Nat.le_refl _⟩)
 generalize eH:k1.push { cls:=.type "list",dict:=none,data:=.seq ([]:List Value).toArray } = K at hns hsb ⊢
 have eK:k1.push (lst [])=K:=eH
 rw[eK]at rD
 obtain⟨oC,gC,nC⟩:=ns_obj hns
 have up:∀b o,K.get? b=some o→h₂.get? b=some o:=fun b o e=>hsb.extBut b o (Nat.ne_of_lt (Heap.lt_size e)) (Heap.get?_push_of_some _ e)
 obtain⟨rC,aC⟩:=rD.more (fs:=[(K.objs.size,oC)]) up (fun q hq=>by rw[List.mem_singleton.mp hq];exact⟨gC,Nat.le_refl _⟩)
 have adr0:=I1.adr 0 fs i1
 have offs:∀b∈as,b≠k1.objs.size∧b≠K.objs.size:=fun b hb=>by
  rw[←adr0]at hb
  obtain⟨q,hq,e⟩:=Zz11.mp hb
  exact⟨e▸(aD _ Zz5 q (Zz4 _ hq)).symm,e▸(aC _ Zz5 q (Zz3 _ (Zz4 _ hq))).symm⟩
 have cd:K.objs.size≠k1.objs.size:=aC _ Zz5 (k1.objs.size,lst []) (Zz4 _ Zz5)
 have cfr:∀t∈fr,K.objs.size≠t.1:=fun t ht=>aC _ Zz5 t (Zz3 _ (Zz3 _ ht))
 have dfr:∀t∈fr,k1.objs.size≠t.1:=fun t ht=>aD _ Zz5 t (Zz3 _ ht)
 generalize k1.objs.size=D at *
 generalize K.objs.size=C at *
 have loop:∀s₃:Shared,s₃ = { s with heap:=h₂,toks:=t1+([]:List (Str×Value)).length } →
   codeAny (model prog w) Γ.A (.compLoop (.ListComp elt [⟨.Tuple [.Name x px,.Name x₂ px₂] kt tp,iter,[],0⟩] scope pos) 0 itv (.ref D) (compEnvC scope cl C Γ.env)) (RR (.ref D) C) s₃:=by
  intro s₃ hs₃
  subst hs₃
  refine codeAny_compLoop_pair (ZgX Γ W1 ρ fr C D It nx (Zb6 t t₂) Zao f q s) ?_ n ⟨W1,H0,h₂,_,0,fs,[],[],oC,_,rfl,.refl _,i1,nC,.nil,Nat.zero_le _,rC,e2⟩
  rintro k s' ⟨W2,H2,k2,t2,j,fs2,acc,ys,oC2,m₂,rfl,l2,i2,hC2,hv2,hl2,r2,e⟩
  cases k with
  | zero=>cases e
  | succ k=>
   obtain⟨o,e4,e⟩:=Zz0.mp e
   have r2':Rep Γ W2 ρ H2 (fs2++((C,oC2)::(D,lst ys)::fr)) k2:=r2.less fun q hq=>by
    rcases Zz8.mp hq with hq | hq
    ·exact Zz2 _ (Zz2 _ (Zz4 _ hq))
    ·rcases Zz7.mp hq with e | hq
     ·exact e▸List.mem_cons_self
     ·rcases Zz7.mp hq with e | hq
      ·exact e▸List.mem_cons_of_mem _ Zz5
      ·exact Zz2 _ (Zz2 _ (Zz3 _ hq))
   have ap2:∀b∈as,∀t∈(C,oC2)::(D,lst ys)::fr,b≠t.1:=fun b hb t ht=>by
    rcases Zz7.mp ht with e | ht
    ·rw[e]
     exact(offs b hb).2
    ·rcases Zz7.mp ht with e | ht
     ·rw[e]
      exact(offs b hb).1
     ·exact ap b hb t ht
   cases o with
   | none=>
    cases e
    exact I1.done j W2 ρ H2 _ fs2 _ _ _ l2 r2' ap2 i2 e4 fun h' tk' r3=>hR W2 h' tk' C D oC2 m₂ ys (l1.trans l2) hC2 hv2 hl2 dfr cfr cd r3
   | some v=>
    obtain⟨va,vb,ev⟩:=I1.pair j H2 v e4
    subst ev
    refine I1.item j W2 ρ H2 _ fs2 _ _ _ va vb l2 r2' ap2 i2 e4 fun T h3 t3 go=>?_
    obtain⟨ρ3,e5,e⟩:=Zz0.mp e
    cases e5
    refine go _ _ _ _ _ _ rfl fun fs3 k3 y1 y2 i3 r3 htup w1 w2=>?_
    have a3:∀t∈fs3,t.1∈as:=fun t ht=>by
     rw[←I1.adr _ _ i3]
     exact List.mem_map_of_mem ht
    refine assign_Tuple_tuple (s:={ s with heap:=k3,toks:=t3 }) Γ.hh htup rfl rfl fun g₄ he=>?_
    have r3g:=r3.grown (h':=g₄) fun b o e=>he b o (Nat.ne_of_lt (Heap.lt_size e)) e
    have gC3:g₄.get? C=some oC2:=r3g.frAt (q:=(C,oC2)) (Zz3 _ Zz5)
    have nC3:g₄.Ns C m₂:=hC2.ns gC3
    refine assignInOrder_cons (wpAny_assign_Name (wpAny_storeName_local (lookup_relabel_local hx) nC3 (fun h5 hn5 sb5=>?_) (by simp[compEnvC,relabel,hkind])))
    refine assignInOrder_cons (wpAny_assign_Name (wpAny_storeName_local (lookup_relabel_local hx₂) hn5 (fun h4 hn4 sb4=>?_) (by simp[compEnvC,relabel,hkind])))
    refine assignInOrder_nil ?_
    obtain⟨oC4,gC4,nC4⟩:=ns_obj hn4
    have r3':Rep Γ W2 ρ H2 ([(C,oC2)]++((D,lst ys)::(fs3++fr))) g₄:=r3g.less fun q hq=>by
     rcases Zz8.mp hq with hq | hq
     ·rw[List.mem_singleton.mp hq]
      exact Zz3 _ Zz5
     ·rcases Zz7.mp hq with e | hq
      ·exact e▸List.mem_append_right _ (Zz2 _ Zz5)
      ·rcases Zz8.mp hq with hq | hq
       ·exact Zz4 _ hq
       ·exact Zz3 _ (Zz2 _ (Zz2 _ hq))
    have aC3:∀t∈(D,lst ys)::(fs3++fr),C≠t.1:=fun t ht=>by
     rcases Zz7.mp ht with e | ht
     ·rw[e]
      exact cd
     ·rcases Zz8.mp ht with ht | ht
      ·exact(offs _ (a3 t ht)).2.symm
      ·exact cfr t ht
    have aD3:∀t∈fs3++fr,D≠t.1:=fun t ht=>by
     rcases Zz8.mp ht with ht | ht
     ·exact(offs _ (a3 t ht)).1.symm
     ·exact dfr t ht
    have r4:Rep Γ W2 ρ H2 ([(C,oC4)]++((D,lst ys)::(fs3++fr))) h4:=by
     refine r3'.swap (fun q hq t ht=>?_) (fun b o hb e=>sb4.extBut b o (fun z=>hb (by simp[z,compEnvC])) (sb5.extBut b o (fun z=>hb (by simp[z,compEnvC])) e)) fun q hq=>?_
     ·rw[List.mem_singleton.mp hq]
      exact aC3 t ht
     ·rw[List.mem_singleton.mp hq]
      exact⟨gC4,by simp⟩
    have rc:=Zpx (scope:=scope) (cl:=cl) (ts:=[(x,t),(x₂,t₂)]) (ρ:=upd (upd ρ t va) t₂ vb) r4 aC3 nC4 (fun p hp=>by
     rcases Zz7.mp hp with e | hp
     ·rw[e]
      exact⟨va,y1,by simp[upd,htt],by simp[hxx],w1⟩
     ·rw[List.mem_singleton.mp hp]
      exact⟨vb,y2,by simp[upd],by simp,w2⟩) (fun i hi=>by
     have h1:i≠t:=fun e=>hi (x,t) Zz5 e.symm
     have h2:i≠t₂:=fun e=>hi (x₂,t₂) (Zz2 _ Zz5) e.symm
     simp[upd,h1,h2])
    exact Zos (hel C ρ) aD3 cd l2 i3 hv2 rc e
 refine codeAny_compStart_list (loop _ rfl) ?_
 obtain⟨o0,ho0⟩:=hstart
 exact I1.self 0 W1 ρ H0 (([(C,oC)]++[(D,lst [])])++fr) fs _ _ _ o0 (.refl _) (rC.less fun q hq=>by
  rcases Zz8.mp hq with hq | hq
  ·exact Zz3 _ (Zz3 _ (Zz4 _ hq))
  ·rcases Zz8.mp hq with hq | hq
   ·rcases Zz8.mp hq with hq | hq
    ·exact Zz4 _ hq
    ·exact Zz3 _ (Zz4 _ hq)
   ·exact Zz3 _ (Zz3 _ (Zz3 _ hq))) i1 ho0 (loop _ rfl)
theorem Zvb{elt iter:Expr}{x x₂:Str}{px px₂ tp:Pos}{kt:Nat}{scope:Scope}{pos:Pos}{cl:List (Str×Addr)}{t t₂:Nat}{g:Src}{f:Ex}(hg:JI2 prog w Γ iter g)(hel:∀C ρ,J prog w (Zbu Γ scope cl C [(x,t),(x₂,t₂)] ρ) elt f)
  (hclos:closureFor scope Γ.env=pure cl) (hcell:∀y∈scope.names,y.2≠.cell) (hkind:scope.kind=.function) (hnames:∀y∈scope.names,y.2=.local→scope.names.lookup y.1=some .local) (hx:scope.names.lookup x=some .local) (hx₂:scope.names.lookup x₂=some .local) (hxx:x≠x₂) (htt:t≠t₂) (hs:∀x,foldedSetIterable iter Γ.env x=pure x:=by intro _;rfl):
  J prog w Γ (.ListComp elt [⟨.Tuple [.Name x px,.Name x₂ px₂] kt tp,iter,[],0⟩] scope pos) (Zar g (Zb6 t t₂) Zao f):=by
 intro W ρ H fr s Q E v H' r hf post
 obtain⟨z,e1,hf⟩:=Zz0.mp hf
 obtain⟨q,e2,e3⟩:=Zz1.mp hf
 cases e3
 rw[eval_ListComp]
 refine wpAny_comprehension_free (use:=Option.none) rfl hs hclos hkind hnames ?_
 refine Zn5 (RR:=fun acc C=>compPost (model prog w) Γ.A E Option.none Q acc C) hg hel hcell hkind hx hx₂ hxx htt r (q:=q) (by rw[e1];exact e2) fun W2 h' tk' C D oC m₂ ys l2 hC hv hl aD aC cd r3=>?_
 refine⟨m₂,hC.ns (r3.frAt (q:=(C,oC)) Zz5),fun h'' sb=>?_⟩
 obtain⟨W5,l5,r5,v5⟩:=ZoT hv hl aD aC cd r3 sb
 exact post W5 h'' tk' _ (l2.trans l5) r5 v5
end
end PM
end
section
set_option autoImplicit false
namespace PM
open PySem PySem.W PySem.Calls PyProof.Rows PyProof PySem.Spec
theorem Zwt{prog:Program}{w:World}{A A₀:Around}{s:Shared}{base h₀:Heap}{L:Addr}{m:Str→Option Value}{lent:List (Addr×Obj)}{K:Frag}{p:Program}{loose:List Str}{mean:ExcName→Option Value}{mg mb:Str→Option Value}
  {env:Env} {outer:List Env} {R:Result→Shared→Prop} {name qual:Str} {params:Arguments} {body:List Stmt} {scope:Scope} {dV kV doc pm cdv ct oc:Value} {an od:Option Addr} {osl:Array (Option Value)} {f:Addr} {args:Args} {binds:List (Str×Value)}
  (B:Below A₀ base outer h₀) (F:Fr h₀ L s.heap m) (X₀:K.In h₀) (N:News h₀ L s.heap lent) (T:Top p loose mean mg mb h₀) (hA:A.frames=some (env::outer)) (hf:env.frame=some L) (hke:env.scope.kind=.function)
  (ho:K.lookup f=some ⟨oc,od,.func (fnOf name qual params body scope dV kV doc pm an cdv ct),osl⟩) (hcd:codeIn K cdv qual=true) (hroom:A.depth<recursionLimit)
  (hbind:BindsTo s (fnOf name qual params body scope dV kV doc pm an cdv ct) args binds) (hall:(binds.all fun y=>scope.names.lookup y.1 == some .local || scope.names.lookup y.1 == some .cell)=true) (hone:((cellsFrom 0 scope.names []).map (·.1)).Nodup)
  (h:∀g L' h₁ tk cells,(∀b o,s.heap.get? b=some o→b∉lent.map (·.1)→g.get? b=some o)→Fr g L' h₁ (bindL (envOfC qual scope L' f cdv).kindOf binds fun _=>none)→News g L' h₁ (cells++lent)→CellsAre (bindC (envOfC qual scope L' f cdv).kindOf binds fun _=>none) (cellsFrom (L'+1) scope.names []) cells →
   (cellsFrom (L'+1) scope.names []).Pairwise (fun x y=>x.2≠y.2)→(∀n c,(n,c)∈cellsFrom (L'+1) scope.names []→L'<c)→Below A base (env::outer) g→K.In g→Top p loose mean mg mb g→(∀q∈lent,q.1<L')→s.heap.objs.size≤L' →
   wpAny (model prog w) (A.deeper (envOfC qual scope L' f cdv)) (execs body (envOfC qual scope L' f cdv)) (fun fl s'=>LeaveK h₀ L m g R (match fl with | .ret v=>v | _=>.none) s')
    (fun e s'=>wpAny (model prog w) (A.deeper (envOfC qual scope L' f cdv)) (leaving (envOfC qual scope L' f cdv) e) (fun _ s''=>R (.error e) s'') (fun e' s''=>R (.error e') s'') s') { s with heap:=h₁,toks:=tk })
  (hco:scope.isCoroutine=false) (hgen:scope.isGenerator=false) (hk:scope.kind=.function):codeAny (model prog w) A (.call (.ref f) args) R s:=by
 obtain⟨FG,BG,st,lv⟩:=groundX (R:=R) B F N hA hf hke
 have X:=X₀.keeps F.keep
 refine codeAny_call_function (fd:=fnOf name qual params body scope dV kV doc pm an cdv ct) hroom (X _ _ ho) rfl hco hgen rfl (codeRec_of X hcd) (hbind _ _ _ _ ?_)
 refine wpAny_newFunctionEnv_cells hk (kindsX hall _) fun fresh hfr s' inC=>?_
 subst hfr
 have up:=inC.toInCall.keep
 refine⟨(T.nolimit.keeps F.keep).keeps up,codeAny_func ?_⟩
 obtain⟨h₁,tk,hs',_⟩:=inC.done
 subst hs'
 have nod:=cellsFrom_names scope.names 0 (s.heap.objs.size+1) [] [] rfl▸hone
 obtain⟨cells,NC,Y⟩:=Cl.news (h₀:=s.heap) (L:=s.heap.objs.size) (Zz10 _) fun n c hm=>⟨inC.cell n c (lookup_of_mem_nodup nod hm),inC.above n c hm⟩
 have old:∀q∈lent,q.1<s.heap.objs.size:=fun q hq=>Heap.lt_size (N q hq).1
 refine wpAny_mono (h _ s.heap.objs.size h₁ tk cells (fun b o e nb=>hideAll_get _ e nb) ⟨inC.toInCall.ns,fun b o e=>up b o (of_hideAll _ e),Nat.le_of_eq (hideAll_size _ _)⟩ (fun q hq=>?_) Y inC.apart inC.above BG (X₀.keeps st) (T.keeps st) old (Zz10 _)) (fun fl s' hl=>lv _ _ hl) fun _ _ y=>y
 rcases Zz8.mp hq with hq | hq
 ·obtain⟨c1,c2,c3⟩:=NC q hq
  refine⟨c1,c2,?_⟩
  cases e:(hideAll s.heap (lent.map (·.1))).get? q.1 with
  | none=>rfl
  | some o=>
   have z:=of_hideAll _ e
   rw[c3]at z
   cases z
 ·exact⟨up _ _ (N q hq).1,Nat.ne_of_lt (old q hq),hideAll_none _ (List.mem_map_of_mem hq)⟩
section
variable (prog:Program) (w:World) (K:Frag) (p:Program) (loose:List Str) (mean:ExcName→Option Value) (mg mb:Str→Option Value)
noncomputable def Clr(Γ:Cx)(dp un:Nat): Prop:=∃(gd:Option (List Code)) (cn:Str) (cs:Scope) (a:Addr) (ccd:Value) (cl:List (Str×Addr)) (outer:List Env) (A₀:Around) (base:Heap),
 Γ.A=ktrTop dp un gd cn cs Γ.L a ccd cl outer∧Below A₀ base outer Γ.h₀∧K.In Γ.h₀∧Top p loose mean mg mb Γ.h₀∧cs.kind=.function
noncomputable def Def(f:Addr)(room:Nat)(F:List V→Hp→Option (V×Hp)): Prop:=∀(Γ:Cx) (dp un:Nat),Clr K p loose mean mg mb Γ dp un→dp+room<recursionLimit→un+10*room+300<cLine →
 ∀(W:Wd) (ρ:Lc) (H:Hp) (fr:List (Addr×Obj)) (s:Shared) (Q E:Value→Shared→Prop) (as:List V) (xs:List Value) (v:V) (H':Hp),
  Rep Γ W ρ H fr s.heap→VRs W as xs→F as H=some (v,H')→ZgV Γ W ρ H' fr s Q v→wpAny (model prog w) Γ.A (call (.ref f) xs) Q E s
end
noncomputable def Z7(n:Nat)(g:Sm): List V→Hp→Option (V×Hp):=fun as H=>if as.length=n then(g (fun i=>as[i]?) H).map fun r=>((r.1.getD .none),r.2.2)else none
theorem Ztt{kindOf:Str→Option NameKind}: ∀{ps:List Str} {xs:List Value} {m:Str→Option Value} {x:Str} {i:Nat} {y:Value},ps.Nodup→ps[i]?=some x→xs[i]?=some y→kindOf x=some .local→bindL kindOf (ps.zip xs) m x=some y:=by
 have skip:∀{ps:List Str} {xs:List Value} {m:Str→Option Value} {x:Str},x∉ps→bindL kindOf (ps.zip xs) m x=m x:=by
  intro ps
  induction ps with
  | nil=>intro xs m x _;rfl
  | cons p ps ih=>
   intro xs m x hx
   cases xs with
   | nil=>rfl
   | cons z xs=>
    simp only[List.zip_cons_cons,bindL]
    rw[ih (fun h=>hx (Zz2 _ h))]
    have:x≠p:=fun e=>hx (e▸List.mem_cons_self)
    split <;> simp[this]
 intro ps
 induction ps with
 | nil=>intro xs m x i y _ h;simp at h
 | cons p ps ih=>
  intro xs m x i y nd hp hx hk
  cases xs with
  | nil=>simp at hx
  | cons z xs=>
   obtain⟨n1,n2⟩:=List.nodup_cons.mp nd
   cases i with
   | zero=>
    simp at hp hx
    subst hp hx
    simp only[List.zip_cons_cons,bindL]
    rw[skip n1,if_pos hk]
    simp
   | succ i=>
    simp at hp hx
    simp only[List.zip_cons_cons,bindL]
    exact ih n2 hp hx hk
theorem Ztu{kindOf:Str→Option NameKind}: ∀{ps:List Str} {xs:List Value} {m:Str→Option Value} {x:Str} {i:Nat} {y:Value},ps.Nodup→ps[i]?=some x→xs[i]?=some y→kindOf x=some .cell→bindC kindOf (ps.zip xs) m x=some y:=by
 have skip:∀{ps:List Str} {xs:List Value} {m:Str→Option Value} {x:Str},x∉ps→bindC kindOf (ps.zip xs) m x=m x:=by
  intro ps
  induction ps with
  | nil=>intro xs m x _;rfl
  | cons p ps ih=>
   intro xs m x hx
   cases xs with
   | nil=>rfl
   | cons z xs=>
    simp only[List.zip_cons_cons,bindC]
    rw[ih (fun h=>hx (Zz2 _ h))]
    have:x≠p:=fun e=>hx (e▸List.mem_cons_self)
    split <;> simp[this]
 intro ps
 induction ps with
 | nil=>intro xs m x i y _ h;simp at h
 | cons p ps ih=>
  intro xs m x i y nd hp hx hk
  cases xs with
  | nil=>simp at hx
  | cons z xs=>
   obtain⟨n1,n2⟩:=List.nodup_cons.mp nd
   cases i with
   | zero=>
    simp at hp hx
    subst hp hx
    simp only[List.zip_cons_cons,bindC]
    rw[skip n1,if_neg (by rw[hk];simp)]
    simp
   | succ i=>
    simp at hp hx
    simp only[List.zip_cons_cons,bindC]
    exact ih n2 hp hx hk
theorem Zgu{cm:Str→Option Value}: ∀{cs:List (Str×Addr)} {cells:List (Addr×Obj)} {x:Str} {c:Addr},CellsAre cm cs cells→(x,c)∈cs→∃o,(c,o)∈cells∧o.data=.cell (cm x)
 | _,_,_,_,.nil,h=>nomatch h
 | _,_,_,_,.cons hd r,h=>by
  rcases Zz7.mp h with e | h
  ·cases e
   exact⟨_,List.mem_cons_self,hd⟩
  ·obtain⟨o,h1,h2⟩:=Zgu r h
   exact⟨o,List.mem_cons_of_mem _ h1,h2⟩
theorem Zpz{cm:Str→Option Value}: ∀{cs:List (Str×Addr)} {cells:List (Addr×Obj)} {q:Addr×Obj},CellsAre cm cs cells→q∈cells→∃x,(x,q.1)∈cs
 | _,_,_,.nil,h=>nomatch h
 | _,_,_,.cons hd r,h=>by
  rcases Zz7.mp h with e | h
  ·cases e
   exact⟨_,List.mem_cons_self⟩
  ·obtain⟨x,h1⟩:=Zpz r h
   exact⟨x,List.mem_cons_of_mem _ h1⟩
theorem ZdJ{α β:Type}[BEq α][LawfulBEq α]: ∀{l:List (α×β)} {x:α} {y:β},l.lookup x=some y→(x,y)∈l
 | [],_,_,h=>by simp at h
 | (a,b)::r,x,y,h=>by
  rw[List.lookup_cons]at h
  split at h
  ·rename_i e
   cases h
   have:=eq_of_beq e
   subst this
   exact Zz5
  ·exact Zz2 _ (ZdJ h)
end PM
end
section
set_option autoImplicit false
namespace PM
open PySem PySem.W PySem.Calls PyProof.Rows PyProof PySem.Spec
section
variable {prog:Program} {w:World} {K:Frag} {p:Program} {loose:List Str} {mean:ExcName→Option Value} {mg mb:Str→Option Value}
theorem Zqc{name qual:Str}{params:Arguments}{body:List Stmt}{scope:Scope}{dV kV doc pm cdv ct oc:Value}{an od:Option Addr}{osl:Array (Option Value)}{f:Addr}{names:List Str}{n room:Nat}{g:Sm}
  (ho:K.lookup f=some ⟨oc,od,.func (fnOf name qual params body scope dV kV doc pm an cdv ct),osl⟩) (hcd:codeIn K cdv qual=true) (nd:names.Nodup) (hn:n≤names.length)
  (hbind:∀s xs,xs.length=n→BindsTo s (fnOf name qual params body scope dV kV doc pm an cdv ct) ⟨xs,[]⟩ ((names.take n).zip xs)) (hkinds:∀x∈names.take n,scope.names.lookup x=some .local∨scope.names.lookup x=some .cell) (hone:((cellsFrom 0 scope.names []).map (·.1)).Nodup)
  (hco:scope.isCoroutine=false) (hgen:scope.isGenerator=false) (hk:scope.kind=.function)
  (hbody:∀(dp un:Nat) (gd:Option (List Code)) (L:Addr) (outer:List Env) (h₀:Heap) (hu:un+200<cLine),Clr K p loose mean mg mb (ZbS dp un gd qual scope L f cdv (cellsFrom (L+1) scope.names []) outer h₀ hu names) dp un→dp+room<recursionLimit→un+10*room+300<cLine →
   Ss prog w (ZbS dp un gd qual scope L f cdv (cellsFrom (L+1) scope.names []) outer h₀ hu names) body g):
  Def prog w K p loose mean mg mb f (room+1) (Z7 n g):=by
 intro Γ dp un clr hd hu W ρ H fr s Q E as xs v H' r hx hF post
 obtain⟨gd,cn,cs,a,ccd,cl,outer,A₀,base,eA,B,X,T,hke⟩:=clr
 unfold Z7 at hF
 split at hF
 ·rename_i hlen
  obtain⟨res,e1,e2⟩:=Zz1.mp hF
  obtain⟨o,ρ',K'⟩:=res
  cases e2
  obtain⟨m,c,led,r⟩:=r
  have hxl:xs.length=n:=by rw[hx.length,hlen]
  have inn:∀q∈led,(q.1∈W.pi∨q.1∈W.tups.map (·.1))↔q∈led.filter (fun q=>decide (q.1∈W.pi∨q.1∈W.tups.map (·.1))):=fun q hq=>⟨fun h=>List.mem_filter.mpr ⟨hq,by simpa using h⟩,fun h=>by simpa using (List.mem_filter.mp h).2⟩
  have isub:∀q∈led.filter (fun q=>decide (q.1∈W.pi∨q.1∈W.tups.map (·.1))),q∈led:=fun q hq=>(List.mem_filter.mp hq).1
  generalize hlent:led.filter (fun q=>decide (q.1∈W.pi∨q.1∈W.tups.map (·.1)))=lent at inn isub
  have notin:∀q∈led,q.1∉W.pi→(∀t∈W.tups,q.1≠t.1)→q.1∉lent.map (·.1):=fun q hq h1 h2 h3=>by
   obtain⟨t,ht,e⟩:=Zz11.mp h3
   rcases(inn t (isub t ht)).mpr ht with z | z
   ·exact h1 (e▸z)
   ·obtain⟨u,hu,e'⟩:=Zz11.mp z
    exact h2 u hu (e▸e'.symm)
  rw[eA]
  refine wpAny_call ?_
  refine Zwt (env:=envX cn cs Γ.L a ccd cl) (lent:=lent) B r.F X (fun q hq=>r.N q (isub q hq)) T rfl rfl hke ho hcd (by show dp<recursionLimit;omega) (hbind s xs hxl) ?_ hone ?_ hco hgen hk
  ·refine List.all_eq_true.mpr fun y hy=>?_
   rcases hkinds y.1 (List.of_mem_zip hy).1 with h | h <;> simp[h]
  intro g0 L' h₁ tk cells stay F' N' Y ap ab B' X' T' old szL
  have hu':(un+3)+200<cLine:=by omega
  have clr':Clr K p loose mean mg mb (ZbS (dp+1) (un+3) gd qual scope L' f cdv (cellsFrom (L'+1) scope.names []) (envX cn cs Γ.L a ccd cl::outer) g0 hu' names) (dp+1) (un+3):=
   ⟨gd,qual,scope,f,cdv,cellsFrom (L'+1) scope.names [],envX cn cs Γ.L a ccd cl::outer,_,base,rfl,B',X',T',hk⟩
  have below:∀q∈cells,L'<q.1:=fun q hq=>by
   obtain⟨x,hx⟩:=Zpz Y hq
   exact ab x _ hx
  have piLt:∀b∈W.pi,b<L':=fun b hb=>by
   obtain⟨o,ho⟩:=r.piIn b hb
   exact Nat.lt_of_lt_of_le (Heap.lt_size (r.get ho)) szL
  have tuLt:∀t∈W.tups,t.1<L':=fun t ht=>Nat.lt_of_lt_of_le (Heap.lt_size (r.get (r.R.tups t ht))) szL
  have scN:W.sc.1∉lent.map (·.1):=fun z=>by
   obtain⟨t,ht,e⟩:=Zz11.mp z
   exact r.notSc t (isub t ht) e
  have tkn:∀{i:Nat} {x:Str} {u:V},names[i]?=some x→as[i]?=some u→(names.take n)[i]?=some x∧∃y,xs[i]?=some y∧VR W u y:=fun {i x u} h1 h2=>by
   have hi:i<n:=by rw[←hlen];exact(Zz6.mp h2).1
   exact⟨by rw[List.getElem?_take_of_lt hi];exact h1,hx.at h2⟩
  have ndt:(names.take n).Nodup:=nd.sublist (List.take_sublist _ _)
  have rep:Rep (ZbS (dp+1) (un+3) gd qual scope L' f cdv (cellsFrom (L'+1) scope.names []) (envX cn cs Γ.L a ccd cl::outer) g0 hu' names) W (fun i=>as[i]?) H [] h₁:=by
   refine⟨_,cells,cells++lent,⟨F',N',⟨r.R.len,r.R.nd,fun i vs e=>?_,fun q hq=>?_,r.R.kind⟩,stay _ _ (r.F.keep _ _ r.sc) scN,r.sc0,fun q hq=>(nomatch hq),fun q hq=>(nomatch hq),fun q hq=>List.mem_append_left _ hq,fun q hq z=>?_,fun q _ t ht=>(nomatch ht),fun q hq=>(nomatch hq),fun q hq t ht=>?_,⟨fun i x u hi hk1 hu1=>?_,fun i x u hi hk1 hu1=>?_,fun x c1 hc=>?_,fun x y c1 h1 h2=>?_⟩⟩⟩
   ·obtain⟨l,b,ys,k,h1,h2,h3⟩:=r.R.lists i vs e
    exact⟨l,b,ys,k,h1,Zen h2 fun z=>List.mem_append_right _ ((inn _ z).mp (.inl (List.mem_of_getElem? h1))),h3⟩
   ·exact Zen (r.R.tups q hq) fun z=>List.mem_append_right _ ((inn _ z).mp (.inr (List.mem_map_of_mem hq)))
   ·exact absurd (Nat.lt_trans (piLt _ z) (below q hq)) (Nat.lt_irrefl _)
   ·exact Nat.ne_of_gt (Nat.lt_trans (tuLt t ht) (below q hq))
   ·obtain⟨h1,y,h2,h3⟩:=tkn hi hu1
    exact⟨y,Ztt ndt h1 h2 hk1,h3⟩
   ·obtain⟨h1,y,h2,h3⟩:=tkn hi hu1
    have hs:=cellsFrom_some scope.names (L'+1) [] (.inl hk1)
    obtain⟨c1,hc1⟩:=Option.isSome_iff_exists.mp hs
    obtain⟨o1,ho1,hd1⟩:=Zgu Y (ZdJ hc1)
    refine⟨c1,o1,y,hc1,ho1,?_,h3⟩
    rw[hd1,Ztu ndt h1 h2 hk1]
   ·obtain⟨o1,ho1,hd1⟩:=Zgu Y (ZdJ hc)
    exact⟨o1,_,ho1,hd1⟩
   ·exact name_of_addr ap (ZdJ h1) (ZdJ h2)
  have hb:=hbody (dp+1) (un+3) gd L' (envX cn cs Γ.L a ccd cl::outer) g0 hu' clr' (by omega) (by omega)
  have back:∀(W':Wd) (h':Heap) (tk':Nat) (x:Value),W.Le W'→Rep (ZbS (dp+1) (un+3) gd qual scope L' f cdv (cellsFrom (L'+1) scope.names []) (envX cn cs Γ.L a ccd cl::outer) g0 hu' names) W' ρ' K' [] h'→VR W' (o.getD .none) x →
    LeaveK Γ.h₀ Γ.L m g0 (fun r s'=>match r with | .ok (.ret v)=>Q v s' | .ok _=>False | .error e=>E e s') x { s with heap:=h',toks:=tk' }:=by
   intro W' h' tk' x l' r' x'
   obtain⟨m',c',led',r'⟩:=r'
   refine⟨L',m',led',r'.F,r'.N,fun FG NG=>post W' h' tk' x l' ?_ x'⟩
   have g0at:∀q∈led,q.1∉lent.map (·.1)→g0.get? q.1=some q.2:=fun q hq hn=>stay _ _ (r.N q hq).1 hn
   have frN:∀q∈fr,q.1∉lent.map (·.1):=fun q hq=>notin q (r.frIn q hq) (r.frOff q hq) (r.frTup q hq)
   have clN:∀q∈c,q.1∉lent.map (·.1):=fun q hq=>notin q (r.clIn q hq) (r.clOff q hq) (r.clTup q hq)
   have newN:∀t∈led',g0.get? t.1=none:=fun t ht=>(r'.N t ht).2.2
   have far:∀q∈led,q.1∉lent.map (·.1)→∀t∈W'.sc::led',q.1≠t.1:=fun q hq hn t ht e=>by
    rcases Zz7.mp ht with e2 | ht
    ·rw[e2,l'.sc]at e
     exact r.notSc q hq e
    ·have:=g0at q hq hn
     rw[e,newN t ht]at this
     cases this
   have farPi:∀q∈led,q.1∉lent.map (·.1)→q.1∉W'.pi:=fun q hq hn z=>by
    obtain⟨o2,h2⟩:=r'.piIn _ z
    exact far q hq hn _ h2 rfl
   have keep:∀q∈led,q.1∉lent.map (·.1)→q∈led'++led.filter (fun q=>decide (q.1∉lent.map (·.1))):=fun q hq hn=>List.mem_append_right _ (List.mem_filter.mpr ⟨hq,by simpa using hn⟩)
   refine⟨m,c,led'++led.filter (fun q=>decide (q.1∉lent.map (·.1))),⟨FG,fun q hq=>?_,r'.R.mono fun q hq=>Zfy hq fun x hx=>List.mem_append_left _ hx,l'.sc▸r.sc,r'.sc0,fun q hq=>keep q (r.frIn q hq) (frN q hq),fun q hq=>farPi q (r.frIn q hq) (frN q hq),fun q hq=>keep q (r.clIn q hq) (clN q hq),fun q hq=>farPi q (r.clIn q hq) (clN q hq),r.apart,fun q hq t ht=>far q (r.frIn q hq) (frN q hq) t (r'.R.tups t ht),fun q hq t ht=>far q (r.clIn q hq) (clN q hq) t (r'.R.tups t ht),Γ.mono l' r.own⟩⟩
   rcases Zz8.mp hq with hq | hq
   ·exact NG q hq
   ·obtain⟨h1,h2⟩:=List.mem_filter.mp hq
    exact⟨r'.F.keep _ _ (g0at q h1 (by simpa using h2)),(r.N q h1).2⟩
  refine hb W _ H [] _ _ _ (o,ρ',K') rep e1 ?_
  cases o with
  | none=>exact fun W' h' tk' l' r'=>back W' h' tk' .none l' r' .none
  | some v0=>exact fun W' h' tk' x l' r' x'=>back W' h' tk' x l' r' x'
 ·cases hF
theorem Zvc{Γ:Cx}{dp un:Nat}{x:Str}{np pos:Pos}{f:Addr}{room:Nat}{e:Expr}{es:List Expr}{g:Exs}{o:List V→Hp→Option (V×Hp)}(clr:Clr K p loose mean mg mb Γ dp un)(hn:Nm prog w Γ x (.ref f))(hkeep:keepIn K (.ref f)=true)(D:Def prog w K p loose mean mg mb f room o)(hd:dp+room<recursionLimit)(hu:un+10*room+300<cLine)
  (h:Js prog w Γ (e::es) g) (he:starEach (e::es) Γ.env=(false,eval e Γ.env)::starEach es Γ.env:=by rfl) (hp:∀pos,(backTo pos (starEach es Γ.env)).any (·.1)=false:=by intro _;rfl):J prog w Γ (.Call (.Name x np) (e::es) [] pos) (ZA o g):=by
 intro W ρ H fr s Q E v H' r hf post
 obtain⟨q,e1,hf⟩:=Zz0.mp hf
 have X:K.In Γ.h₀:=by
  obtain⟨_,_,_,_,_,_,_,_,_,_,_,X,_⟩:=clr
  exact X
 refine wpAny_Call_ofName (hn.use r ?_)
 refine callWith_K (first:=[]) X hkeep (h pos W ρ H fr s _ E _ _ r e1 fun W1 k1 t1 xs l1 r1 x1=>⟨?_,?_⟩) he (hp pos)
 ·obtain⟨m,c,led,r1⟩:=r1
  exact X.keeps r1.F.keep
 ·exact D Γ dp un clr hd hu W1 ρ _ fr _ Q E _ xs v H' r1 x1 hf fun W2 k2 t2 y l2 r2 y2=>post W2 k2 t2 y (l1.trans l2) r2 y2
theorem Zbo{Γ:Cx}{dp un:Nat}{scope:Scope}{cl:List (Str×Addr)}{C:Addr}{ts:List (Str×Nat)}{ρ0:Lc}(h:Clr K p loose mean mg mb Γ dp un): Clr K p loose mean mg mb (Zbu Γ scope cl C ts ρ0) dp un:=h
end
end PM
end
section
set_option autoImplicit false
namespace PM
open PySem PySem.W PySem.Calls PyProof.Rows PyProof PySem.Spec
theorem ZjG{lo:Nat}: ∀(names:List (Str×NameKind)) (n:Nat) (acc:List (Str×Addr)),acc.Pairwise (fun x y=>x.2≠y.2)→(∀q∈acc,lo<q.2∧q.2<n)→lo<n→(cellsFrom n names acc).Pairwise (fun x y=>x.2≠y.2)∧∀q∈cellsFrom n names acc,lo<q.2
 | [],n,acc,h1,h2,_=>⟨h1,fun q hq=>(h2 q hq).1⟩
 | (y,k)::r,n,acc,h1,h2,h3=>by
  unfold cellsFrom
  by_cases hk:(k == .cell)=true
  ·rw[if_pos hk]
   refine ZjG r (n+1) ((y,n)::acc) (List.pairwise_cons.mpr ⟨fun q hq=>Nat.ne_of_gt (h2 q hq).2,h1⟩) (fun q hq=>?_) (Nat.lt_succ_of_lt h3)
   rcases Zz7.mp hq with e | hq
   ·rw[e]
    exact⟨h3,Nat.lt_succ_self n⟩
   ·exact⟨(h2 q hq).1,Nat.lt_succ_of_lt (h2 q hq).2⟩
  ·rw[if_neg hk]
   exact ZjG r n acc h1 h2 h3
theorem Ztv{P:Params}{h:Heap}{a:Addr}{ns:List Int}(w1:Well P h (.ref a) (ofPy (.list (ns.map PyData.int))))(W:Wd): ∃vs,h.get? a=some (ZbX vs 0)∧VRs W (ns.map V.int) vs:=by
 have key:∀{ns:List Int} {vs:List Value} {xs:List WData},xs=(ns.map PyData.int).map ofPy→WellAll P h vs xs→VRs W (ns.map V.int) vs:=by
  intro ns
  induction ns with
  | nil=>intro vs xs e h;subst e;cases h;exact .nil
  | cons n ns ih=>
   intro vs xs e h
   subst e
   cases h with
   | cons h1 h2=>
    cases h1 with
    | int i t=>exact .cons (.int _ _) (ih rfl h2)
 have e:ofPy (.list (ns.map PyData.int))=.list ((ns.map PyData.int).map ofPy):=by rw[ofPy,ofPys_eq]
 rw[e]at w1
 cases w1 with
 | list hg ha=>exact⟨_,hg,key rfl ha⟩
section
variable {prog:Program} {w:World} {K:Frag} {p:Program} {loose:List Str} {mean:ExcName→Option Value} {mg mb:Str→Option Value}
theorem Zvd{P:Params}{h₀:Heap}{s:Shared}{sa fa:Addr}{cd:Value}{ns:List Int}{qual pname:Str}{scope:Scope}{body:List Stmt}{names:List Str}{g:Sm}{cells:List (Addr×Obj)}{Q:Flow→Shared→Prop}{E:Value→Shared→Prop}{room:Nat}{H':Hp}
  (hbody:∀(dp un:Nat) (gd:Option (List Code)) (L a:Addr) (ccd:Value) (outer:List Env) (h₀:Heap) (hu:un+200<cLine),Clr K p loose mean mg mb (ZbS dp un gd qual scope L a ccd (cellsFrom (L+1) scope.names []) outer h₀ hu names) dp un→dp+room<recursionLimit→un+10*room+300<cLine →
   Ss prog w (ZbS dp un gd qual scope L a ccd (cellsFrom (L+1) scope.names []) outer h₀ hu names) body g)
  (hd:callerA.depth+1+room<recursionLimit) (hun:callerA.units+3+10*room+300<cLine) (hk:scope.kind=.function) (h0:names[0]?=some pname)
  (KX:K.In h₀) (T:Top p loose mean mg mb h₀) (w1:Well P h₀ (.ref sa) (ofPy (.list (ns.map PyData.int)))) (hlen:ns.length≤LEN)
  (F:Fr h₀ h₀.objs.size s.heap (bindL (envOfC qual scope h₀.objs.size fa cd).kindOf [(pname,.ref sa)] fun _=>none)) (N:News h₀ h₀.objs.size s.heap cells) (X0:CellsAre (bindC (envOfC qual scope h₀.objs.size fa cd).kindOf [(pname,.ref sa)] fun _=>none) (cellsFrom (h₀.objs.size+1) scope.names []) cells)
  (hg:Z7 1 g [.ref 0] [ns.map V.int]=some (.bool true,H')) (post:∀h' tk' m',Fr h₀ h₀.objs.size h' m'→Q (.ret (.bool true)) { s with heap:=h',toks:=tk' }):
  wpAny (model prog w) (callerA.deeper (envOfC qual scope h₀.objs.size fa cd)) (execs body (envOfC qual scope h₀.objs.size fa cd)) Q E s:=by
 have hu':(callerA.units+3)+200<cLine:=by omega
 have clr:Clr K p loose mean mg mb (ZbS (callerA.depth+1) (callerA.units+3) callerA.guards qual scope h₀.objs.size fa cd (cellsFrom (h₀.objs.size+1) scope.names []) [] h₀ hu' names) (callerA.depth+1) (callerA.units+3):=
  ⟨callerA.guards,qual,scope,fa,cd,cellsFrom (h₀.objs.size+1) scope.names [],[],_,_,rfl,below_caller h₀,KX,T,hk⟩
 have hb:=hbody (callerA.depth+1) (callerA.units+3) callerA.guards h₀.objs.size fa cd [] h₀ hu' clr hd hun
 obtain⟨vs,hsc,hv⟩:=Ztv w1 ⟨[sa],[],(sa,ZbX [] 0)⟩
 have hv':VRs ⟨[sa],[],(sa,ZbX vs 0)⟩ (ns.map V.int) vs:=by
  clear hg post w1 hlen hsc
  generalize ns.map V.int=us at hv
  have key:∀{us:List V} {xs:List Value},VRs ⟨[sa],[],(sa,ZbX [] 0)⟩ us xs→VRs ⟨[sa],[],(sa,ZbX vs 0)⟩ us xs:=by
   intro us
   induction us with
   | nil=>intro xs h;cases h;exact .nil
   | cons u us ih=>
    intro xs h
    cases h with
    | cons a b=>
     refine .cons ?_ (ih b)
     cases a with
     | none=>exact .none
     | bool b=>exact .bool b
     | int i t=>exact .int i t
     | str s t=>exact .str s t
     | tup hm _ _=>exact nomatch hm
     | ref e=>exact .ref e
  exact key hv
 have far:=ZjG (lo:=h₀.objs.size) scope.names (h₀.objs.size+1) [] .nil (fun q hq=>nomatch hq) (Nat.lt_succ_self _)
 unfold Z7 at hg
 rw[if_pos (show([V.ref 0]:List V).length=1 from rfl)]at hg
 obtain⟨res,e1,e2⟩:=Zz1.mp hg
 obtain⟨o,ρ',K'⟩:=res
 have eo:o=some (.bool true):=by
  cases o with
  | none=>simp at e2
  | some v=>simp at e2;rw[e2.1]
 subst eo
 have pick:∀{i:Nat} {x:Str} {u:V},names[i]?=some x→([V.ref 0]:List V)[i]?=some u→x=pname∧u=.ref 0:=fun {i x u} h1 h2=>by
  have hi:i<1:=(Zz6.mp h2).1
  have:i=0:=by omega
  subst this
  rw[h0]at h1
  simp at h1 h2
  exact⟨h1.symm,h2.symm⟩
 have rep:Rep (ZbS (callerA.depth+1) (callerA.units+3) callerA.guards qual scope h₀.objs.size fa cd (cellsFrom (h₀.objs.size+1) scope.names []) [] h₀ hu' names) ⟨[sa],[],(sa,ZbX vs 0)⟩ (fun i=>[V.ref 0][i]?) [ns.map V.int] [] s.heap:=by
  refine⟨_,cells,cells,⟨F,N,⟨rfl,by simp,fun i us e=>?_,fun q hq=>(nomatch hq),fun q hq=>(nomatch hq)⟩,hsc,rfl,fun q hq=>(nomatch hq),fun q hq=>(nomatch hq),fun q hq=>hq,fun q hq z=>?_,fun q _ t ht=>(nomatch ht),fun q hq=>(nomatch hq),fun q hq t ht=>(nomatch ht),⟨fun i x u hi hk1 hu1=>?_,fun i x u hi hk1 hu1=>?_,fun x c1 hc=>?_,fun x y c1 h1 h2=>?_⟩⟩⟩
  ·have hi:i<1:=(Zz6.mp e).1
   have:i=0:=by omega
   subst this
   simp at e
   subst e
   exact⟨by simpa using hlen,sa,vs,0,rfl,List.mem_cons_self,hv'⟩
  ·have:=(N q hq).2.2
   rw[List.mem_singleton.mp z,hsc]at this
   cases this
  ·obtain⟨e3,e4⟩:=pick hi hu1
   subst e3 e4
   refine⟨.ref sa,?_,.ref rfl⟩
   show bindL _ _ _ _=_
   unfold bindL bindL
   rw[if_pos (show(envOfC qual scope h₀.objs.size fa cd).kindOf x=some .local from hk1)]
   simp
  ·obtain⟨e3,e4⟩:=pick hi hu1
   subst e3 e4
   have hs:=cellsFrom_some scope.names (h₀.objs.size+1) [] (.inl hk1)
   obtain⟨c1,hc1⟩:=Option.isSome_iff_exists.mp hs
   obtain⟨o1,ho1,hd1⟩:=Zgu X0 (ZdJ hc1)
   refine⟨c1,o1,.ref sa,hc1,ho1,?_,.ref rfl⟩
   rw[hd1]
   unfold bindC bindC
   rw[if_neg (show ¬(envOfC qual scope h₀.objs.size fa cd).kindOf x=some .local by show ¬scope.names.lookup x=some .local;rw[hk1];simp)]
   simp
  ·obtain⟨o1,ho1,hd1⟩:=Zgu X0 (ZdJ hc)
   exact⟨o1,_,ho1,hd1⟩
  ·exact name_of_addr far.1 (ZdJ h1) (ZdJ h2)
 refine hb _ _ _ [] s Q E _ rep e1 ?_
 intro W' h' tk' x l' r' x'
 cases x' with
 | bool _=>
  obtain⟨m',c',led',r'⟩:=r'
  exact post h' tk' m' r'.F
end
end PM
end
section
set_option autoImplicit false
namespace PM
open PySem PySem.W PySem.Calls PyProof.Rows PyProof PyProof.Rows.LCg PyProof.Rows.LSm
theorem Rep.listAt{Γ:Cx}{W:Wd}{ρ:Lc}{H:Hp}{fr:List (Addr×Obj)}{h h':Heap}{vs:List V}{xs:List Value}{k:Nat}(r:Rep Γ W ρ H fr h)(up:∀b o,h.get? b=some o→h'.get? b=some o)(hg:h'.get? h.objs.size=some (ZbX xs k))(hv:VRs W vs xs)(hl:vs.length≤LEN):
  ∃W',W.Le W'∧Rep Γ W' ρ (H++[vs]) fr h'∧VR W' (.ref H.length) (.ref h.objs.size):=by
 obtain⟨r2,ap⟩:=r.more (fs:=[(h.objs.size,ZbX xs k)]) up (fun q hq=>by rw[List.mem_singleton.mp hq];exact⟨hg,Nat.le_refl _⟩)
 exact Zgd r2 (fun t ht=>ap _ Zz5 t ht) hv hl
noncomputable def ZcK: List V→Hp→Option (V×Hp)
 | [.ref a],H=>H[a]?.map fun vs=>(.ref H.length,H++[vs])
 | [.tup vs],H=>some (.ref H.length,H++[vs])
 | _,_=>none
noncomputable def Zfh: List V→Hp→Option (V×Hp)
 | [.ref a],H=>H[a]?.map fun vs=>(.tup vs,H)
 | [.tup vs],H=>some (.tup vs,H)
 | _,_=>none
noncomputable def Zfi: List V→Option (List Bool)
 | []=>some []
 | .bool b::vs=>(Zfi vs).map fun bs=>b::bs
 | _::_=>none
noncomputable def ZxU: List V→Hp→Option (V×Hp)
 | [.ref a],H=>H[a]?.bind fun vs=>(Zfi vs).map fun bs=>(.bool (bs.all id),H)
 | _,_=>none
noncomputable def ZgY: List V→Hp→Option (V×Hp)
 | [.ref a],H=>H[a]?.bind fun vs=>(Zfi vs).map fun bs=>(.bool (bs.any id),H)
 | _,_=>none
theorem Zsd{W:Wd}: ∀{vs:List V} {xs:List Value} {bs:List Bool},VRs W vs xs→Zfi vs=some bs→BoolsAre xs bs:=by
 intro vs
 induction vs with
 | nil=>intro xs bs h e;cases h;cases e;exact .nil
 | cons v vs ih=>
  intro xs bs h e
  cases h with
  | cons a b=>
   cases v with
   | bool c=>
    obtain⟨cs,e1,e2⟩:=Zz1.mp e
    subst e2
    cases a
    exact .cons _ (ih b e1)
   | none=>cases e
   | int _=>cases e
   | str _=>cases e
   | tup _=>cases e
   | ref _=>cases e
section
variable {prog:Program} {w:World}
theorem ZdM: OpN prog w (fun xs=>call (.type "list") xs) ZcK:=by
 intro Γ W ρ H fr s Q E as xs v H' r hx ho post
 unfold ZcK at ho
 split at ho
 ·obtain⟨vs,e1,e2⟩:=Zz1.mp ho
  cases e2
  obtain⟨x,ex,rx⟩:=hx.one
  subst ex
  cases rx with
  | @ref _ a ea=>
   obtain⟨hl,ys,k,hg,hv⟩:=r.at e1 ea
   refine call_list_seq (hsz:=Zda (by rw[List.size_toArray,hv.length];exact hl)) a (.inl rfl) hg rfl rfl fun h' c' up hg'=>?_
   obtain⟨W2,l2,r2,v2⟩:=r.listAt up hg' hv hl
   exact post W2 h' s.toks _ l2 r2 v2
 ·cases ho
  obtain⟨x,ex,rx⟩:=hx.one
  subst ex
  cases rx with
  | @tup _ a ys k hm hl hv=>
   refine call_list_seq (hsz:=Zda (by rw[List.size_toArray,hv.length];exact hl)) a (.inr rfl) (r.tupAt hm) rfl rfl fun h' c' up hg'=>?_
   obtain⟨W2,l2,r2,v2⟩:=r.listAt up hg' hv hl
   exact post W2 h' s.toks _ l2 r2 v2
 ·cases ho
theorem Ztw: OpN prog w (fun xs=>call (.type "tuple") xs) Zfh:=by
 intro Γ W ρ H fr s Q E as xs v H' r hx ho post
 unfold Zfh at ho
 split at ho
 ·obtain⟨vs,e1,e2⟩:=Zz1.mp ho
  cases e2
  obtain⟨x,ex,rx⟩:=hx.one
  subst ex
  cases rx with
  | @ref _ a ea=>
   obtain⟨hl,ys,k,hg,hv⟩:=r.at e1 ea
   have isl:s.heap.IsList a ys.toArray:=⟨_,hg,rfl,k,rfl⟩
   refine call_tuple_list isl (fun h' up=>?_) (Zda (by rw[List.size_toArray,hv.length];exact hl))
   obtain⟨W2,l2,r2,v2⟩:=(r.grown up).tuple (k:=0) hv hl
   exact post W2 _ s.toks _ l2 r2 v2
 ·cases ho
  obtain⟨x,ex,rx⟩:=hx.one
  subst ex
  cases rx with
  | @tup _ a ys k hm hl hv=>
   have it:IsTup s.heap a ys.toArray:=⟨_,r.tupAt hm,rfl,k,rfl⟩
   exact call_tuple_tup it (post W s.heap s.toks _ (.refl W) r (.tup hm hl hv))
 ·cases ho
theorem Zwu: OpN prog w (fun xs=>call (.builtin "any") xs) ZgY:=by
 intro Γ W ρ H fr s Q E as xs v H' r hx ho post
 unfold ZgY at ho
 split at ho
 ·obtain⟨vs,e1,e2⟩:=Zz0.mp ho
  obtain⟨bs,e3,e4⟩:=Zz1.mp e2
  cases e4
  obtain⟨x,ex,rx⟩:=hx.one
  subst ex
  cases rx with
  | @ref _ a ea=>
   obtain⟨hl,ys,k,hg,hv⟩:=r.at e1 ea
   have isl:s.heap.IsList a ys.toArray:=⟨_,hg,rfl,k,rfl⟩
   obtain⟨m,c,led,r'⟩:=r
   exact any_bools r'.F r'.N Γ.hh isl (Zsd hv e3) fun h' tk F' N'=>post W h' tk _ (.refl W) (r'.same F' N') (.bool _)
 ·cases ho
end
section
variable {prog:Program} {w:World} {K:Frag} {p:Program} {loose:List Str} {mean:ExcName→Option Value} {mg mb:Str→Option Value} {Γ:Cx} {dp un:Nat}
theorem Zwv{x:Str}{v:Value}(clr:Clr K p loose mean mg mb Γ dp un)(e:nsIn K mainGlobals x=some (some v))(hg:Γ.env.globals=mainGlobals)(hk:Γ.env.scope.kind=.function)(hx:Γ.env.kindOf x=some .globalImplicit)(hd:(x == ("__debug__":Str))=false): Nm prog w Γ x v:=by
 obtain⟨_,_,_,_,_,_,_,_,_,_,_,X,T,_⟩:=clr
 intro pos m s Q E F q
 exact Name_function_global hk hx (loadGlobal_global (env:=Γ.env) (by rw[hg];exact T.g.keeps F.keep) (mg_of X T.g e) q) hd
theorem Zuf{x:Str}{v:Value}(clr:Clr K p loose mean mg mb Γ dp un)(e:nsIn K mainGlobals x=some none)(hv:bootBuiltins x=some v)(hn:x≠"__name__")(hg:Γ.env.globals=mainGlobals)(hb:Γ.env.builtins=builtinsNs)(hk:Γ.env.scope.kind=.function)(hx:Γ.env.kindOf x=some .globalImplicit)(hd:(x == ("__debug__":Str))=false): Nm prog w Γ x v:=by
 obtain⟨_,_,_,_,_,_,_,_,_,_,_,X,T,_⟩:=clr
 intro pos m s Q E F q
 exact Name_function_global hk hx (loadGlobal_builtin (env:=Γ.env) (by rw[hg];exact T.g.keeps F.keep) (mg_none_of X T.g e) (by rw[hb];exact T.b.keeps F.keep) ((T.builtins x hn).trans hv) q) hd
end
section
variable {prog:Program} {w:World} {Γ:Cx} {scope:Scope} {cl:List (Str×Addr)} {C:Addr} {ts:List (Str×Nat)} {ρ0:Lc}
theorem Zve{x:Str}{t:Nat}(hm:(x,t)∈ts)(hk:scope.kind=.function)(hl:(compEnvC scope cl C Γ.env).kindOf x=some .local)(hd:(x == ("__debug__":Str))=false): Rd prog w (Zbu Γ scope cl C ts ρ0) x t:=by
 intro W ρ H fr s Q E v pos r e q
 obtain⟨m,c,led,r⟩:=r
 obtain⟨oC,m₂,cs,ec,h0,h1,h2,h3,h4⟩:=r.own
 obtain⟨v',y,e1,e2,e3⟩:=h2 _ hm
 rw[e]at e1
 cases e1
 exact LCgL.ld_own r.N (r.clIn _ (by rw[ec];exact Zz5)) h1 e2 (q y e3) hk hl hd
end
section
variable {prog:Program} {w:World} {dp un:Nat} {gd:Option (List Code)} {cn:Str} {cs:Scope} {L a:Addr} {ccd:Value} {clf:List (Str×Addr)} {outer:List Env} {h₀:Heap} {hu:un+200<cLine} {names:List Str} {scope:Scope} {cl:List (Str×Addr)} {C:Addr} {ts:List (Str×Nat)} {ρ0:Lc}
theorem Zvf{x:Str}{i:Nat}(hi:names[i]?=some x)(hx:cs.names.lookup x=some .cell)(hne:∀p∈ts,p.2≠i)(hcl:cl.lookup x=clf.lookup x)(hk:scope.kind=.function)(hl:(compEnvC scope cl C (envX cn cs L a ccd clf)).kindOf x=some .cell)(hd:(x == ("__debug__":Str))=false):
  Rd prog w (Zbu (ZbS dp un gd cn cs L a ccd clf outer h₀ hu names) scope cl C ts ρ0) x i:=by
 intro W ρ H fr s Q E v pos r e q
 obtain⟨m,c,led,r⟩:=r
 obtain⟨oC,m₂,cs',ec,h0,h1,h2,h3,h4⟩:=r.own
 rw[h3 i hne]at e
 obtain⟨d,o,y,g1,g2,g3,g4⟩:=h4.cel i x v hi hx e
 exact kcf_cell r.N (hcl.trans g1) (r.clIn _ (by rw[ec];exact Zz2 _ g2)) g3 (q y g4) hk hl hd
end
end PM
end
section
namespace My
open PySem PySem.W PySem.Calls PyProof.Rows PySem.Spec
structure Cell(v:Int): Prop where
 bits:Builtin.Int.intBits v≤2 ^ 20
theorem bits_zero: Builtin.Int.intBits 0≤2 ^ 20:=by unfold Builtin.Int.intBits;simp
theorem cell_at{ns:List Int}(h:PyData.layable0 (.list (ns.map .int))=true)(i:Int): Cell (cellAt ns i 0):=by
 refine⟨?_⟩
 rw[cellAt_def,List.getD_eq_getElem?_getD]
 cases e:ns[i.toNat]? with
 | none=>exact bits_zero
 | some v=>exact PyData.bits_item_of_ints h (List.mem_of_getElem? e)
section
variable {prog:Program} {w:World} {A:Around} {E:Value→Shared→Prop} {s:Shared} {x y:Int} {t u:Tok} {Q:Value→Shared→Prop}
@[irreducible] noncomputable def T9: Int:=10 ^ 9
theorem T9_eq: T9=1000000000:=by unfold T9;decide +kernel
end
end My
end
section
set_option autoImplicit false
/-! Reckoning with the plain machine. -/
namespace PM
open PySem PySem.W PyProof.Rows
section
variable (ρ:Lc) (H:Hp)
@[simp] theorem Zug: Zeh ρ H=some (none,H):=rfl
@[simp] theorem Zuh(f:Ex): Zei f ρ H=(f ρ H).map fun p=>(some p.1,p.2):=rfl
end
section
variable (a b:Int) (H:Hp)
end
theorem ZqG{b:Int}(hb:0≤b): Builtin.Range.rangeSize 0 b 1=b:=by
 unfold Builtin.Range.rangeSize
 rw[if_pos (by decide)]
 by_cases h:(0:Int)<b
 ·rw[if_pos h]
  omega
 ·rw[if_neg h]
  omega
theorem Zww{b:Int}{H:Hp}(hb:0≤b)(hb9:b≤1000): Zcw 0 b 1 H=some (Zex 0 1 b.toNat,b.toNat+1,H):=by
 unfold Zcw rngN
 rw[ZqG hb,if_pos]
 refine⟨by decide,?_,hb,by rw[Zbg];omega,?_⟩
 ·unfold Builtin.Range.small
  rw[ZqG hb]
  simp only[Builtin.Range.rangeFitsLong,Bool.and_eq_true,Bool.or_eq_true,decide_eq_true_eq,beq_iff_eq]
  rw[if_pos (by decide)]
  simp only[Bool.and_eq_true,decide_eq_true_eq]
  by_cases h:(0:Int)<b
  ·refine⟨⟨⟨⟨?_,?_⟩,?_⟩,?_⟩,Or.inr ?_⟩ <;> omega
  ·refine⟨⟨⟨⟨?_,?_⟩,?_⟩,?_⟩,?_⟩ <;> first | omega | (left;omega)
 ·exact PyProof.noPylong_small (by omega)
end PM
end
section
set_option autoImplicit false
namespace PM
open PySem PySem.W PyProof.Rows My
theorem ZoU{a b:Int}(h:IntMulOk a b): mulOk a b=true:=by
 unfold IntMulOk at h
 unfold mulOk
 cases e:(decide (Builtin.Int.intBits a>shortFactorBits) && decide (Builtin.Int.intBits b>shortFactorBits) && Builtin.Int.intTooBig (Builtin.Int.intBits a+Builtin.Int.intBits b))with
 | true=>exact absurd e h
 | false=>rfl
theorem Znn{a b:Int}{H:Hp}(h:0≤b∧(Builtin.Int.intBits a:Int)*b≤2 ^ 27): oPow (.int a) (.int b) H=some (.int (a ^ b.toNat),H):=by simp only[oPow];rw[if_pos h]
theorem Zxi(H:Hp): oPow (.int 10) (.int 9) H=some (.int T9,H):=by rw[Znn (by decide +kernel)];unfold T9;rfl
end PM
end
section
set_option autoImplicit false
namespace PM
open PySem PySem.W PyProof.Rows My
section
variable {ρ ρ1 ρ2:Lc} {H H1 H2 H3:Hp}
theorem Zwx{k:Int}: Zk k ρ H=some (.int k,H):=rfl
theorem Zvg{f g:Ex}{a:Nat}{k:Int}{n:Nat}{vs:List V}(h1:f ρ H=some (.ref a,H1))(h2:g ρ H1=some (.int k,H2))(e:H2[a]?=some vs)(hk:k=(n:Int)): Zdf f (Zei g) Zeh ρ H=some (.ref H2.length,H2++[vs.drop n]):=by
 simp only[Zdf,h1,Option.bind_some,Zuh,h2,Option.map_some,Zug,ZgP,e]
 rw[Zor vs hk]
end
end PM
end
section
set_option autoImplicit false
/-! Forward reckoning: what comes, told by a claim. -/
namespace PM
open PySem PySem.W PyProof.Rows My
noncomputable def Rg(xs:List V)(H:Hp)(G:Nx→Nat→Hp→Prop): Prop:=∃n:Nat,xs=[.int n]∧n≤1000∧G (Zex 0 1 n) (n+1) H
section
variable {ρ:Lc} {H:Hp} {Q:V→Hp→Prop} {L:List V→Hp→Prop} {T:Bool→Hp→Prop} {R:V→Hp→Prop} {N:Lc→Hp→Prop}
variable {a b:Int}
end
end PM
end
section
set_option autoImplicit false
namespace PM
open PySem PySem.W PyProof.Rows PyProof
noncomputable def ZdU(f:Ex)(k:Nat): Ex:=fun ρ H=>(f ρ H).bind fun p=>match p.1 with
 | .ref i=>p.2[i]?.bind fun vs=>some (.ref p.2.length,p.2++[vs.drop k])
 | .tup vs=>if 1≤k∧k≤vs.length then some (.tup (vs.drop k),p.2)else none
 | _=>none
section
variable {prog:Program} {w:World} {Γ:Cx}
theorem Ziv{e lo:Expr}{p pos:Pos}{f:Ex}{k:Nat}(h:J prog w Γ e f)(hlo:J prog w Γ lo (Zk k))(ht:∀o r,letTemporaryGo e o r=pure ():=by intro _ _;rfl): J prog w Γ (.Subscript e (.Slice (Option.some lo) Option.none Option.none p) pos) (ZdU f k):=by
 intro W ρ H fr s Q E v H' r hf post
 obtain⟨⟨v1,H1⟩,e1,hf⟩:=Zz0.mp hf
 cases v1 with
 | none=>cases hf
 | bool _=>cases hf
 | int _=>cases hf
 | str _=>cases hf
 | ref i=>
  obtain⟨vs,e2,e3⟩:=Zz0.mp hf
  refine Zif h (JP.some hlo) JP.none ht W ρ H fr s Q E v H' r ?_ post
  rw[Zvg (n:=k) e1 Zwx e2 rfl]
  exact e3
 | tup vs=>
  simp only at hf
  by_cases c:1≤k∧k≤vs.length
  ·rw[if_pos c]at hf
   cases hf
   refine wpAny_Subscript_Slice (T:="tuple") slot_tuple_getitem.lookup (h W ρ H fr s _ E _ _ r e1 fun W1 k1 t1 x l1 r1 x1=>?_) ht
   refine wpAny_Slice ?_
   refine wpAny_evalPart_some (hlo W1 ρ _ fr _ _ E _ _ r1 rfl fun W2 k2 t2 y l2 r2 y2=>?_)
   refine wpAny_evalPart_none ?_
   refine wpAny_evalPart_none ?_
   cases y2 with
   | int _ u=>
    have x2:=x1.mono l2
    cases x2 with
    | @tup _ a ys kk hm hl hs=>
     have it:IsTup k2 a ys.toArray:=⟨_,r2.tupAt hm,rfl,kk,rfl⟩
     have it':IsTup (k2.push { cls:=.type "slice",data:=.fields #[.int k u,.none,.none] }) a ys.toArray:=it.keeps fun _ _ e=>Heap.get?_push_of_some _ e
     have hlen:=hs.length
     rw[Zbg]at hl
     refine⟨it'.typeIs,getItem_tuple_from it' (Heap.IsSliceOf.new ..) c.1 (by simp[hlen];exact c.2) ?_ (Zda (by simp[hlen];rw[Zbg];exact hl))⟩
     obtain⟨W4,l4,r4,v4⟩:=(r2.push { cls:=.type "slice",data:=.fields #[.int k u,.none,.none] }).tuple (k:=0) (hs.drop k) (by rw[Zbg];simp;omega)
     have:=post W4 _ t2 _ ((l1.trans l2).trans l4) r4 v4
     simpa using this
  ·rw[if_neg c]at hf
   cases hf
end
section
variable {ρ:Lc} {H:Hp} {Q:V→Hp→Prop}
theorem ZqH{a b c:Int}(hc:0<c)(hb:a<b): Builtin.Range.rangeSize a b c=(b-a-1) / c+1:=by
 unfold Builtin.Range.rangeSize
 rw[if_pos hc,if_pos hb]
theorem Zwy{a b c:Int}{H:Hp}(ha:0≤a)(hb:a<b)(hb9:b≤1000)(hc:0<c)(hc9:c≤1000): Zcw a b c H=some (Zex a c (rngN a b c),rngN a b c+1,H):=by
 have e:=ZqH hc hb
 have h0:0≤(b-a-1) / c:=Int.ediv_nonneg (by omega) (by omega)
 have h2:(b-a-1) / c≤b-a-1:=Int.ediv_le_self _ (by omega)
 unfold Zcw
 rw[if_pos]
 refine⟨by omega,?_,by omega,by unfold rngN;rw[Zbg];omega,PyProof.noPylong_small (by omega)⟩
 unfold Builtin.Range.small
 rw[e]
 simp only[Builtin.Range.rangeFitsLong,Bool.and_eq_true,Bool.or_eq_true,decide_eq_true_eq,beq_iff_eq]
 rw[if_pos hc]
 simp only[Bool.and_eq_true,decide_eq_true_eq]
 refine⟨⟨⟨⟨?_,?_⟩,?_⟩,?_⟩,?_⟩ <;> first | omega | (left;omega) | (right;omega)
end
end PM
end
section
set_option autoImplicit false
namespace PM
open PySem PySem.W PyProof.Rows PyProof My
section
variable {ρ:Lc} {H:Hp} {Q:V→Hp→Prop} {L:List V→Hp→Prop}
end
noncomputable def od: Option Int→PyData
 | none=>.none
 | some k=>.int k
theorem ZnU{a:Int}{k:Nat}(h:Builtin.Int.intBits a≤k): a.natAbs<2 ^ k:=by
 unfold Builtin.Int.intBits at h
 by_cases z:a=0
 ·subst z
  exact Nat.two_pow_pos k
 ·rw[if_neg (by simpa using z)]at h
  exact Nat.lt_of_lt_of_le Nat.lt_log2_self (Nat.pow_le_pow_right (by decide) h)
theorem Zui{a b:Int}{k:Nat}(ha:Builtin.Int.intBits a≤k)(hb:Builtin.Int.intBits b≤k): Builtin.Int.intBits (a+b)≤k+1:=by
 refine PyProof.Rows.intBits_le ?_
 have h1:=ZnU ha
 have h2:=ZnU hb
 rw[Nat.pow_succ]
 omega
theorem ZoV{a b:Int}(ha:Builtin.Int.intBits a≤2 ^ 21)(hb:Builtin.Int.intBits b≤2 ^ 21): mulOk a b=true:=by
 have e:(2:Nat) ^ 21=2097152:=by decide
 have h:Builtin.Int.intTooBig (Builtin.Int.intBits a+Builtin.Int.intBits b)=false:=by
  unfold Builtin.Int.intTooBig bitsLine
  exact decide_eq_false (by omega)
 unfold mulOk
 rw[h]
 simp
theorem Ztx{a b:Int}(h1:-(2 ^ 64)<b)(h2:b<2 ^ 64): mulOk a b=true:=ZoU (IntMulOk.of_right (intBits_le_64 h1 h2))
theorem ZsF{a b:Int}(h1:-(2 ^ 64)<a)(h2:a<2 ^ 64): mulOk a b=true:=ZoU (IntMulOk.of_left (intBits_le_64 h1 h2))
@[irreducible] noncomputable def M9: Int:=48271 ^ Int.toNat 9
@[irreducible] noncomputable def T40: Int:=10 ^ Int.toNat 40
theorem Zwz(H:Hp): oPow (.int 48271) (.int 9) H=some (.int M9,H):=by rw[Znn (by decide +kernel)];unfold M9;rfl
theorem ZwA(H:Hp): oPow (.int 10) (.int 40) H=some (.int T40,H):=by rw[Znn (by decide +kernel)];unfold T40;rfl
theorem ZgE: T40=10000000000000000000000000000000000000000:=by unfold T40;decide +kernel
theorem Zvh: Builtin.Int.intBits M9≤2 ^ 21:=by
 unfold M9
 exact Nat.le_trans (PyProof.Rows.intBits_le (k:=256) (by decide +kernel)) (by decide)
section
variable {H:Hp} {Q:V→Hp→Prop} {a b:Int}
end
end PM
end
section
set_option autoImplicit false
/-! The tree machine: values without places; lists that nobody else holds may be changed. -/
namespace TM
open PySem PM
inductive T where
 | none
 | bool (b:Bool)
 | int (i:Int)
 | str (s:Str)
 | tup (ts:List T)
 | lst (ts:List T)
mutual
inductive RF(H:Hp): V→T→List Nat→Prop where
 | none:RF H .none .none []
 | bool (b:Bool):RF H (.bool b) (.bool b) []
 | int (i:Int):RF H (.int i) (.int i) []
 | str (s:Str):RF H (.str s) (.str s) []
 | tup {vs:List V} {ts:List T} {F:List Nat}:RFs H vs ts F→RF H (.tup vs) (.tup ts) F
 | ref {a:Nat} {vs:List V} {ts:List T} {F:List Nat}:H[a]?=some vs→RFs H vs ts F→RF H (.ref a) (.lst ts) (a::F)
inductive RFs(H:Hp): List V→List T→List Nat→Prop where
 | nil:RFs H [] [] []
 | cons {v:V} {t:T} {F:List Nat} {vs:List V} {ts:List T} {G:List Nat}:RF H v t F→RFs H vs ts G→RFs H (v::vs) (t::ts) (F++G)
end
mutual
theorem RF.frame{H H':Hp}{v:V}{t:T}{F:List Nat}(r:RF H v t F)(h:∀a∈F,H'[a]?=H[a]?): RF H' v t F:=by
 cases r with
 | none=>exact .none
 | bool b=>exact .bool b
 | int i=>exact .int i
 | str s=>exact .str s
 | tup hs=>exact .tup (RFs.frame hs h)
 | ref e hs=>exact .ref ((h _ Zz5).trans e) (RFs.frame hs fun a m=>h a (Zz2 _ m))
theorem RFs.frame{H H':Hp}{vs:List V}{ts:List T}{F:List Nat}(r:RFs H vs ts F)(h:∀a∈F,H'[a]?=H[a]?): RFs H' vs ts F:=by
 cases r with
 | nil=>exact .nil
 | cons a b=>exact .cons (RF.frame a fun x m=>h x (Zz4 _ m)) (RFs.frame b fun x m=>h x (Zz3 _ m))
end
mutual
theorem RF.lt{H:Hp}{v:V}{t:T}{F:List Nat}(r:RF H v t F): ∀a∈F,a<H.length:=by
 cases r with
 | none=>intro a m;cases m
 | bool b=>intro a m;cases m
 | int i=>intro a m;cases m
 | str s=>intro a m;cases m
 | tup hs=>exact RFs.lt hs
 | ref e hs=>
  intro x m
  rcases Zz7.mp m with rfl | m
  ·exact(Zz6.mp e).1
  ·exact RFs.lt hs x m
theorem RFs.lt{H:Hp}{vs:List V}{ts:List T}{F:List Nat}(r:RFs H vs ts F): ∀a∈F,a<H.length:=by
 cases r with
 | nil=>intro a m;cases m
 | cons a b=>
  intro x m
  rcases Zz8.mp m with m | m
  ·exact RF.lt a x m
  ·exact RFs.lt b x m
end
theorem RF.ext{H:Hp}{v:V}{t:T}{F:List Nat}(r:RF H v t F)(X:Hp): RF (H++X) v t F:=r.frame fun a m=>List.getElem?_append_left (r.lt a m)
theorem RFs.ext{H:Hp}{vs:List V}{ts:List T}{F:List Nat}(r:RFs H vs ts F)(X:Hp): RFs (H++X) vs ts F:=r.frame fun a m=>List.getElem?_append_left (r.lt a m)
theorem RFs.length{H:Hp}: ∀{vs:List V} {ts:List T} {F:List Nat},RFs H vs ts F→vs.length=ts.length
 | _,_,_,.nil=>rfl
 | _,_,_,.cons _ r=>by rw[List.length_cons,List.length_cons,r.length]
theorem RFs.append{H:Hp}: ∀{vs us:List V} {ts ss:List T} {F G:List Nat},RFs H vs ts F→RFs H us ss G→RFs H (vs++us) (ts++ss) (F++G)
 | _,_,_,_,_,_,.nil,h=>h
 | _,_,_,_,_,_,.cons a r,h=>by rw[List.append_assoc];exact .cons a (r.append h)
theorem RFs.one{H:Hp}{v:V}{t:T}{F:List Nat}(r:RF H v t F): RFs H [v] [t] F:=by
 have:=RFs.cons r RFs.nil
 rwa [List.append_nil]at this
theorem RFs.snoc{H:Hp}{vs:List V}{ts:List T}{F G:List Nat}{v:V}{t:T}(r:RFs H vs ts F)(x:RF H v t G): RFs H (vs++[v]) (ts++[t]) (F++G):=r.append (.one x)
theorem RFs.at{H:Hp}: ∀{vs:List V} {ts:List T} {F:List Nat} {i:Nat} {t:T},RFs H vs ts F→ts[i]?=some t→∃v G,vs[i]?=some v∧RF H v t G∧G.Sublist F
 | _,_,_,_,_,.nil,e=>by simp at e
 | _,_,_,0,_,.cons a _,e=>by
  simp at e
  exact⟨_,_,by simp,e▸a,List.sublist_append_left _ _⟩
 | _,_,_,i+1,_,.cons _ r,e=>by
  simp at e
  obtain⟨x,G,hx,hr,hs⟩:=r.at e
  exact⟨x,G,by simpa using hx,hr,hs.trans (List.sublist_append_right _ _)⟩
theorem RFs.drop{H:Hp}: ∀{vs:List V} {ts:List T} {F:List Nat} (i:Nat),RFs H vs ts F→∃G,RFs H (vs.drop i) (ts.drop i) G∧G.Sublist F
 | _,_,_,0,h=>⟨_,h,List.Sublist.refl _⟩
 | _,_,_,_+1,.nil=>⟨_,.nil,List.Sublist.refl _⟩
 | _,_,_,i+1,.cons _ r=>by
  obtain⟨G,h1,h2⟩:=r.drop i
  exact⟨G,h1,h2.trans (List.sublist_append_right _ _)⟩
theorem RFs.split{H:Hp}: ∀{vs:List V} {ts:List T} {F:List Nat} {i:Nat} {t:T},RFs H vs ts F→ts[i]?=some t →
  ∃v G F1 F2,vs[i]?=some v∧RF H v t G∧F=F1++(G++F2)∧∀(H':Hp) (w:V) (t':T) (G':List Nat),RF H' w t' G'→(∀a∈F1,H'[a]?=H[a]?)→(∀a∈F2,H'[a]?=H[a]?)→RFs H' (vs.set i w) (ts.set i t') (F1++(G'++F2))
 | _,_,_,_,_,.nil,e=>by simp at e
 | _,_,_,0,_,.cons (G:=G1) a r,e=>by
  simp at e
  subst e
  exact⟨_,_,[],G1,by simp,a,by simp,fun H' w t' G' x _ h2=>by simpa using RFs.cons x (r.frame h2)⟩
 | _,_,_,i+1,_,.cons (F:=F0) a r,e=>by
  simp at e
  obtain⟨v,G,F1,F2,h1,h2,h3,h4⟩:=r.split e
  refine⟨v,G,F0++F1,F2,by simpa using h1,h2,by rw[h3];simp,fun H' w t' G' x k1 k2=>?_⟩
  have:=RFs.cons (a.frame fun b m=>k1 b (Zz4 _ m)) (h4 H' w t' G' x (fun b m=>k1 b (Zz3 _ m)) k2)
  simpa using this
theorem ZoW{α:Type}{xs:List α}{i:Nat}{x:α}(h:xs[i]?=some x): xs.set i x=xs:=by
 obtain⟨hi,e⟩:=Zz6.mp h
 rw[←e]
 exact List.set_getElem_self hi
theorem nd3{F1 G F2 G' Gn:List Nat}(nd:(F1++(G++F2)).Nodup)(n':G'.Nodup)(sub:∀a∈G',a∈G∨a∈Gn)(ds:∀a∈Gn,a∉F1++(G++F2)): (F1++(G'++F2)).Nodup:=by
 rw[List.nodup_append,List.nodup_append]at nd ⊢
 obtain⟨a1,⟨a2,a3,a4⟩,a5⟩:=nd
 refine⟨a1,⟨n',a3,fun x hx y hy e=>?_⟩,fun x hx y hy e=>?_⟩
 ·rcases sub x hx with m | m
  ·exact a4 x m y hy e
  ·exact ds x m (Zz3 _ (Zz3 _ (e▸hy)))
 ·rcases Zz8.mp hy with m | m
  ·rcases sub y m with q | q
   ·exact a5 x hx y (Zz4 _ q) e
   ·exact ds y q (Zz4 _ (e▸hx))
  ·exact a5 x hx y (Zz3 _ m) e
theorem in3{F1 G F2 G' Gn:List Nat}(sub:∀a∈G',a∈G∨a∈Gn): ∀a∈F1++(G'++F2),a∈F1++(G++F2)∨a∈Gn:=by
 intro a m
 rcases Zz8.mp m with m | m
 ·exact .inl (Zz4 _ m)
 ·rcases Zz8.mp m with m | m
  ·exact(sub a m).imp (fun q=>List.mem_append_right _ (Zz4 _ q)) id
  ·exact .inl (Zz3 _ (Zz3 _ m))
mutual
noncomputable def T.flat: T→Bool
 | .lst _=>false
 | .tup ts=>T.flats ts
 | .none=>true
 | .bool _=>true
 | .int _=>true
 | .str _=>true
noncomputable def T.flats: List T→Bool
 | []=>true
 | t::ts=>t.flat && T.flats ts
end
mutual
theorem RF.flat{H:Hp}{v:V}{t:T}{F:List Nat}(r:RF H v t F)(h:t.flat=true): F=[]:=by
 cases r with
 | none=>rfl
 | bool b=>rfl
 | int i=>rfl
 | str s=>rfl
 | tup hs=>exact RFs.flats hs (by simpa [T.flat]using h)
 | ref e hs=>simp[T.flat]at h
theorem RFs.flats{H:Hp}{vs:List V}{ts:List T}{F:List Nat}(r:RFs H vs ts F)(h:T.flats ts=true): F=[]:=by
 cases r with
 | nil=>rfl
 | cons a b=>
  simp only[T.flats,Bool.and_eq_true]at h
  rw[RF.flat a h.1,RFs.flats b h.2]
  rfl
end
noncomputable def T.flatIn: T→Bool
 | .lst ts=>T.flats ts
 | t=>t.flat
noncomputable def ZcB(f:List T→Option (List T)): List Int→T→Option T
 | [],.lst ts=>(f ts).map .lst
 | k::ks,.lst ts=>(seqIndex? k ts.length).bind fun j=>ts[j]?.bind fun t=>(ZcB f ks t).map fun u=>.lst (ts.set j u)
 | k::ks,.tup ts=>(seqIndex? k ts.length).bind fun j=>ts[j]?.bind fun t=>(ZcB f ks t).map fun u=>.tup (ts.set j u)
 | _,_=>none
inductive Lead(H:Hp): List Int→V→Nat→Prop where
 | nil {a:Nat}:Lead H [] (.ref a) a
 | ref {k:Int} {ks:List Int} {b:Nat} {vs:List V} {j:Nat} {v:V} {a:Nat}:H[b]?=some vs→seqIndex? k vs.length=some j→vs[j]?=some v→Lead H ks v a→Lead H (k::ks) (.ref b) a
 | tup {k:Int} {ks:List Int} {vs:List V} {j:Nat} {v:V} {a:Nat}:seqIndex? k vs.length=some j→vs[j]?=some v→Lead H ks v a→Lead H (k::ks) (.tup vs) a
theorem Zfs{H:Hp}{Gn:List Nat}{f:List T→Option (List T)}: ∀(ks:List Int) {v:V} {t t':T} {F:List Nat},RF H v t F→F.Nodup→(∀a∈Gn,a∉F)→ZcB f ks t=some t' →
  ∃a vs ts ts' G,Lead H ks v a∧a∈F∧H[a]?=some vs∧RFs H vs ts G∧f ts=some ts'∧G.Nodup∧a∉G∧(∀x∈G,x∈F) ∧
   ∀vs' G',RFs H vs' ts' G'→G'.Nodup→a∉G'→(∀x∈G',x∈G∨x∈Gn)→∃F',RF (H.set a vs') v t' F'∧F'.Nodup∧∀x∈F',x∈F∨x∈Gn
 | [],v,t,t',F,r,nd,ds,e=>by
  cases r with
  | @ref a vs ts G e1 hs=>
   obtain⟨ts',h1,h2⟩:=Zz1.mp e
   subst h2
   rw[List.nodup_cons]at nd
   refine⟨a,vs,ts,ts',G,.nil,List.mem_cons_self,e1,hs,h1,nd.2,nd.1,fun x m=>List.mem_cons_of_mem _ m,fun vs' G' r' n' na sub=>⟨a::G',?_,?_,?_⟩⟩
   ·have ha:=(Zz6.mp e1).1
    refine .ref (List.getElem?_set_self ha) (r'.frame fun b m=>List.getElem?_set_ne ?_)
    intro q
    subst q
    exact na m
   ·exact List.nodup_cons.mpr ⟨na,n'⟩
   ·intro x m
    rcases Zz7.mp m with rfl | m
    ·exact .inl Zz5
    ·exact(sub x m).imp (Zz2 _) id
  | none=>cases e
  | bool _=>cases e
  | int _=>cases e
  | str _=>cases e
  | tup _=>cases e
 | k::ks,v,t,t',F,r,nd,ds,e=>by
  cases r with
  | none=>cases e
  | bool _=>cases e
  | int _=>cases e
  | str _=>cases e
  | @tup vs ts _ hs=>
   obtain⟨j,e1,e⟩:=Zz0.mp e
   obtain⟨u,e2,e⟩:=Zz0.mp e
   obtain⟨u',e3,e⟩:=Zz1.mp e
   subst e
   obtain⟨w,G1,F1,F2,e4,g1,eF,rb⟩:=hs.split e2
   subst eF
   have nd1:G1.Nodup:=(List.nodup_append.mp (List.nodup_append.mp nd).2.1).1
   have hin:∀x∈G1,x∈F1++(G1++F2):=fun x m=>List.mem_append_right _ (Zz4 _ m)
   obtain⟨a,us,qs,qs',G,l,am,ea,hq,hf,gn,na,gs,go⟩:=Zfs ks g1 nd1 (fun b m q=>ds b m (hin b q)) e3
   refine⟨a,us,qs,qs',G,.tup (by rw[hs.length];exact e1) e4 l,hin a am,ea,hq,hf,gn,na,fun x m=>hin x (gs x m),fun vs' G' r' n' na' sub=>?_⟩
   obtain⟨G2,f1,f2,f3⟩:=go vs' G' r' n' na' sub
   obtain⟨a1,a2,a5⟩:=List.nodup_append.mp nd
   obtain⟨_,a3,a4⟩:=List.nodup_append.mp a2
   have:=rb (H.set a vs') w u' G2 f1 (fun b m=>List.getElem?_set_ne fun q=>a5 b m a (Zz4 _ am) q.symm) (fun b m=>List.getElem?_set_ne fun q=>a4 a am b m q)
   rw[ZoW e4]at this
   exact⟨_,.tup this,nd3 nd f2 f3 ds,in3 f3⟩
  | @ref b vs ts F' e0 hs=>
   obtain⟨j,e1,e⟩:=Zz0.mp e
   obtain⟨u,e2,e⟩:=Zz0.mp e
   obtain⟨u',e3,e⟩:=Zz1.mp e
   subst e
   obtain⟨w,G1,F1,F2,e4,g1,eF,rb⟩:=hs.split e2
   subst eF
   rw[List.nodup_cons]at nd
   obtain⟨nb,nd⟩:=nd
   have nd1:G1.Nodup:=(List.nodup_append.mp (List.nodup_append.mp nd).2.1).1
   have hin:∀x∈G1,x∈F1++(G1++F2):=fun x m=>List.mem_append_right _ (Zz4 _ m)
   have ds':∀a∈Gn,a∉F1++(G1++F2):=fun a m q=>ds a m (Zz2 _ q)
   obtain⟨a,us,qs,qs',G,l,am,ea,hq,hf,gn,na,gs,go⟩:=Zfs ks g1 nd1 (fun b m q=>ds' b m (hin b q)) e3
   refine⟨a,us,qs,qs',G,.ref e0 (by rw[hs.length];exact e1) e4 l,List.mem_cons_of_mem _ (hin a am),ea,hq,hf,gn,na,fun x m=>List.mem_cons_of_mem _ (hin x (gs x m)),fun vs' G' r' n' na' sub=>?_⟩
   obtain⟨G2,f1,f2,f3⟩:=go vs' G' r' n' na' sub
   obtain⟨a1,a2,a5⟩:=List.nodup_append.mp nd
   obtain⟨_,a3,a4⟩:=List.nodup_append.mp a2
   have:=rb (H.set a vs') w u' G2 f1 (fun b m=>List.getElem?_set_ne fun q=>a5 b m a (Zz4 _ am) q.symm) (fun b m=>List.getElem?_set_ne fun q=>a4 a am b m q)
   rw[ZoW e4]at this
   have hab:a≠b:=fun q=>nb (hin b (q▸am))
   refine⟨_,.ref ((List.getElem?_set_ne hab).trans e0) this,List.nodup_cons.mpr ⟨fun q=>?_,nd3 nd f2 f3 ds'⟩,fun x m=>?_⟩
   ·rcases in3 f3 b q with m | m
    ·exact nb m
    ·exact ds b m Zz5
   ·rcases Zz7.mp m with rfl | m
    ·exact .inl Zz5
    ·exact(in3 f3 x m).imp (Zz2 _) id
end TM
end
section
set_option autoImplicit false
namespace TM
open PySem PM
noncomputable abbrev TL:=Nat→Option T
noncomputable abbrev PE:=TL→Option T
noncomputable abbrev PEs:=TL→Option (List T)
noncomputable abbrev PB:=TL→Option Bool
noncomputable abbrev PG:=TL→Option (List T)
noncomputable def ZW(σ:TL)(i:Nat)(t:T): TL:=fun j=>if j=i then some t else σ j
structure Ctx where
 H0:Hp
 F0:List Nat
 P:Nat→Prop
structure St(c:Ctx)(O:List Nat)(ρ:Lc)(σ:TL)(H:Hp)(Φ:Nat→List Nat): Prop where
 slot:∀i t,σ i=some t→∃v,ρ i=some v∧RF H v t (Φ i)
 src:∀i t,σ i=some t→∀a∈Φ i,c.H0.length≤a∨c.P a
 own:∀i∈O,∀t,σ i=some t→(Φ i).Nodup∧(∀a∈Φ i,c.H0.length≤a∨a∈c.F0)∧∀j u,j≠i→σ j=some u→∀a∈Φ i,a∉Φ j
 len:c.H0.length≤H.length
 keep:∀a,a<c.H0.length→a∉c.F0→H[a]?=c.H0[a]?
 pos:0<c.H0.length
 f0:0∉c.F0
theorem St.ext{c:Ctx}{O:List Nat}{ρ:Lc}{σ:TL}{H:Hp}{Φ:Nat→List Nat}(s:St c O ρ σ H Φ)(X:Hp): St c O ρ σ (H++X) Φ:=
 ⟨fun i t e=>by obtain⟨v,h1,h2⟩:=s.slot i t e;exact⟨v,h1,h2.ext X⟩,s.src,s.own,by have:=s.len;rw[List.length_append];omega,fun a ha hn=>by
  rw[List.getElem?_append_left (Nat.lt_of_lt_of_le ha s.len)];exact s.keep a ha hn,s.pos,s.f0⟩
theorem St.less{c:Ctx}{O O':List Nat}{ρ:Lc}{σ:TL}{H:Hp}{Φ:Nat→List Nat}(s:St c O ρ σ H Φ)(h:∀i∈O',i∈O): St c O' ρ σ H Φ:=⟨s.slot,s.src,fun i hi=>s.own i (h i hi),s.len,s.keep,s.pos,s.f0⟩
noncomputable def From(H:Hp)(N:List Nat)(σ:TL)(Φ:Nat→List Nat)(a:Nat): Prop:=H.length≤a∨∃i∈N,(∃t,σ i=some t)∧a∈Φ i
theorem From.mono{H:Hp}{N N':List Nat}{σ:TL}{Φ:Nat→List Nat}{a:Nat}(f:From H N σ Φ a)(h:∀i∈N,i∈N'): From H N' σ Φ a:=f.imp id fun⟨i,hi,q⟩=>⟨i,h i hi,q⟩
theorem From.back{H X:Hp}{N:List Nat}{σ:TL}{Φ:Nat→List Nat}{a:Nat}(f:From (H++X) N σ Φ a): From H N σ Φ a:=f.imp (fun h=>by rw[List.length_append]at h;omega) id
theorem From.nil{H:Hp}{σ:TL}{Φ:Nat→List Nat}{a:Nat}(f:From H [] σ Φ a): H.length≤a:=f.elim id fun⟨_,hi,_⟩=>by cases hi
noncomputable def E(O N:List Nat)(u:Bool)(e:Ex)(p:PE): Prop:=∀(c:Ctx) (ρ:Lc) (σ:TL) (H:Hp) (Φ:Nat→List Nat) (t:T),St c O ρ σ H Φ→p σ=some t →
 ∃v X F,e ρ H=some (v,H++X)∧RF (H++X) v t F∧(∀a∈F,From H N σ Φ a)∧(u=true→F.Nodup)
noncomputable def Es(O N:List Nat)(u:Bool)(n:Nat)(e:Exs)(p:PEs): Prop:=∀(c:Ctx) (ρ:Lc) (σ:TL) (H:Hp) (Φ:Nat→List Nat) (ts:List T),St c O ρ σ H Φ→p σ=some ts →
 ts.length=n∧∃vs X F,e ρ H=some (vs,H++X)∧RFs (H++X) vs ts F∧(∀a∈F,From H N σ Φ a)∧(u=true→F.Nodup)
noncomputable def Bt(O:List Nat)(e:Ts)(p:PB): Prop:=∀(c:Ctx) (ρ:Lc) (σ:TL) (H:Hp) (Φ:Nat→List Nat) (b:Bool),St c O ρ σ H Φ→p σ=some b→∃X,e ρ H=some (b,H++X)
section
variable {O N:List Nat} {u:Bool}
theorem ZaZ{O':List Nat}{e:Ex}{p:PE}(x:E O' N u e p)(h:∀i∈O',i∈O:=by decide): E O N u e p:=fun c ρ σ H Φ t s=>x c ρ σ H Φ t (s.less h)
theorem E.sh{e:Ex}{p:PE}(x:E O N u e p): E O N false e p:=fun c ρ σ H Φ t s q=>by
 obtain⟨v,X,F,a1,a2,a3,a4⟩:=x c ρ σ H Φ t s q
 exact⟨v,X,F,a1,a2,a3,by simp⟩
noncomputable def Zj(k:Int): PE:=fun _=>some (.int k)
noncomputable def Z0: PE:=fun _=>some .none
noncomputable def Zch(b:Bool): PE:=fun _=>some (.bool b)
noncomputable def Za(i:Nat): PE:=fun σ=>σ i
theorem Zl(k:Int): E O [] true (Zk k) (Zj k):=fun c ρ σ H Φ t s q=>by
 cases q;exact⟨_,[],[],by simp[Zk],.int k,by simp,by simp⟩
theorem Zaa: E O [] true ZY Z0:=fun c ρ σ H Φ t s q=>by
 cases q;exact⟨_,[],[],by simp[ZY],.none,by simp,by simp⟩
theorem E.bool(k:Bool): E O [] true (Zcg k) (Zch k):=fun c ρ σ H Φ t s q=>by
 cases q;exact⟨_,[],[],by simp[Zcg],.bool k,by simp,by simp⟩
theorem Zc(i:Nat): E O [i] false (Zb i) (Za i):=fun c ρ σ H Φ t s q=>by
 obtain⟨v,h1,h2⟩:=s.slot i t q
 exact⟨v,[],Φ i,by simp[Zb,h1],by simpa using h2,fun a m=>.inr ⟨i,List.mem_cons_self,⟨t,q⟩,m⟩,by simp⟩
theorem E.own{i:Nat}(hi:i∈O): E O [i] true (Zb i) (Za i):=fun c ρ σ H Φ t s q=>by
 obtain⟨v,h1,h2⟩:=s.slot i t q
 exact⟨v,[],Φ i,by simp[Zb,h1],by simpa using h2,fun a m=>.inr ⟨i,List.mem_cons_self,⟨t,q⟩,m⟩,fun _=>(s.own i hi t q).1⟩
noncomputable def ZbE(p:PE): PE:=fun σ=>(p σ).bind fun t=>if t.flat then some t else none
theorem E.flat{e:Ex}{p:PE}(x:E O N u e p): E O [] true e (ZbE p):=fun c ρ σ H Φ t s q=>by
 obtain⟨t',e1,e2⟩:=Zz0.mp q
 by_cases h:t'.flat=true
 ·rw[if_pos h]at e2
  cases e2
  obtain⟨v,X,F,a1,a2,a3,a4⟩:=x c ρ σ H Φ t s e1
  have:=a2.flat h
  subst this
  exact⟨v,X,[],a1,a2,by simp,by simp⟩
 ·rw[if_neg h]at e2;cases e2
noncomputable def Zm: PEs:=fun _=>some []
noncomputable def Zf(p:PE)(q:PEs): PEs:=fun σ=>(p σ).bind fun t=>(q σ).bind fun ts=>some (t::ts)
theorem Zo: Es O [] true 0 Zn Zm:=fun c ρ σ H Φ ts s q=>by
 cases q;exact⟨rfl,[],[],[],by simp[Zn],.nil,by simp,by simp⟩
theorem Zh{M:List Nat}{u':Bool}{n:Nat}{e:Ex}{p:PE}{es:Exs}{ps:PEs}(x:E O N u e p)(y:Es O M u' n es ps): Es O (N++M) false (n+1) (Zg e es) (Zf p ps):=fun c ρ σ H Φ ts s q=>by
 obtain⟨t,e1,q⟩:=Zz0.mp q
 obtain⟨rs,e2,q⟩:=Zz0.mp q
 cases q
 obtain⟨v,X,F,a1,a2,a3,a4⟩:=x c ρ σ H Φ t s e1
 obtain⟨hl,vs,Y,G,b1,b2,b3,b4⟩:=y c ρ σ (H++X) Φ rs (s.ext X) e2
 refine⟨by simp[hl],v::vs,X++Y,F++G,by simp[Zg,a1,b1],?_,fun a m=>?_,by simp⟩
 ·rw[←List.append_assoc];exact .cons (a2.ext Y) b2
 ·rcases Zz8.mp m with m | m
  ·exact(a3 a m).mono fun i hi=>List.mem_append_left _ hi
  ·exact(b3 a m).back.mono fun i hi=>List.mem_append_right _ hi
theorem Zdb{M:List Nat}{n:Nat}{e:Ex}{p:PE}{es:Exs}{ps:PEs}(x:E O N true e p)(y:Es O M true n es ps)(hN:∀i∈N,i∈O)(hM:∀i∈N,i∉M): Es O (N++M) true (n+1) (Zg e es) (Zf p ps):=fun c ρ σ H Φ ts s q=>by
 obtain⟨t,e1,q⟩:=Zz0.mp q
 obtain⟨rs,e2,q⟩:=Zz0.mp q
 cases q
 obtain⟨v,X,F,a1,a2,a3,a4⟩:=x c ρ σ H Φ t s e1
 obtain⟨hl,vs,Y,G,b1,b2,b3,b4⟩:=y c ρ σ (H++X) Φ rs (s.ext X) e2
 refine⟨by simp[hl],v::vs,X++Y,F++G,by simp[Zg,a1,b1],?_,fun a m=>?_,fun _=>?_⟩
 ·rw[←List.append_assoc];exact .cons (a2.ext Y) b2
 ·rcases Zz8.mp m with m | m
  ·exact(a3 a m).mono fun i hi=>List.mem_append_left _ hi
  ·exact(b3 a m).back.mono fun i hi=>List.mem_append_right _ hi
 ·rw[List.nodup_append]
  refine⟨a4 rfl,b4 rfl,fun a ha b hb e=>?_⟩
  subst e
  have hlt:=a2.lt a ha
  rcases b3 a hb with h | ⟨j,hj,⟨tj,ej⟩,mj⟩
  ·omega
  ·obtain⟨vj,_,rj⟩:=s.slot j tj ej
   have:=rj.lt a mj
   rcases a3 a ha with h | ⟨i,hi,⟨ti,ei⟩,mi⟩
   ·omega
   ·exact(s.own i (hN i hi) ti ei).2.2 j tj (fun q=>hM i hi (q▸hj)) ej a mi mj
noncomputable def ZaC(p:PEs): PE:=fun σ=>(p σ).map .tup
noncomputable def ZaW(p:PEs): PE:=fun σ=>(p σ).map .lst
theorem E.tup{n:Nat}{e:Exs}{p:PEs}(x:Es O N u n e p)(hn:n≤LEN:=by decide): E O N u (Zaw e) (ZaC p):=fun c ρ σ H Φ t s q=>by
 obtain⟨ts,e1,e2⟩:=Zz1.mp q
 subst e2
 obtain⟨hl,vs,Y,G,b1,b2,b3,b4⟩:=x c ρ σ H Φ ts s e1
 have:=b2.length
 refine⟨.tup vs,Y,G,?_,.tup b2,b3,b4⟩
 simp only[Zaw,b1,Option.bind_some]
 rw[if_pos (by omega)]
theorem E.list{n:Nat}{e:Exs}{p:PEs}(x:Es O N u n e p)(hn:n≤LEN:=by decide): E O N u (Za4 e) (ZaW p):=fun c ρ σ H Φ t s q=>by
 obtain⟨ts,e1,e2⟩:=Zz1.mp q
 subst e2
 obtain⟨hl,vs,Y,G,b1,b2,b3,b4⟩:=x c ρ σ H Φ ts s e1
 have:=b2.length
 refine⟨.ref (H++Y).length,Y++[vs],(H++Y).length::G,?_,?_,fun a m=>?_,fun hu=>?_⟩
 ·simp only[Za4,b1,Option.bind_some]
  rw[if_pos (by omega),List.append_assoc]
 ·rw[←List.append_assoc];exact .ref (by simp) (b2.ext _)
 ·rcases Zz7.mp m with rfl | m
  ·exact .inl (by simp)
  ·exact b3 a m
 ·rw[List.nodup_cons]
  exact⟨fun m=>Nat.lt_irrefl _ (b2.lt _ m),b4 hu⟩
noncomputable def OA2(o:V→V→Hp→Option (V×Hp))(q:T→T→Option T): Prop:=∀(H:Hp) (v1 v2:V) (t1 t2 t:T) (F1 F2:List Nat),RF H v1 t1 F1→RF H v2 t2 F2→q t1 t2=some t→∃v,o v1 v2 H=some (v,H)∧RF H v t []
noncomputable def OI2(o:V→V→Hp→Option (V×Hp))(q:T→T→Option T): Prop:=∀(H:Hp) (v1 v2:V) (t1 t2 t:T) (F1 F2:List Nat),RF H v1 t1 F1→RF H v2 t2 F2→q t1 t2=some t→∃v F,o v1 v2 H=some (v,H)∧RF H v t F∧F.Sublist F1
noncomputable def OC2(o:V→V→Hp→Option (V×Hp))(q:T→T→Option T): Prop:=∀(H:Hp) (v1 v2:V) (t1 t2 t:T) (F1 F2:List Nat),RF H v1 t1 F1→RF H v2 t2 F2→q t1 t2=some t→∃v X F,o v1 v2 H=some (v,H++X)∧RF (H++X) v t F∧(∀a∈F,H.length≤a∨a∈F1∨a∈F2)∧(t.flatIn=true→F.Nodup∧∀a∈F,H.length≤a)
noncomputable def OA1(o:V→Hp→Option (V×Hp))(q:T→Option T): Prop:=∀(H:Hp) (v1:V) (t1 t:T) (F1:List Nat),RF H v1 t1 F1→q t1=some t→∃v,o v1 H=some (v,H)∧RF H v t []
noncomputable def OAn(o:List V→Hp→Option (V×Hp))(q:List T→Option T): Prop:=∀(H:Hp) (vs:List V) (ts:List T) (t:T) (F:List Nat),RFs H vs ts F→q ts=some t→∃v,o vs H=some (v,H)∧RF H v t []
noncomputable def OCn(o:List V→Hp→Option (V×Hp))(q:List T→Option T): Prop:=∀(H:Hp) (vs:List V) (ts:List T) (t:T) (F1:List Nat),0<H.length→RFs H vs ts F1→q ts=some t→∃v X F,o vs H=some (v,H++X)∧RF (H++X) v t F∧(∀a∈F,H.length≤a∨a∈F1)∧(t.flatIn=true→F.Nodup∧∀a∈F,H.length≤a)
noncomputable def Zd(q:T→T→Option T)(p1 p2:PE): PE:=fun σ=>(p1 σ).bind fun x=>(p2 σ).bind fun y=>q x y
noncomputable def pUn(q:T→Option T)(p1:PE): PE:=fun σ=>(p1 σ).bind fun x=>q x
noncomputable def Zw(q:List T→Option T)(ps:PEs): PE:=fun σ=>(ps σ).bind fun xs=>q xs
noncomputable def pFl(p:PE): PE:=fun σ=>(p σ).bind fun t=>if t.flatIn then some t else none
theorem ZhQ{M:List Nat}{u':Bool}{e1 e2:Ex}{p1 p2:PE}{q:T→T→Option T}{o:V→V→Hp→Option (V×Hp)}{c:Ctx}{ρ:Lc}{σ:TL}{H:Hp}{Φ:Nat→List Nat}{t:T}(x:E O N u e1 p1)(y:E O M u' e2 p2)(s:St c O ρ σ H Φ)(h:Zd q p1 p2 σ=some t):
  ∃t1 t2 v1 v2 X F1 F2,q t1 t2=some t∧RF (H++X) v1 t1 F1∧RF (H++X) v2 t2 F2∧(∀a∈F1,From H N σ Φ a)∧(∀a∈F2,From H M σ Φ a)∧(u=true→F1.Nodup)∧Ze o e1 e2 ρ H=o v1 v2 (H++X):=by
 obtain⟨t1,h1,h⟩:=Zz0.mp h
 obtain⟨t2,h2,h⟩:=Zz0.mp h
 obtain⟨v,X,F,a1,a2,a3,a4⟩:=x c ρ σ H Φ t1 s h1
 obtain⟨w,Y,G,b1,b2,b3,b4⟩:=y c ρ σ (H++X) Φ t2 (s.ext X) h2
 rw[List.append_assoc]at b1 b2
 refine⟨t1,t2,v,w,X++Y,F,G,h,?_,b2,a3,fun a m=>(b3 a m).back,a4,by simp only[Ze,a1,b1,Option.bind_some]⟩
 rw[←List.append_assoc];exact a2.ext Y
theorem ZC{M:List Nat}{u':Bool}{e1 e2:Ex}{p1 p2:PE}{q:T→T→Option T}{o:V→V→Hp→Option (V×Hp)}(k:OA2 o q)(x:E O N u e1 p1)(y:E O M u' e2 p2): E O [] true (Ze o e1 e2) (Zd q p1 p2):=fun c ρ σ H Φ t s h=>by
 obtain⟨t1,t2,v1,v2,X,F1,F2,hq,r1,r2,_,_,_,e⟩:=ZhQ (o:=o) x y s h
 obtain⟨v,h1,h2⟩:=k _ v1 v2 t1 t2 t F1 F2 r1 r2 hq
 exact⟨v,X,[],e.trans h1,h2,by simp,by simp⟩
theorem Zy{M:List Nat}{u':Bool}{e1 e2:Ex}{p1 p2:PE}{q:T→T→Option T}{o:V→V→Hp→Option (V×Hp)}(k:OI2 o q)(x:E O N u e1 p1)(y:E O M u' e2 p2): E O N u (Ze o e1 e2) (Zd q p1 p2):=fun c ρ σ H Φ t s h=>by
 obtain⟨t1,t2,v1,v2,X,F1,F2,hq,r1,r2,h1,_,hu,e⟩:=ZhQ (o:=o) x y s h
 obtain⟨v,F,k1,k2,k3⟩:=k _ v1 v2 t1 t2 t F1 F2 r1 r2 hq
 exact⟨v,X,F,e.trans k1,k2,fun a m=>h1 a (k3.subset m),fun h=>(hu h).sublist k3⟩
theorem ZU{M:List Nat}{u':Bool}{e1 e2:Ex}{p1 p2:PE}{q:T→T→Option T}{o:V→V→Hp→Option (V×Hp)}(k:OC2 o q)(x:E O N u e1 p1)(y:E O M u' e2 p2): E O (N++M) false (Ze o e1 e2) (Zd q p1 p2):=fun c ρ σ H Φ t s h=>by
 obtain⟨t1,t2,v1,v2,X,F1,F2,hq,r1,r2,h1,h2,hu,e⟩:=ZhQ (o:=o) x y s h
 obtain⟨v,Y,F,k1,k2,k3,k4⟩:=k _ v1 v2 t1 t2 t F1 F2 r1 r2 hq
 rw[List.append_assoc]at k1 k2
 refine⟨v,X++Y,F,e.trans k1,k2,fun a m=>?_,by simp⟩
 rcases k3 a m with h | h | h
 ·exact .inl (by rw[List.length_append]at h;omega)
 ·exact(h1 a h).mono fun i hi=>List.mem_append_left _ hi
 ·exact(h2 a h).mono fun i hi=>List.mem_append_right _ hi
theorem Zea{M:List Nat}{u':Bool}{e1 e2:Ex}{p1 p2:PE}{q:T→T→Option T}{o:V→V→Hp→Option (V×Hp)}(k:OC2 o q)(x:E O N u e1 p1)(y:E O M u' e2 p2): E O [] true (Ze o e1 e2) (pFl (Zd q p1 p2)):=fun c ρ σ H Φ t s h=>by
 obtain⟨t',h,hf⟩:=Zz0.mp h
 by_cases fl:t'.flatIn=true
 ·rw[if_pos fl]at hf
  cases hf
  obtain⟨t1,t2,v1,v2,X,F1,F2,hq,r1,r2,h1,h2,hu,e⟩:=ZhQ (o:=o) x y s h
  obtain⟨v,Y,F,k1,k2,k3,k4⟩:=k _ v1 v2 t1 t2 t F1 F2 r1 r2 hq
  rw[List.append_assoc]at k1 k2
  exact⟨v,X++Y,F,e.trans k1,k2,fun a m=>.inl (by have:=(k4 fl).2 a m;rw[List.length_append]at this;omega),fun _=>(k4 fl).1⟩
 ·rw[if_neg fl]at hf;cases hf
theorem Zej{e1:Ex}{p1:PE}{q:T→Option T}{o:V→Hp→Option (V×Hp)}(k:OA1 o q)(x:E O N u e1 p1): E O [] true (eUn o e1) (pUn q p1):=fun c ρ σ H Φ t s h=>by
 obtain⟨t1,h1,h⟩:=Zz0.mp h
 obtain⟨v,X,F,a1,a2,a3,a4⟩:=x c ρ σ H Φ t1 s h1
 obtain⟨w,b1,b2⟩:=k _ v t1 t F a2 h
 exact⟨w,X,[],by simp only[eUn,a1,Option.bind_some,b1],b2,by simp,by simp⟩
theorem Zat{n:Nat}{es:Exs}{ps:PEs}{q:List T→Option T}{o:List V→Hp→Option (V×Hp)}(k:OAn o q)(x:Es O N u n es ps): E O [] true (ZA o es) (Zw q ps):=fun c ρ σ H Φ t s h=>by
 obtain⟨ts,h1,h⟩:=Zz0.mp h
 obtain⟨_,vs,X,F,a1,a2,a3,a4⟩:=x c ρ σ H Φ ts s h1
 obtain⟨w,b1,b2⟩:=k _ vs ts t F a2 h
 exact⟨w,X,[],by simp only[ZA,a1,Option.bind_some,b1],b2,by simp,by simp⟩
theorem Zgv{n:Nat}{es:Exs}{ps:PEs}{q:List T→Option T}{o:List V→Hp→Option (V×Hp)}(k:OCn o q)(x:Es O N u n es ps): E O N false (ZA o es) (Zw q ps):=fun c ρ σ H Φ t s h=>by
 obtain⟨ts,h1,h⟩:=Zz0.mp h
 obtain⟨_,vs,X,F,a1,a2,a3,a4⟩:=x c ρ σ H Φ ts s h1
 have hp:0<(H++X).length:=by have:=s.pos;have:=s.len;rw[List.length_append];omega
 obtain⟨w,Y,G,b1,b2,b3,b4⟩:=k _ vs ts t F hp a2 h
 rw[List.append_assoc]at b1 b2
 refine⟨w,X++Y,G,by simp only[ZA,a1,Option.bind_some,b1],b2,fun a m=>?_,by simp⟩
 rcases b3 a m with h | h
 ·exact .inl (by rw[List.length_append]at h;omega)
 ·exact a3 a h
theorem Zfj{n:Nat}{es:Exs}{ps:PEs}{q:List T→Option T}{o:List V→Hp→Option (V×Hp)}(k:OCn o q)(x:Es O N u n es ps): E O [] true (ZA o es) (pFl (Zw q ps)):=fun c ρ σ H Φ t s h=>by
 obtain⟨t',h,hf⟩:=Zz0.mp h
 by_cases fl:t'.flatIn=true
 ·rw[if_pos fl]at hf
  cases hf
  obtain⟨ts,h1,h⟩:=Zz0.mp h
  obtain⟨_,vs,X,F,a1,a2,a3,a4⟩:=x c ρ σ H Φ ts s h1
  have hp:0<(H++X).length:=by have:=s.pos;have:=s.len;rw[List.length_append];omega
  obtain⟨w,Y,G,b1,b2,b3,b4⟩:=k _ vs ts t F hp a2 h
  rw[List.append_assoc]at b1 b2
  exact⟨w,X++Y,G,by simp only[ZA,a1,Option.bind_some,b1],b2,fun a m=>.inl (by have:=(b4 fl).2 a m;rw[List.length_append]at this;omega),fun _=>(b4 fl).1⟩
 ·rw[if_neg fl]at hf;cases hf
noncomputable def SimF(fr:Bool)(f:List V→Hp→Option (V×Hp))(p:List T→Option T): Prop:=∀(H:Hp) (vs:List V) (ts:List T) (t:T) (F1:List Nat),0<H.length→RFs H vs ts F1→p ts=some t→∃v X F,f vs H=some (v,H++X)∧RF (H++X) v t F∧(∀a∈F,H.length≤a∨a∈F1)∧(fr=true→F.Nodup∧∀a∈F,H.length≤a)
theorem ZP{fr:Bool}{n:Nat}{es:Exs}{ps:PEs}{q:List T→Option T}{o:List V→Hp→Option (V×Hp)}(k:SimF fr o q)(x:Es O N u n es ps): E O N false (ZA o es) (Zw q ps):=fun c ρ σ H Φ t s h=>by
 obtain⟨ts,h1,h⟩:=Zz0.mp h
 obtain⟨_,vs,X,F,a1,a2,a3,a4⟩:=x c ρ σ H Φ ts s h1
 have hp:0<(H++X).length:=by have:=s.pos;have:=s.len;rw[List.length_append];omega
 obtain⟨w,Y,G,b1,b2,b3,b4⟩:=k _ vs ts t F hp a2 h
 rw[List.append_assoc]at b1 b2
 refine⟨w,X++Y,G,by simp only[ZA,a1,Option.bind_some,b1],b2,fun a m=>?_,by simp⟩
 rcases b3 a m with h | h
 ·exact .inl (by rw[List.length_append]at h;omega)
 ·exact a3 a h
theorem ZcS{n:Nat}{es:Exs}{ps:PEs}{q:List T→Option T}{o:List V→Hp→Option (V×Hp)}(k:SimF true o q)(x:Es O N u n es ps): E O [] true (ZA o es) (Zw q ps):=fun c ρ σ H Φ t s h=>by
 obtain⟨ts,h1,h⟩:=Zz0.mp h
 obtain⟨_,vs,X,F,a1,a2,a3,a4⟩:=x c ρ σ H Φ ts s h1
 have hp:0<(H++X).length:=by have:=s.pos;have:=s.len;rw[List.length_append];omega
 obtain⟨w,Y,G,b1,b2,b3,b4⟩:=k _ vs ts t F hp a2 h
 rw[List.append_assoc]at b1 b2
 exact⟨w,X++Y,G,by simp only[ZA,a1,Option.bind_some,b1],b2,fun a m=>.inl (by have:=(b4 rfl).2 a m;rw[List.length_append]at this;omega),fun _=>(b4 rfl).1⟩
noncomputable def ZbW: T→Option Bool
 | .bool b=>some b
 | .none=>some false
 | .int i=>some (i != 0)
 | _=>none
theorem Zd7{H:Hp}{v:V}{t:T}{F:List Nat}{b:Bool}(r:RF H v t F)(h:ZbW t=some b): ZcQ v H=some b:=by
 cases r <;> first | (cases h;rfl) | cases h
noncomputable def ZH(p:PE): PB:=fun σ=>(p σ).bind ZbW
noncomputable def ZcC(p:PB): PB:=fun σ=>(p σ).map fun b=>!b
noncomputable def Zah: PB:=fun _=>some true
noncomputable def Zcf: PB:=fun _=>some false
noncomputable def ZaK(p q:PB): PB:=fun σ=>(p σ).bind fun b=>if b then q σ else some false
noncomputable def bOr(p q:PB): PB:=fun σ=>(p σ).bind fun b=>if b then some true else q σ
theorem ZN{e:Ex}{p:PE}(x:E O N u e p): Bt O (ZK e) (ZH p):=fun c ρ σ H Φ b s h=>by
 obtain⟨t,h1,h⟩:=Zz0.mp h
 obtain⟨v,X,F,a1,a2,a3,a4⟩:=x c ρ σ H Φ t s h1
 exact⟨X,by simp only[ZK,a1,Option.bind_some,Zd7 a2 h,Option.map_some]⟩
theorem Zdg{e:Ts}{p:PB}(x:Bt O e p): Bt O (ZcM e) (ZcC p):=fun c ρ σ H Φ b s h=>by
 obtain⟨t,h1,h⟩:=Zz1.mp h
 subst h
 obtain⟨X,a1⟩:=x c ρ σ H Φ t s h1
 exact⟨X,by simp only[ZcM,a1,Option.map_some]⟩
theorem Zau: Bt O Zao Zah:=fun c ρ σ H Φ b s h=>by
 cases h;exact⟨[],by simp[Zao]⟩
theorem ZcG: Bt O Zcd Zcf:=fun c ρ σ H Φ b s h=>by
 cases h;exact⟨[],by simp[Zcd]⟩
theorem Za3{e f:Ts}{p q:PB}(x:Bt O e p)(y:Bt O f q): Bt O (ZaT e f) (ZaK p q):=fun c ρ σ H Φ b s h=>by
 obtain⟨t,h1,h⟩:=Zz0.mp h
 obtain⟨X,a1⟩:=x c ρ σ H Φ t s h1
 cases t with
 | true=>
  obtain⟨Y,b1⟩:=y c ρ σ (H++X) Φ b (s.ext X) (by simpa using h)
  exact⟨X++Y,by simp[ZaT,a1,b1]⟩
 | false=>cases h;exact⟨X,by simp[ZaT,a1]⟩
theorem Zbc{e f:Ts}{p q:PB}(x:Bt O e p)(y:Bt O f q): Bt O (tOr e f) (bOr p q):=fun c ρ σ H Φ b s h=>by
 obtain⟨t,h1,h⟩:=Zz0.mp h
 obtain⟨X,a1⟩:=x c ρ σ H Φ t s h1
 cases t with
 | false=>
  obtain⟨Y,b1⟩:=y c ρ σ (H++X) Φ b (s.ext X) (by simpa using h)
  exact⟨X++Y,by simp[tOr,a1,b1]⟩
 | true=>cases h;exact⟨X,by simp[tOr,a1]⟩
noncomputable def pIf(b:PB)(p q:PE): PE:=fun σ=>(b σ).bind fun x=>if x then p σ else q σ
noncomputable def ZiW(p:PE): PE:=fun σ=>(p σ).bind fun t=>(ZbW t).map fun b=>.bool !b
noncomputable def ZdY(p q:PE): PE:=fun σ=>(p σ).bind fun t=>(ZbW t).bind fun b=>if b then q σ else some t
noncomputable def pOr(p q:PE): PE:=fun σ=>(p σ).bind fun t=>(ZbW t).bind fun b=>if b then some t else q σ
theorem ZfB{M:List Nat}{b:Ts}{pb:PB}{e f:Ex}{p q:PE}(z:Bt O b pb)(x:E O N u e p)(y:E O M u f q): E O (N++M) u (eIf b e f) (pIf pb p q):=fun c ρ σ H Φ t s h=>by
 obtain⟨b',h1,h⟩:=Zz0.mp h
 obtain⟨X,a1⟩:=z c ρ σ H Φ b' s h1
 cases b' with
 | true=>
  obtain⟨v,Y,F,b1,b2,b3,b4⟩:=x c ρ σ (H++X) Φ t (s.ext X) (by simpa using h)
  exact⟨v,X++Y,F,by simp[eIf,a1,b1],by rw[←List.append_assoc];exact b2,fun a m=>(b3 a m).back.mono fun i hi=>List.mem_append_left _ hi,b4⟩
 | false=>
  obtain⟨v,Y,F,b1,b2,b3,b4⟩:=y c ρ σ (H++X) Φ t (s.ext X) (by simpa using h)
  exact⟨v,X++Y,F,by simp[eIf,a1,b1],by rw[←List.append_assoc];exact b2,fun a m=>(b3 a m).back.mono fun i hi=>List.mem_append_right _ hi,b4⟩
theorem Zxj{e:Ex}{p:PE}(x:E O N u e p): E O [] true (ZiS e) (ZiW p):=fun c ρ σ H Φ t s h=>by
 obtain⟨t1,h1,h⟩:=Zz0.mp h
 obtain⟨b,h2,h⟩:=Zz1.mp h
 subst h
 obtain⟨v,X,F,a1,a2,a3,a4⟩:=x c ρ σ H Φ t1 s h1
 exact⟨.bool !b,X,[],by simp only[ZiS,a1,Option.bind_some,Zd7 a2 h2,Option.map_some],.bool _,by simp,by simp⟩
theorem ZiL{M:List Nat}{e f:Ex}{p q:PE}(x:E O N u e p)(y:E O M u f q): E O (N++M) u (Zeo e f) (ZdY p q):=fun c ρ σ H Φ t s h=>by
 obtain⟨t1,h1,h⟩:=Zz0.mp h
 obtain⟨b,h2,h⟩:=Zz0.mp h
 obtain⟨v,X,F,a1,a2,a3,a4⟩:=x c ρ σ H Φ t1 s h1
 cases b with
 | true=>
  obtain⟨w,Y,F',b1,b2,b3,b4⟩:=y c ρ σ (H++X) Φ t (s.ext X) (by simpa using h)
  exact⟨w,X++Y,F',by simp[Zeo,a1,Zd7 a2 h2,b1],by rw[←List.append_assoc];exact b2,fun a m=>(b3 a m).back.mono fun i hi=>List.mem_append_right _ hi,b4⟩
 | false=>
  cases h
  exact⟨v,X,F,by simp[Zeo,a1,Zd7 a2 h2],a2,fun a m=>(a3 a m).mono fun i hi=>List.mem_append_left _ hi,a4⟩
theorem ZxN{M:List Nat}{e f:Ex}{p q:PE}(x:E O N u e p)(y:E O M u f q): E O (N++M) u (eOr e f) (pOr p q):=fun c ρ σ H Φ t s h=>by
 obtain⟨t1,h1,h⟩:=Zz0.mp h
 obtain⟨b,h2,h⟩:=Zz0.mp h
 obtain⟨v,X,F,a1,a2,a3,a4⟩:=x c ρ σ H Φ t1 s h1
 cases b with
 | false=>
  obtain⟨w,Y,F',b1,b2,b3,b4⟩:=y c ρ σ (H++X) Φ t (s.ext X) (by simpa using h)
  exact⟨w,X++Y,F',by simp[eOr,a1,Zd7 a2 h2,b1],by rw[←List.append_assoc];exact b2,fun a m=>(b3 a m).back.mono fun i hi=>List.mem_append_right _ hi,b4⟩
 | true=>
  cases h
  exact⟨v,X,F,by simp[eOr,a1,Zd7 a2 h2],a2,fun a m=>(a3 a m).mono fun i hi=>List.mem_append_left _ hi,a4⟩
noncomputable def ZmE: T→String
 | .none=>"NoneType"
 | .bool _=>"bool"
 | .int _=>"int"
 | .str _=>"str"
 | .tup _=>"tuple"
 | .lst _=>"list"
end
end TM
end
section
set_option autoImplicit false
namespace TM
open PySem PM
section
variable {O N:List Nat} {u:Bool}
noncomputable def Zig(K:String)(t:T): Bool:=ZmE t == K || (K == "int" && ZmE t == "bool")
noncomputable def pIs(K:String)(p:PE): PE:=fun σ=>(p σ).map fun t=>.bool (Zig K t)
theorem Zvi{H:Hp}{v:V}{t:T}{F:List Nat}(r:RF H v t F): ZmD v=ZmE t:=by cases r <;> rfl
theorem ZdZ{K:String}{e:Ex}{p:PE}(x:E O N u e p): E O [] true (eIs K e) (pIs K p):=fun c ρ σ H Φ t s h=>by
 obtain⟨t1,h1,h⟩:=Zz1.mp h
 subst h
 obtain⟨v,X,F,a1,a2,a3,a4⟩:=x c ρ σ H Φ t1 s h1
 exact⟨.bool (Zig K t1),X,[],by simp only[eIs,a1,Option.map_some,ZmZ,Zig,Zvi a2],.bool _,by simp,by simp⟩
noncomputable def Za5: T→T→Option T
 | .int a,.int b=>some (.int (a-b))
 | _,_=>none
noncomputable def ZcT: T→T→Option T
 | .int a,.int b=>if b≠0∧Builtin.divisionGoesByPylong a b=false then some (.int (a.fdiv b))else none
 | _,_=>none
noncomputable def Zbl: T→T→Option T
 | .int a,.int b=>if b≠0 then some (.int (a.fmod b))else none
 | _,_=>none
noncomputable def Zdo: T→T→Option T
 | .int a,.int b=>if 0≤b∧(Builtin.Int.intBits a:Int)*b≤2 ^ 27 then some (.int (a ^ b.toNat))else none
 | _,_=>none
noncomputable def Zdp: T→Option T
 | .int a=>some (.int (-a))
 | _=>none
noncomputable def ZiX(p:Int→Int→Bool): T→T→Option T
 | .int a,.int b=>some (.bool (p a b))
 | _,_=>none
noncomputable def qLt:=ZiX fun a b=>decide (a<b)
noncomputable def qLe:=ZiX fun a b=>decide (a≤b)
noncomputable def qGt:=ZiX fun a b=>decide (b<a)
theorem Zbi: OA2 Zba Za5:=fun H v1 v2 t1 t2 t F1 F2 r1 r2 h=>by
 cases r1 <;> first | (cases h;done) | (cases r2 <;> first | (cases h;done) | (cases h;exact⟨_,rfl,.int _⟩))
theorem ZdV: OA2 oDiv ZcT:=fun H v1 v2 t1 t2 t F1 F2 r1 r2 h=>by
 cases r1 <;> first | (cases h;done) | skip
 cases r2 <;> first | (cases h;done) | skip
 simp only[ZcT]at h
 split at h
 ·rename_i hc;cases h;exact⟨_,by simp only[oDiv];rw[if_pos hc],.int _⟩
 ·cases h
theorem ZbF: OA2 oMod Zbl:=fun H v1 v2 t1 t2 t F1 F2 r1 r2 h=>by
 cases r1 <;> first | (cases h;done) | skip
 cases r2 <;> first | (cases h;done) | skip
 simp only[Zbl]at h
 split at h
 ·rename_i hc;cases h;exact⟨_,by simp only[oMod];rw[if_pos hc],.int _⟩
 ·cases h
theorem Zno: OA2 oPow Zdo:=fun H v1 v2 t1 t2 t F1 F2 r1 r2 h=>by
 cases r1 <;> first | (cases h;done) | skip
 cases r2 <;> first | (cases h;done) | skip
 simp only[Zdo]at h
 split at h
 ·rename_i hc;cases h;exact⟨_,by simp only[oPow];rw[if_pos hc],.int _⟩
 ·cases h
theorem Zek: OA1 ZdB Zdp:=fun H v1 t1 t F1 r1 h=>by
 cases r1 <;> first | (cases h;done) | (cases h;exact⟨_,rfl,.int _⟩)
theorem Znp(p:Int→Int→Bool): OA2 (ZiT p) (ZiX p):=fun H v1 v2 t1 t2 t F1 F2 r1 r2 h=>by
 cases r1 <;> first | (cases h;done) | (cases r2 <;> first | (cases h;done) | (cases h;exact⟨_,rfl,.bool _⟩))
theorem Zcs: OA2 oLt qLt:=Znp _
theorem Znv: OA2 oLe qLe:=Znp _
theorem ZfG: OA2 oGt qGt:=Znp _
noncomputable def ZeH(f:T→Option PyData): List T→Option (List PyData)
 | []=>some []
 | v::vs=>(f v).bind fun d=>(ZeH f vs).bind fun ds=>some (d::ds)
noncomputable def ZcU: Nat→T→Option PyData
 | _,.none=>some .none
 | _,.bool b=>some (.bool b)
 | _,.int i=>some (.int i)
 | _,.str x=>some (.str x)
 | n+1,.tup vs=>(ZeH (ZcU n) vs).map .tuple
 | n+1,.lst vs=>(ZeH (ZcU n) vs).map .list
 | 0,.tup _=>none
 | 0,.lst _=>none
theorem ZmF{H:Hp}{f:V→Option PyData}{g:T→Option PyData}(h:∀v t F,RF H v t F→f v=g t): ∀{vs:List V} {ts:List T} {F:List Nat},RFs H vs ts F→ZfF f vs=ZeH g ts
 | _,_,_,.nil=>rfl
 | _,_,_,.cons a b=>by simp only[ZfF,ZeH,h _ _ _ a,ZmF h b]
theorem Ziw{H:Hp}: ∀(n:Nat) (v:V) (t:T) (F:List Nat),RF H v t F→toD H n v=ZcU n t:=by
 intro n
 induction n with
 | zero=>intro v t F r;cases r <;> rfl
 | succ n ih=>
  intro v t F r
  cases r with
  | none=>rfl
  | bool=>rfl
  | int=>rfl
  | str=>rfl
  | tup hs=>simp only[toD,ZcU,ZmF ih hs]
  | ref e hs=>simp only[toD,ZcU,e,Option.bind_some,ZmF ih hs]
noncomputable def Zeq(a b:T): Option Bool:=(ZcU ZbY a).bind fun d=>(ZcU ZbY b).bind fun e=>if SeqAt.shaped d=true∧SeqAt.shaped e=true then some (PyData.eqv d e)else none
noncomputable def qEq(a b:T): Option T:=(Zeq a b).map .bool
noncomputable def qNe(a b:T): Option T:=(Zeq a b).map fun c=>.bool !c
theorem Zqd{H:Hp}{v1 v2:V}{t1 t2:T}{F1 F2:List Nat}(r1:RF H v1 t1 F1)(r2:RF H v2 t2 F2): ZiU v1 v2 H=Zeq t1 t2:=by
 simp only[ZiU,Zeq,Ziw ZbY _ _ _ r1,Ziw ZbY _ _ _ r2]
theorem Za1: OA2 oEq qEq:=fun H v1 v2 t1 t2 t F1 F2 r1 r2 h=>by
 obtain⟨c,h1,h⟩:=Zz1.mp h
 subst h
 exact⟨_,by simp only[oEq,Zqd r1 r2,h1,Option.map_some],.bool _⟩
theorem ZbM: OA2 oNe qNe:=fun H v1 v2 t1 t2 t F1 F2 r1 r2 h=>by
 obtain⟨c,h1,h⟩:=Zz1.mp h
 subst h
 exact⟨_,by simp only[oNe,Zqd r1 r2,h1,Option.map_some],.bool _⟩
noncomputable def qIs: T→T→Option T
 | .none,.none=>some (.bool true)
 | _,.none=>some (.bool false)
 | _,_=>none
noncomputable def Zb4: T→T→Option T
 | .none,.none=>some (.bool false)
 | _,.none=>some (.bool true)
 | _,_=>none
theorem Zbv: OA2 oIs qIs:=fun H v1 v2 t1 t2 t F1 F2 r1 r2 h=>by
 cases r1 <;> cases r2 <;> first | (cases h;done) | (cases h;exact⟨_,rfl,.bool _⟩)
theorem ZcJ: OA2 Zcl Zb4:=fun H v1 v2 t1 t2 t F1 F2 r1 r2 h=>by
 cases r1 <;> cases r2 <;> first | (cases h;done) | (cases h;exact⟨_,rfl,.bool _⟩)
noncomputable def Zq: T→T→Option T
 | .lst ts,.int k=>(seqIndex? k ts.length).bind fun j=>ts[j]?
 | .tup ts,.int k=>(seqIndex? k ts.length).bind fun j=>ts[j]?
 | _,_=>none
theorem Zx: OI2 Zr Zq:=fun H v1 v2 t1 t2 t F1 F2 r1 r2 h=>by
 cases r1 with
 | none=>cases h
 | bool=>cases h
 | int=>cases h
 | str=>cases h
 | tup hs=>
  cases r2 <;> first | (cases h;done) | skip
  obtain⟨j,h1,h2⟩:=Zz0.mp h
  obtain⟨v,G,e1,e2,e3⟩:=hs.at h2
  exact⟨v,G,by simp only[Zr,hs.length,h1,Option.bind_some,e1,Option.map_some],e2,e3⟩
 | ref e hs=>
  cases r2 <;> first | (cases h;done) | skip
  obtain⟨j,h1,h2⟩:=Zz0.mp h
  obtain⟨v,G,e1,e2,e3⟩:=hs.at h2
  exact⟨v,G,by simp only[Zr,e,Option.bind_some,hs.length,h1,e1,Option.map_some],e2,e3.trans (List.sublist_cons_self _ _)⟩
noncomputable def Zaq: List T→Option T
 | [.lst ts]=>some (.int ts.length)
 | [.tup ts]=>some (.int ts.length)
 | _=>none
theorem RFs.one_inv{H:Hp}{vs:List V}{t:T}{F:List Nat}(r:RFs H vs [t] F): ∃v,vs=[v]∧RF H v t F:=by
 cases r with
 | cons a b=>cases b;rw[List.append_nil];exact⟨_,rfl,a⟩
theorem RFs.two_inv{H:Hp}{vs:List V}{t t':T}{F:List Nat}(r:RFs H vs [t,t'] F): ∃v v' F1 F2,vs=[v,v']∧RF H v t F1∧RF H v' t' F2∧F=F1++F2:=by
 cases r with
 | cons a b=>obtain⟨v',h1,h2⟩:=b.one_inv;subst h1;exact⟨_,_,_,_,rfl,a,h2,rfl⟩
theorem ZaJ: OAn Zay Zaq:=fun H vs ts t F r h=>by
 unfold Zaq at h
 split at h
 ·obtain⟨v,rfl,r'⟩:=r.one_inv
  cases r' with
  | ref e hs=>cases h;exact⟨_,by simp only[Zay,e,Option.map_some,hs.length],.int _⟩
 ·obtain⟨v,rfl,r'⟩:=r.one_inv
  cases r' with
  | tup hs=>cases h;exact⟨_,by simp only[Zay,hs.length],.int _⟩
 ·cases h
noncomputable def ZdD: List T→Option T
 | [.int a]=>some (.int (if a<0 then -a else a))
 | _=>none
theorem ZeI: OAn ZdC ZdD:=fun H vs ts t F r h=>by
 unfold ZdD at h
 split at h
 ·obtain⟨v,rfl,r'⟩:=r.one_inv
  cases r';cases h;exact⟨_,rfl,.int _⟩
 ·cases h
noncomputable def Zdl: List T→Option (List Int)
 | []=>some []
 | .int k::vs=>(Zdl vs).map fun ks=>k::ks
 | _::_=>none
noncomputable def Zft: List T→Option (List Bool)
 | []=>some []
 | .bool k::vs=>(Zft vs).map fun ks=>k::ks
 | _::_=>none
theorem Zih{H:Hp}: ∀{vs:List V} {ts:List T} {F:List Nat} {ks:List Int},RFs H vs ts F→Zdl ts=some ks→Zdv vs=some ks
 | _,_,_,_,.nil,h=>h
 | _,_,_,_,.cons a b,h=>by
  cases a <;> first | (cases h;done) | skip
  obtain⟨js,h1,h2⟩:=Zz1.mp h
  subst h2
  simp only[Zdv,Zih b h1,Option.map_some]
theorem ZoX{H:Hp}: ∀{vs:List V} {ts:List T} {F:List Nat} {ks:List Bool},RFs H vs ts F→Zft ts=some ks→Zfi vs=some ks
 | _,_,_,_,.nil,h=>h
 | _,_,_,_,.cons a b,h=>by
  cases a <;> first | (cases h;done) | skip
  obtain⟨js,h1,h2⟩:=Zz1.mp h
  subst h2
  simp only[Zfi,ZoX b h1,Option.map_some]
noncomputable def ZiY: List T→Option T
 | [.lst ts]=>(Zdl ts).map fun ks=>.int ks.sum
 | _=>none
noncomputable def ZgZ: List T→Option T
 | [.lst ts]=>(Zft ts).map fun bs=>.bool (bs.any id)
 | _=>none
theorem Zxk: OAn ZgW ZiY:=fun H vs ts t F r h=>by
 unfold ZiY at h
 split at h
 ·obtain⟨v,rfl,r'⟩:=r.one_inv
  cases r' with
  | ref e hs=>
   obtain⟨ks,h1,h2⟩:=Zz1.mp h
   subst h2
   exact⟨_,by simp only[ZgW,e,Option.bind_some,Zih hs h1,Option.map_some],.int _⟩
 ·cases h
theorem Zxl: OAn ZgY ZgZ:=fun H vs ts t F r h=>by
 unfold ZgZ at h
 split at h
 ·obtain⟨v,rfl,r'⟩:=r.one_inv
  cases r' with
  | ref e hs=>
   obtain⟨ks,h1,h2⟩:=Zz1.mp h
   subst h2
   exact⟨_,by simp only[ZgY,e,Option.bind_some,ZoX hs h1,Option.map_some],.bool _⟩
 ·cases h
theorem Zd0{H:Hp}{vs:List V}{ts:List T}{F:List Nat}(r:RFs H vs ts F): RF (H++[vs]) (.ref H.length) (.lst ts) (H.length::F):=.ref (by simp) (r.ext _)
theorem Ze7{H:Hp}{vs:List V}{ts:List T}{F:List Nat}(r:RFs H vs ts F)(h:T.flatIn (.lst ts)=true): (H.length::F).Nodup∧∀a∈H.length::F,H.length≤a:=by
 rw[r.flats (by simpa [T.flatIn]using h)]
 simp
theorem Zuj{H:Hp}{v:V}{t:T}{F:List Nat}(r:RF H v t F)(h:F=[]): F.Nodup∧∀a∈F,H.length≤a:=by subst h;simp
noncomputable def Zg0(ts:List T): Nat→List T
 | 0=>[]
 | n+1=>Zg0 ts n++ts
noncomputable def ZX: T→T→Option T
 | .int a,.int b=>some (.int (a+b))
 | .lst a,.lst b=>if(a++b).length≤LEN then some (.lst (a++b))else none
 | .tup a,.tup b=>if(a++b).length≤LEN then some (.tup (a++b))else none
 | _,_=>none
noncomputable def Zaz: T→T→Option T
 | .int a,.int b=>if mulOk a b=true then some (.int (a*b))else none
 | .lst a,.int k=>if a.length*k.toNat≤LEN∧-(2 ^ 63:Int)≤k∧k<2 ^ 63 then some (.lst (Zg0 a k.toNat))else none
 | _,_=>none
theorem Zqe{H:Hp}{vs:List V}{ts:List T}{F:List Nat}(r:RFs H vs ts F): ∀n,∃G,RFs H (ZeN vs n) (Zg0 ts n) G∧∀a∈G,a∈F
 | 0=>⟨_,.nil,by simp⟩
 | n+1=>by
  obtain⟨G,h1,h2⟩:=Zqe r n
  exact⟨_,h1.append r,fun a m=>(Zz8.mp m).elim (h2 a) id⟩
theorem Zab: OC2 Z3 ZX:=fun H v1 v2 t1 t2 t F1 F2 r1 r2 h=>by
 cases r1 with
 | none=>cases h
 | bool=>cases h
 | str=>cases h
 | int a=>
  cases r2 <;> first | (cases h;done) | skip
  cases h;exact⟨_,[],[],by simp[Z3],.int _,by simp,by simp⟩
 | tup hs1=>
  cases r2 with
  | none=>cases h
  | bool=>cases h
  | str=>cases h
  | int=>cases h
  | ref=>cases h
  | tup hs2=>
   simp only[ZX]at h
   split at h
   ·rename_i hl
    cases h
    refine⟨_,[],_,?_,.tup (by simpa using hs1.append hs2),fun a m=>.inr (Zz8.mp m),fun hf=>Zuj (H:=H) (.tup (hs1.append hs2)) ((RF.tup (hs1.append hs2)).flat (by simpa [T.flatIn]using hf))⟩
    simp only[Z3,List.append_nil]
    rw[if_pos (by rw[List.length_append]at hl ⊢;rw[hs1.length,hs2.length];exact hl)]
   ·cases h
 | ref e1 hs1=>
  cases r2 with
  | none=>cases h
  | bool=>cases h
  | str=>cases h
  | int=>cases h
  | tup=>cases h
  | ref e2 hs2=>
   simp only[ZX]at h
   split at h
   ·rename_i hl
    cases h
    refine⟨_,_,_,?_,Zd0 (hs1.append hs2),fun a m=>?_,Ze7 (hs1.append hs2)⟩
    ·simp only[Z3,e1,e2,Option.bind_some]
     rw[if_pos (by rw[List.length_append]at hl ⊢;rw[hs1.length,hs2.length];exact hl)]
    ·rcases Zz7.mp m with rfl | m
     ·exact .inl (Zz10 _)
     ·rcases Zz8.mp m with m | m
      ·exact .inr (.inl (Zz2 _ m))
      ·exact .inr (.inr (Zz2 _ m))
   ·cases h
theorem Za0: OC2 ZaO Zaz:=fun H v1 v2 t1 t2 t F1 F2 r1 r2 h=>by
 cases r1 with
 | none=>cases h
 | bool=>cases h
 | str=>cases h
 | tup=>cases h
 | int a=>
  cases r2 <;> first | (cases h;done) | skip
  simp only[Zaz]at h
  split at h
  ·rename_i hm
   cases h;exact⟨_,[],[],by simp only[ZaO];rw[if_pos hm];simp,.int _,by simp,by simp⟩
  ·cases h
 | ref e1 hs1=>
  cases r2 with
  | none=>cases h
  | bool=>cases h
  | str=>cases h
  | tup=>cases h
  | ref=>cases h
  | int k=>
   simp only[Zaz]at h
   split at h
   ·rename_i hl
    cases h
    obtain⟨G,h1,h2⟩:=Zqe hs1 k.toNat
    refine⟨_,_,_,?_,Zd0 h1,fun a m=>?_,Ze7 h1⟩
    ·simp only[ZaO,e1,Option.bind_some]
     rw[if_pos (by rw[hs1.length];exact hl)]
    ·rcases Zz7.mp m with rfl | m
     ·exact .inl (Zz10 _)
     ·exact .inr (.inl (Zz2 _ (h2 a m)))
   ·cases h
noncomputable def Zcm: List T→Option T
 | [.lst ts]=>some (.lst ts)
 | [.tup ts]=>some (.lst ts)
 | _=>none
noncomputable def Zii: List T→Option T
 | [.lst ts]=>some (.tup ts)
 | [.tup ts]=>some (.tup ts)
 | _=>none
theorem ZdN: OCn ZcK Zcm:=fun H vs ts t F hp r h=>by
 unfold Zcm at h
 split at h
 ·obtain⟨v,rfl,r'⟩:=r.one_inv
  cases r' with
  | ref e hs=>cases h;exact⟨_,_,_,by simp only[ZcK,e,Option.map_some],Zd0 hs,fun a m=>(Zz7.mp m).imp (fun q=>Nat.le_of_eq q.symm) (Zz2 _),Ze7 hs⟩
 ·obtain⟨v,rfl,r'⟩:=r.one_inv
  cases r' with
  | tup hs=>cases h;exact⟨_,_,_,by simp only[ZcK],Zd0 hs,fun a m=>(Zz7.mp m).imp (fun q=>Nat.le_of_eq q.symm) id,Ze7 hs⟩
 ·cases h
end
end TM
end
section
set_option autoImplicit false
namespace TM
open PySem PM
theorem St.from_src{c:Ctx}{O N:List Nat}{ρ:Lc}{σ:TL}{H:Hp}{Φ:Nat→List Nat}(s:St c O ρ σ H Φ){a:Nat}(f:From H N σ Φ a): c.H0.length≤a∨c.P a:=by
 rcases f with h | ⟨i,hi,⟨t,e⟩,m⟩
 ·exact .inl (Nat.le_trans s.len h)
 ·exact s.src i t e a m
theorem St.from_off{c:Ctx}{O N:List Nat}{ρ:Lc}{σ:TL}{H:Hp}{Φ:Nat→List Nat}(s:St c O ρ σ H Φ)(hN:∀i∈N,i∉O){a:Nat}(f:From H N σ Φ a){i:Nat}(hi:i∈O){t:T}(e:σ i=some t): a∉Φ i:=by
 intro m
 obtain⟨v,_,r⟩:=s.slot i t e
 have hl:=r.lt a m
 rcases f with h | ⟨j,hj,⟨t',e'⟩,m'⟩
 ·omega
 ·exact(s.own i hi t e).2.2 j t' (fun q=>hN j hj (q▸hi)) e' a m m'
noncomputable abbrev PPt:=TL→Option (Option Int)
noncomputable def Zeb: PPt:=fun _=>some none
noncomputable def Zec(p:PE): PPt:=fun σ=>(p σ).bind fun t=>match t with
 | .int k=>some (some k)
 | _=>none
noncomputable def Pe(O:List Nat)(f:Pt)(p:PPt): Prop:=∀(c:Ctx) (ρ:Lc) (σ:TL) (H:Hp) (Φ:Nat→List Nat) (k:Option Int),St c O ρ σ H Φ→p σ=some k→∃o X,f ρ H=some (o,H++X)∧ZgP o=some k
section
variable {O N:List Nat} {u:Bool}
theorem Pe.none: Pe O PM.Zeh Zeb:=fun c ρ σ H Φ k s h=>by
 cases h;exact⟨Option.none,[],by simp[PM.Zeh],rfl⟩
theorem Pe.some{e:Ex}{p:PE}(x:E O N u e p): Pe O (Zei e) (Zec p):=fun c ρ σ H Φ k s h=>by
 obtain⟨t,h1,h⟩:=Zz0.mp h
 obtain⟨v,X,F,a1,a2,a3,a4⟩:=x c ρ σ H Φ t s h1
 cases a2 <;> first | (cases h;done) | skip
 rename_i k'
 cases h
 exact⟨Option.some (.int k'),X,by simp only[Zei,a1,Option.map_some],rfl⟩
noncomputable def Zdw(p:PE)(lo hi:PPt): PE:=fun σ=>(p σ).bind fun t=>(lo σ).bind fun a=>(hi σ).bind fun b=>match t with
 | .lst ts=>Option.some (.lst (ZbH ts a b))
 | _=>Option.none
theorem RFs.pick{H:Hp}{vs:List V}{ts:List T}{F:List Nat}(h:RFs H vs ts F)(l:List Nat): ∃G,RFs H (l.filterMap fun i=>vs[i]?) (l.filterMap fun i=>ts[i]?) G∧∀a∈G,a∈F:=by
 induction l with
 | nil=>exact⟨_,.nil,by simp⟩
 | cons i l ih=>
  obtain⟨G,h1,h2⟩:=ih
  simp only[List.filterMap_cons]
  have hl:=h.length
  cases e:ts[i]? with
  | none=>
   have:vs[i]?=none:=by rw[List.getElem?_eq_none_iff]at e ⊢;omega
   rw[this]
   exact⟨G,h1,h2⟩
  | some t=>
   obtain⟨x,G',hx,hr,hs⟩:=h.at e
   rw[hx]
   exact⟨_,.cons hr h1,fun a m=>(Zz8.mp m).elim (fun q=>hs.subset q) (h2 a)⟩
theorem ZsG{c:Ctx}{ρ:Lc}{σ:TL}{H:Hp}{Φ:Nat→List Nat}{t:T}{e:Ex}{p:PE}{lo hi:Pt}{plo phi:PPt}(x:E O N u e p)(y:Pe O lo plo)(z:Pe O hi phi)(s:St c O ρ σ H Φ)(h:Zdw p plo phi σ=Option.some t):
  ∃v X F,Zdf e lo hi ρ H=Option.some (v,H++X)∧RF (H++X) v t F∧(∀a∈F,From H N σ Φ a)∧(t.flatIn=true→F.Nodup∧∀a∈F,H.length≤a):=by
 obtain⟨t1,h1,h⟩:=Zz0.mp h
 obtain⟨a,h2,h⟩:=Zz0.mp h
 obtain⟨b,h3,h⟩:=Zz0.mp h
 obtain⟨v,X,F,a1,a2,a3,a4⟩:=x c ρ σ H Φ t1 s h1
 obtain⟨o1,Y,b1,b2⟩:=y c ρ σ (H++X) Φ a (s.ext X) h2
 obtain⟨o2,Z,c1,c2⟩:=z c ρ σ (H++X++Y) Φ b ((s.ext X).ext Y) h3
 cases a2 with
 | none=>cases h
 | bool=>cases h
 | int=>cases h
 | str=>cases h
 | tup=>cases h
 | @ref i vs ts F e1 hs=>
 cases h
 have e3:((H++X)++(Y++Z))[i]?=Option.some vs:=by rw[List.getElem?_append_left (Zz6.mp e1).1];exact e1
 have hs':=hs.ext (Y++Z)
 have hlen:=hs.length
 obtain⟨G,g1,g2⟩:=hs'.pick (sliceRange (sliceBounds a b none vs.length).1 (sliceBounds a b none vs.length).2.1 (sliceBounds a b none vs.length).2.2)
 have g1':RFs (H++X++(Y++Z)) (ZbH vs a b) (ZbH ts a b) G:=by unfold ZbH;rw[←hlen];exact g1
 refine⟨.ref (H++X++(Y++Z)).length,X++(Y++Z)++[ZbH vs a b],(H++X++(Y++Z)).length::G,?_,?_,fun q m=>?_,fun hf=>?_⟩
 ·simp only[Zdf,a1,Option.bind_some,b1,c1,b2,c2]
  rw[List.append_assoc (H++X),e3]
  simp
 ·have:=Zd0 g1'
  simpa using this
 ·rcases Zz7.mp m with rfl | m
  ·exact .inl (by simp)
  ·exact a3 q (Zz2 _ (g2 q m))
 ·have:=Ze7 g1' hf
  exact⟨this.1,fun q m=>by have:=this.2 q m;simp at this;omega⟩
theorem ZpA{e:Ex}{p:PE}{lo hi:Pt}{plo phi:PPt}(x:E O N u e p)(y:Pe O lo plo)(z:Pe O hi phi): E O N false (Zdf e lo hi) (Zdw p plo phi):=fun c ρ σ H Φ t s h=>by
 obtain⟨v,X,F,a1,a2,a3,a4⟩:=ZsG x y z s h
 exact⟨v,X,F,a1,a2,a3,by simp⟩
noncomputable def Zdz(p:PE)(k:Nat): PE:=fun σ=>(p σ).bind fun t=>match t with
 | .lst ts=>Option.some (.lst (ts.drop k))
 | .tup ts=>if 1≤k∧k≤ts.length then Option.some (.tup (ts.drop k))else Option.none
 | _=>Option.none
theorem Zty{c:Ctx}{ρ:Lc}{σ:TL}{H:Hp}{Φ:Nat→List Nat}{t:T}{e:Ex}{p:PE}{k:Nat}(x:E O N u e p)(s:St c O ρ σ H Φ)(h:Zdz p k σ=Option.some t):
  ∃v X F,ZdU e k ρ H=Option.some (v,H++X)∧RF (H++X) v t F∧(∀a∈F,From H N σ Φ a)∧(t.flatIn=true→F.Nodup∧∀a∈F,H.length≤a):=by
 obtain⟨t1,h1,h⟩:=Zz0.mp h
 obtain⟨v,X,F,a1,a2,a3,a4⟩:=x c ρ σ H Φ t1 s h1
 cases a2 with
 | none=>cases h
 | bool=>cases h
 | int=>cases h
 | str=>cases h
 | tup hs=>
  simp only at h
  split at h
  ·rename_i hc
   cases h
   obtain⟨G,g1,g2⟩:=hs.drop k
   refine⟨_,X,G,?_,.tup g1,fun a m=>a3 a (g2.subset m),fun hf=>?_⟩
   ·simp only[ZdU,a1,Option.bind_some]
    rw[if_pos (by rw[hs.length];exact hc)]
   ·rw[g1.flats (by simpa [T.flatIn,T.flat]using hf)]
    simp
  ·cases h
 | @ref b vs1 ts1 F1 e1 hs=>
  cases h
  obtain⟨G,g1,g2⟩:=hs.drop k
  refine⟨.ref (H++X).length,X++[vs1.drop k],(H++X).length::G,?_,?_,fun a m=>?_,fun hf=>?_⟩
  ·simp only[ZdU,a1,Option.bind_some,e1,List.append_assoc]
  ·rw[←List.append_assoc];exact Zd0 g1
  ·rcases Zz7.mp m with rfl | m
   ·exact .inl (by simp)
   ·exact a3 a (Zz2 _ (g2.subset m))
  ·have:=Ze7 g1 hf
   exact⟨this.1,fun q m=>by have:=this.2 q m;simp at this;omega⟩
theorem Zix{e:Ex}{p:PE}{k:Nat}(x:E O N u e p): E O N false (ZdU e k) (Zdz p k):=fun c ρ σ H Φ t s h=>by
 obtain⟨v,X,F,a1,a2,a3,a4⟩:=Zty x s h
 exact⟨v,X,F,a1,a2,a3,by simp⟩
end
noncomputable def Gs(O N:List Nat)(g:Src)(q:PG): Prop:=∀(c:Ctx) (ρ:Lc) (σ:TL) (H:Hp) (Φ:Nat→List Nat) (ts:List T),St c O ρ σ H Φ→q σ=some ts →
 ∃(nx:Nx) (X:Hp) (vs:List V) (F G:List Nat),g ρ H=some (nx,ts.length+1,H++X)∧RFs (H++X) vs ts F∧(∀a∈F,a∈G)∧(∀a∈G,a<(H++X).length∧From H N σ Φ a)∧∀K:Hp,(∀a∈G,K[a]?=(H++X)[a]?)→∀i,i≤vs.length→nx i K=some vs[i]?
section
variable {O N M:List Nat} {u u':Bool}
noncomputable def ZaD(p:PE): PG:=fun σ=>(p σ).bind fun t=>match t with
 | .lst ts=>some ts
 | .tup ts=>some ts
 | _=>none
theorem Gs.seq{e:Ex}{p:PE}(x:E O N u e p): Gs O N (Zbe e) (ZaD p):=fun c ρ σ H Φ ts s h=>by
 obtain⟨t1,h1,h⟩:=Zz0.mp h
 obtain⟨v,X,F,a1,a2,a3,a4⟩:=x c ρ σ H Φ t1 s h1
 have hlt:=a2.lt
 cases a2 with
 | none=>cases h
 | bool=>cases h
 | int=>cases h
 | str=>cases h
 | @tup vs _ _ hs=>
  cases h
  exact⟨Zqb vs,X,vs,F,F,by simp only[Zbe,a1,Option.bind_some,hs.length],hs,fun _ m=>m,fun a m=>⟨hlt a m,a3 a m⟩,fun K _ i hi=>rfl⟩
 | @ref b vs _ F' e1 hs=>
  cases h
  refine⟨Zm0 b,X,vs,F',b::F',by simp only[Zbe,a1,Option.bind_some,e1,Option.map_some,hs.length],hs,fun _ m=>List.mem_cons_of_mem _ m,fun a m=>⟨hlt a m,a3 a m⟩,fun K hK i hi=>?_⟩
  simp only[Zm0,hK b Zz5,e1,Option.map_some]
noncomputable def Zct(a b c:Int): Option (List T):=if c≠0∧Builtin.Range.small a b c=true∧0≤Builtin.Range.rangeSize a b c∧rngN a b c≤LEN∧Builtin.divisionGoesByPylong (b-a) c=false then some ((List.range (rngN a b c)).map fun(i:Nat)=>.int (a+(i:Int)*c))else none
noncomputable def ZaB(p:PEs): PG:=fun σ=>(p σ).bind fun ts=>match ts with
 | [.int b]=>Zct 0 b 1
 | [.int a,.int b]=>Zct a b 1
 | [.int a,.int b,.int c]=>Zct a b c
 | _=>none
theorem ZoY(H:Hp)(a c:Int): ∀(l:List Nat),RFs H (l.map fun(i:Nat)=>.int (a+(i:Int)*c)) (l.map fun(i:Nat)=>.int (a+(i:Int)*c)) []
 | []=>.nil
 | i::l=>by have:=RFs.cons (RF.int (H:=H) (a+i*c)) (ZoY H a c l);exact this
theorem Zmj{a b c:Int}{H:Hp}{ts:List T}(h:Zct a b c=some ts): ∃(nx:Nx) (vs:List V),Zcw a b c H=some (nx,ts.length+1,H)∧RFs H vs ts []∧∀K:Hp,∀i,i≤vs.length→nx i K=some vs[i]?:=by
 unfold Zct at h
 split at h
 ·rename_i hc
  cases h
  refine⟨Zex a c (rngN a b c),(List.range (rngN a b c)).map fun(i:Nat)=>.int (a+(i:Int)*c),?_,ZoY H a c _,fun K i hi=>?_⟩
  ·unfold Zcw
   rw[if_pos hc]
   simp
  ·simp only[Zex,List.getElem?_map]
   by_cases q:i<rngN a b c
   ·rw[if_pos q,List.getElem?_range q];rfl
   ·rw[if_neg q,List.getElem?_eq_none (by simpa using Nat.le_of_not_lt q)];rfl
 ·cases h
theorem RFs.three_inv{H:Hp}{vs:List V}{t t' t'':T}{F:List Nat}(r:RFs H vs [t,t',t''] F): ∃v v' v'' F1 F2 F3,vs=[v,v',v'']∧RF H v t F1∧RF H v' t' F2∧RF H v'' t'' F3:=by
 cases r with
 | cons a b=>obtain⟨v',v'',F2,F3,h1,h2,h3,_⟩:=b.two_inv;subst h1;exact⟨_,_,_,_,_,_,rfl,a,h2,h3⟩
theorem Gs.range{n:Nat}{e:Exs}{p:PEs}(x:Es O N u n e p): Gs O [] (ZaM e) (ZaB p):=fun c ρ σ H Φ ts s h=>by
 obtain⟨t1,h1,h⟩:=Zz0.mp h
 obtain⟨_,vs,X,F,a1,a2,a3,a4⟩:=x c ρ σ H Φ t1 s h1
 split at h
 ·obtain⟨v,rfl,r⟩:=a2.one_inv
  cases r
  obtain⟨nx,us,q1,q2,q3⟩:=Zmj (H:=H++X) h
  exact⟨nx,X,us,[],[],by simp only[ZaM,a1,Option.bind_some,q1],q2,by simp,by simp,fun K _=>q3 K⟩
 ·obtain⟨v,v',F1,F2,rfl,r,r',_⟩:=a2.two_inv
  cases r;cases r'
  obtain⟨nx,us,q1,q2,q3⟩:=Zmj (H:=H++X) h
  exact⟨nx,X,us,[],[],by simp only[ZaM,a1,Option.bind_some,q1],q2,by simp,by simp,fun K _=>q3 K⟩
 ·obtain⟨v,v',v'',F1,F2,F3,rfl,r,r',r''⟩:=a2.three_inv
  cases r;cases r';cases r''
  obtain⟨nx,us,q1,q2,q3⟩:=Zmj (H:=H++X) h
  exact⟨nx,X,us,[],[],by simp only[ZaM,a1,Option.bind_some,q1],q2,by simp,by simp,fun K _=>q3 K⟩
 ·cases h
noncomputable def Zc5(p q:PE): PG:=fun σ=>(p σ).bind fun t=>(q σ).bind fun s=>match t,s with
 | .lst ts,.lst ss=>some (List.zipWith (fun x y=>.tup [x,y]) ts ss)
 | _,_=>none
theorem RFs.zip{H:Hp}: ∀{vs us:List V} {ts ss:List T} {F G:List Nat},RFs H vs ts F→RFs H us ss G→∃D,RFs H (List.zipWith (fun x y=>.tup [x,y]) vs us) (List.zipWith (fun x y=>.tup [x,y]) ts ss) D∧∀a∈D,a∈F∨a∈G
 | _,_,_,_,_,_,.nil,_=>⟨_,.nil,by simp⟩
 | _,_,_,_,_,_,.cons _ _,.nil=>⟨_,.nil,by simp⟩
 | _,_,_,_,_,_,.cons a b,.cons a' b'=>by
  obtain⟨D,h1,h2⟩:=b.zip b'
  refine⟨_,.cons (.tup (.cons a (.one a'))) h1,fun x m=>?_⟩
  rcases Zz8.mp m with m | m
  ·rcases Zz8.mp m with m | m
   ·exact .inl (Zz4 _ m)
   ·exact .inr (Zz4 _ m)
  ·exact(h2 x m).imp (Zz3 _) (Zz3 _)
theorem Gs.zip{e1 e2:Ex}{p1 p2:PE}(x:E O N u e1 p1)(y:E O M u' e2 p2): Gs O (N++M) (Zc4 e1 e2) (Zc5 p1 p2):=fun c ρ σ H Φ ts s h=>by
 obtain⟨t1,h1,h⟩:=Zz0.mp h
 obtain⟨t2,h2,h⟩:=Zz0.mp h
 obtain⟨v,X,F,a1,a2,a3,a4⟩:=x c ρ σ H Φ t1 s h1
 obtain⟨w,Y,G,b1,b2,b3,b4⟩:=y c ρ σ (H++X) Φ t2 (s.ext X) h2
 have a2:=a2.ext Y
 have l1:=a2.lt
 have l2:=b2.lt
 rw[List.append_assoc]at a2 b2 l1 l2 b1
 cases a2 with
 | none=>cases h
 | bool=>cases h
 | int=>cases h
 | str=>cases h
 | tup=>cases b2 <;> cases h
 | @ref a vs _ F' e1 hs=>
  cases b2 with
  | none=>cases h
  | bool=>cases h
  | int=>cases h
  | str=>cases h
  | tup=>cases h
  | @ref b us _ G' e2 hs2=>
   cases h
   obtain⟨D,d1,d2⟩:=hs.zip hs2
   refine⟨ZgQ a b,X++Y,_,D,a::b::D,?_,d1,fun q m=>List.mem_cons_of_mem _ (Zz2 _ m),fun q m=>?_,fun K hK i hi=>?_⟩
   ·simp only[Zc4,a1,Option.bind_some,b1,e1,e2,Option.map_some,List.length_zipWith,hs.length,hs2.length]
   ·rcases Zz7.mp m with rfl | m
    ·exact⟨l1 _ Zz5,(a3 _ Zz5).mono fun i hi=>List.mem_append_left _ hi⟩
    ·rcases Zz7.mp m with rfl | m
     ·exact⟨l2 _ Zz5,(b3 _ Zz5).back.mono fun i hi=>List.mem_append_right _ hi⟩
     ·rcases d2 q m with m | m
      ·exact⟨l1 _ (Zz2 _ m),(a3 _ (Zz2 _ m)).mono fun i hi=>List.mem_append_left _ hi⟩
      ·exact⟨l2 _ (Zz2 _ m),(b3 _ (Zz2 _ m)).back.mono fun i hi=>List.mem_append_right _ hi⟩
   ·simp only[ZgQ,hK a Zz5,hK b (Zz2 _ Zz5),e1,e2,Option.bind_some,List.getElem?_zipWith]
    rw[List.length_zipWith]at hi
    by_cases q:i<min vs.length us.length
    ·rw[List.getElem?_eq_getElem (show i<vs.length by omega),List.getElem?_eq_getElem (show i<us.length by omega)]
    ·have q':i=min vs.length us.length:=by omega
     by_cases q2:i<vs.length
     ·rw[List.getElem?_eq_getElem q2,List.getElem?_eq_none (show us.length≤i by omega)]
      simp[q']
     ·rw[List.getElem?_eq_none (show vs.length≤i by omega)]
      simp[q']
end
noncomputable def PutOk(O J:List Nat)(put:V→Lc→Option Lc)(q:T→TL→Option TL): Prop:=∀(c:Ctx) (ρ:Lc) (σ:TL) (H:Hp) (Φ:Nat→List Nat) (v:V) (t:T) (F:List Nat) (σ1:TL),St c O ρ σ H Φ→RF H v t F→(∀a∈F,c.H0.length≤a∨c.P a)→(∀i∈O,∀t',σ i=some t'→∀a∈Φ i,a∉F)→q t σ=some σ1 →
 ∃ρ1 Φ1,put v ρ=some ρ1∧St c O ρ1 σ1 H Φ1∧(∀i,i∉J→σ1 i=σ i∧Φ1 i=Φ i)∧∀i∈J,∀a∈Φ1 i,a∈F
noncomputable def Zal(Φ:Nat→List Nat)(j:Nat)(F:List Nat): Nat→List Nat:=fun i=>if i=j then F else Φ i
theorem St.put{c:Ctx}{O:List Nat}{ρ:Lc}{σ:TL}{H:Hp}{Φ:Nat→List Nat}{v:V}{t:T}{F:List Nat}{j:Nat}(s:St c O ρ σ H Φ)(hj:j∉O)(r:RF H v t F)(hs:∀a∈F,c.H0.length≤a∨c.P a)(ho:∀i∈O,∀t',σ i=some t'→∀a∈Φ i,a∉F): St c O (upd ρ j v) (ZW σ j t) H (Zal Φ j F):=by
 refine⟨fun i u e=>?_,fun i u e=>?_,fun i hi u e=>?_,s.len,s.keep,s.pos,s.f0⟩
 ·by_cases q:i=j
  ·subst q
   simp[ZW]at e
   subst e
   exact⟨v,by simp[upd],by simpa [Zal]using r⟩
  ·simp[ZW,q]at e
   simpa [upd,Zal,q]using s.slot i u e
 ·by_cases q:i=j
  ·subst q;simpa [Zal]using hs
  ·simp[ZW,q]at e
   simpa [Zal,q]using s.src i u e
 ·have q:i≠j:=fun q=>hj (q▸hi)
  simp[ZW,q]at e
  obtain⟨h1,h2,h3⟩:=s.own i hi u e
  refine⟨by simpa [Zal,q]using h1,by simpa [Zal,q]using h2,fun k w hk ek=>?_⟩
  by_cases q2:k=j
  ·subst q2
   simpa [Zal,q]using ho i hi u e
  ·simp[ZW,q2]at ek
   simpa [Zal,q,q2]using h3 k w hk ek
noncomputable def Z5(j:Nat): T→TL→Option TL:=fun t σ=>some (ZW σ j t)
noncomputable def Zcp(i j:Nat): T→TL→Option TL
 | .tup [a,b],σ=>some (ZW (ZW σ i a) j b)
 | _,_=>none
theorem PutOk.one{O:List Nat}{j:Nat}(hj:j∉O:=by decide): PutOk O [j] (Zak j) (Z5 j):=fun c ρ σ H Φ v t F σ1 s r hs ho h=>by
 cases h
 refine⟨_,_,rfl,s.put hj r hs ho,fun i hi=>?_,fun i hi a m=>?_⟩
 ·have:i≠j:=fun q=>hi (by simp[q])
  simp[ZW,Zal,this]
 ·simp at hi;subst hi;simpa [Zal]using m
theorem PutOk.two{O:List Nat}{i j:Nat}(hi:i∉O:=by decide)(hj:j∉O:=by decide)(hij:i≠j:=by decide): PutOk O [i,j] (Zb6 i j) (Zcp i j):=fun c ρ σ H Φ v t F σ1 s r hs ho h=>by
 unfold Zcp at h
 split at h
 ·cases h
  cases r with
  | tup hh=>
   obtain⟨v1,v2,F1,F2,rfl,r1,r2,rfl⟩:=hh.two_inv
   have s1:=s.put hi r1 (fun a m=>hs a (Zz4 _ m)) (fun k hk t' e a m q=>ho k hk t' e a m (Zz4 _ q))
   have s2:=s1.put hj r2 (fun a m=>hs a (Zz3 _ m)) (fun k hk t' e a m q=>by
    have:k≠i:=fun q=>hi (q▸hk)
    simp[ZW,Zal,this]at e m
    exact ho k hk t' e a m (Zz3 _ q))
   refine⟨_,_,rfl,s2,fun k hk=>?_,fun k hk a m=>?_⟩
   ·simp at hk
    simp[ZW,Zal,hk.1,hk.2]
   ·simp at hk
    rcases hk with rfl | rfl
    ·simp[Zal,hij]at m
     exact Zz4 _ m
    ·simp[Zal]at m
     exact Zz3 _ m
 ·cases h
noncomputable def Zcq(put:T→TL→Option TL)(c:PB)(f:PE)(σ:TL): List T→Option (List T)
 | []=>some []
 | t::ts=>(put t σ).bind fun σ1=>(c σ1).bind fun b=>if b then(f σ1).bind fun x=>(Zcq put c f σ ts).map fun xs=>x::xs else Zcq put c f σ ts
noncomputable def Zam(g:PG)(put:T→TL→Option TL)(c:PB)(f:PE): PE:=fun σ=>(g σ).bind fun ts=>if ts.length≤LEN then(Zcq put c f σ ts).map .lst else none
section
variable {O Ns Ne J:List Nat} {u:Bool}
theorem comp_core{put:V→Lc→Option Lc}{pput:T→TL→Option TL}{tc:Ts}{pc:PB}{f:Ex}{pf:PE}(hj:PutOk O J put pput)(hN:∀i∈Ns,i∉O)(hc:Bt O tc pc)(hf:E O Ne u f pf)(hu:u=true→Ne=[])
  {c:Ctx} {ρ:Lc} {σ:TL} {Φ:Nat→List Nat} {H0 H1:Hp} {nx:Nx} {vs:List V} {G:List Nat} (h0:H0.length≤H1.length)
  (hG:∀a∈G,a<H1.length∧From H0 Ns σ Φ a) (hoff:∀a∈G,∀i∈O,∀t,σ i=some t→a∉Φ i) (hsrc:∀a∈G,c.H0.length≤a∨c.P a) (hnx:∀K:Hp,(∀a∈G,K[a]?=H1[a]?)→∀i,i≤vs.length→nx i K=some vs[i]?):
  ∀(rs:List T) (ws:List V) (i:Nat) (acc:List V) (K:Hp) (Fr:List Nat) (out:List T),(∀j,vs[i+j]?=ws[j]?)→i+ws.length=vs.length→St c O ρ σ K Φ→H1.length≤K.length→(∀a∈G,K[a]?=H1[a]?)→RFs K ws rs Fr→(∀a∈Fr,a∈G)→acc.length+rs.length≤LEN→Zcq pput pc pf σ rs=some out →
   ∃xs X F,ZcR nx put tc f ρ (rs.length+1) i acc K=some (acc++xs,K++X)∧RFs (K++X) xs out F∧(∀a∈F,(u=true→K.length≤a)∧From H0 (Ns++Ne) σ Φ a)∧(u=true→F.Nodup)
 | [],ws,i,acc,K,Fr,out,hat,hlen,s,hl,hk,r,hfr,hacc,h=>by
  cases r
  cases h
  have e:=hnx K hk i (by simp at hlen;omega)
  have e2:vs[i]?=none:=by have:=hat 0;simpa using this
  refine⟨[],[],[],?_,.nil,by simp,by simp⟩
  simp[ZcR,e,e2]
 | t::rs,ws0,i,acc,K,Fr0,out,hat,hlen,s,hl,hk,r,hfr,hacc,h=>by
  cases r with
  | @cons v _ F1 ws _ F2 a b=>
  simp only[List.length_cons]at hlen hacc
  obtain⟨σ1,h1,h⟩:=Zz0.mp h
  obtain⟨bb,h2,h⟩:=Zz0.mp h
  have e:=hnx K hk i (by omega)
  have e2:vs[i]?=some v:=by have:=hat 0;simpa using this
  have hat':∀j,vs[i+1+j]?=ws[j]?:=fun j=>by have:=hat (j+1);rw[show i+1+j=i+(j+1)by omega,this];simp
  obtain⟨ρ1,Φ1,p1,s1,p3,p4⟩:=hj c ρ σ K Φ v t F1 σ1 s a (fun x m=>hsrc x (hfr x (Zz4 _ m))) (fun k hk t' e x m q=>hoff x (hfr x (Zz4 _ q)) k hk t' e m) h1
  obtain⟨X1,c1⟩:=hc c ρ1 σ1 K Φ1 bb s1 h2
  cases bb with
  | true=>
   obtain⟨y,h3,h⟩:=Zz0.mp h
   obtain⟨ys,h4,h⟩:=Zz1.mp h
   subst h
   obtain⟨w,X2,Fw,d1,d2,d3,d4⟩:=hf c ρ1 σ1 (K++X1) Φ1 y (s1.ext X1) h3
   have hext:∀a∈G,(K++X1++X2)[a]?=H1[a]?:=fun a m=>by
    have:=(hG a m).1
    rw[List.append_assoc,List.getElem?_append_left (by omega)];exact hk a m
   obtain⟨xs,X3,F3,f1,f2,f3,f4⟩:=comp_core hj hN hc hf hu h0 hG hoff hsrc hnx rs ws (i+1) (acc++[w]) (K++X1++X2) F2 ys hat' (by omega) ((s.ext X1).ext X2) (by simp;omega) hext (by rw[List.append_assoc];exact b.ext _) (fun x m=>hfr x (Zz3 _ m)) (by simp;omega) h4
   refine⟨w::xs,X1++X2++X3,Fw++F3,?_,?_,fun x m=>?_,fun hu'=>?_⟩
   ·rw[List.length_cons,ZcR,e,e2]
    simp only[Option.bind_some,p1,c1,d1,if_true]
    rw[if_pos (by omega)]
    simpa using f1
   ·have:=RFs.cons (d2.ext X3) f2
    simpa using this
   ·rcases Zz8.mp m with m | m
    ·refine⟨fun hu'=>?_,?_⟩
     ·have hne:=hu hu'
      subst hne
      have:=(d3 x m).nil
      simp at this;omega
     ·rcases d3 x m with q | ⟨k,hk1,⟨tk,ek⟩,mk⟩
      ·exact .inl (by simp at q;omega)
      ·by_cases hkJ:k∈J
       ·exact(hG x (hfr x (Zz4 _ (p4 k hkJ x mk)))).2.mono fun i hi=>List.mem_append_left _ hi
       ·obtain⟨q1,q2⟩:=p3 k hkJ
        exact .inr ⟨k,List.mem_append_right _ hk1,⟨tk,q1▸ek⟩,q2▸mk⟩
    ·obtain⟨g1,g2⟩:=f3 x m
     exact⟨fun hu'=>by have:=g1 hu';simp at this;omega,g2⟩
   ·rw[List.nodup_append]
    refine⟨d4 hu',f4 hu',fun x hx y hy e=>?_⟩
    have l1:=d2.lt x hx
    have l2:=(f3 y hy).1 hu'
    omega
  | false=>
   have hext:∀a∈G,(K++X1)[a]?=H1[a]?:=fun a m=>by
    have:=(hG a m).1
    rw[List.getElem?_append_left (by omega)];exact hk a m
   obtain⟨xs,X3,F3,f1,f2,f3,f4⟩:=comp_core hj hN hc hf hu h0 hG hoff hsrc hnx rs ws (i+1) acc (K++X1) F2 out hat' (by omega) (s.ext X1) (by simp;omega) hext (b.ext _) (fun x m=>hfr x (Zz3 _ m)) (by omega) (by simpa using h)
   refine⟨xs,X1++X3,F3,?_,by simpa using f2,fun x m=>?_,f4⟩
   ·rw[List.length_cons,ZcR,e,e2]
    simp only[Option.bind_some,p1,c1]
    simpa using f1
   ·obtain⟨g1,g2⟩:=f3 x m
    exact⟨fun hu'=>by have:=g1 hu';simp at this;omega,g2⟩
theorem Zqf{g:Src}{q:PG}{put:V→Lc→Option Lc}{pput:T→TL→Option TL}{tc:Ts}{pc:PB}{f:Ex}{pf:PE}(hg:Gs O Ns g q)(hj:PutOk O J put pput)(hN:∀i∈Ns,i∉O)(hc:Bt O tc pc)(hf:E O Ne u f pf)(hu:u=true→Ne=[]): E O (if u then []else Ns++Ne) u (Zar g put tc f) (Zam q pput pc pf):=fun c ρ σ H Φ t s h=>by
 obtain⟨ts,h1,h⟩:=Zz0.mp h
 split at h
 ·rename_i hl
  obtain⟨out,h2,h⟩:=Zz1.mp h
  subst h
  obtain⟨nx,X,vs,F,G,g1,g2,g3,g4,g5⟩:=hg c ρ σ H Φ ts s h1
  obtain⟨xs,Y,F',d1,d2,d3,d4⟩:=comp_core hj hN hc hf hu (H0:=H) (H1:=H++X) (by simp) g4 (fun a m i hi t e=>s.from_off hN (g4 a m).2 hi e) (fun a m=>s.from_src (g4 a m).2) g5 ts vs 0 [] (H++X) F out (by simp) (by simp) (s.ext X) (Zz10 _) (fun _ _=>rfl) g2 g3 (by simpa using hl) h2
  refine⟨.ref (H++X++Y).length,X++Y++[xs],(H++X++Y).length::F',?_,?_,fun a m=>?_,fun hu'=>?_⟩
  ·simp only[Zar,g1,Option.bind_some,d1,Option.map_some,List.nil_append,List.append_assoc]
  ·have:=Zd0 d2
   simpa using this
  ·rcases Zz7.mp m with rfl | m
   ·exact .inl (by simp)
   ·obtain⟨q1,q2⟩:=d3 a m
    cases u with
    | true=>exact .inl (by have:=q1 rfl;simp at this;omega)
    | false=>exact q2
  ·rw[List.nodup_cons]
   exact⟨fun m=>Nat.lt_irrefl _ (d2.lt _ m),d4 hu'⟩
 ·cases h
end
end TM
end
section
set_option autoImplicit false
namespace TM
open PySem PM
noncomputable abbrev PS:=TL→Option (Option T×TL)
noncomputable def ZcL(σ:TL)(N:List Nat): TL:=fun j=>if j∈N then none else σ j
noncomputable def ZcV(O:List Nat)(σ:TL)(Φ:Nat→List Nat)(a:Nat): Prop:=∃j∈O,(∃t,σ j=some t)∧a∈Φ j
noncomputable def Aft(c:Ctx)(O O' R:List Nat)(fr:Bool)(σ:TL)(H:Hp)(Φ:Nat→List Nat)(g:Option (Option V×Lc×Hp))(r:Option T×TL): Prop:=
 ∃ρ' H' Φ',H.length≤H'.length∧(∀a,a<H.length→¬ZcV O σ Φ a→H'[a]?=H[a]?) ∧
  ((r.1=none∧g=some (none,ρ',H')∧St c O' ρ' r.2 H' Φ'∧∀a,ZcV O' r.2 Φ' a→H.length≤a∨ZcV O σ Φ a) ∨
  ∃t v F,r.1=some t∧g=some (some v,ρ',H')∧RF H' v t F∧St c R ρ' r.2 H' Φ'∧(∀a∈F,c.H0.length≤a∨c.P a)∧(fr=true→F.Nodup∧∀a∈F,c.H0.length≤a∨a∈c.F0))
noncomputable def S(O O' R:List Nat)(fr:Bool)(g:Sm)(q:PS): Prop:=∀(c:Ctx) (ρ:Lc) (σ:TL) (H:Hp) (Φ:Nat→List Nat) (r:Option T×TL),St c O ρ σ H Φ→q σ=some r→Aft c O O' R fr σ H Φ (g ρ H) r
section
variable {O O' R:List Nat} {fr:Bool}
noncomputable def Z4: PS:=fun σ=>some (none,σ)
theorem Zag: S O O R fr Z6 Z4:=fun c ρ σ H Φ r s e=>by
 cases e
 exact⟨ρ,H,Φ,Nat.le_refl _,fun _ _ _=>rfl,.inl ⟨rfl,rfl,s,fun a m=>.inr m⟩⟩
noncomputable def Zt(a b:PS): PS:=fun σ=>(a σ).bind fun r=>match r.1 with
 | some _=>some r
 | none=>b r.2
theorem Zz{O1:List Nat}{a b:Sm}{p q:PS}(x:S O O1 R fr a p)(y:S O1 O' R fr b q): S O O' R fr (Zs a b) (Zt p q):=fun c ρ σ H Φ r s e=>by
 obtain⟨r1,e1,e⟩:=Zz0.mp e
 obtain⟨ρ1,H1,Φ1,h1,h2,h3⟩:=x c ρ σ H Φ r1 s e1
 rcases h3 with⟨k1,k2,k3,k4⟩ | ⟨t,v,F,k1,k2,k3⟩
 ·rw[k1]at e
  obtain⟨ρ2,H2,Φ2,g1,g2,g3⟩:=y c ρ1 r1.2 H1 Φ1 r k3 e
  refine⟨ρ2,H2,Φ2,Nat.le_trans h1 g1,fun a ha hn=>?_,?_⟩
  ·rw[g2 a (by omega) fun q=>(k4 a q).elim (fun q=>by omega) hn,h2 a ha hn]
  ·have eg:Zs a b ρ H=b ρ1 H1:=by simp only[Zs,k2,Option.bind_some]
   rw[eg]
   rcases g3 with⟨l1,l2,l3,l4⟩ | l
   ·refine .inl ⟨l1,l2,l3,fun a m=>?_⟩
    rcases l4 a m with q | q
    ·exact .inl (by omega)
    ·exact k4 a q
   ·exact .inr l
 ·rw[k1]at e
  cases e
  exact⟨ρ1,H1,Φ1,h1,h2,.inr ⟨t,v,F,k1,by simp only[Zs,k2,Option.bind_some],k3⟩⟩
noncomputable def ZI(p:PE): PS:=fun σ=>(p σ).map fun t=>(some t,σ)
theorem ZV{N:List Nat}{u:Bool}{e:Ex}{p:PE}(x:E O N u e p)(hR:∀i∈R,i∈O:=by decide): S O O' R false (ZG e) (ZI p):=fun c ρ σ H Φ r s q=>by
 obtain⟨t,h1,h⟩:=Zz1.mp q
 subst h
 obtain⟨v,X,F,a1,a2,a3,a4⟩:=x c ρ σ H Φ t s h1
 refine⟨ρ,H++X,Φ,by simp,fun a ha _=>List.getElem?_append_left ha,.inr ⟨t,v,F,rfl,by simp only[ZG,a1,Option.map_some],a2,(s.ext X).less hR,fun a m=>s.from_src (a3 a m),by simp⟩⟩
theorem ZbG{N:List Nat}{e:Ex}{p:PE}(x:E O N true e p)(hN:∀i∈N,i∈O:=by decide)(hR:∀i∈R,i∈O:=by decide): S O O' R fr (ZG e) (ZI p):=fun c ρ σ H Φ r s q=>by
 obtain⟨t,h1,h⟩:=Zz1.mp q
 subst h
 obtain⟨v,X,F,a1,a2,a3,a4⟩:=x c ρ σ H Φ t s h1
 refine⟨ρ,H++X,Φ,by simp,fun a ha _=>List.getElem?_append_left ha,.inr ⟨t,v,F,rfl,by simp only[ZG,a1,Option.map_some],a2,(s.ext X).less hR,fun a m=>s.from_src (a3 a m),fun _=>⟨a4 rfl,fun a m=>?_⟩⟩⟩
 rcases a3 a m with q | ⟨i,hi,⟨t',e'⟩,m'⟩
 ·exact .inl (Nat.le_trans s.len q)
 ·exact(s.own i (hN i hi) t' e').2.1 a m'
noncomputable def ZF(i:Nat)(p:PE): PS:=fun σ=>(p σ).map fun t=>(none,ZW σ i t)
theorem ZR{N:List Nat}{u:Bool}{i:Nat}{e:Ex}{p:PE}(x:E O N u e p)(hi:i∉O':=by decide)(hN:∀j∈N,j∉O':=by decide)(hO:∀j∈O',j∈O:=by decide): S O O' R fr (ZE i e) (ZF i p):=fun c ρ σ H Φ r s q=>by
 obtain⟨t,h1,h⟩:=Zz1.mp q
 subst h
 obtain⟨v,X,F,a1,a2,a3,a4⟩:=x c ρ σ H Φ t s h1
 have s':=s.less hO
 refine⟨upd ρ i v,H++X,Zal Φ i F,by simp,fun a ha _=>List.getElem?_append_left ha,.inl ⟨rfl,by simp only[ZE,a1,Option.map_some],(s'.ext X).put hi a2 (fun a m=>s.from_src (a3 a m)) (fun k hk t' e' a m q=>?_),fun a m=>?_⟩⟩
 ·exact s'.from_off hN (a3 a q) hk e' m
 ·obtain⟨k,hk,⟨t',e'⟩,m⟩:=m
  have:k≠i:=fun q=>hi (q▸hk)
  simp[ZW,this]at e'
  simp[Zal,this]at m
  exact .inr ⟨k,hO k hk,⟨t',e'⟩,m⟩
theorem ZbP{i:Nat}{e:Ex}{p:PE}(x:E O [] true e p)(hO:∀j∈O',j∈O∨j=i:=by decide): S O O' R fr (ZE i e) (ZF i p):=fun c ρ σ H Φ r s q=>by
 obtain⟨t,h1,h⟩:=Zz1.mp q
 subst h
 obtain⟨v,X,F,a1,a2,a3,a4⟩:=x c ρ σ H Φ t s h1
 have hnew:∀a∈F,H.length≤a:=fun a m=>(a3 a m).nil
 have hold:∀k t',σ k=some t'→∀a∈Φ k,a<H.length:=fun k t' e a m=>by
  obtain⟨_,_,r⟩:=s.slot k t' e
  exact r.lt a m
 refine⟨upd ρ i v,H++X,Zal Φ i F,by simp,fun a ha _=>List.getElem?_append_left ha,.inl ⟨rfl,by simp only[ZE,a1,Option.map_some],⟨fun k t' e'=>?_,fun k t' e'=>?_,fun k hk t' e'=>?_,(s.ext X).len,(s.ext X).keep,s.pos,s.f0⟩,fun a m=>?_⟩⟩
 ·by_cases q:k=i
  ·subst q
   simp[ZW]at e'
   subst e'
   exact⟨v,by simp[upd],by simpa [Zal]using a2⟩
  ·simp[ZW,q]at e'
   simpa [upd,Zal,q]using (s.ext X).slot k t' e'
 ·by_cases q:k=i
  ·subst q;simpa [Zal]using fun a m=>s.from_src (a3 a m)
  ·simp[ZW,q]at e'
   simpa [Zal,q]using s.src k t' e'
 ·by_cases q:k=i
  ·subst q
   simp only[Zal,if_true]
   refine⟨a4 rfl,fun a m=>.inl (Nat.le_trans s.len (hnew a m)),fun j w hj ej a m q=>?_⟩
   simp[ZW,hj]at ej
   rw[if_neg hj]at q
   have:=hold j w ej a q
   have:=hnew a m
   omega
  ·have hk':=(hO k hk).resolve_right q
   simp[ZW,q]at e'
   obtain⟨o1,o2,o3⟩:=s.own k hk' t' e'
   refine⟨by simpa [Zal,q]using o1,by simpa [Zal,q]using o2,fun j w hj ej a m=>?_⟩
   simp[Zal,q]at m
   by_cases q2:j=i
   ·subst q2
    simp only[Zal,if_true]
    intro m2
    have:=hold k t' e' a m
    have:=hnew a m2
    omega
   ·simp[ZW,q2]at ej
    simpa [Zal,q2]using o3 j w hj ej a m
 ·obtain⟨k,hk,⟨t',e'⟩,m⟩:=m
  by_cases q:k=i
  ·subst q
   simp[Zal]at m
   exact .inl (hnew a m)
  ·simp[ZW,q]at e'
   simp[Zal,q]at m
   exact .inr ⟨k,(hO k hk).resolve_right q,⟨t',e'⟩,m⟩
noncomputable def Z2(b:PB)(p q:PS): PS:=fun σ=>(b σ).bind fun x=>if x then p σ else q σ
theorem Aft.grow{c:Ctx}{σ:TL}{H X:Hp}{Φ:Nat→List Nat}{g:Option (Option V×Lc×Hp)}{r:Option T×TL}(h:Aft c O O' R fr σ (H++X) Φ g r): Aft c O O' R fr σ H Φ g r:=by
 obtain⟨ρ',H',Φ',h1,h2,h3⟩:=h
 rw[List.length_append]at h1
 refine⟨ρ',H',Φ',by omega,fun a ha hn=>?_,?_⟩
 ·rw[h2 a (by rw[List.length_append];omega) hn,List.getElem?_append_left ha]
 ·rcases h3 with⟨k1,k2,k3,k4⟩ | k
  ·exact .inl ⟨k1,k2,k3,fun a m=>(k4 a m).imp (fun q=>by rw[List.length_append]at q;omega) id⟩
  ·exact .inr k
theorem Zae{t:Ts}{pb:PB}{a b:Sm}{p q:PS}(z:Bt O t pb)(x:S O O' R fr a p)(y:S O O' R fr b q): S O O' R fr (Z1 t a b) (Z2 pb p q):=fun c ρ σ H Φ r s e=>by
 obtain⟨bb,e1,e⟩:=Zz0.mp e
 obtain⟨X,h1⟩:=z c ρ σ H Φ bb s e1
 cases bb with
 | true=>
  have:=x c ρ σ (H++X) Φ r (s.ext X) (by simpa using e)
  have eg:Z1 t a b ρ H=a ρ (H++X):=by simp[Z1,h1]
  rw[eg]
  exact this.grow
 | false=>
  have:=y c ρ σ (H++X) Φ r (s.ext X) (by simpa using e)
  have eg:Z1 t a b ρ H=b ρ (H++X):=by simp[Z1,h1]
  rw[eg]
  exact this.grow
noncomputable def qNo: PS:=fun _=>none
noncomputable def sNo: Sm:=fun _ _=>none
theorem ZxO{g:Sm}: S O O' R fr g qNo:=fun c ρ σ H Φ r s q=>by cases q
noncomputable def follow(H:Hp): List Int→V→Option V
 | [],v=>some v
 | k::ks,v=>(Zr v (.int k) H).bind fun q=>follow H ks q.1
theorem Lead.follow{H:Hp}{ks:List Int}{v:V}{a:Nat}(l:Lead H ks v a): follow H ks v=some (.ref a):=by
 induction l with
 | nil=>rfl
 | ref h1 h2 h3 _ ih=>simp only[TM.follow,Zr,h1,Option.bind_some,h2,h3,Option.map_some,ih]
 | tup h2 h3 _ ih=>simp only[TM.follow,Zr,Option.bind_some,h2,h3,Option.map_some,ih]
theorem ZlI{H:Hp}{v w z:V}{K:Hp}(h:Zr v z H=some (w,K))(X:Hp): K=H∧Zr v z (H++X)=some (w,H++X):=by
 unfold Zr at h
 split at h
 ·obtain⟨vs,e1,h⟩:=Zz0.mp h
  obtain⟨j,e2,h⟩:=Zz0.mp h
  obtain⟨x,e3,h⟩:=Zz1.mp h
  cases h
  exact⟨rfl,by simp only[Zr,List.getElem?_append_left (Zz6.mp e1).1,e1,Option.bind_some,e2,e3,Option.map_some]⟩
 ·obtain⟨j,e2,h⟩:=Zz0.mp h
  obtain⟨x,e3,h⟩:=Zz1.mp h
  cases h
  exact⟨rfl,by simp only[Zr,Option.bind_some,e2,e3,Option.map_some]⟩
 ·cases h
theorem ZnV{H:Hp}{k:Int}: ∀{ks:List Int} {v:V},follow H (ks++[k]) v=(follow H ks v).bind fun w=>(Zr w (.int k) H).map (·.1)
 | [],v=>by
  simp only[List.nil_append,follow,Option.bind_some]
  cases Zr v (.int k) H <;> rfl
 | j::ks,v=>by
  simp only[List.cons_append,follow]
  cases Zr v (.int j) H with
  | none=>rfl
  | some q=>simp only[Option.bind_some];exact ZnV
noncomputable abbrev PPa:=TL→Option (List Int)
noncomputable def ZaS: PPa:=fun _=>some []
noncomputable def Zcy(p:PPa)(i:PE): PPa:=fun σ=>(p σ).bind fun ks=>(i σ).bind fun t=>match t with
 | .int k=>some (ks++[k])
 | _=>none
noncomputable def Pa(O:List Nat)(x:Nat)(e:Ex)(p:PPa): Prop:=∀(c:Ctx) (ρ:Lc) (σ:TL) (H:Hp) (Φ:Nat→List Nat) (ks:List Int) (v w:V),St c O ρ σ H Φ→p σ=some ks→ρ x=some v→follow H ks v=some w→∃X,e ρ H=some (w,H++X)
theorem Zbr{x:Nat}: Pa O x (Zb x) ZaS:=fun c ρ σ H Φ ks v w s h e f=>by
 cases h;cases f
 exact⟨[],by simp[Zb,e]⟩
theorem Zdh{x:Nat}{N:List Nat}{u:Bool}{e i:Ex}{p:PPa}{pi:PE}(y:Pa O x e p)(z:E O N u i pi): Pa O x (Ze Zr e i) (Zcy p pi):=fun c ρ σ H Φ ks v w s h ev f=>by
 obtain⟨ks0,h1,h⟩:=Zz0.mp h
 obtain⟨t,h2,h⟩:=Zz0.mp h
 cases t <;> first | (cases h;done) | skip
 rename_i k
 cases h
 rw[ZnV]at f
 obtain⟨w0,f1,f⟩:=Zz0.mp f
 obtain⟨⟨w1,K⟩,f2,f⟩:=Zz1.mp f
 cases f
 obtain⟨X,a1⟩:=y c ρ σ H Φ ks0 v w0 s h1 ev f1
 obtain⟨vi,Y,F,b1,b2,b3,b4⟩:=z c ρ σ (H++X) Φ _ (s.ext X) h2
 cases b2
 refine⟨X++Y,?_⟩
 simp only[Ze,a1,Option.bind_some,b1]
 have:=(ZlI f2 (X++Y)).2
 rw[List.append_assoc]
 exact this
theorem Zqg{c:Ctx}{ρ:Lc}{σ:TL}{H:Hp}{Φ:Nat→List Nat}{N:List Nat}{x a b:Nat}{t t':T}{v:V}{Fw F':List Nat}{vs':List V}(s:St c O ρ σ H Φ)(hx:x∈O)(ex:σ x=some t)(ev:ρ x=some v)(hb:c.H0.length≤b)(hlow:∀k t,σ k=some t→∀a∈Φ k,a<b)
  (hFw:∀a∈Fw,b≤a∨∃j∈N,(∃t,σ j=some t)∧a∈Φ j) (hN:∀j∈N,j∈O∧j≠x) (ha:a∈Φ x) (r:RF (H.set a vs') v t' F') (nd:F'.Nodup) (sub:∀y∈F',y∈Φ x∨y∈Fw) (hO:∀j∈O',j∈O∧j∉N):
  St c O' ρ (ZcL (ZW σ x t') N) (H.set a vs') (Zal Φ x F')∧(∀y,ZcV O' (ZcL (ZW σ x t') N) (Zal Φ x F') y→b≤y∨ZcV O σ Φ y):=by
 obtain⟨o1,o2,o3⟩:=s.own x hx t ex
 have old:∀k u,k≠x→ZcL (ZW σ x t') N k=some u→σ k=some u∧k∉N:=fun k u hk e=>by
  unfold ZcL at e
  split at e
  ·cases e
  ·rename_i hn
   simp[ZW,hk]at e
   exact⟨e,hn⟩
 have self:∀u,ZcL (ZW σ x t') N x=some u→u=t':=fun u e=>by
  unfold ZcL at e
  split at e
  ·cases e
  ·simp[ZW]at e;exact e.symm
 have foff:∀y∈F',∀k u,k≠x→σ k=some u→k∉N→y∉Φ k:=fun y hy k u hk e hkn m=>by
  rcases sub y hy with q | q
  ·exact o3 k u hk e y q m
  ·rcases hFw y q with q | ⟨j,hj,⟨tj,ej⟩,mj⟩
   ·have:=hlow k u e y m;omega
   ·exact(s.own j (hN j hj).1 tj ej).2.2 k u (fun q=>hkn (q▸hj)) e y mj m
 refine⟨⟨fun k u e=>?_,fun k u e=>?_,fun k hk u e=>?_,by simpa using s.len,fun y hy hn=>?_,s.pos,s.f0⟩,fun y hy=>?_⟩
 ·by_cases q:k=x
  ·subst q
   have:=self u e
   subst this
   exact⟨v,ev,by simpa [Zal]using r⟩
  ·obtain⟨e1,e2⟩:=old k u q e
   obtain⟨w,h1,h2⟩:=s.slot k u e1
   refine⟨w,h1,?_⟩
   simp only[Zal,q,if_false]
   refine h2.frame fun y hy=>List.getElem?_set_ne fun q'=>?_
   exact o3 k u q e1 a ha (q'▸hy)
 ·by_cases q:k=x
  ·subst q
   simp only[Zal,if_true]
   intro y hy
   rcases sub y hy with q | q
   ·exact s.src k t ex y q
   ·rcases hFw y q with q | ⟨j,hj,⟨tj,ej⟩,mj⟩
    ·exact .inl (by omega)
    ·exact s.src j tj ej y mj
  ·obtain⟨e1,e2⟩:=old k u q e
   simpa [Zal,q]using s.src k u e1
 ·by_cases q:k=x
  ·subst q
   simp only[Zal,if_true]
   refine⟨nd,fun y hy=>?_,fun j w hj ej y hy=>?_⟩
   ·rcases sub y hy with q | q
    ·exact o2 y q
    ·rcases hFw y q with q | ⟨j,hj,⟨tj,ej⟩,mj⟩
     ·exact .inl (by omega)
     ·exact(s.own j (hN j hj).1 tj ej).2.1 y mj
   ·obtain⟨e1,e2⟩:=old j w hj ej
    simpa [hj]using foff y hy j w hj e1 e2
  ·obtain⟨e1,e2⟩:=old k u q e
   obtain⟨p1,p2,p3⟩:=s.own k (hO k hk).1 u e1
   simp only[Zal,q,if_false]
   refine⟨p1,p2,fun j w hj ej y hy=>?_⟩
   by_cases q2:j=x
   ·subst q2
    simp only[if_true]
    exact fun m=>foff y m k u q e1 e2 hy
   ·obtain⟨f1,f2⟩:=old j w q2 ej
    simpa [q2]using p3 j w hj f1 y hy
 ·have:a≠y:=fun q=>by
   subst q
   rcases o2 a ha with q | q
   ·omega
   ·exact hn q
  rw[List.getElem?_set_ne this]
  exact s.keep y hy hn
 ·obtain⟨k,hk,⟨u,e⟩,m⟩:=hy
  by_cases q:k=x
  ·subst q
   simp only[Zal,if_true]at m
   rcases sub y m with q | q
   ·exact .inr ⟨k,hx,⟨t,ex⟩,q⟩
   ·rcases hFw y q with q | ⟨j,hj,q⟩
    ·exact .inl q
    ·exact .inr ⟨j,(hN j hj).1,q⟩
  ·obtain⟨e1,e2⟩:=old k u q e
   simp only[Zal,q,if_false]at m
   exact .inr ⟨k,(hO k hk).1,⟨u,e1⟩,m⟩
theorem ZmG{c:Ctx}{ρ:Lc}{σ:TL}{H:Hp}{Φ:Nat→List Nat}{x a:Nat}{t:T}(s:St c O ρ σ H Φ)(hx:x∈O)(ex:σ x=some t)(ha:a∈Φ x): a≠0:=by
 have:=s.pos
 rcases(s.own x hx t ex).2.1 a ha with q | q
 ·omega
 ·exact fun e=>s.f0 (e▸q)
noncomputable def Zer(w:T)(ts:List T): Option (List T):=if ts.length<LEN then some (ts++[w])else none
noncomputable def ZfH(k:Int)(w:T)(ts:List T): Option (List T):=if 0≤k∧k<ts.length then some (ts.set k.toNat w)else none
noncomputable def ZcW(x:Nat)(N:List Nat)(po:PPa)(p:PE): PS:=fun σ=>(po σ).bind fun ks=>(p σ).bind fun w=>(σ x).bind fun t=>(ZcB (Zer w) ks t).map fun t'=>(none,ZcL (ZW σ x t') N)
noncomputable def Zbm(x:Nat)(N:List Nat)(p:PE)(po:PPa)(pi:PE): PS:=fun σ=>(p σ).bind fun w=>(po σ).bind fun ks=>(pi σ).bind fun k=>match k with
 | .int k=>(σ x).bind fun t=>(ZcB (ZfH k w) ks t).map fun t'=>(none,ZcL (ZW σ x t') N)
 | _=>none
theorem Zf3{H:Hp}(X:Hp): ∀{ks:List Int} {v w:V},follow H ks v=some w→follow (H++X) ks v=some w
 | [],_,_,h=>h
 | k::ks,v,w,h=>by
  obtain⟨⟨w1,K⟩,h1,h2⟩:=Zz0.mp h
  simp only[follow,(ZlI h1 X).2,Option.bind_some]
  exact Zf3 X h2
theorem ZeJ{x:Nat}{N:List Nat}{o e:Ex}{po:PPa}{p:PE}(hx:x∈O)(y:Pa O x o po)(z:E O N true e p)(hN:∀j∈N,j∈O∧j≠x)(hO:∀j∈O',j∈O∧j∉N): S O O' R fr (Zcr (Zds o e)) (ZcW x N po p):=fun c ρ σ H Φ r s q=>by
 obtain⟨ks,h1,q⟩:=Zz0.mp q
 obtain⟨w,h2,q⟩:=Zz0.mp q
 obtain⟨t,h3,q⟩:=Zz0.mp q
 obtain⟨t',h4,q⟩:=Zz1.mp q
 subst q
 obtain⟨v,ev,rv⟩:=s.slot x t h3
 have hlow:∀k t,σ k=some t→∀a∈Φ k,a<H.length:=fun k t e a m=>by
  obtain⟨_,_,r⟩:=s.slot k t e
  exact r.lt a m
 obtain⟨o1,o2,o3⟩:=s.own x hx t h3
 obtain⟨a,vs0,ts0,ts0',G0,l0,_⟩:=Zfs (Gn:=[]) ks rv o1 (by simp) h4
 obtain⟨X,a1⟩:=y c ρ σ H Φ ks v (.ref a) s h1 ev l0.follow
 obtain⟨vw,Y,Fw,b1,b2,b3,b4⟩:=z c ρ σ (H++X) Φ w (s.ext X) h2
 have s2:=(s.ext X).ext Y
 have rv2:RF (H++X++Y) v t (Φ x):=(rv.ext X).ext Y
 have hFw:∀a∈Fw,H.length≤a∨∃j∈N,(∃t,σ j=some t)∧a∈Φ j:=fun a m=>(b3 a m).back
 have dsj:∀a∈Fw,a∉Φ x:=fun a m q=>by
  rcases hFw a m with h | ⟨j,hj,⟨tj,ej⟩,mj⟩
  ·have:=hlow x t h3 a q;omega
  ·exact o3 j tj (hN j hj).2 ej a q mj
 obtain⟨a',vs,ts,ts',G,l,am,ea,hs,hf,gn,na,gs,go⟩:=Zfs (Gn:=Fw) ks rv2 o1 dsj h4
 have haa:a'=a:=by
  have f2:=Zf3 Y (Zf3 X l0.follow)
  rw[l.follow]at f2
  cases f2
  rfl
 subst haa
 unfold Zer at hf
 split at hf
 ·rename_i hl
  cases hf
  obtain⟨F',r',n',sub'⟩:=go (vs++[vw]) (G++Fw) (hs.snoc b2) (by
   rw[List.nodup_append]
   exact⟨gn,b4 rfl,fun y hy z hz e=>dsj z hz (e▸gs y hy)⟩) (fun m=>(Zz8.mp m).elim na fun m=>dsj _ m am) (fun y m=>List.mem_append.mp m)
  obtain⟨st,com⟩:=Zqg (O':=O') (b:=H.length) s2 hx h3 ev s.len hlow hFw hN am r' n' sub' hO
  refine⟨ρ,(H++X++Y).set a' (vs++[vw]),Zal Φ x F',by simp,fun y hy hn=>?_,.inl ⟨rfl,?_,st,com⟩⟩
  ·have:a'≠y:=fun q=>hn ⟨x,hx,⟨t,h3⟩,q▸am⟩
   rw[List.getElem?_set_ne this,List.append_assoc,List.getElem?_append_left hy]
  ·simp only[Zcr,Zds,a1,Option.bind_some,b1,Zgt,ea]
   rw[if_pos ⟨ZmG s hx h3 am,by rw[hs.length];exact hl⟩]
   rfl
 ·cases hf
theorem S.put{x:Nat}{N M:List Nat}{u:Bool}{o e i:Ex}{po:PPa}{p pi:PE}(hx:x∈O)(z:E O N true e p)(y:Pa O x o po)(zi:E O M u i pi)(hN:∀j∈N,j∈O∧j≠x)(hO:∀j∈O',j∈O∧j∉N): S O O' R fr (Zbt e o i) (Zbm x N p po pi):=fun c ρ σ H Φ r s q=>by
 obtain⟨w,h2,q⟩:=Zz0.mp q
 obtain⟨ks,h1,q⟩:=Zz0.mp q
 obtain⟨tk,h5,q⟩:=Zz0.mp q
 cases tk <;> first | (cases q;done) | skip
 rename_i k
 obtain⟨t,h3,q⟩:=Zz0.mp q
 obtain⟨t',h4,q⟩:=Zz1.mp q
 subst q
 obtain⟨v,ev,rv⟩:=s.slot x t h3
 have hlow:∀k t,σ k=some t→∀a∈Φ k,a<H.length:=fun k t e a m=>by
  obtain⟨_,_,r⟩:=s.slot k t e
  exact r.lt a m
 obtain⟨o1,o2,o3⟩:=s.own x hx t h3
 obtain⟨vw,X,Fw,b1,b2,b3,b4⟩:=z c ρ σ H Φ w s h2
 obtain⟨a,vs0,ts0,ts0',G0,l0,_⟩:=Zfs (Gn:=[]) ks (rv.ext X) o1 (by simp) h4
 obtain⟨Y,a1⟩:=y c ρ σ (H++X) Φ ks v (.ref a) (s.ext X) h1 ev l0.follow
 obtain⟨vk,Z,Fk,d1,d2,d3,d4⟩:=zi c ρ σ (H++X++Y) Φ _ ((s.ext X).ext Y) h5
 cases d2
 have s2:=((s.ext X).ext Y).ext Z
 have rv2:RF (H++X++Y++Z) v t (Φ x):=((rv.ext X).ext Y).ext Z
 have hFw:∀a∈Fw,H.length≤a∨∃j∈N,(∃t,σ j=some t)∧a∈Φ j:=b3
 have dsj:∀a∈Fw,a∉Φ x:=fun a m q=>by
  rcases hFw a m with h | ⟨j,hj,⟨tj,ej⟩,mj⟩
  ·have:=hlow x t h3 a q;omega
  ·exact o3 j tj (hN j hj).2 ej a q mj
 obtain⟨a',vs,ts,ts',G,l,am,ea,hs,hf,gn,na,gs,go⟩:=Zfs (Gn:=Fw) ks rv2 o1 dsj h4
 have haa:a'=a:=by
  have f2:=Zf3 Z (Zf3 Y l0.follow)
  rw[l.follow]at f2
  cases f2
  rfl
 subst haa
 unfold ZfH at hf
 split at hf
 ·rename_i hl
  cases hf
  have hk:k.toNat<ts.length:=by omega
  obtain⟨v0,Gk,F1,F2,e0,r0,eG,rb⟩:=hs.split (List.getElem?_eq_getElem hk)
  have b2':RF (H++X++Y++Z) vw w Fw:=(b2.ext Y).ext Z
  have rs:=rb (H++X++Y++Z) vw w Fw b2' (fun _ _=>rfl) (fun _ _=>rfl)
  have sub0:∀a∈Fw,a∈Gk∨a∈Fw:=fun a m=>.inr m
  subst eG
  obtain⟨F',r',n',sub'⟩:=go _ _ rs (nd3 gn (b4 rfl) sub0 fun a m q=>dsj a m (gs a q)) (fun m=>by
   rcases in3 (G:=Gk) sub0 _ m with m | m
   ·exact na m
   ·exact dsj _ m am) (in3 sub0)
  obtain⟨st,com⟩:=Zqg (O':=O') (b:=H.length) s2 hx h3 ev s.len hlow hFw hN am r' n' sub' hO
  refine⟨ρ,(H++X++Y++Z).set a' (vs.set k.toNat vw),Zal Φ x F',by simp,fun y hy hn=>?_,.inl ⟨rfl,?_,st,com⟩⟩
  ·have:a'≠y:=fun q=>hn ⟨x,hx,⟨t,h3⟩,q▸am⟩
   rw[List.getElem?_set_ne this,List.append_assoc,List.append_assoc,List.getElem?_append_left hy]
  ·simp only[Zbt,b1,Option.bind_some,a1,d1,ZiV,ea]
   rw[if_pos ⟨ZmG s hx h3 am,by rw[hs.length];exact hl⟩]
   rfl
 ·cases hf
noncomputable def ZeO(put:T→TL→Option TL)(b:PS): TL→List T→Option (Option T×TL)
 | σ,[]=>some (none,σ)
 | σ,t::ts=>(put t σ).bind fun σ1=>(b σ1).bind fun r=>match r.1 with
  | some _=>some r
  | none=>ZeO put b r.2 ts
noncomputable def ZaI(g:PG)(put:T→TL→Option TL)(b:PS): PS:=fun σ=>(g σ).bind fun ts=>ZeO put b σ ts
theorem Zmk{J:List Nat}{put:V→Lc→Option Lc}{pput:T→TL→Option TL}{b:Sm}{qb:PS}(hj:PutOk O J put pput)(hJ:∀i∈J,i∉O)(hb:S O O R fr b qb){c:Ctx}{nx:Nx}{vs:List V}{G:List Nat}{H1:Hp}(hG:∀a∈G,a<H1.length)(hsrc:∀a∈G,c.H0.length≤a∨c.P a)(hnx:∀K:Hp,(∀a∈G,K[a]?=H1[a]?)→∀i,i≤vs.length→nx i K=some vs[i]?):
  ∀(rs:List T) (ws:List V) (i:Nat) (ρ:Lc) (σ:TL) (K:Hp) (Φ:Nat→List Nat) (Fr:List Nat) (r:Option T×TL),(∀j,vs[i+j]?=ws[j]?)→i+ws.length=vs.length→St c O ρ σ K Φ→H1.length≤K.length→(∀a∈G,K[a]?=H1[a]?)→(∀a∈G,¬ZcV O σ Φ a)→RFs K ws rs Fr→(∀a∈Fr,a∈G)→ZeO pput qb σ rs=some r →
   Aft c O O R fr σ K Φ (Zdy nx put b (rs.length+1) i ρ K) r
 | [],ws,i,ρ,σ,K,Φ,Fr,r,hat,hlen,s,hl,hk,hoff,rr,hfr,h=>by
  cases rr
  cases h
  have e:=hnx K hk i (by simp at hlen;omega)
  have e2:vs[i]?=none:=by have:=hat 0;simpa using this
  exact⟨ρ,K,Φ,Nat.le_refl _,fun _ _ _=>rfl,.inl ⟨rfl,by simp[Zdy,e,e2],s,fun a m=>.inr m⟩⟩
 | t::rs,ws0,i,ρ,σ,K,Φ,Fr0,r,hat,hlen,s,hl,hk,hoff,rr,hfr,h=>by
  cases rr with
  | @cons v _ F1 ws _ F2 a b'=>
  simp only[List.length_cons]at hlen
  obtain⟨σ1,h1,h⟩:=Zz0.mp h
  obtain⟨r1,h2,h⟩:=Zz0.mp h
  have e:=hnx K hk i (by omega)
  have e2:vs[i]?=some v:=by have:=hat 0;simpa using this
  have hat':∀j,vs[i+1+j]?=ws[j]?:=fun j=>by have:=hat (j+1);rw[show i+1+j=i+(j+1)by omega,this];simp
  obtain⟨ρ1,Φ1,p1,s1,p3,p4⟩:=hj c ρ σ K Φ v t F1 σ1 s a (fun x m=>hsrc x (hfr x (Zz4 _ m))) (fun k hk t' e x m q=>hoff x (hfr x (Zz4 _ q)) ⟨k,hk,⟨t',e⟩,m⟩) h1
  have hh:∀x,ZcV O σ1 Φ1 x→ZcV O σ Φ x:=fun x ⟨k,hk,⟨t',e⟩,m⟩=>by
   obtain⟨q1,q2⟩:=p3 k fun q=>hJ k q hk
   exact⟨k,hk,⟨t',q1▸e⟩,q2▸m⟩
  obtain⟨ρ2,K2,Φ2,g1,g2,g3⟩:=hb c ρ1 σ1 K Φ1 r1 s1 h2
  have estep:Zdy nx put b ((t::rs).length+1) i ρ K=(b ρ1 K).bind fun q=>match q.1 with
    | some _=>some q
    | none=>Zdy nx put b (rs.length+1) (i+1) q.2.1 q.2.2:=by
   rw[List.length_cons]
   show(nx i K).bind _=_
   rw[e,e2]
   first | (simp only[Option.bind_some,p1];done) | (simp only[Option.bind_some,p1];rfl)
  rcases g3 with⟨k1,k2,k3,k4⟩ | ⟨t',v',F',k1,k2,k3⟩
  ·rw[k1]at h
   have hG2:∀a∈G,K2[a]?=K[a]?:=fun x m=>g2 x (by have:=hG x m;omega) fun q=>hoff x m (hh x q)
   have hoff2:∀a∈G,¬ZcV O r1.2 Φ2 a:=fun x m q=>by
    rcases k4 x q with q | q
    ·have:=hG x m;omega
    ·exact hoff x m (hh x q)
   have ih:=Zmk hj hJ hb hG hsrc hnx rs ws (i+1) ρ2 r1.2 K2 Φ2 F2 r hat' (by omega) k3 (by omega) (fun x m=>(hG2 x m).trans (hk x m)) hoff2 (b'.frame fun x m=>hG2 x (hfr x (Zz3 _ m))) (fun x m=>hfr x (Zz3 _ m)) h
   rw[estep,k2]
   simp only[Option.bind_some]
   obtain⟨ρ3,K3,Φ3,l1,l2,l3⟩:=ih
   refine⟨ρ3,K3,Φ3,by omega,fun x hx hn=>?_,?_⟩
   ·rw[l2 x (by omega) fun q=>(k4 x q).elim (fun q=>by omega) fun q=>hn (hh x q),g2 x hx fun q=>hn (hh x q)]
   ·rcases l3 with⟨m1,m2,m3,m4⟩ | l
    ·refine .inl ⟨m1,m2,m3,fun x q=>?_⟩
     rcases m4 x q with q | q
     ·exact .inl (by omega)
     ·exact(k4 x q).imp id (hh x)
    ·exact .inr l
  ·rw[k1]at h
   cases h
   refine⟨ρ2,K2,Φ2,g1,fun x hx hn=>g2 x hx fun q=>hn (hh x q),.inr ⟨t',v',F',k1,?_,k3⟩⟩
   rw[estep,k2]
   rfl
theorem Zbd{J Ns:List Nat}{g:Src}{q:PG}{put:V→Lc→Option Lc}{pput:T→TL→Option TL}{b:Sm}{qb:PS}(hg:Gs O Ns g q)(hj:PutOk O J put pput)(hJ:∀i∈J,i∉O)(hN:∀i∈Ns,i∉O)(hb:S O O R fr b qb): S O O R fr (ZaU g put b) (ZaI q pput qb):=fun c ρ σ H Φ r s h=>by
 obtain⟨ts,h1,h⟩:=Zz0.mp h
 obtain⟨nx,X,vs,F,G,g1,g2,g3,g4,g5⟩:=hg c ρ σ H Φ ts s h1
 have:=Zmk hj hJ hb (H1:=H++X) (fun a m=>(g4 a m).1) (fun a m=>s.from_src (g4 a m).2) g5 ts vs 0 ρ σ (H++X) Φ F r (by simp) (by simp) (s.ext X) (Zz10 _) (fun _ _=>rfl) (fun a m ⟨k,hk,⟨t,e⟩,q⟩=>s.from_off hN (g4 a m).2 hk e q) g2 g3 h
 have eg:ZaU g put b ρ H=Zdy nx put b (ts.length+1) 0 ρ (H++X):=by simp only[ZaU,g1,Option.bind_some]
 rw[eg]
 exact this.grow
noncomputable def Zdi(t:PB)(b:PS): Nat→PS
 | 0=>fun _=>none
 | n+1=>fun σ=>(t σ).bind fun p=>if p then(b σ).bind fun q=>(match q.1 with
   | some _=>some q
   | none=>Zdi t b n q.2)else some (none,σ)
theorem Zfk{t:Ts}{pt:PB}{b:Sm}{qb:PS}(z:Bt O t pt)(y:S O O R fr b qb): ∀n,S O O R fr (ZcZ t b n) (Zdi pt qb n)
 | 0=>fun c ρ σ H Φ r s h=>by cases h
 | n+1=>fun c ρ σ H Φ r s h=>by
  obtain⟨p,h1,h⟩:=Zz0.mp h
  obtain⟨X,a1⟩:=z c ρ σ H Φ p s h1
  cases p with
  | false=>
   cases h
   exact⟨ρ,H++X,Φ,by simp,fun a ha _=>List.getElem?_append_left ha,.inl ⟨rfl,by simp[ZcZ,a1],s.ext X,fun a m=>.inr m⟩⟩
  | true=>
   simp only[if_true]at h
   obtain⟨r1,h2,h⟩:=Zz0.mp h
   have b1:=(y c ρ σ (H++X) Φ r1 (s.ext X) h2).grow
   have eg:ZcZ t b (n+1) ρ H=(b ρ (H++X)).bind fun q=>(match q.1 with
    | some _=>some q
    | none=>ZcZ t b n q.2.1 q.2.2):=by
    show(t ρ H).bind _=_
    rw[a1]
    rfl
   rw[eg]
   obtain⟨ρ1,H1,Φ1,g1,g2,g3⟩:=b1
   rcases g3 with⟨k1,k2,k3,k4⟩ | ⟨t',v',F',k1,k2,k3⟩
   ·rw[k1]at h
    obtain⟨ρ3,K3,Φ3,l1,l2,l3⟩:=Zfk z y n c ρ1 r1.2 H1 Φ1 r k3 h
    rw[k2]
    simp only[Option.bind_some]
    refine⟨ρ3,K3,Φ3,by omega,fun x hx hn=>?_,?_⟩
    ·rw[l2 x (by omega) fun q=>(k4 x q).elim (fun q=>by omega) hn,g2 x hx hn]
    ·rcases l3 with⟨m1,m2,m3,m4⟩ | l
     ·refine .inl ⟨m1,m2,m3,fun x q=>?_⟩
      rcases m4 x q with q | q
      ·exact .inl (by omega)
      ·exact k4 x q
     ·exact .inr l
   ·rw[k1]at h
    cases h
    exact⟨ρ1,H1,Φ1,g1,g2,.inr ⟨t',v',F',k1,by rw[k2];rfl,k3⟩⟩
end
noncomputable def Zad(n:Nat)(q:PS): List T→Option T:=fun ts=>if ts.length=n then(q fun i=>ts[i]?).map fun r=>r.1.getD .none else none
theorem RFs.slots{H:Hp}: ∀{vs:List V} {ts:List T} {F:List Nat},RFs H vs ts F→∃Φ:Nat→List Nat,∀i t,ts[i]?=some t→∃v,vs[i]?=some v∧RF H v t (Φ i)∧∀a∈Φ i,a∈F
 | _,_,_,.nil=>⟨fun _=>[],fun i t e=>by simp at e⟩
 | _,_,_,.cons (F:=F1) a b=>by
  obtain⟨Φ,h⟩:=b.slots
  refine⟨fun i=>match i with | 0=>F1 | i+1=>Φ i,fun i t e=>?_⟩
  cases i with
  | zero=>simp at e;subst e;exact⟨_,by simp,a,fun x m=>List.mem_append_left _ m⟩
  | succ i=>
   simp at e
   obtain⟨v,h1,h2,h3⟩:=h i t e
   exact⟨v,by simpa using h1,h2,fun x m=>List.mem_append_right _ (h3 x m)⟩
theorem Zn6{H H':Hp}(hl:H.length≤H'.length)(h:∀a,a<H.length→H'[a]?=H[a]?): H'=H++H'.drop H.length:=by
 conv=>lhs;rw[←List.take_append_drop H.length H']
 congr 1
 refine List.ext_getElem? fun i=>?_
 by_cases q:i<H.length
 ·rw[List.getElem?_take_of_lt q,h i q]
 ·rw[List.getElem?_eq_none (by simp;omega),List.getElem?_eq_none (by omega)]
theorem Zaj{O':List Nat}{fr:Bool}{n:Nat}{g:Sm}{q:PS}(h:S [] O' [] fr g q): SimF fr (Z7 n g) (Zad n q):=fun H vs ts t F1 hp r e=>by
 unfold Zad at e
 split at e
 ·rename_i hl
  obtain⟨r1,e1,e2⟩:=Zz1.mp e
  obtain⟨Φ,hΦ⟩:=r.slots
  have st:St ⟨H,[],fun a=>a∈F1⟩ [] (fun i=>vs[i]?) (fun i=>ts[i]?) H Φ:=
   ⟨(fun i t e=>by obtain⟨v,h1,h2,_⟩:=hΦ i t e;exact⟨v,h1,h2⟩),fun i t e a m=>(by obtain⟨v,h1,h2,h3⟩:=hΦ i t e;exact .inr (h3 a m)),(fun i hi=>nomatch hi),Nat.le_refl _,fun a _ _=>rfl,hp,by simp⟩
  obtain⟨ρ',H',Φ',h1,h2,h3⟩:=h _ _ _ _ _ _ st e1
  rcases h3 with⟨k1,k2,k3,k4⟩ | ⟨t',v',F',k1,k2,k3,k4,k5,k6⟩
  ·have eh:=Zn6 k3.len fun a ha=>k3.keep a ha (by simp)
   refine⟨.none,H'.drop H.length,[],?_,?_,by simp,by simp⟩
   ·have hv:vs.length=n:=r.length.trans hl
    simp only[Z7,hv,if_true,k2,Option.map_some,Option.getD_none]
    rw[←eh]
   ·rw[k1]at e2
    subst e2
    exact .none
  ·have eh:=Zn6 k4.len fun a ha=>k4.keep a ha (by simp)
   refine⟨v',H'.drop H.length,F',?_,?_,k5,fun hf=>⟨(k6 hf).1,fun a m=>((k6 hf).2 a m).elim id fun q=>by cases q⟩⟩
   ·have hv:vs.length=n:=r.length.trans hl
    simp only[Z7,hv,if_true,k2,Option.map_some,Option.getD_some]
    rw[←eh]
   ·rw[k1]at e2
    subst e2
    rw[←eh]
    exact k3
 ·cases e
theorem Ztz{f:List V→Hp→Option (V×Hp)}{p:List T→Option T}{fr:Bool}(h:SimF fr f p)(ns:List Int)(e:p [.lst (ns.map T.int)]=some (.bool true)): ∃H',f [.ref 0] [ns.map V.int]=some (.bool true,H'):=by
 have intsAre:∀l:List Int,RFs [ns.map V.int] (l.map V.int) (l.map T.int) []:=fun l=>by
  induction l with
  | nil=>exact .nil
  | cons a l ih=>exact .cons (.int a) ih
 obtain⟨v,X,F,h1,h2,_⟩:=h [ns.map V.int] [.ref 0] [.lst (ns.map T.int)] _ _ (by simp) (.one (.ref rfl (intsAre ns))) e
 cases h2
 exact⟨_,h1⟩
end TM
end
section
set_option autoImplicit false
namespace TM
open PySem PM
section
variable {O Ns Ne J:List Nat}
theorem Zbx{u:Bool}{g:Src}{q:PG}{put:V→Lc→Option Lc}{pput:T→TL→Option TL}{tc:Ts}{pc:PB}{f:Ex}{pf:PE}(hg:Gs O Ns g q)(hj:PutOk O J put pput)(hN:∀i∈Ns,i∉O)(hc:Bt O tc pc)(hf:E O Ne u f pf): E O (Ns++Ne) false (Zar g put tc f) (Zam q pput pc pf):=
 Zqf hg hj hN hc hf.sh (by simp)
theorem Zcx{g:Src}{q:PG}{put:V→Lc→Option Lc}{pput:T→TL→Option TL}{tc:Ts}{pc:PB}{f:Ex}{pf:PE}(hg:Gs O Ns g q)(hj:PutOk O J put pput)(hN:∀i∈Ns,i∉O)(hc:Bt O tc pc)(hf:E O [] true f pf): E O [] true (Zar g put tc f) (Zam q pput pc pf):=
 Zqf hg hj hN hc hf (by simp)
end
end TM
end
section
set_option autoImplicit false
/-! Forward reckoning over trees. -/
namespace TM
open PySem PM
noncomputable def dec(P:Prop): Bool:=@decide P (Classical.propDecidable P)
theorem dec_iff{P:Prop}: dec P=true↔P:=by unfold dec;exact @decide_eq_true_iff P (Classical.propDecidable P)
theorem Za9{P:Prop}(h:P): dec P=true:=dec_iff.mpr h
theorem ZbR{P:Prop}(h:¬P): dec P=false:=by
 cases e:dec P with
 | true=>exact absurd (dec_iff.mp e) h
 | false=>rfl
theorem ZlJ{P Q:Prop}(h:P↔Q): dec P=dec Q:=by
 by_cases p:P
 ·rw[Za9 p,Za9 (h.mp p)]
 ·rw[ZbR p,ZbR fun q=>p (h.mpr q)]
theorem Zm2{P:Prop}{b:Bool}(h:b=true↔P): dec P=b:=by
 cases b with
 | true=>exact Za9 (h.mp rfl)
 | false=>exact ZbR fun p=>by simpa using h.mpr p
theorem Zhx{P:Prop}[i:Decidable P]: decide P=dec P:=by
 unfold dec;congr
noncomputable def tab{α:Type}(n:Nat)(f:Nat→α): List α:=(List.range n).map f
theorem Zap{α:Type}{n:Nat}{f:Nat→α}: (tab n f).length=n:=by simp[tab]
theorem Za8{α:Type}{n:Nat}{f:Nat→α}{i:Nat}(h:i<n): (tab n f)[i]?=some (f i):=by simp[tab,h]
theorem Zm3{α:Type}{n:Nat}{f:Nat→α}{i:Nat}(h:n≤i): (tab n f)[i]?=none:=by simp[tab,h]
theorem Zcj{α:Type}{n:Nat}{f:Nat→α}: tab n f++[f n]=tab (n+1) f:=by simp[tab,List.range_succ]
theorem Zgw{α:Type}{n:Nat}{xs:List α}{f:Nat→α}(hl:xs.length=n)(h:∀i,i<n→xs[i]?=some (f i)): xs=tab n f:=by
 refine List.ext_getElem? fun i=>?_
 by_cases q:i<n
 ·rw[h i q,Za8 q]
 ·rw[List.getElem?_eq_none (by omega),Zm3 (by omega)]
theorem Za7{α:Type}{n:Nat}{f g:Nat→α}(h:∀i,i<n→f i=g i): tab n f=tab n g:=by
 refine Zgw Zap fun i hi=>?_
 rw[Za8 hi,h i hi]
theorem Zfl{α:Type}{n k:Nat}{f:Nat→α}{v:α}: (tab n f).set k v=tab n fun i=>if i=k then v else f i:=by
 refine Zgw (by rw[List.length_set,Zap]) fun i hi=>?_
 by_cases q:i=k
 ·subst q
  rw[List.getElem?_set_self (by rw[Zap];exact hi),if_pos rfl]
 ·rw[List.getElem?_set_ne (Ne.symm q),Za8 hi,if_neg q]
theorem tab_map{α β:Type}{n:Nat}{f:Nat→α}{g:α→β}: (tab n f).map g=tab n fun i=>g (f i):=by simp[tab]
noncomputable def cn{α:Type}(a:α)(f:Nat→α): Nat→α
 | 0=>a
 | i+1=>f i
theorem Zuk{α:Type}{n:Nat}{a:α}{f:Nat→α}: a::tab n f=tab (n+1) (cn a f):=by
 refine Zgw (by rw[List.length_cons,Zap]) fun i hi=>?_
 cases i with
 | zero=>rfl
 | succ i=>rw[List.getElem?_cons_succ,Za8 (by omega)];rfl
theorem ZpB{α β γ:Type}{n m:Nat}{f:Nat→α}{g:Nat→β}{h:α→β→γ}: List.zipWith h (tab n f) (tab m g)=tab (min n m) fun i=>h (f i) (g i):=by
 refine Zgw (by rw[List.length_zipWith,Zap,Zap]) fun i hi=>?_
 rw[List.getElem?_zipWith,Za8 (show i<n by omega),Za8 (show i<m by omega)]
theorem Zvj{α:Type}{n m:Nat}{f g:Nat→α}: tab n f++tab m g=tab (n+m) fun i=>if i<n then f i else g (i-n):=by
 refine Zgw (by rw[List.length_append,Zap,Zap]) fun i hi=>?_
 by_cases q:i<n
 ·rw[List.getElem?_append_left (by rw[Zap];exact q),Za8 q,if_pos q]
 ·rw[List.getElem?_append_right (by rw[Zap];omega),Zap,Za8 (by omega),if_neg q]
noncomputable def Pk(c:Option T)(Q:T→Prop): Prop:=∃t,c=some t∧Q t
noncomputable def Pl(c:Option (List T))(Q:List T→Prop): Prop:=∃t,c=some t∧Q t
noncomputable def Pb(c:Option Bool)(Q:Bool→Prop): Prop:=∃t,c=some t∧Q t
noncomputable def Psk(c:Option (Option T×TL))(R:T→Prop)(N:TL→Prop): Prop:=∃o σ,c=some (o,σ)∧(∀t,o=some t→R t)∧(o=none→N σ)
theorem ZM{c:Option T}{Q:T→Prop}{t:T}(h:c=some t)(k:Q t): Pk c Q:=⟨t,h,k⟩
theorem Pk.eq{c:Option T}{t:T}(h:Pk c fun v=>v=t): c=some t:=by obtain⟨v,e,rfl⟩:=h;exact e
theorem Pk.mono{c:Option T}{Q Q':T→Prop}(h:Pk c Q)(k:∀t,Q t→Q' t): Pk c Q':=by obtain⟨v,e,q⟩:=h;exact⟨v,e,k v q⟩
section
variable {σ:TL} {Q:T→Prop} {L:List T→Prop} {B:Bool→Prop} {R:T→Prop} {N:TL→Prop}
theorem ZwB{k:Int}(h:Q (.int k)): Pk (Zj k σ) Q:=⟨_,rfl,h⟩
theorem ZwC(h:Q .none): Pk (Z0 σ) Q:=⟨_,rfl,h⟩
theorem Zvk{k:Bool}(h:Q (.bool k)): Pk (Zch k σ) Q:=⟨_,rfl,h⟩
theorem ZwD{i:Nat}{t:T}(e:σ i=some t)(h:Q t): Pk (Za i σ) Q:=⟨_,e,h⟩
theorem ZwE{q:T→T→Option T}{f g:PE}(h:Pk (f σ) fun x=>Pk (g σ) fun y=>Pk (q x y) Q): Pk (Zd q f g σ) Q:=by
 obtain⟨x,a,y,b,z,c,k⟩:=h
 exact⟨z,by simp only[Zd,a,b,Option.bind_some,c],k⟩
theorem Zxm{q:T→Option T}{f:PE}(h:Pk (f σ) fun x=>Pk (q x) Q): Pk (pUn q f σ) Q:=by
 obtain⟨x,a,z,c,k⟩:=h
 exact⟨z,by simp only[pUn,a,Option.bind_some,c],k⟩
theorem Zvl{q:List T→Option T}{f:PEs}(h:Pl (f σ) fun x=>Pk (q x) Q): Pk (Zw q f σ) Q:=by
 obtain⟨x,a,z,c,k⟩:=h
 exact⟨z,by simp only[Zw,a,Option.bind_some,c],k⟩
theorem ZwF(h:L []): Pl (Zm σ) L:=⟨_,rfl,h⟩
theorem Zvm{f:PE}{g:PEs}(h:Pk (f σ) fun x=>Pl (g σ) fun xs=>L (x::xs)): Pl (Zf f g σ) L:=by
 obtain⟨x,a,y,b,k⟩:=h
 exact⟨_,by simp only[Zf,a,b,Option.bind_some],k⟩
theorem ZwG{g:PEs}(h:Pl (g σ) fun xs=>Q (.tup xs)): Pk (ZaC g σ) Q:=by
 obtain⟨x,a,k⟩:=h;exact⟨_,by simp only[ZaC,a,Option.map_some],k⟩
theorem Zvn{g:PEs}(h:Pl (g σ) fun xs=>Q (.lst xs)): Pk (ZaW g σ) Q:=by
 obtain⟨x,a,k⟩:=h;exact⟨_,by simp only[ZaW,a,Option.map_some],k⟩
theorem Zvo{f:PE}(h:Pk (f σ) fun t=>t.flat=true∧Q t): Pk (ZbE f σ) Q:=by
 obtain⟨x,a,b,k⟩:=h;exact⟨_,by simp only[ZbE,a,Option.bind_some,b,if_true],k⟩
theorem Zxn{f:PE}(h:Pk (f σ) fun t=>t.flatIn=true∧Q t): Pk (pFl f σ) Q:=by
 obtain⟨x,a,b,k⟩:=h;exact⟨_,by simp only[pFl,a,Option.bind_some,b,if_true],k⟩
theorem Zxo{b:PB}{f g:PE}(h:Pb (b σ) fun x=>(x=true→Pk (f σ) Q)∧(x=false→Pk (g σ) Q)): Pk (pIf b f g σ) Q:=by
 obtain⟨x,a,h1,h2⟩:=h
 cases x with
 | true=>obtain⟨t,c,q⟩:=h1 rfl;exact⟨t,by simp[pIf,a,c],q⟩
 | false=>obtain⟨t,c,q⟩:=h2 rfl;exact⟨t,by simp[pIf,a,c],q⟩
theorem ZwH{f:PE}(h:Pk (f σ) fun x=>Pb (ZbW x) fun b=>Q (.bool (!b))): Pk (ZiW f σ) Q:=by
 obtain⟨x,a,b,e,q⟩:=h;exact⟨_,by simp only[ZiW,a,Option.bind_some,e,Option.map_some],q⟩
theorem ZwI{f g:PE}(h:Pk (f σ) fun x=>Pb (ZbW x) fun b=>(b=true→Pk (g σ) Q)∧(b=false→Q x)): Pk (ZdY f g σ) Q:=by
 obtain⟨x,a,b,e,h1,h2⟩:=h
 cases b with
 | true=>obtain⟨t,c,q⟩:=h1 rfl;exact⟨t,by simp[ZdY,a,e,c],q⟩
 | false=>exact⟨x,by simp[ZdY,a,e],h2 rfl⟩
theorem Zxp{f g:PE}(h:Pk (f σ) fun x=>Pb (ZbW x) fun b=>(b=true→Q x)∧(b=false→Pk (g σ) Q)): Pk (pOr f g σ) Q:=by
 obtain⟨x,a,b,e,h1,h2⟩:=h
 cases b with
 | false=>obtain⟨t,c,q⟩:=h2 rfl;exact⟨t,by simp[pOr,a,e,c],q⟩
 | true=>exact⟨x,by simp[pOr,a,e],h1 rfl⟩
theorem Zxq{K:String}{f:PE}(h:Pk (f σ) fun x=>Q (.bool (Zig K x))): Pk (pIs K f σ) Q:=by
 obtain⟨x,a,q⟩:=h;exact⟨_,by simp only[pIs,a,Option.map_some],q⟩
theorem ZwJ{f:PE}(h:Pk (f σ) fun x=>Pb (ZbW x) B): Pb (ZH f σ) B:=by
 obtain⟨x,a,b,e,q⟩:=h;exact⟨_,by simp only[ZH,a,Option.bind_some,e],q⟩
theorem Zvp{f:PB}(h:Pb (f σ) fun b=>B (!b)): Pb (ZcC f σ) B:=by
 obtain⟨x,a,q⟩:=h;exact⟨_,by simp only[ZcC,a,Option.map_some],q⟩
theorem Zvq(h:B true): Pb (Zah σ) B:=⟨_,rfl,h⟩
theorem Zul(h:B false): Pb (Zcf σ) B:=⟨_,rfl,h⟩
theorem Zvr{f g:PB}(h:Pb (f σ) fun b=>(b=true→Pb (g σ) B)∧(b=false→B false)): Pb (ZaK f g σ) B:=by
 obtain⟨x,a,h1,h2⟩:=h
 cases x with
 | true=>obtain⟨t,c,q⟩:=h1 rfl;exact⟨t,by simp[ZaK,a,c],q⟩
 | false=>exact⟨_,by simp[ZaK,a],h2 rfl⟩
theorem ZwK{f g:PB}(h:Pb (f σ) fun b=>(b=true→B true)∧(b=false→Pb (g σ) B)): Pb (bOr f g σ) B:=by
 obtain⟨x,a,h1,h2⟩:=h
 cases x with
 | false=>obtain⟨t,c,q⟩:=h2 rfl;exact⟨t,by simp[bOr,a,c],q⟩
 | true=>exact⟨_,by simp[bOr,a],h1 rfl⟩
theorem Zn7{b:Bool}(h:B b): Pb (ZbW (.bool b)) B:=⟨_,rfl,h⟩
theorem Zvs(h:N σ): Psk (Z4 σ) R N:=⟨_,_,rfl,by simp,fun _=>h⟩
theorem ZwL{f:PE}(h:Pk (f σ) R): Psk (ZI f σ) R N:=by
 obtain⟨x,a,q⟩:=h;exact⟨some x,σ,by simp only[ZI,a,Option.map_some],fun t e=>by cases e;exact q,by simp⟩
theorem Zm4{i:Nat}{f:PE}(h:Pk (f σ) fun t=>N (ZW σ i t)): Psk (ZF i f σ) R N:=by
 obtain⟨x,a,q⟩:=h;exact⟨none,ZW σ i x,by simp only[ZF,a,Option.map_some],by simp,fun _=>q⟩
theorem Ziy{a b:PS}(h:Psk (a σ) R fun σ1=>Psk (b σ1) R N): Psk (Zt a b σ) R N:=by
 obtain⟨o,σ1,e,h1,h2⟩:=h
 cases o with
 | some t=>exact⟨some t,σ1,by simp only[Zt,e,Option.bind_some],h1,by simp⟩
 | none=>
  obtain⟨o2,σ2,e2,k1,k2⟩:=h2 rfl
  exact⟨o2,σ2,by simp only[Zt,e,Option.bind_some,e2],k1,k2⟩
theorem Zm5{b:PB}{f g:PS}(h:Pb (b σ) fun x=>(x=true→Psk (f σ) R N)∧(x=false→Psk (g σ) R N)): Psk (Z2 b f g σ) R N:=by
 obtain⟨x,a,h1,h2⟩:=h
 cases x with
 | true=>obtain⟨o,s,c,q⟩:=h1 rfl;exact⟨o,s,by simp[Z2,a,c],q⟩
 | false=>obtain⟨o,s,c,q⟩:=h2 rfl;exact⟨o,s,by simp[Z2,a,c],q⟩
theorem Zm6{n:Nat}{q:PS}{ts:List T}(hn:ts.length=n)(h:Psk (q fun i=>ts[i]?) Q fun _=>Q .none): Pk (Zad n q ts) Q:=by
 obtain⟨o,s,e,h1,h2⟩:=h
 cases o with
 | some t=>exact⟨t,by simp only[Zad,hn,if_true,e,Option.map_some,Option.getD_some],h1 t rfl⟩
 | none=>exact⟨.none,by simp only[Zad,hn,if_true,e,Option.map_some,Option.getD_none],h2 rfl⟩
theorem Zqh{b:Bool}{A C:Prop}(h:b=true)(k:A): (b=true→A)∧(b=false→C):=⟨fun _=>k,fun e=>(by rw[h]at e;cases e)⟩
theorem ZwM{b:Bool}{A C:Prop}(h:b=false)(k:C): (b=true→A)∧(b=false→C):=⟨fun e=>(by rw[h]at e;cases e),fun _=>k⟩
theorem Zm7{a b:Int}(h:Q (.int (a+b))): Pk (ZX (.int a) (.int b)) Q:=⟨_,rfl,h⟩
theorem ZwN{a b:Int}(h:Q (.int (a-b))): Pk (Za5 (.int a) (.int b)) Q:=⟨_,rfl,h⟩
theorem ZwO{a:Int}(h:Q (.int (-a))): Pk (Zdp (.int a)) Q:=⟨_,rfl,h⟩
theorem Zxr{a b:Int}(h:Q (.bool (decide (a<b)))): Pk (qLt (.int a) (.int b)) Q:=⟨_,rfl,h⟩
theorem Zxs{a b:Int}(h:Q (.bool (decide (a≤b)))): Pk (qLe (.int a) (.int b)) Q:=⟨_,rfl,h⟩
theorem Zxt{a b:Int}(h:Q (.bool (decide (b<a)))): Pk (qGt (.int a) (.int b)) Q:=⟨_,rfl,h⟩
theorem ZwP{a b:Int}(hb:b≠0)(h:Q (.int (a.fmod b))): Pk (Zbl (.int a) (.int b)) Q:=⟨_,by simp only[Zbl];rw[if_pos hb],h⟩
theorem ZdR{a b:Int}(hb:b≠0)(hd:Builtin.divisionGoesByPylong a b=false)(h:Q (.int (a.fdiv b))): Pk (ZcT (.int a) (.int b)) Q:=⟨_,by simp only[ZcT];rw[if_pos ⟨hb,hd⟩],h⟩
theorem ZbK{a b:Int}(hm:mulOk a b=true)(h:Q (.int (a*b))): Pk (Zaz (.int a) (.int b)) Q:=⟨_,by simp only[Zaz];rw[if_pos hm],h⟩
theorem ZwQ{a:Int}(h:Q (.int (if a<0 then -a else a))): Pk (ZdD [.int a]) Q:=⟨_,rfl,h⟩
theorem Zij(a b:Int): Zeq (.int a) (.int b)=some (decide (a=b)):=by
 simp[Zeq,ZcU,SeqAt.shaped,PyData.canLay0,PyData.depth,PyData.eqv]
 by_cases h:a=b <;> simp[h]
theorem Zxu{a b:Int}(h:Q (.bool (decide (a=b)))): Pk (qEq (.int a) (.int b)) Q:=⟨_,by simp only[qEq,Zij,Option.map_some],h⟩
theorem Zxv{a b:Int}(h:Q (.bool (decide (a≠b)))): Pk (qNe (.int a) (.int b)) Q:=⟨.bool (decide (a≠b)),by simp only[qNe,Zij,Option.map_some];simp,h⟩
theorem ZwR(h:Q (.bool true)): Pk (qIs .none .none) Q:=⟨_,rfl,h⟩
theorem ZwS{a:Int}(h:Q (.bool false)): Pk (qIs (.int a) .none) Q:=⟨_,rfl,h⟩
theorem ZwT{a:List T}(h:Q (.bool false)): Pk (qIs (.lst a) .none) Q:=⟨_,rfl,h⟩
theorem ZwU{a:List T}(h:Q (.bool false)): Pk (qIs (.tup a) .none) Q:=⟨_,rfl,h⟩
theorem Zvt(h:Q (.bool false)): Pk (Zb4 .none .none) Q:=⟨_,rfl,h⟩
theorem Zvu{a:Int}(h:Q (.bool true)): Pk (Zb4 (.int a) .none) Q:=⟨_,rfl,h⟩
theorem Zvv{a:List T}(h:Q (.bool true)): Pk (Zb4 (.tup a) .none) Q:=⟨_,rfl,h⟩
theorem Zvw{n:Nat}{f:Nat→T}(h:Q (.int n)): Pk (Zaq [.lst (tab n f)]) Q:=⟨_,by simp only[Zaq,Zap],h⟩
theorem ZwV{ts:List T}(h:Q (.int ts.length)): Pk (Zaq [.lst ts]) Q:=⟨_,rfl,h⟩
theorem Zvx{ts:List T}(h:Q (.int ts.length)): Pk (Zaq [.tup ts]) Q:=⟨_,rfl,h⟩
theorem ZdW{k:Int}{n:Nat}(h0:0≤k)(h1:k<n): seqIndex? k n=some k.toNat:=by
 unfold seqIndex?
 have:¬k<0:=by omega
 simp[this]
 omega
theorem Zvy{n i:Nat}{f:Nat→T}(hi:i<n)(h:Q (f i)): Pk (Zq (.lst (tab n f)) (.int (i:Nat))) Q:=⟨_,by
 simp only[Zq,Zap,ZdW (show(0:Int)≤(i:Int)by omega) (show(i:Int)<(n:Int)by omega),Option.bind_some,Int.toNat_natCast]
 exact Za8 hi,h⟩
theorem Zvz{n:Nat}{k:Int}{f:Nat→T}(h0:0≤k)(h1:k<n)(h:Q (f k.toNat)): Pk (Zq (.lst (tab n f)) (.int k)) Q:=⟨_,by
 simp only[Zq,Zap,ZdW h0 h1,Option.bind_some]
 exact Za8 (by omega),h⟩
theorem Zik{ts:List T}{k:Int}{t:T}(h0:0≤k)(e:ts[k.toNat]?=some t)(h:Q t): Pk (Zq (.lst ts) (.int k)) Q:=⟨_,by
 simp only[Zq]
 rw[ZdW h0 (by have:=(Zz6.mp e).1;omega)]
 exact e,h⟩
theorem ZvA{ts:List T}{k:Int}{t:T}(h0:0≤k)(e:ts[k.toNat]?=some t)(h:Q t): Pk (Zq (.tup ts) (.int k)) Q:=⟨_,by
 simp only[Zq]
 rw[ZdW h0 (by have:=(Zz6.mp e).1;omega)]
 exact e,h⟩
theorem ZpC{n:Nat}{a:T}{f:Nat→T}(hn:n<10000)(h:Q (.lst (tab (n+1) (cn a f)))): Pk (ZX (.lst [a]) (.lst (tab n f))) Q:=⟨_,by
 simp only[ZX]
 rw[if_pos (by rw[Zbg,List.length_append,Zap];simp;omega),List.singleton_append,Zuk],h⟩
theorem Zml{n m:Nat}{f g:Nat→T}(hn:n+m<10000)(h:Q (.lst (tab (n+m) fun i=>if i<n then f i else g (i-n)))): Pk (ZX (.lst (tab n f)) (.lst (tab m g))) Q:=⟨_,by
 simp only[ZX]
 rw[if_pos (by rw[Zbg,List.length_append,Zap,Zap];omega),Zvj],h⟩
theorem Zum{ts:List T}(h:Q (.lst ts)): Pk (Zcm [.lst ts]) Q:=⟨_,rfl,h⟩
theorem ZvB{ts:List T}(h:Q (.tup ts)): Pk (Zii [.lst ts]) Q:=⟨_,rfl,h⟩
theorem ZtA{n:Nat}{f:Nat→Bool}: Zft (tab n fun i=>.bool (f i))=some (tab n f):=by
 have:∀l:List Bool,Zft (l.map T.bool)=some l:=fun l=>by
  induction l with
  | nil=>rfl
  | cons a l ih=>simp only[List.map_cons,Zft,ih,Option.map_some]
 rw[show(tab n fun i=>T.bool (f i))=(tab n f).map T.bool from tab_map.symm]
 exact this _
theorem Zun{n:Nat}{f:Nat→Int}: Zdl (tab n fun i=>.int (f i))=some (tab n f):=by
 have:∀l:List Int,Zdl (l.map T.int)=some l:=fun l=>by
  induction l with
  | nil=>rfl
  | cons a l ih=>simp only[List.map_cons,Zdl,ih,Option.map_some]
 rw[show(tab n fun i=>T.int (f i))=(tab n f).map T.int from tab_map.symm]
 exact this _
theorem ZwW{n:Nat}{P:Nat→Prop}(h:Q (.bool (dec (∃i,i<n∧P i)))): Pk (ZgZ [.lst (tab n fun i=>.bool (dec (P i)))]) Q:=⟨_,by
 simp only[ZgZ,ZtA,Option.map_some]
 congr 2
 symm
 apply Zm2
 rw[List.any_eq_true]
 constructor
 ·rintro⟨x,hx,h⟩
  obtain⟨i,hi,e⟩:=List.getElem_of_mem hx
  rw[Zap]at hi
  have:=Za8 (f:=fun i=>dec (P i)) hi
  rw[List.getElem?_eq_getElem (by rw[Zap];exact hi)]at this
  rw[←e,Option.some.inj this]at h
  exact⟨i,hi,dec_iff.mp h⟩
 ·rintro⟨i,hi,h⟩
  exact⟨_,List.mem_of_getElem? (Za8 hi),Za9 h⟩,h⟩
noncomputable def SqP(x:T)(L:List T→Prop): Prop:=∃ts,(x=.lst ts∨x=.tup ts)∧L ts
theorem Zil{f:PE}(h:Pk (f σ) fun t=>SqP t L): Pl (ZaD f σ) L:=by
 obtain⟨t,a,ts,rfl | rfl,q⟩:=h <;> exact⟨_,by simp only[ZaD,a,Option.bind_some],q⟩
theorem Sq.lst{ts:List T}(h:L ts): SqP (.lst ts) L:=⟨ts,.inl rfl,h⟩
theorem Zqi{a b c:Int}{H:Hp}{z:Nx×Nat×Hp}(h:Zcw a b c H=some z): Zct a b c=some ((List.range (rngN a b c)).map fun(i:Nat)=>.int (a+(i:Int)*c)):=by
 unfold Zcw at h
 split at h
 ·rename_i hc
  unfold Zct
  rw[if_pos hc]
 ·cases h
theorem Zuo{n:Nat}(hn:n≤1000): Zct 0 n 1=some (tab n fun i=>.int i):=by
 rw[Zqi (Zww (H:=[]) (b:=n) (by omega) (by omega))]
 have e:rngN 0 n 1=n:=by
  unfold rngN Builtin.Range.rangeSize
  by_cases q:(0:Int)<n
  ·rw[if_pos (by decide),if_pos (by omega)];omega
  ·rw[if_pos (by decide),if_neg (by omega)];omega
 rw[e]
 simp[tab]
theorem ZmH{a n:Nat}(ha:0<n)(hn:a+n≤1000): Zct a (a+n) 1=some (tab n fun i=>.int (a+i)):=by
 rw[Zqi (Zwy (H:=[]) (a:=a) (b:=a+n) (c:=1) (by omega) (by omega) (by omega) (by omega) (by omega))]
 have e:rngN a (a+n) 1=n:=by
  unfold rngN
  rw[ZqH (by omega) (by omega)]
  omega
 rw[e]
 simp[tab]
theorem ZvC{g:PEs}{b:Int}{o:Option (List T)}(e:g σ=some [.int b])(h:Zct 0 b 1=o): ZaB g σ=o:=by
 subst h;unfold ZaB;rw[e];rfl
theorem Zfm{g:PEs}{a b:Int}{o:Option (List T)}(e:g σ=some [.int a,.int b])(h:Zct a b 1=o): ZaB g σ=o:=by
 subst h;unfold ZaB;rw[e];rfl
noncomputable def RnP(xs:List T)(L:List T→Prop): Prop:=(∃n:Nat,xs=[.int n]∧n≤1000∧L (tab n fun i=>.int i))∨∃(a:Nat) (n:Nat),xs=[.int a,.int (a+n)]∧0<n∧a+n≤1000∧L (tab n fun i=>.int (a+i))
theorem Zup{g:PEs}(h:Pl (g σ) fun xs=>RnP xs L): Pl (ZaB g σ) L:=by
 obtain⟨xs,e,h⟩:=h
 rcases h with⟨n,h0,h1,q⟩ | ⟨a,n,h0,h1,h2,q⟩
 ·subst h0;exact⟨_,ZvC e (Zuo h1),q⟩
 ·subst h0;exact⟨_,Zfm e (ZmH h1 h2),q⟩
theorem Rn.one{n:Nat}(hn:n≤1000)(h:L (tab n fun i=>.int i)): RnP [.int n] L:=.inl ⟨n,rfl,hn,h⟩
theorem Znq{k:Int}(n:Nat)(e:k=n)(hn:n≤1000)(h:L (tab n fun i=>.int i)): RnP [.int k] L:=.inl ⟨n,by rw[e],hn,h⟩
theorem Rn.two{k l:Int}(a n:Nat)(e0:l=a)(e:k=a+n)(ha:0<n)(hn:a+n≤1000)(h:L (tab n fun i=>.int (a+i))): RnP [.int l,.int k] L:=.inr ⟨a,n,by rw[e,e0],ha,hn,h⟩
noncomputable def ZiP(x y:T)(L:List T→Prop): Prop:=∃xs ys,x=.lst xs∧y=.lst ys∧L (List.zipWith (fun a b=>.tup [a,b]) xs ys)
theorem Zm8{f g:PE}(h:Pk (f σ) fun x=>Pk (g σ) fun y=>ZiP x y L): Pl (Zc5 f g σ) L:=by
 obtain⟨x,a,y,b,xs,ys,rfl,rfl,q⟩:=h;exact⟨_,by simp only[Zc5,a,b,Option.bind_some],q⟩
theorem Zi.eq{n:Nat}{f g:Nat→T}(h:L (tab n fun i=>.tup [f i,g i])): ZiP (.lst (tab n f)) (.lst (tab n g)) L:=⟨_,_,rfl,rfl,by rw[ZpB,Nat.min_self];exact h⟩
theorem Zot{j:Nat}{f:PE}{h:T→T}: ∀{ts:List T},(∀t∈ts,f (ZW σ j t)=some (h t))→Zcq (Z5 j) Zah f σ ts=some (ts.map h)
 | [],_=>rfl
 | t::ts,k=>by
  simp only[Zcq,Z5,Zah,Option.bind_some,if_true,k t Zz5,Zot fun t m=>k t (Zz2 _ m),Option.map_some,List.map_cons]
theorem ZmI{put:T→TL→Option TL}{f:PE}: ∀{ts us:List T},us.length=ts.length→(∀(i:Nat) t u,ts[i]?=some t→us[i]?=some u→∃σ1,put t σ=some σ1∧f σ1=some u)→Zcq put Zah f σ ts=some us
 | [],us,hl,_=>by cases us with
  | nil=>rfl
  | cons _ _=>simp at hl
 | t::ts,us,hl,k=>by
  cases us with
  | nil=>simp at hl
  | cons u us=>
   obtain⟨σ1,h1,h2⟩:=k 0 t u (by simp) (by simp)
   have:=ZmI (ts:=ts) (us:=us) (f:=f) (put:=put) (by simpa using hl) fun i t' u' h3 h4=>k (i+1) t' u' (by simpa using h3) (by simpa using h4)
   simp only[Zcq,h1,Zah,Option.bind_some,if_true,h2,this,Option.map_some]
theorem Zby{g:PG}{j n:Nat}{a b:Nat→T}{f:PE}(hn:n<10000)(hg:Pl (g σ) fun ts=>ts=tab n a)(hf:∀i,i<n→Pk (f (ZW σ j (a i))) fun t=>t=b i)(h:Q (.lst (tab n b))): Pk (Zam g (Z5 j) Zah f σ) Q:=by
 obtain⟨ts,e,rfl⟩:=hg
 refine⟨_,?_,h⟩
 simp only[Zam,e,Option.bind_some,Zap]
 rw[if_pos (by rw[Zbg];omega),ZmI (us:=tab n b) (by rw[Zap,Zap]) fun i t u h1 h2=>?_]
 ·rfl
 ·have hi:i<n:=by have:=(Zz6.mp h1).1;rwa [Zap]at this
  rw[Za8 hi]at h1 h2
  cases h1;cases h2
  exact⟨_,rfl,(hf i hi).eq⟩
theorem Zmm{g:PG}{j k n:Nat}{a b c:Nat→T}{f:PE}(hn:n<10000)(hg:Pl (g σ) fun ts=>ts=tab n fun i=>.tup [a i,b i])(hf:∀i,i<n→Pk (f (ZW (ZW σ j (a i)) k (b i))) fun t=>t=c i)(h:Q (.lst (tab n c))): Pk (Zam g (Zcp j k) Zah f σ) Q:=by
 obtain⟨ts,e,rfl⟩:=hg
 refine⟨_,?_,h⟩
 simp only[Zam,e,Option.bind_some,Zap]
 rw[if_pos (by rw[Zbg];omega),ZmI (us:=tab n c) (by rw[Zap,Zap]) fun i t u h1 h2=>?_]
 ·rfl
 ·have hi:i<n:=by have:=(Zz6.mp h1).1;rwa [Zap]at this
  rw[Za8 hi]at h1 h2
  cases h1;cases h2
  exact⟨_,rfl,(hf i hi).eq⟩
theorem Ziz{put:T→TL→Option TL}{b:PS}: ∀{ts:List T} (P:Nat→TL→Prop) {σ:TL},P 0 σ→(∀(i:Nat) t σ,ts[i]?=some t→P i σ→∃σ1,put t σ=some σ1∧Psk (b σ1) R (P (i+1)))→(∀σ,P ts.length σ→N σ)→Psk (ZeO put b σ ts) R N
 | [],P,σ,h0,_,h2=>⟨_,_,rfl,by simp,fun _=>h2 _ h0⟩
 | t::ts,P,σ,h0,h1,h2=>by
  obtain⟨σ1,e1,o,σ2,e2,k1,k2⟩:=h1 0 t σ (by simp) h0
  cases o with
  | some v=>exact⟨some v,σ2,by simp only[ZeO,e1,Option.bind_some,e2],k1,by simp⟩
  | none=>
   obtain⟨o3,σ3,e3,l1,l2⟩:=Ziz (ts:=ts) (fun i=>P (i+1)) (k2 rfl) (fun i t' σ' h3 h4=>h1 (i+1) t' σ' (by simpa using h3) h4) (fun σ' h=>h2 σ' (by simpa using h))
   exact⟨o3,σ3,by simp only[ZeO,e1,Option.bind_some,e2,e3],l1,l2⟩
theorem ZbQ{g:PG}{j n:Nat}{a:Nat→T}{b:PS}(hg:Pl (g σ) fun ts=>ts=tab n a)(P:Nat→TL→Prop)(h0:P 0 σ)(h1:∀i σ,i<n→P i σ→Psk (b (ZW σ j (a i))) R (P (i+1)))(h2:∀σ,P n σ→N σ): Psk (ZaI g (Z5 j) b σ) R N:=by
 obtain⟨ts,e,rfl⟩:=hg
 have:=Ziz (R:=R) (N:=N) (put:=Z5 j) (b:=b) (ts:=tab n a) P h0 (fun i t σ' h3 h4=>by
  have hi:i<n:=by have:=(Zz6.mp h3).1;rwa [Zap]at this
  rw[Za8 hi]at h3
  cases h3
  exact⟨_,rfl,h1 i σ' hi h4⟩) (by rw[Zap];exact h2)
 obtain⟨o,s,e2,q⟩:=this
 exact⟨o,s,by simp only[ZaI,e,Option.bind_some,e2],q⟩
theorem Zez{g:PG}{j k n:Nat}{a c:Nat→T}{b:PS}(hg:Pl (g σ) fun ts=>ts=tab n fun i=>.tup [a i,c i])(P:Nat→TL→Prop)(h0:P 0 σ)(h1:∀i σ,i<n→P i σ→Psk (b (ZW (ZW σ j (a i)) k (c i))) R (P (i+1)))(h2:∀σ,P n σ→N σ): Psk (ZaI g (Zcp j k) b σ) R N:=by
 obtain⟨ts,e,rfl⟩:=hg
 have:=Ziz (R:=R) (N:=N) (put:=Zcp j k) (b:=b) (ts:=tab n fun i=>.tup [a i,c i]) P h0 (fun i t σ' h3 h4=>by
  have hi:i<n:=by have:=(Zz6.mp h3).1;rwa [Zap]at this
  rw[Za8 hi]at h3
  cases h3
  exact⟨_,rfl,h1 i σ' hi h4⟩) (by rw[Zap];exact h2)
 obtain⟨o,s,e2,q⟩:=this
 exact⟨o,s,by simp only[ZaI,e,Option.bind_some,e2],q⟩
theorem ZvD{g:PG}{j:Nat}{ts:List T}{b:PS}(hg:Pl (g σ) fun us=>us=ts)(P:Nat→TL→Prop)(h0:P 0 σ)(h1:∀(i:Nat) t σ,ts[i]?=some t→P i σ→Psk (b (ZW σ j t)) R (P (i+1)))(h2:∀σ,P ts.length σ→N σ): Psk (ZaI g (Z5 j) b σ) R N:=by
 obtain⟨us,e,rfl⟩:=hg
 obtain⟨o,s,e2,q⟩:=Ziz (R:=R) (N:=N) (put:=Z5 j) (b:=b) (ts:=us) P h0 (fun i t σ' h3 h4=>⟨_,rfl,h1 i t σ' h3 h4⟩) h2
 exact⟨o,s,by simp only[ZaI,e,Option.bind_some,e2],q⟩
theorem Zfd{t:PB}{b:PS}(P:Nat→TL→Prop)(R:T→Prop)(N:TL→Prop)(h:∀m σ,P m σ→Pb (t σ) fun x=>(x=true→Psk (b σ) R fun σ1=>∃m',m'<m∧P m' σ1)∧(x=false→N σ)): ∀(n:Nat) {m:Nat} {σ:TL},P m σ→m<n→Psk (Zdi t b n σ) R N
 | 0,_,_,_,hm=>by omega
 | n+1,m,σ,hp,hm=>by
  obtain⟨x,e,h1,h2⟩:=h m σ hp
  cases x with
  | false=>exact⟨none,σ,by simp[Zdi,e],by simp,fun _=>h2 rfl⟩
  | true=>
   obtain⟨o,σ1,e1,k1,k2⟩:=h1 rfl
   cases o with
   | some v=>exact⟨some v,σ1,by simp[Zdi,e,e1],k1,by simp⟩
   | none=>
    obtain⟨m',hm',hp'⟩:=k2 rfl
    obtain⟨o2,σ2,e2,l1,l2⟩:=Zfd P R N h n hp' (by omega)
    exact⟨o2,σ2,by simp[Zdi,e,e1,e2],l1,l2⟩
theorem ZhR: ZcL σ []=σ:=by funext i;simp[ZcL]
noncomputable def AppP(σ:TL)(x:Nat)(w:T)(N:TL→Prop): Prop:=∃ts,σ x=some (.lst ts)∧ts.length<10000∧N (ZW σ x (.lst (ts++[w])))
theorem ZvE{x:Nat}{w:T}{ts:List T}(e:σ x=some (.lst ts))(hl:ts.length<10000)(h:N (ZW σ x (.lst (ts++[w])))): AppP σ x w N:=⟨ts,e,hl,h⟩
theorem ZwX{x:Nat}{f:PE}(h:Pk (f σ) fun w=>AppP σ x w N): Psk (ZcW x [] ZaS f σ) R N:=by
 obtain⟨w,e,ts,h1,h2,q⟩:=h
 refine⟨none,_,?_,by simp,fun _=>q⟩
 simp only[ZcW,ZaS,Option.bind_some,e,h1,ZcB,Zer]
 rw[if_pos (by rw[Zbg];omega)]
 simp only[Option.map_some,ZhR]
noncomputable def AppQ(σ:TL)(x y:Nat)(w:T)(N:TL→Prop): Prop:=∃ts,σ x=some (.lst ts)∧ts.length<10000∧N (ZcL (ZW σ x (.lst (ts++[w]))) [y])
theorem ZvF{x y:Nat}{w:T}{ts:List T}(e:σ x=some (.lst ts))(hl:ts.length<10000)(h:N (ZcL (ZW σ x (.lst (ts++[w]))) [y])): AppQ σ x y w N:=⟨ts,e,hl,h⟩
theorem ZvG{x y:Nat}{f:PE}(h:Pk (f σ) fun w=>AppQ σ x y w N): Psk (ZcW x [y] ZaS f σ) R N:=by
 obtain⟨w,e,ts,h1,h2,q⟩:=h
 refine⟨none,_,?_,by simp,fun _=>q⟩
 simp only[ZcW,ZaS,Option.bind_some,e,h1,ZcB,Zer]
 rw[if_pos (by rw[Zbg];omega)]
 simp only[Option.map_some]
noncomputable def PutP(σ:TL)(x:Nat)(w k:T)(N:TL→Prop): Prop:=∃ts m,k=.int m∧σ x=some (.lst ts)∧0≤m∧m<ts.length∧N (ZW σ x (.lst (ts.set m.toNat w)))
theorem Zuq{x n i:Nat}{w:T}{f:Nat→T}(e:σ x=some (.lst (TM.tab n f)))(hi:i<n)(h:N (ZW σ x (.lst (TM.tab n fun k=>if k=i then w else f k)))): PutP σ x w (.int i) N:=⟨_,_,rfl,e,by omega,by rw[Zap];omega,by rw[Int.toNat_natCast,Zfl];exact h⟩
theorem ZhS{x n:Nat}{k:Int}{w:T}{f:Nat→T}(e:σ x=some (.lst (TM.tab n f)))(h0:0≤k)(hi:k<n)(h:N (ZW σ x (.lst (TM.tab n fun i=>if i=k.toNat then w else f i)))): PutP σ x w (.int k) N:=⟨_,_,rfl,e,h0,by rw[Zap];omega,by rw[Zfl];exact h⟩
theorem ZwY{x:Nat}{f i:PE}(h:Pk (f σ) fun w=>Pk (i σ) fun k=>PutP σ x w k N): Psk (Zbm x [] f ZaS i σ) R N:=by
 obtain⟨w,e,k,e2,ts,m,rfl,h1,h2,h3,q⟩:=h
 refine⟨none,_,?_,by simp,fun _=>q⟩
 simp only[Zbm,ZaS,Option.bind_some,e,e2,h1,ZcB,ZfH]
 rw[if_pos ⟨h2,h3⟩]
 simp only[Option.map_some,ZhR]
noncomputable def Put2(σ:TL)(x:Nat)(w a k:T)(N:TL→Prop): Prop:=∃ts us l m,a=.int l∧k=.int m∧σ x=some (.lst ts)∧0≤l∧ts[l.toNat]?=some (.lst us)∧0≤m∧m<us.length∧N (ZW σ x (.lst (ts.set l.toNat (.lst (us.set m.toNat w)))))
theorem Zur{x n m i j:Nat}{w:T}{f:Nat→Nat→T}(e:σ x=some (.lst (TM.tab n fun a=>.lst (TM.tab m (f a)))))(hi:i<n)(hj:j<m)(h:N (ZW σ x (.lst (TM.tab n fun a=>.lst (TM.tab m fun b=>if a=i∧b=j then w else f a b))))): Put2 σ x w (.int i) (.int j) N:=by
 refine⟨_,TM.tab m (f i),i,j,rfl,rfl,e,by omega,?_,by omega,by rw[Zap];omega,?_⟩
 ·rw[Int.toNat_natCast,Za8 hi]
 ·rw[Int.toNat_natCast,Int.toNat_natCast,Zfl,Zfl]
  have:(TM.tab n fun a=>if a=i then T.lst (TM.tab m fun b=>if b=j then w else f i b)else T.lst (TM.tab m (f a)))=TM.tab n fun a=>.lst (TM.tab m fun b=>if a=i∧b=j then w else f a b):=Za7 fun a _=>by
   by_cases q:a=i
   ·subst q;simp
   ·simp[q]
  rw[this];exact h
theorem ZvH{x:Nat}{f i j:PE}(h:Pk (f σ) fun w=>Pk (i σ) fun a=>Pk (j σ) fun k=>Put2 σ x w a k N): Psk (Zbm x [] f (Zcy ZaS i) j σ) R N:=by
 obtain⟨w,e,a,e1,k,e2,ts,us,l,m,rfl,rfl,h1,h0,h4,h2,h3,q⟩:=h
 refine⟨none,_,?_,by simp,fun _=>q⟩
 have hl:=(Zz6.mp h4).1
 simp only[Zbm,ZaS,Zcy,Option.bind_some,e,e1,e2,h1,List.nil_append,ZcB,ZfH,ZdW h0 (show l<ts.length by omega),h4]
 rw[if_pos ⟨h2,h3⟩]
 simp only[Option.map_some,ZhR]
theorem ZvI{i j:Nat}{t:T}{o:Option T}(h:j≠i)(e:σ j=o): ZW σ i t j=o:=by simp[ZW,h,e]
theorem Zus{j:Nat}{J:List Nat}{o:Option T}(h:j∉J)(e:σ j=o): ZcL σ J j=o:=by simp[ZcL,h,e]
end
end TM
end
section
set_option autoImplicit false
namespace TM
open PySem PM
inductive Pln: Nat→T→Prop where
 | none {n:Nat}:Pln n .none
 | int {n:Nat} {i:Int}:Pln n (.int i)
 | str {n:Nat} {x:Str}:PyData.strOk x=true→Pln n (.str x)
 | tup {n:Nat} {ts:List T}:(∀t∈ts,Pln n t)→Pln (n+1) (.tup ts)
 | lst {n:Nat} {ts:List T}:(∀t∈ts,Pln n t)→Pln (n+1) (.lst ts)
mutual
noncomputable def dd: T→PyData
 | .none=>.none
 | .bool b=>.bool b
 | .int i=>.int i
 | .str x=>.str x
 | .tup ts=>.tuple (dds ts)
 | .lst ts=>.list (dds ts)
noncomputable def dds: List T→List PyData
 | []=>[]
 | t::ts=>dd t::dds ts
end
theorem Zmn{f:T→Option PyData}: ∀{ts:List T},(∀t∈ts,f t=some (dd t))→ZeH f ts=some (dds ts)
 | [],_=>rfl
 | t::ts,h=>by simp only[ZeH,h t Zz5,Zmn fun t m=>h t (Zz2 _ m),Option.bind_some,dds]
theorem ZmJ: ∀{ts:List T},(∀t∈ts,PyData.canLay0 (dd t)=true)→PyData.canLayAll0 (dds ts)=true
 | [],_=>rfl
 | t::ts,h=>by simp only[dds,PyData.canLayAll0,h t Zz5,ZmJ fun t m=>h t (Zz2 _ m),Bool.and_self]
theorem ZmK{n:Nat}: ∀{ts:List T},(∀t∈ts,PyData.depth (dd t)≤n)→PyData.depthAll (dds ts)≤n
 | [],_=>by simp[dds,PyData.depthAll]
 | t::ts,h=>by
  have h1:=h t Zz5
  have h2:=ZmK fun t m=>h t (Zz2 _ m)
  simp only[dds,PyData.depthAll]
  omega
theorem Pln.dat{n:Nat}{t:T}(h:Pln n t): ZcU n t=some (dd t)∧PyData.canLay0 (dd t)=true∧PyData.depth (dd t)≤n:=by
 induction h with
 | @none n=>cases n <;> exact⟨rfl,rfl,by simp[dd,PyData.depth]⟩
 | @int n i=>cases n <;> exact⟨rfl,rfl,by simp[dd,PyData.depth]⟩
 | @str n x h=>cases n <;> exact⟨rfl,by simpa [dd,PyData.canLay0]using h,by simp[dd,PyData.depth]⟩
 | @tup n ts _ ih=>
  refine⟨?_,?_,?_⟩
  ·simp only[ZcU,Zmn fun t m=>(ih t m).1,Option.map_some,dd]
  ·simp only[dd,PyData.canLay0];exact ZmJ fun t m=>(ih t m).2.1
  ·simp only[dd,PyData.depth]
   have:=ZmK fun t m=>(ih t m).2.2
   omega
 | @lst n ts _ ih=>
  refine⟨?_,?_,?_⟩
  ·simp only[ZcU,Zmn fun t m=>(ih t m).1,Option.map_some,dd]
  ·simp only[dd,PyData.canLay0];exact ZmJ fun t m=>(ih t m).2.1
  ·simp only[dd,PyData.depth]
   have:=ZmK fun t m=>(ih t m).2.2
   omega
theorem ZmL: ∀{ts us:List T},(∀t∈ts,∀u∈us,(PyData.eqv (dd t) (dd u)=true↔t=u))→(PyData.eqvAll (dds ts) (dds us)=true↔ts=us)
 | [],[],_=>by simp[dds,PyData.eqvAll]
 | [],_::_,_=>by simp[dds,PyData.eqvAll]
 | _::_,[],_=>by simp[dds,PyData.eqvAll]
 | t::ts,u::us,h=>by
  simp only[dds,PyData.eqvAll,Bool.and_eq_true,h t Zz5 u Zz5,ZmL fun t m u n=>h t (Zz2 _ m) u (Zz2 _ n),List.cons.injEq]
theorem Pln.eqv{n:Nat}{t:T}(h:Pln n t): ∀{m:Nat} {u:T},Pln m u→(PyData.eqv (dd t) (dd u)=true↔t=u):=by
 induction h with
 | none=>intro m u h;cases h <;> simp[dd,PyData.eqv]
 | int=>intro m u h;cases h <;> simp[dd,PyData.eqv]
 | str _=>intro m u h;cases h <;> simp[dd,PyData.eqv]
 | tup hs ih=>
  intro m u h
  cases h with
  | tup hu=>simp only[dd,PyData.eqv,T.tup.injEq];exact ZmL fun t a u b=>ih t a (hu u b)
  | none=>simp[dd,PyData.eqv]
  | int=>simp[dd,PyData.eqv]
  | str=>simp[dd,PyData.eqv]
  | lst=>simp[dd,PyData.eqv]
 | lst hs ih=>
  intro m u h
  cases h with
  | lst hu=>simp only[dd,PyData.eqv,T.lst.injEq];exact ZmL fun t a u b=>ih t a (hu u b)
  | none=>simp[dd,PyData.eqv]
  | int=>simp[dd,PyData.eqv]
  | str=>simp[dd,PyData.eqv]
  | tup=>simp[dd,PyData.eqv]
theorem Pln.mono{n:Nat}{t:T}(h:Pln n t): ∀{m:Nat},n≤m→Pln m t:=by
 induction h with
 | none=>intro m _;exact .none
 | int=>intro m _;exact .int
 | str h=>intro m _;exact .str h
 | tup hs ih=>
  intro m hm
  cases m with
  | zero=>omega
  | succ m=>exact .tup fun t a=>ih t a (by omega)
 | lst hs ih=>
  intro m hm
  cases m with
  | zero=>omega
  | succ m=>exact .lst fun t a=>ih t a (by omega)
theorem ZpD{n m:Nat}{a b:T}(ha:Pln n a)(hb:Pln m b)(hn:n≤8:=by decide)(hm:m≤8:=by decide): Zeq a b=some (dec (a=b)):=by
 have ha:=ha.mono hn
 have hb:=hb.mono hm
 obtain⟨a1,a2,a3⟩:=ha.dat
 obtain⟨b1,b2,b3⟩:=hb.dat
 unfold Zeq ZbY
 rw[a1,b1]
 simp only[Option.bind_some]
 rw[if_pos ⟨by simp only[SeqAt.shaped,a2,Bool.true_and,decide_eq_true_eq];omega,by simp only[SeqAt.shaped,b2,Bool.true_and,decide_eq_true_eq];omega⟩,Zm2 (ha.eqv hb)]
section
variable {Q:T→Prop}
theorem Zfu{n m:Nat}{a b:T}(ha:Pln n a)(hb:Pln m b)(h:Q (.bool (dec (a=b))))(hn:n≤8:=by decide)(hm:m≤8:=by decide): Pk (qEq a b) Q:=⟨_,by simp only[qEq,ZpD ha hb hn hm,Option.map_some],h⟩
theorem Zm9{n m:Nat}{a b:T}(ha:Pln n a)(hb:Pln m b)(h:Q (.bool (!dec (a=b))))(hn:n≤8:=by decide)(hm:m≤8:=by decide): Pk (qNe a b) Q:=⟨_,by simp only[qNe,ZpD ha hb hn hm,Option.map_some],h⟩
end
theorem ZcY{α:Type}{n:Nat}{f:Nat→α}{x:α}(h:x∈tab n f): ∃i,i<n∧x=f i:=by
 obtain⟨i,hi,e⟩:=Zz11.mp h
 exact⟨i,List.mem_range.mp hi,e.symm⟩
theorem ZmM{α:Type}{n m:Nat}{f g:Nat→α}: tab n f=tab m g↔n=m∧∀i,i<n→f i=g i:=by
 constructor
 ·intro h
  have e:n=m:=by have:=congrArg List.length h;simpa [Zap]using this
  subst e
  refine⟨rfl,fun i hi=>?_⟩
  have:=congrArg (fun l=>l[i]?) h
  simpa [Za8 hi]using this
 ·rintro⟨rfl,h⟩
  exact Za7 h
theorem Zou{n:Nat}{f:Nat→T}(h:∀i,i<n→(f i).flat=true): T.flats (tab n f)=true:=by
 have key:∀l:List T,(∀t∈l,t.flat=true)→T.flats l=true:=fun l=>by
  induction l with
  | nil=>intro _;rfl
  | cons t l ih=>intro h;simp only[T.flats,h t Zz5,ih fun t m=>h t (Zz2 _ m),Bool.and_self]
 exact key _ fun t m=>by obtain⟨i,hi,rfl⟩:=ZcY m;exact h i hi
theorem Zhy{n:Nat}{f:Nat→T}(h:∀i,i<n→(f i).flat=true): T.flatIn (.lst (tab n f))=true:=Zou h
noncomputable def oT: Option Int→T
 | none=>.none
 | some x=>.int x
noncomputable def ZZ(q:Int×Int): T:=.tup [.int q.1,.int q.2]
noncomputable def ZfI(n:Nat)(x:Nat→Int): T:=.lst (tab n fun i=>.int (x i))
noncomputable def Zan(n:Nat)(b:Nat→Option Int): T:=.lst (tab n fun j=>oT (b j))
noncomputable def Z8(n:Nat)(G:Nat→Nat→Option Int): T:=.lst (tab n fun i=>Zan n (G i))
noncomputable def ZaQ(n:Nat)(R:Nat→Int×Int): T:=.lst (tab n fun i=>ZZ (R i))
noncomputable def ZJ(n:Nat)(G:Nat→Nat→Option Int)(R:Nat→Int×Int): T:=.tup [Z8 (n+1) G,ZaQ n R]
theorem ZbO: oT none=.none:=rfl
theorem ZaF{c:Int}: oT (some c)=.int c:=rfl
theorem Zfn{b:Option Int}: (oT b).flat=true:=by cases b <;> rfl
theorem Zgm{q:Int×Int}: (ZZ q).flat=true:=rfl
theorem oT_inj{a b:Option Int}: oT a=oT b↔a=b:=by cases a <;> cases b <;> simp[oT]
theorem ZvJ{a b:Int×Int}: ZZ a=ZZ b↔a=b:=by cases a;cases b;simp[ZZ]
theorem Zut{n:Nat}{a b:Nat→Option Int}: Zan n a=Zan n b↔∀j,j<n→a j=b j:=by simp[Zan,ZmM,oT_inj]
theorem ZtB{n:Nat}{a b:Nat→Nat→Option Int}: Z8 n a=Z8 n b↔∀i j,i<n→j<n→a i j=b i j:=by
 simp only[Z8,T.lst.injEq,ZmM,Zut,true_and]
 exact⟨fun h i j hi hj=>h i hi j hj,fun h i hi j hj=>h i j hi hj⟩
theorem ZtC{n:Nat}{a b:Nat→Int×Int}: ZaQ n a=ZaQ n b↔∀i,i<n→a i=b i:=by simp[ZaQ,ZmM,ZvJ]
theorem toldT_inj{n:Nat}{G G':Nat→Nat→Option Int}{R R':Nat→Int×Int}: ZJ n G R=ZJ n G' R'↔(∀i j,i<n+1→j<n+1→G i j=G' i j)∧∀i,i<n→R i=R' i:=by
 simp only[ZJ,T.tup.injEq,List.cons.injEq,ZtB,ZtC,and_true]
theorem Zed{n k:Nat}{f:Nat→T}(h:∀i,i<k→Pln n (f i)): Pln (n+1) (.lst (tab k f)):=.lst fun t m=>by obtain⟨i,hi,rfl⟩:=ZcY m;exact h i hi
theorem ZgR{n:Nat}{b:Option Int}: Pln n (oT b):=by cases b;exact .none;exact .int
theorem Zqj{n:Nat}{q:Int×Int}: Pln (n+1) (ZZ q):=.tup fun t m=>by
 simp at m;rcases m with rfl | rfl <;> exact .int
theorem ZpE{n:Nat}{b:Nat→Option Int}: Pln 1 (Zan n b):=Zed fun _ _=>ZgR
theorem Zuu{n:Nat}{G:Nat→Nat→Option Int}: Pln 2 (Z8 n G):=Zed fun _ _=>ZpE
theorem Zuv{n:Nat}{R:Nat→Int×Int}: Pln 2 (ZaQ n R):=Zed fun _ _=>Zqj
theorem Zh4{n:Nat}{G:Nat→Nat→Option Int}{R:Nat→Int×Int}: Pln 3 (ZJ n G R):=.tup fun t m=>by
 simp at m;rcases m with rfl | rfl
 ·exact Zuu
 ·exact Zuv
theorem ZbJ{σ:TL}{i:Nat}{t:T}: ZW σ i t i=some t:=by simp[ZW]
end TM
end
section
set_option autoImplicit false
namespace PM
open PySem PySem.W PySem.Calls PyProof.Rows PyProof PyProof.Rows.LCg PyProof.Rows.LCp
noncomputable def sNo: Sm:=fun _ _=>none
noncomputable def inD(d:PyData): PyData→Option Bool
 | .list xs=>if PyData.canLayAll0 xs=true∧d.canLay0=true∧d.depth≤64 then some (xs.any fun y=>PyData.eqv y d)else none
 | .tuple xs=>if PyData.canLayAll0 xs=true∧d.canLay0=true∧d.depth≤64 then some (xs.any fun y=>PyData.eqv y d)else none
 | _=>none
noncomputable def Znw(a b:V)(H:Hp): Option Bool:=(toD H ZbY a).bind fun d=>(toD H ZbY b).bind fun e=>inD d e
noncomputable def oIn(a b:V)(H:Hp): Option (V×Hp):=(Znw a b H).map fun c=>(.bool c,H)
noncomputable def ZgF(a:Nat): Nx:=fun i H=>H[a]?.bind fun vs=>match vs[i]? with
 | some x=>some (some (.tup [.int i,x]))
 | none=>if i=vs.length then some none else none
noncomputable def ZiM(f:Ex): Src:=fun ρ H=>(f ρ H).bind fun p=>match p.1 with
 | .ref a=>p.2[a]?.map fun vs=>(ZgF a,vs.length+1,p.2)
 | _=>none
section
variable {prog:Program} {w:World} {Γ:Cx}
theorem Zxw{st:Stmt}: S1 prog w Γ st sNo:=fun W ρ H fr s Q E r rp hf post=>by cases hf
theorem ZfC: Op2 prog w (compareOp .In) oIn:=by
 intro Γ W ρ H fr s Q E a b x y v H' r hx hy ho post
 obtain⟨c,e1,e2⟩:=Zz1.mp ho
 cases e2
 obtain⟨d,h1,e1⟩:=Zz0.mp e1
 obtain⟨e,h2,e1⟩:=Zz0.mp e1
 obtain⟨as,R1⟩:=Ze6 r ZbY a x d hx h1
 obtain⟨bs,R2⟩:=Ze6 r ZbY b y e hy h2
 have hu:=Γ.hu
 unfold inD at e1
 split at e1
 ·split at e1
  ·rename_i hs
   cases e1
   exact SeqAt.in_list_reads R2 R1 hs.1 hs.2.1 (by omega) (post W s.heap s.toks _ (.refl W) r (.bool _))
  ·cases e1
 ·split at e1
  ·rename_i hs
   cases e1
   exact SeqAt.in_tuple_reads R2 R1 hs.1 hs.2.1 (by omega) (post W s.heap s.toks _ (.refl W) r (.bool _))
  ·cases e1
 ·cases e1
noncomputable def ES(e it l:Addr)(i:Nat)(h:Heap): Prop:=(∃old,IsEnum h e it i old)∧h.IsListIter it l i
theorem ES.at{e it l:Addr}{i:Nat}{h h':Heap}(x:ES e it l i h)(k:∀a∈[e,it],∀o,h.get? a=some o→h'.get? a=some o): ES e it l i h':=by
 obtain⟨⟨old,h1⟩,h2⟩:=x
 exact⟨⟨old,k e (by simp) _ h1⟩,h2.at fun o x=>k it (by simp) o x⟩
theorem ES.have{e it l:Addr}{i:Nat}{h:Heap}(x:ES e it l i h): ∀a∈[e,it],∃o,h.get? a=some o:=by
 obtain⟨⟨old,h1⟩,o,h2,_⟩:=x
 intro a ha
 simp at ha
 rcases ha with rfl | rfl
 ·exact⟨_,h1⟩
 ·exact⟨_,h2⟩
noncomputable def EIt(e it l:Addr)(i:Nat)(fs:List (Addr×Obj)): Prop:=fs.map (·.1)=[e,it]∧∀h:Heap,(∀q∈fs,h.get? q.1=some q.2)→ES e it l i h
theorem ZpF{e it l:Addr}{i:Nat}{h:Heap}(x:ES e it l i h): ∃fs,EIt e it l i fs∧∀q∈fs,h.get? q.1=some q.2:=by
 obtain⟨fs,h1,h2⟩:=Znu h [e,it] x.have
 refine⟨fs,⟨h1,fun h' k=>x.at fun a ha o ho=>?_⟩,h2⟩
 rw[←h1]at ha
 obtain⟨q,hq,eq⟩:=Zz11.mp ha
 have:=h2 q hq
 rw[eq,ho]at this
 cases this
 exact eq▸k q hq
theorem ZvK{W0:Wd}{e it l:Addr}{a:Nat}(ea:W0.pi[a]?=some l)(hei:e≠it)(hle:l≠e)(hli:l≠it):
  Itr2 prog w Γ W0 (.ref e) [e,it] (EIt e it l) (ZgF a):=by
 refine⟨fun i fs h=>h.1,?_,?_,?_,?_⟩
 ·intro i H v hh
  obtain⟨vs,e1,hh⟩:=Zz0.mp hh
  split at hh
  ·cases hh
   exact⟨_,_,rfl⟩
  ·split at hh <;> cases hh
 ·intro i W ρ H fr fs s Q E va vb le r ap hit hn post
  obtain⟨vs,e1,hh⟩:=Zz0.mp hn
  have hv:va=.int i∧vs[i]?=some vb:=by
   split at hh
   ·rename_i x h1
    cases hh
    exact⟨rfl,h1⟩
   ·split at hh <;> cases hh
  obtain⟨_,xs,k1,g1,v1⟩:=r.at e1 (le.at ea)
  obtain⟨x,hx,rx⟩:=v1.at hv.2
  have st:ES e it l i s.heap:=hit.2 _ fun q hq=>r.frAt (Zz4 _ hq)
  have Wk:=WalksT.enumerate (prog:=prog) (w:=w) (A:=Γ.A) Γ.hh e it l hei hle hli xs.toArray
  have isl1:s.heap.IsList l xs.toArray:=⟨_,g1,rfl,k1,rfl⟩
  have hi:i<xs.toArray.size:=by
   have h1:=(Zz6.mp hx).1
   simpa using h1
  refine Wk.item i s Q E hi ⟨st.1,st.2,isl1⟩ fun T vals h1 t1 hp hT hTup hmid keep1=>post T h1 t1 ?_
  intro elts k pos s1 Q1 E1 es1 q1
  subst es1
  have hTw:=Wk.apart i T _ hmid
  refine Wk.go elts k pos i T _ Q1 E1 hmid fun h2 st2 keep2=>?_
  obtain⟨tk,x',hx',ev⟩:=hp
  have ex:x'=x:=by
   have:xs[i]?=some x':=by simpa using hx'
   rw[hx]at this
   exact(Option.some.inj this).symm
  subst ex ev
  obtain⟨fs',hit',at'⟩:=ZpF (h:=h2) (⟨st2.1,st2.2.1⟩:ES e it l (i+1) h2)
  obtain⟨oT,gT,cT,nT,dT⟩:=hTup
  refine q1 fs' h2 (.int i tk) x' hit' ?_ ⟨oT,keep2 T oT hTw gT,cT,nT,dT⟩ (by rw[hv.1];exact .int _ _) rx
  refine r.swap (fs':=fs') (fun q hq t ht=>?_) (fun c o hc e=>?_) fun q hq=>⟨at' q hq,?_⟩
  ·exact ap _ (hit.1▸List.mem_map_of_mem hq) t ht
  ·rw[hit.1]at hc
   exact keep2 c o hc (keep1 c o hc e)
  ·rw[hit.1,←hit'.1]
   exact List.mem_map_of_mem hq
 ·intro i W ρ H fr fs s Q E le r ap hit hn post
  obtain⟨vs,e1,hh⟩:=Zz0.mp hn
  obtain⟨_,xs,k1,g1,v1⟩:=r.at e1 (le.at ea)
  have hi:i=vs.length:=by
   split at hh
   ·cases hh
   ·split at hh
    ·assumption
    ·cases hh
  have st:ES e it l i s.heap:=hit.2 _ fun q hq=>r.frAt (Zz4 _ hq)
  have Wk:=WalksT.enumerate (prog:=prog) (w:=w) (A:=Γ.A) Γ.hh e it l hei hle hli xs.toArray
  have hm:xs.toArray.size=i:=by simp[v1.length,hi]
  refine Wk.done s Q E (by rw[hm];exact⟨st.1,st.2,⟨_,g1,rfl,k1,rfl⟩⟩) fun h' tk keep=>post h' tk ?_
  have:=r.swap (fs':=[]) (fun q hq t ht=>ap _ (hit.1▸List.mem_map_of_mem hq) t ht) (fun c o hc e=>keep c o (by rw[hit.1]at hc;exact hc) e) (fun q hq=>nomatch hq)
  exact this
 ·intro i W ρ H fr fs s Q E o le r hit hn q
  obtain⟨vs,e1,hh⟩:=Zz0.mp hn
  obtain⟨_,xs,k1,g1,v1⟩:=r.at e1 (le.at ea)
  have st:ES e it l i s.heap:=hit.2 _ fun q hq=>r.frAt (Zz4 _ hq)
  have Wk:=WalksT.enumerate (prog:=prog) (w:=w) (A:=Γ.A) Γ.hh e it l hei hle hli xs.toArray
  exact Wk.self i s Q E ⟨st.1,st.2,⟨_,g1,rfl,k1,rfl⟩⟩ q
theorem Zuw{x:Str}{np pos:Pos}{e1:Expr}{f:Ex}(hn:Nm prog w Γ x (.type "enumerate"))(h1:J prog w Γ e1 f)
  (he:starEach [e1] Γ.env=(false,eval e1 Γ.env)::starEach [] Γ.env:=by rfl) (hp:∀pos,(backTo pos (starEach [] Γ.env)).any (·.1)=false:=by intro _;rfl):JI2 prog w Γ (.Call (.Name x np) [e1] [] pos) (ZiM f):=by
 intro W ρ H fr s Q E nx n H' r hf post
 obtain⟨p,a1,hf⟩:=Zz0.mp hf
 refine wpAny_Call_ofName (hn.use r ?_)
 refine PySem.Pv.callWith_type1 (wpAny_items_cons (h1 W ρ H fr s _ E _ _ r a1 fun W1 k1 t1 y1 l1 r1 v1=>wpAny_items_nil ?_) he) he (hp pos)
 obtain⟨u1,H1⟩:=p
 simp only at hf v1 r1
 cases u1 <;> first | (cases hf;done) | skip
 rename_i b1
 obtain⟨vs,c1,c3⟩:=Zz1.mp hf
 cases c3
 cases v1 with
 | @ref _ m1 ea=>
 obtain⟨_,xs,n1,g1,w1⟩:=r1.at c1 ea
 have isl1:k1.IsList m1 xs.toArray:=⟨_,g1,rfl,n1,rfl⟩
 refine call_enumerate_list (s:={ s with heap:=k1,toks:=t1 }) isl1 fun h₁ hE hI hsz up=>?_
 have hlt:m1<k1.objs.size:=Heap.lt_size g1
 have Wk:=WalksT.enumerate (prog:=prog) (w:=w) (A:=Γ.A) Γ.hh (k1.objs.size+1) k1.objs.size m1 (Nat.succ_ne_self _) (Nat.ne_of_lt (Nat.lt_succ_of_lt hlt)) (Nat.ne_of_lt hlt) xs.toArray
 have zs:ES (k1.objs.size+1) k1.objs.size m1 0 h₁:=⟨⟨_,hE⟩,hI⟩
 refine Wk.self 0 _ _ _ ⟨⟨_,hE⟩,hI,isl1.at fun o e=>up _ o e⟩ ?_
 obtain⟨fs,hit,at'⟩:=ZpF zs
 obtain⟨r3,ap3⟩:=r1.more (fs:=fs) (h':=h₁) (fun b o e=>up b o e) (fun q hq=>⟨at' q hq,by
  have:q.1∈fs.map (·.1):=List.mem_map_of_mem hq
  rw[hit.1]at this
  simp at this
  rcases this with e | e <;> rw[e] <;> omega⟩)
 refine post W1 h₁ t1 _ _ _ fs l1 hit r3 (fun b hb t ht=>?_) (ZvK ea (Nat.succ_ne_self _) (Nat.ne_of_lt (Nat.lt_succ_of_lt hlt)) (Nat.ne_of_lt hlt)) ?_
 ·rw[←hit.1]at hb
  obtain⟨q,hq,e⟩:=Zz11.mp hb
  exact e▸ap3 q hq t ht
 ·simp only[ZgF,c1,Option.bind_some]
  cases q:vs[0]? with
  | some x=>exact⟨_,rfl⟩
  | none=>
   have:vs.length=0:=by simpa using q
   simp[this]
end
end PM
end
section
set_option autoImplicit false
namespace TM
open PySem PM
noncomputable def Zg1(a b:T): Option Bool:=(ZcU ZbY a).bind fun d=>(ZcU ZbY b).bind fun e=>inD d e
noncomputable def qIn(a b:T): Option T:=(Zg1 a b).map .bool
theorem ZwZ{H:Hp}{v1 v2:V}{t1 t2:T}{F1 F2:List Nat}(r1:RF H v1 t1 F1)(r2:RF H v2 t2 F2): Znw v1 v2 H=Zg1 t1 t2:=by
 simp only[Znw,Zg1,Ziw ZbY _ _ _ r1,Ziw ZbY _ _ _ r2]
theorem ZeP: OA2 oIn qIn:=fun H v1 v2 t1 t2 t F1 F2 r1 r2 h=>by
 obtain⟨c,h1,h⟩:=Zz1.mp h
 subst h
 exact⟨_,by simp only[oIn,ZwZ r1 r2,h1,Option.map_some],.bool _⟩
theorem Zqk{d:T}: ∀{ts:List T},(∀t∈ts,(PyData.eqv (dd t) (dd d)=true↔t=d))→((dds ts).any fun y=>PyData.eqv y (dd d))=dec (d∈ts)
 | [],_=>by simp[dds,ZbR]
 | t::ts,h=>by
  have ih:=Zqk (d:=d) (ts:=ts) fun t m=>h t (Zz2 _ m)
  simp only[dds,List.any_cons,ih]
  symm
  apply Zm2
  rw[Bool.or_eq_true,h t Zz5,dec_iff]
  simp[eq_comm]
theorem Zw0{n m:Nat}{a:T}{ts:List T}(ha:Pln n a)(hb:Pln m (.lst ts))(hn:n≤8:=by decide)(hm:m≤8:=by decide): Zg1 a (.lst ts)=some (dec (a∈ts)):=by
 have ha:=ha.mono hn
 have hb:=hb.mono hm
 obtain⟨a1,a2,a3⟩:=ha.dat
 obtain⟨b1,b2,b3⟩:=hb.dat
 unfold Zg1 ZbY
 rw[a1,b1]
 simp only[Option.bind_some,dd,inD]
 simp only[dd,PyData.canLay0]at b2
 rw[if_pos ⟨b2,a2,by omega⟩,Zqk]
 intro t m
 cases hb with
 | lst hs=>exact(hs t m).eqv ha
section
variable {Q:T→Prop}
theorem ZfD{n m:Nat}{a:T}{ts:List T}(ha:Pln n a)(hb:Pln m (.lst ts))(h:Q (.bool (dec (a∈ts))))(hn:n≤8:=by decide)(hm:m≤8:=by decide): Pk (qIn a (.lst ts)) Q:=⟨_,by simp only[qIn,Zw0 ha hb hn hm,Option.map_some],h⟩
end
noncomputable def ZeK(ts:List T): List T:=List.zipWith (fun i t=>.tup [.int (i:Nat),t]) (List.range ts.length) ts
noncomputable def ZiN(p:PE): PG:=fun σ=>(p σ).bind fun t=>match t with
 | .lst ts=>some (ZeK ts)
 | _=>none
theorem Zux{ts:List T}: (ZeK ts).length=ts.length:=by simp[ZeK]
theorem ZoZ{H:Hp}: ∀{vs:List V} {ts:List T} {F:List Nat} (k:Nat),RFs H vs ts F→RFs H (List.zipWith (fun i v=>V.tup [.int (i:Nat),v]) (List.range' k ts.length) vs) (List.zipWith (fun i t=>T.tup [.int (i:Nat),t]) (List.range' k ts.length) ts) F
 | _,_,_,_,.nil=>.nil
 | _,_,_,k,.cons a b=>by
  rw[List.length_cons,List.range'_succ]
  have h1:RF H (V.tup [.int (k:Nat),_]) (T.tup [.int (k:Nat),_]) _:=.tup (.cons (.int _) (.one a))
  simpa using RFs.cons h1 (ZoZ (k+1) b)
theorem ZvL{O N:List Nat}{u:Bool}{e:Ex}{p:PE}(x:E O N u e p): Gs O N (ZiM e) (ZiN p):=fun c ρ σ H Φ ts s h=>by
 obtain⟨t1,h1,h⟩:=Zz0.mp h
 obtain⟨v,X,F,a1,a2,a3,a4⟩:=x c ρ σ H Φ t1 s h1
 have hlt:=a2.lt
 cases a2 with
 | none=>cases h
 | bool=>cases h
 | int=>cases h
 | str=>cases h
 | tup=>cases h
 | @ref b vs us F' e1 hs=>
  cases h
  have hl:=hs.length
  refine⟨ZgF b,X,List.zipWith (fun i v=>V.tup [.int (i:Nat),v]) (List.range us.length) vs,F',b::F',by simp only[ZiM,a1,Option.bind_some,e1,Option.map_some,Zux,hl],?_,fun _ m=>List.mem_cons_of_mem _ m,fun a m=>⟨hlt a m,a3 a m⟩,fun K hK i hi=>?_⟩
  ·have:=ZoZ 0 hs
   unfold ZeK
   rw[List.range_eq_range']
   exact this
  ·simp only[ZgF,hK b Zz5,e1,Option.bind_some,List.getElem?_zipWith]
   simp only[List.length_zipWith,List.length_range]at hi
   by_cases q:i<vs.length
   ·rw[List.getElem?_eq_getElem q,List.getElem?_range (by omega)]
   ·rw[List.getElem?_eq_none (by omega),List.getElem?_eq_none (by simp;omega)]
    simp
    omega
theorem Zuy{n:Nat}{f:Nat→T}: ZeK (tab n f)=tab n fun i=>.tup [.int (i:Nat),f i]:=by
 unfold ZeK
 rw[Zap]
 have:List.range n=tab n fun i=>i:=by simp[tab]
 rw[this,ZpB,Nat.min_self]
section
variable {σ:TL} {L:List T→Prop}
noncomputable def EnP(x:T)(L:List T→Prop): Prop:=∃ts,x=.lst ts∧L (ZeK ts)
theorem ZvM{f:PE}(h:Pk (f σ) fun t=>EnP t L): Pl (ZiN f σ) L:=by
 obtain⟨t,a,ts,rfl,q⟩:=h;exact⟨_,by simp only[ZiN,a,Option.bind_some],q⟩
theorem ZvN{n:Nat}{f:Nat→T}(h:L (TM.tab n fun i=>.tup [.int (i:Nat),f i])): EnP (.lst (TM.tab n f)) L:=⟨_,rfl,by rw[Zuy];exact h⟩
end
noncomputable def ZiO(g:PG)(put:T→TL→Option TL)(b:PS): PS:=fun σ=>(g σ).bind fun ts=>if ts=[]then none else ZeO put b σ ts
end TM
end
section
set_option autoImplicit false
namespace PM
open PySem PySem.W PySem.Calls PyProof.Rows PyProof
noncomputable def ZgG(o1 o2:V→V→Hp→Option (V×Hp))(f g h:Ex): Ts:=fun ρ H=>(f ρ H).bind fun p=>(g ρ p.2).bind fun q=>(o1 p.1 q.1 q.2).bind fun u=>(ZcQ u.1 u.2).bind fun b=>if b then(h ρ u.2).bind fun x=>(o2 q.1 x.1 x.2).bind fun y=>(ZcQ y.1 y.2).map fun c=>(c,y.2)else some (false,u.2)
section
variable {prog:Program} {w:World} {Γ:Cx}
theorem Zuz{e1 e2 e3:Expr}{op1 op2:CmpOp}{pos:Pos}{f g h:Ex}{o1 o2:V→V→Hp→Option (V×Hp)}(h1:J prog w Γ e1 f)(h2:J prog w Γ e2 g)(h3:J prog w Γ e3 h)(k1:Op2 prog w (compareOp op1) o1)(k2:Op2 prog w (compareOp op2) o2)(hm:lastMarks [op1,op2] [e2,e3]=false:=by with_unfolding_all rfl): JT prog w Γ (.Compare e1 [op1,op2] [e2,e3] pos) (ZgG o1 o2 f g h):=by
 intro W ρ H fr s Q E b H' r hf post
 obtain⟨p,a1,hf⟩:=Zz0.mp hf
 obtain⟨q,a2,hf⟩:=Zz0.mp hf
 obtain⟨u,a3,hf⟩:=Zz0.mp hf
 obtain⟨c,a4,hf⟩:=Zz0.mp hf
 refine isTrue_chain (h1 W ρ H fr s _ E _ _ r a1 fun W1 n1 t1 x l1 r1 x1=>?_) hm
 refine test_link (h2 W1 ρ _ fr _ _ E _ _ r1 a2 fun W2 n2 t2 y l2 r2 y2=>?_)
 refine k1 Γ W2 ρ _ fr _ _ E _ _ x y _ _ r2 (x1.mono l2) y2 a3 fun W3 n3 t3 z l3 r3 z3=>?_
 refine ZeG Γ W3 ρ _ fr _ _ E _ z c r3 z3 a4 fun W4 n4 t4 l4 r4=>?_
 cases c with
 | false=>
  cases hf
  exact post W4 n4 t4 (((l1.trans l2).trans l3).trans l4) r4
 | true=>
  simp only[if_true]at hf
  obtain⟨v,a5,hf⟩:=Zz0.mp hf
  obtain⟨v2,a6,hf⟩:=Zz0.mp hf
  obtain⟨d,a7,a8⟩:=Zz1.mp hf
  cases a8
  refine test_last (h3 W4 ρ _ fr _ _ E _ _ r4 a5 fun W5 n5 t5 y5 l5 r5 x5=>?_)
  refine k2 Γ W5 ρ _ fr _ _ E _ _ y y5 _ _ r5 (((y2.mono l3).mono l4).mono l5) x5 a6 fun W6 n6 t6 z6 l6 r6 x6=>?_
  exact ZeG Γ W6 ρ _ fr _ _ E _ z6 b r6 x6 a7 fun W7 n7 t7 l7 r7=>post W7 n7 t7 ((((((l1.trans l2).trans l3).trans l4).trans l5).trans l6).trans l7) r7
end
end PM
end
section
set_option autoImplicit false
namespace TM
open PySem PM
section
variable {O N M K:List Nat} {u u' u'':Bool}
noncomputable def ZgH(q1 q2:T→T→Option T)(p1 p2 p3:PE): PB:=fun σ=>(p1 σ).bind fun x=>(p2 σ).bind fun y=>(q1 x y).bind fun z=>(ZbW z).bind fun b=>if b then(p3 σ).bind fun v=>(q2 y v).bind ZbW else some false
theorem ZuA{e1 e2 e3:Ex}{p1 p2 p3:PE}{q1 q2:T→T→Option T}{o1 o2:V→V→Hp→Option (V×Hp)}(k1:OA2 o1 q1)(k2:OA2 o2 q2)(x:E O N u e1 p1)(y:E O M u' e2 p2)(z:E O K u'' e3 p3): Bt O (ZgG o1 o2 e1 e2 e3) (ZgH q1 q2 p1 p2 p3):=fun c ρ σ H Φ b s h=>by
 obtain⟨t1,h1,h⟩:=Zz0.mp h
 obtain⟨t2,h2,h⟩:=Zz0.mp h
 obtain⟨t3,h3,h⟩:=Zz0.mp h
 obtain⟨b0,h4,h⟩:=Zz0.mp h
 obtain⟨v1,X,F,a1,a2,_,_⟩:=x c ρ σ H Φ t1 s h1
 obtain⟨v2,Y,G,b1,b2,_,_⟩:=y c ρ σ (H++X) Φ t2 (s.ext X) h2
 obtain⟨v3,c1,c2⟩:=k1 _ v1 v2 t1 t2 t3 F G (a2.ext Y) b2 h3
 have d1:=Zd7 c2 h4
 cases b0 with
 | false=>
  cases h
  exact⟨X++Y,by simp only[ZgG,a1,b1,Option.bind_some,c1,d1];simp⟩
 | true=>
  simp only[if_true]at h
  obtain⟨t5,h5,h⟩:=Zz0.mp h
  obtain⟨t6,h6,h⟩:=Zz0.mp h
  obtain⟨v5,Z,F5,e1,e2,_,_⟩:=z c ρ σ (H++X++Y) Φ t5 ((s.ext X).ext Y) h5
  obtain⟨v6,f1,f2⟩:=k2 _ v2 v5 t2 t5 t6 G F5 (b2.ext Z) e2 h6
  have g1:=Zd7 f2 h
  exact⟨X++Y++Z,by simp only[ZgG,a1,b1,Option.bind_some,c1,d1,if_true,e1,f1,g1,Option.map_some];simp⟩
noncomputable def OIn(o:List V→Hp→Option (V×Hp))(q:List T→Option T): Prop:=∀(H:Hp) (vs:List V) (ts:List T) (t:T) (F1:List Nat),RFs H vs ts F1→q ts=some t→∃v F,o vs H=some (v,H)∧RF H v t F∧F.Sublist F1
theorem ZvO{n:Nat}{es:Exs}{ps:PEs}{q:List T→Option T}{o:List V→Hp→Option (V×Hp)}(k:OIn o q)(x:Es O N u n es ps): E O N u (ZA o es) (Zw q ps):=fun c ρ σ H Φ t s h=>by
 obtain⟨ts,h1,h⟩:=Zz0.mp h
 obtain⟨_,vs,X,F,a1,a2,a3,a4⟩:=x c ρ σ H Φ ts s h1
 obtain⟨w,G,b1,b2,b3⟩:=k _ vs ts t F a2 h
 exact⟨w,X,G,by simp only[ZA,a1,Option.bind_some,b1],b2,fun a m=>a3 a (b3.subset m),fun hu=>(a4 hu).sublist b3⟩
theorem ZuB: OIn Zfh Zii:=fun H vs ts t F r h=>by
 unfold Zii at h
 split at h
 ·obtain⟨v,rfl,r'⟩:=r.one_inv
  cases r' with
  | @ref a vs1 _ F1 e hs=>cases h;exact⟨.tup vs1,F1,by simp only[Zfh,e,Option.map_some],.tup hs,List.sublist_cons_self _ _⟩
 ·obtain⟨v,rfl,r'⟩:=r.one_inv
  cases r' with
  | @tup vs1 _ _ hs=>cases h;exact⟨.tup vs1,_,by simp only[Zfh],.tup hs,List.Sublist.refl _⟩
 ·cases h
end
theorem Zw1{O O1 R J Ns:List Nat}{fr:Bool}{g:Src}{q:PG}{put:V→Lc→Option Lc}{pput:T→TL→Option TL}{b:Sm}{qb:PS}(hg:Gs O Ns g q)(hj:PutOk O J put pput)(hj1:PutOk O1 J put pput)(hJ:∀i∈J,i∉O)(hJ1:∀i∈J,i∉O1)(hN:∀i∈Ns,i∉O)(hb:S O O1 R fr b qb)(hb1:S O1 O1 R fr b qb): S O O1 R fr (ZaU g put b) (ZiO q pput qb):=fun c ρ σ H Φ r s h=>by
 obtain⟨ts,h1,h⟩:=Zz0.mp h
 obtain⟨nx,X,vs,F,G,g1,g2,g3,g4,g5⟩:=hg c ρ σ H Φ ts s h1
 split at h
 ·cases h
 ·rename_i hne
  cases ts with
  | nil=>exact absurd rfl hne
  | cons t rs=>
   cases g2 with
   | @cons v _ F1 ws _ F2 a b'=>
   have sx:=s.ext X
   have hsrc:∀a∈G,c.H0.length≤a∨c.P a:=fun a m=>s.from_src (g4 a m).2
   have hoff:∀a∈G,¬ZcV O σ Φ a:=fun a m ⟨k,hk,⟨t,e⟩,q⟩=>s.from_off hN (g4 a m).2 hk e q
   obtain⟨σ1,p0,h⟩:=Zz0.mp h
   obtain⟨r1,h2,h⟩:=Zz0.mp h
   obtain⟨ρ1,Φ1,p1,s1,p3,p4⟩:=hj c ρ σ (H++X) Φ v t F1 σ1 sx a (fun x m=>hsrc x (g3 x (Zz4 _ m))) (fun k hk t' e x m q=>hoff x (g3 x (Zz4 _ q)) ⟨k,hk,⟨t',e⟩,m⟩) p0
   have hh:∀x,ZcV O σ1 Φ1 x→ZcV O σ Φ x:=fun x ⟨k,hk,⟨t',e⟩,m⟩=>by
    obtain⟨q1,q2⟩:=p3 k fun q=>hJ k q hk
    exact⟨k,hk,⟨t',q1▸e⟩,q2▸m⟩
   obtain⟨ρ2,K2,Φ2,w1,w2,w3⟩:=hb c ρ1 σ1 (H++X) Φ1 r1 s1 h2
   have e0:nx 0 (H++X)=some (some v):=by have:=g5 (H++X) (fun _ _=>rfl) 0 (Nat.zero_le _);simpa using this
   have estep:ZaU g put b ρ H=(b ρ1 (H++X)).bind fun q=>match q.1 with
     | some _=>some q
     | none=>Zdy nx put b (rs.length+1) 1 q.2.1 q.2.2:=by
    simp only[ZaU,g1,Option.bind_some,List.length_cons]
    show(nx 0 (H++X)).bind _=_
    rw[e0]
    first | (simp only[Option.bind_some,p1];done) | (simp only[Option.bind_some,p1];rfl)
   rw[estep]
   refine Aft.grow (X:=X) ?_
   rcases w3 with⟨k1,k2,k3,k4⟩ | ⟨t',v',F',k1,k2,k3⟩
   ·rw[k1]at h
    have hG2:∀a∈G,K2[a]?=(H++X)[a]?:=fun x m=>w2 x (g4 x m).1 fun q=>hoff x m (hh x q)
    have hoff2:∀a∈G,¬ZcV O1 r1.2 Φ2 a:=fun x m q=>by
     rcases k4 x q with q | q
     ·have:=(g4 x m).1;omega
     ·exact hoff x m (hh x q)
    have ih:=Zmk hj1 hJ1 hb1 (H1:=H++X) (fun a m=>(g4 a m).1) hsrc g5 rs ws 1 ρ2 r1.2 K2 Φ2 F2 r (fun j=>by rw[Nat.add_comm];simp) (by simp;omega) k3 w1 hG2 hoff2 (b'.frame fun x m=>hG2 x (g3 x (Zz3 _ m))) (fun x m=>g3 x (Zz3 _ m)) h
    rw[k2]
    simp only[Option.bind_some]
    obtain⟨ρ3,K3,Φ3,l1,l2,l3⟩:=ih
    refine⟨ρ3,K3,Φ3,by omega,fun x hx hn=>?_,?_⟩
    ·rw[l2 x (by omega) fun q=>(k4 x q).elim (fun q=>by omega) fun q=>hn (hh x q),w2 x hx fun q=>hn (hh x q)]
    ·rcases l3 with⟨m1,m2,m3,m4⟩ | l
     ·refine .inl ⟨m1,m2,m3,fun x q=>?_⟩
      rcases m4 x q with q | q
      ·exact .inl (by omega)
      ·exact(k4 x q).imp id (hh x)
     ·exact .inr l
   ·rw[k1]at h
    cases h
    refine⟨ρ2,K2,Φ2,w1,fun x hx hn=>w2 x hx fun q=>hn (hh x q),.inr ⟨t',v',F',k1,?_,k3⟩⟩
    rw[k2]
    rfl
section
variable {σ:TL} {Q:T→Prop} {B:Bool→Prop} {R:T→Prop} {N:TL→Prop}
theorem ZuC{q1 q2:T→T→Option T}{f g h:PE}(k:Pk (f σ) fun x=>Pk (g σ) fun y=>Pk (q1 x y) fun z=>Pb (ZbW z) fun b=>(b=true→Pk (h σ) fun v=>Pk (q2 y v) fun w=>Pb (ZbW w) B)∧(b=false→B false)): Pb (ZgH q1 q2 f g h σ) B:=by
 obtain⟨x,a1,y,a2,z,a3,b,a4,k1,k2⟩:=k
 cases b with
 | false=>exact⟨false,by simp[ZgH,a1,a2,a3,a4],k2 rfl⟩
 | true=>
  obtain⟨v,b1,w,b2,c,b3,q⟩:=k1 rfl
  exact⟨c,by simp[ZgH,a1,a2,a3,a4,b1,b2,b3],q⟩
theorem ZvP{g:PG}{j n:Nat}{a:Nat→T}{b:PS}(hn:0<n)(hg:Pl (g σ) fun ts=>ts=tab n a)(P:Nat→TL→Prop)(h0:P 0 σ)(h1:∀i σ,i<n→P i σ→Psk (b (ZW σ j (a i))) R (P (i+1)))(h2:∀σ,P n σ→N σ): Psk (ZiO g (Z5 j) b σ) R N:=by
 obtain⟨o,s,e,q⟩:=ZbQ (R:=R) (N:=N) (b:=b) (j:=j) hg P h0 h1 h2
 obtain⟨ts,e1,rfl⟩:=hg
 refine⟨o,s,?_,q⟩
 have hne:tab n a≠[]:=fun h=>by have:=congrArg List.length h;rw[Zap]at this;simp at this;omega
 simp only[ZiO,e1,Option.bind_some,hne,if_false]
 simpa only[ZaI,e1,Option.bind_some]using e
end
end TM
end
section
set_option autoImplicit false
namespace TM
open PySem PM
theorem ZtD{fr:Bool}: SimF fr (fun _ _=>none) (fun _=>none):=by
 intro H vs ts t F1 hp r h
 cases h
end TM
end
section
set_option autoImplicit false
namespace TM
open PySem PM
noncomputable def Keep0(g:Sm): Prop:=∀ρ H r,g ρ H=some r→r.2.1 0=ρ 0
theorem Keep0.next: Keep0 Z6:=fun ρ H r h=>by cases h;rfl
theorem Zov{e:Ex}: Keep0 (Zcr e):=fun ρ H r h=>by
 obtain⟨_,_,q⟩:=Zz1.mp h
 subst q;rfl
theorem Keep0.ret{e:Ex}: Keep0 (ZG e):=fun ρ H r h=>by
 obtain⟨_,_,q⟩:=Zz1.mp h
 subst q;rfl
theorem Keep0.put{f o i:Ex}: Keep0 (Zbt f o i):=fun ρ H r h=>by
 obtain⟨_,_,h⟩:=Zz0.mp h
 obtain⟨_,_,h⟩:=Zz0.mp h
 obtain⟨_,_,h⟩:=Zz0.mp h
 obtain⟨_,_,q⟩:=Zz1.mp h
 subst q;rfl
theorem Keep0.seq{a b:Sm}(x:Keep0 a)(y:Keep0 b): Keep0 (Zs a b):=fun ρ H r h=>by
 obtain⟨r1,e1,h⟩:=Zz0.mp h
 have h1:=x ρ H r1 e1
 split at h
 ·cases h;exact h1
 ·exact(y _ _ _ h).trans h1
theorem Zow{t:Ts}{a b:Sm}(x:Keep0 a)(y:Keep0 b): Keep0 (Z1 t a b):=fun ρ H r h=>by
 obtain⟨p,_,h⟩:=Zz0.mp h
 split at h
 ·exact x _ _ _ h
 ·exact y _ _ _ h
theorem Keep0.set{i:Nat}{e:Ex}(hi:0≠i): Keep0 (ZE i e):=fun ρ H r h=>by
 obtain⟨_,_,q⟩:=Zz1.mp h
 subst q
 simp[upd,hi]
noncomputable def SimM(f:List V→Hp→Option (V×Hp))(p:List T→Option T): Prop:=∀(H:Hp) (v:V) (vs:List V) (t:T) (ts:List T) (t':T) (F0 F1:List Nat),0<H.length→RF H v t F0→F0.Nodup→0∉F0→RFs H vs ts F1→(∀a∈F0,a∉F1)→p (t::ts)=some t' →
 ∃w H' F',f (v::vs) H=some (w,H')∧H.length≤H'.length∧(∀a,a<H.length→a∉F0→H'[a]?=H[a]?)∧RF H' v t' F'∧F'.Nodup∧∀a∈F',H.length≤a∨a∈F0
noncomputable def ZfJ(n:Nat)(q:PS): List T→Option T:=fun ts=>if ts.length=n then(q fun i=>ts[i]?).bind fun r=>r.2 0 else none
theorem ZpG{O':List Nat}{n:Nat}{g:Sm}{q:PS}(h:S [0] O' [0] false g q)(h0:0∈O')(hk:Keep0 g): SimM (Z7 n g) (ZfJ n q):=fun H v vs t ts t' F0 F1 hp r0 nd n0 rs dj e=>by
 unfold ZfJ at e
 split at e
 ·rename_i hl
  obtain⟨r1,e1,e2⟩:=Zz0.mp e
  obtain⟨Φ,hΦ⟩:=rs.slots
  have st:St ⟨H,F0,fun a=>a∈F0∨a∈F1⟩ [0] (fun i=>(v::vs)[i]?) (fun i=>(t::ts)[i]?) H (fun i=>match i with | 0=>F0 | i+1=>Φ i):=by
   refine⟨fun i u e=>?_,fun i u e a m=>?_,fun i hi u e=>?_,Nat.le_refl _,fun a _ _=>rfl,hp,n0⟩
   ·cases i with
    | zero=>simp at e;subst e;exact⟨v,rfl,r0⟩
    | succ i=>
     simp at e
     obtain⟨w,h1,h2,_⟩:=hΦ i u e
     exact⟨w,by simpa using h1,h2⟩
   ·cases i with
    | zero=>exact .inr (.inl m)
    | succ i=>
     simp at e
     obtain⟨w,h1,h2,h3⟩:=hΦ i u e
     exact .inr (.inr (h3 a m))
   ·have:i=0:=by simpa using hi
    subst this
    refine⟨nd,fun a m=>.inr m,fun j u' hj ej a m=>?_⟩
    cases j with
    | zero=>exact absurd rfl hj
    | succ j=>
     simp at ej
     obtain⟨w,h1,h2,h3⟩:=hΦ j u' ej
     exact fun q=>dj a m (h3 a q)
  obtain⟨ρ',H',Φ',h1,h2,h3⟩:=h _ _ _ _ _ _ st e1
  have hv:(v::vs).length=n:=by rw[←hl];simp[rs.length]
  have go:∀(o:Option V) (O2:List Nat),0∈O2→g (fun i=>(v::vs)[i]?) H=some (o,ρ',H')→St ⟨H,F0,fun a=>a∈F0∨a∈F1⟩ O2 ρ' r1.2 H' Φ'→∃w H' F',Z7 n g (v::vs) H=some (w,H')∧H.length≤H'.length∧(∀a,a<H.length→a∉F0→H'[a]?=H[a]?)∧RF H' v t' F'∧F'.Nodup∧∀a∈F',H.length≤a∨a∈F0:=by
   intro o O2 hO eg s2
   obtain⟨v',ev,rv⟩:=s2.slot 0 t' e2
   have kk:=hk _ _ _ eg
   have:v'=v:=by
    have k2:ρ' 0=some v:=kk
    rw[ev]at k2
    cases k2
    rfl
   subst this
   obtain⟨o1,o2,_⟩:=s2.own 0 hO t' e2
   exact⟨o.getD .none,H',Φ' 0,by simp only[Z7,hv,if_true,eg,Option.map_some],h1,s2.keep,rv,o1,o2⟩
  rcases h3 with⟨k1,k2,k3,k4⟩ | ⟨u,v',F',k1,k2,k3,k4,k5,k6⟩
  ·exact go none O' h0 k2 k3
  ·exact go (some v') [0] List.mem_cons_self k2 k4
 ·cases e
noncomputable def ZfK(x:Nat)(p:List T→Option T)(ps:PEs): PS:=fun σ=>(ps σ).bind fun ts=>(σ x).bind fun t=>(p (t::ts)).map fun t'=>(none,ZW σ x t')
section
variable {O O' R N:List Nat} {fr u:Bool}
theorem Zql{x n:Nat}{f:List V→Hp→Option (V×Hp)}{p:List T→Option T}{es:Exs}{ps:PEs}(hx:x∈O)(k:SimM f p)(y:Es O N u n es ps)(hN:x∉N)(hO:∀j∈O',j∈O): S O O' R fr (Zcr (ZA f (Zg (Zb x) es))) (ZfK x p ps):=fun c ρ σ H Φ r s q=>by
 obtain⟨ts,h1,q⟩:=Zz0.mp q
 obtain⟨t,h2,q⟩:=Zz0.mp q
 obtain⟨t',h3,q⟩:=Zz1.mp q
 subst q
 obtain⟨v,ev,rv⟩:=s.slot x t h2
 obtain⟨o1,o2,o3⟩:=s.own x hx t h2
 have hlow:∀k t,σ k=some t→∀a∈Φ k,a<H.length:=fun k t e a m=>by
  obtain⟨_,_,r⟩:=s.slot k t e
  exact r.lt a m
 obtain⟨_,vs,X,F,a1,a2,a3,_⟩:=y c ρ σ H Φ ts s h1
 have hp:0<(H++X).length:=by have:=s.pos;have:=s.len;rw[List.length_append];omega
 have hlen:(H++X).length=H.length+X.length:=List.length_append
 have dj:∀a∈Φ x,a∉F:=fun a m q=>by
  rcases a3 a q with h | ⟨j,hj,⟨tj,ej⟩,mj⟩
  ·have:=hlow x t h2 a m;omega
  ·exact o3 j tj (fun e=>hN (e▸hj)) ej a m mj
 obtain⟨w,H',F',b1,b2,b3,b4,b5,b6⟩:=k (H++X) v vs t ts t' (Φ x) F hp (rv.ext X) o1 (fun m=>ZmG s hx h2 m rfl) a2 dj h3
 have same:∀a,a<H.length→a∉Φ x→H'[a]?=H[a]?:=fun a ha hn=>by
  rw[b3 a (by omega) hn,List.getElem?_append_left ha]
 have eg:Zcr (ZA f (Zg (Zb x) es)) ρ H=some (none,ρ,H'):=by
  simp only[Zcr,ZA,Zg,Zb,ev,Option.map_some,Option.bind_some,a1,b1]
 refine⟨ρ,H',Zal Φ x F',by omega,fun a ha hn=>same a ha fun m=>hn ⟨x,hx,⟨t,h2⟩,m⟩,.inl ⟨rfl,eg,⟨fun i u' e=>?_,fun i u' e a m=>?_,fun i hi u' e=>?_,by have:=s.len;omega,fun a ha hn=>?_,s.pos,s.f0⟩,fun a hh=>?_⟩⟩
 ·by_cases c1:i=x
  ·subst c1
   simp only[ZW,if_true,Option.some.injEq]at e
   subst e
   exact⟨v,ev,by simpa [Zal]using b4⟩
  ·simp only[ZW,c1,if_false]at e
   obtain⟨v2,e2,r2⟩:=s.slot i u' e
   refine⟨v2,e2,?_⟩
   simp only[Zal,c1,if_false]
   exact r2.frame fun a m=>same a (hlow i u' e a m) fun q=>o3 i u' c1 e a q m
 ·by_cases c1:i=x
  ·subst c1
   simp only[Zal,if_true]at m
   rcases b6 a m with h | h
   ·exact .inl (by have:=s.len;omega)
   ·exact s.src i t h2 a h
  ·simp only[ZW,c1,if_false]at e
   simp only[Zal,c1,if_false]at m
   exact s.src i u' e a m
 ·by_cases c1:i=x
  ·subst c1
   refine⟨by simpa [Zal]using b5,fun a m=>?_,fun j u2 hj ej a m=>?_⟩
   ·simp only[Zal,if_true]at m
    rcases b6 a m with h | h
    ·exact .inl (by have:=s.len;omega)
    ·exact o2 a h
   ·simp only[Zal,if_true]at m
    simp only[ZW,hj,if_false]at ej
    simp only[Zal,hj,if_false]
    intro q
    have hq:=hlow j u2 ej a q
    rcases b6 a m with h | h
    ·omega
    ·exact o3 j u2 hj ej a h q
  ·simp only[ZW,c1,if_false]at e
   obtain⟨q1,q2,q3⟩:=s.own i (hO i hi) u' e
   refine⟨by simpa [Zal,c1]using q1,fun a m=>?_,fun j u2 hj ej a m=>?_⟩
   ·simp only[Zal,c1,if_false]at m
    exact q2 a m
   ·simp only[Zal,c1,if_false]at m
    by_cases c2:j=x
    ·subst c2
     simp only[Zal,if_true]
     intro q
     have hm:=hlow i u' e a m
     rcases b6 a q with h | h
     ·omega
     ·exact q3 j t hj h2 a m h
    ·simp only[ZW,c2,if_false]at ej
     simp only[Zal,c2,if_false]
     exact q3 j u2 hj ej a m
 ·have hs:=s.keep a ha hn
  rw[same a (by have:=s.len;omega) fun m=>?_]
  ·exact hs
  ·rcases o2 a m with h | h
   ·omega
   ·exact hn h
 ·obtain⟨j,hj,⟨u',e⟩,m⟩:=hh
  by_cases c1:j=x
  ·subst c1
   simp only[Zal,if_true]at m
   rcases b6 a m with h | h
   ·exact .inl (by omega)
   ·exact .inr ⟨j,hx,⟨t,h2⟩,h⟩
  ·simp only[ZW,c1,if_false]at e
   simp only[Zal,c1,if_false]at m
   exact .inr ⟨j,hO j hj,⟨u',e⟩,m⟩
end
section
variable {σ:TL} {R:T→Prop} {N:TL→Prop}
theorem Zqm{x:Nat}{p:List T→Option T}{ps:PEs}{t:T}(e:σ x=some t)(h:Pl (ps σ) fun ts=>Pk (p (t::ts)) fun t'=>N (ZW σ x t')): Psk (ZfK x p ps σ) R N:=by
 obtain⟨ts,e1,t',e2,q⟩:=h
 exact⟨none,ZW σ x t',by simp only[ZfK,e1,e,Option.bind_some,e2,Option.map_some],by simp,fun _=>q⟩
theorem ZpH{n:Nat}{q:PS}{ts:List T}{Q:T→Prop}(hn:ts.length=n)(h:Psk (q fun i=>ts[i]?) (fun _=>False) fun σ=>∃t,σ 0=some t∧Q t): Pk (ZfJ n q ts) Q:=by
 obtain⟨o,s,e,h1,h2⟩:=h
 cases o with
 | none=>
  obtain⟨t,e2,q2⟩:=h2 rfl
  exact⟨t,by simp only[ZfJ,hn,if_true,e,Option.bind_some,e2],q2⟩
 | some u=>exact absurd (h1 u rfl) (by simp)
end
end TM
end
section
set_option autoImplicit false
namespace TM
open PySem PM
section
variable {O N M:List Nat}
theorem Zqn{e1 e2:Ex}{p1 p2:PE}(x:E O N true e1 p1)(y:E O M true e2 p2)(hN:∀i∈N,i∈O)(hM:∀i∈N,i∉M): E O (N++M) true (Ze Z3 e1 e2) (Zd ZX p1 p2):=fun c ρ σ H Φ t s h=>by
 obtain⟨t1,h1,h⟩:=Zz0.mp h
 obtain⟨t2,h2,h⟩:=Zz0.mp h
 obtain⟨v1,X,F1,a1,a2,a3,a4⟩:=x c ρ σ H Φ t1 s h1
 obtain⟨v2,Y,F2,b1,b2,b3,b4⟩:=y c ρ σ (H++X) Φ t2 (s.ext X) h2
 have a2':=a2.ext Y
 have dj:∀a∈F1,a∉F2:=fun a ha hb=>by
  have hlt:=a2.lt a ha
  rcases b3 a hb with h | ⟨j,hj,⟨tj,ej⟩,mj⟩
  ·omega
  ·obtain⟨vj,_,rj⟩:=s.slot j tj ej
   have:=rj.lt a mj
   rcases a3 a ha with h | ⟨i,hi,⟨ti,ei⟩,mi⟩
   ·omega
   ·exact(s.own i (hN i hi) ti ei).2.2 j tj (fun q=>hM i hi (q▸hj)) ej a mi mj
 have nd1:=a4 rfl
 have nd2:=b4 rfl
 have f1:∀a∈F1,From H (N++M) σ Φ a:=fun a m=>(a3 a m).mono fun i hi=>List.mem_append_left _ hi
 have f2:∀a∈F2,From H (N++M) σ Φ a:=fun a m=>(b3 a m).back.mono fun i hi=>List.mem_append_right _ hi
 have ev:∀r,Z3 v1 v2 (H++X++Y)=some r→Ze Z3 e1 e2 ρ H=some r:=fun r hr=>by simp only[Ze,a1,b1,Option.bind_some,hr]
 have ndA:∀{A B:List Nat},A.Nodup→B.Nodup→(∀a∈A,a∉B)→(A++B).Nodup:=fun ha hb hd=>by
  rw[List.nodup_append]
  exact⟨ha,hb,fun a m b m' e=>hd a m (e▸m')⟩
 cases a2' with
 | none=>cases h
 | bool=>cases h
 | str=>cases h
 | int a=>
  cases b2 <;> first | (cases h;done) | skip
  cases h
  exact⟨_,X++Y,[],ev _ (by simp[Z3]),.int _,by simp,by simp⟩
 | tup hs1=>
  cases b2 with
  | none=>cases h
  | bool=>cases h
  | str=>cases h
  | int=>cases h
  | ref=>cases h
  | tup hs2=>
   simp only[ZX]at h
   split at h
   ·rename_i hl
    cases h
    refine⟨_,X++Y,_,ev _ ?_,.tup (by rw[←List.append_assoc];exact hs1.append hs2),fun a m=>?_,fun _=>ndA nd1 nd2 dj⟩
    ·simp only[Z3]
     rw[if_pos (by rw[List.length_append]at hl ⊢;rw[hs1.length,hs2.length];exact hl),List.append_assoc]
    ·rcases Zz8.mp m with m | m
     ·exact f1 a m
     ·exact f2 a m
   ·cases h
 | @ref r1 vs1 _ G1 e1' hs1=>
  cases b2 with
  | none=>cases h
  | bool=>cases h
  | str=>cases h
  | int=>cases h
  | tup=>cases h
  | @ref r2 vs2 _ G2 e2' hs2=>
   simp only[ZX]at h
   split at h
   ·rename_i hl
    cases h
    have hR:=hs1.append hs2
    refine⟨.ref (H++X++Y).length,X++Y++[vs1++vs2],(H++X++Y).length::(G1++G2),ev _ ?_,?_,fun a m=>?_,fun _=>?_⟩
    ·simp only[Z3,e1',e2',Option.bind_some]
     rw[if_pos (by rw[List.length_append]at hl ⊢;rw[hs1.length,hs2.length];exact hl)]
     simp
    ·rw[show H++(X++Y++[vs1++vs2])=H++X++Y++[vs1++vs2]by simp]
     exact .ref (by simp) (hR.ext _)
    ·rcases Zz7.mp m with rfl | m
     ·exact .inl (by simp)
     ·rcases Zz8.mp m with m | m
      ·exact f1 a (Zz2 _ m)
      ·exact f2 a (Zz2 _ m)
    ·refine List.nodup_cons.mpr ⟨fun m=>?_,ndA (List.nodup_cons.mp nd1).2 (List.nodup_cons.mp nd2).2 fun a m m'=>dj a (Zz2 _ m) (Zz2 _ m')⟩
     have:=hR.lt _ m
     omega
   ·cases h
end
end TM
end
section
set_option autoImplicit false
namespace PM
open PySem PySem.W PySem.Calls PyProof.Rows PyProof PyProof.Rows.LCg PyProof.Rows.LCp
section
variable {prog:Program} {w:World} {Γ:Cx}
theorem Zse{elt iter:Expr}{x x₂ y:Str}{px px₂ tp py pos spos:Pos}{kt:Nat}{scope:Scope}{cl:List (Str×Addr)}{t t₂ i:Nat}{g:Src}{f:Ex}(hy:Sto prog w Γ y i)(hg:JI2 prog w Γ iter g)(hel:∀C ρ,J prog w (Zbu Γ scope cl C [(x,t),(x₂,t₂)] ρ) elt f)
  (hsw:swapsWith (.ListComp elt [⟨.Tuple [.Name x px,.Name x₂ px₂] kt tp,iter,[],0⟩] scope pos) (some (.Name y py)) spos.line Γ.env=pure true)
  (hclos:closureFor scope Γ.env=pure cl) (hcell:∀y∈scope.names,y.2≠.cell) (hkind:scope.kind=.function) (hnames:∀y∈scope.names,y.2=.local→scope.names.lookup y.1=some .local) (hx:scope.names.lookup x=some .local) (hx₂:scope.names.lookup x₂=some .local) (hxx:x≠x₂) (htt:t≠t₂) (hs:∀x,foldedSetIterable iter Γ.env x=pure x:=by intro _;rfl):
  S1 prog w Γ (.Assign [.Name y py] (.ListComp elt [⟨.Tuple [.Name x px,.Name x₂ px₂] kt tp,iter,[],0⟩] scope pos) spos) (ZE i (Zar g (Zb6 t t₂) Zao f)):=by
 intro W ρ H fr s Q E r rp hf post
 obtain⟨p,e0,e9⟩:=Zz1.mp hf
 cases e9
 obtain⟨z,e1,hf⟩:=Zz0.mp e0
 obtain⟨q,e2,e3⟩:=Zz1.mp hf
 cases e3
 rw[exec_Assign_Name_used _ _ _ _ hsw]
 refine wpAny_bind (wpAny_standAt (wpAny_bind ?_))
 show wpAny _ Γ.A (do let _ ←comprehension (.ListComp elt [⟨.Tuple [.Name x px,.Name x₂ px₂] kt tp,iter,[],0⟩] scope pos) scope Γ.env _ (newList []) false (eval iter Γ.env) (some (assign (.Name y py) Γ.env))) _ _ s
 refine wpAny_bind (wpAny_mono (wpAny_comprehension_free (use:=some (assign (.Name y py) Γ.env)) (Q:=fun _ s'=>Q .next s') rfl hs hclos hkind hnames ?_) (fun _ s' h'=>wpAny_pure (wpAny_pure h')) fun _ _ e=>e)
 refine Zn5 (RR:=fun acc C=>compPost (model prog w) Γ.A E (some (assign (.Name y py) Γ.env)) (fun _ s'=>Q .next s') acc C) hg hel hcell hkind hx hx₂ hxx htt rp (q:=q) (by rw[e1];exact e2) fun W2 h' tk' C D oC m₂ ys l2 hC hv hl aD aC cd r3=>?_
 have r4:Rep Γ W2 ρ q.2 ((D,lst ys)::(C,oC)::fr) h':=r3.less fun t ht=>by
  rcases Zz7.mp ht with e | ht
  ·exact e▸List.mem_cons_of_mem _ Zz5
  ·rcases Zz7.mp ht with e | ht
   ·exact e▸List.mem_cons_self
   ·exact Zz2 _ (Zz2 _ ht)
 obtain⟨W5,l5,r5,v5⟩:=Zgd r4 (fun t ht=>by
  rcases Zz7.mp ht with e | ht
  ·rw[e]
   exact cd.symm
  ·exact aD t ht) hv hl
 refine wpAny_assign_Name (hy W5 ρ _ _ _ _ _ _ _ r5 v5 fun h6 t6 r6=>?_)
 refine⟨m₂,hC.ns (r6.frAt (q:=(C,oC)) Zz5),fun h'' sb=>?_⟩
 have r7:Rep Γ W5 (upd ρ i (.ref q.2.length)) (q.2++[q.1]) ([]++fr) h'':=
  Rep.swap (fs:=[(C,oC)]) (fs':=[]) r6 (fun q hq t ht=>by rw[List.mem_singleton.mp hq];exact aC t ht) (fun b o hb e=>sb.extBut b o (fun z=>hb (by simp[z])) e) fun q hq=>nomatch hq
 exact post W5 h'' t6 (l2.trans l5) r7
end
end PM
end
section
set_option autoImplicit false
namespace PM
open PySem PySem.W PySem.Calls PyProof.Rows PyProof
noncomputable def Zdm(ns:List Int): List Int:=ns.mergeSort fun a b=>decide (a≤b)
theorem Zo0{ns ms:List Int}(h1:ms.Perm ns)(h2:ms.Pairwise (·≤·)): ms=Zdm ns:=by
 refine List.Perm.eq_of_pairwise (le:=fun a b:Int=>a≤b) (fun a b _ _ h h'=>Int.le_antisymm h h') h2 ?_ (h1.trans (List.mergeSort_perm ns _).symm)
 have:=List.pairwise_mergeSort (le:=fun a b:Int=>decide (a≤b)) (fun a b c h h'=>by simp at *;omega) (fun a b=>by simp;omega) ns
 unfold Zdm
 simpa using this
theorem ZtE{ns:List Int}: (Zdm ns).length=ns.length:=(List.mergeSort_perm ns _).length_eq
theorem ZmN{W:Wd}: ∀{vs:List V} {xs:List Value} {ks:List Int},VRs W vs xs→Zdv vs=some ks→IntsAre xs ks:=by
 intro vs
 induction vs with
 | nil=>intro xs ks h e;cases h;cases e;exact .nil
 | cons v vs ih=>
  intro xs ks h e
  cases h with
  | cons a b=>
   cases v with
   | int i=>
    obtain⟨js,e1,e2⟩:=Zz1.mp e
    subst e2
    cases a with
    | int _ t=>exact .cons i t (ih b e1)
   | none=>cases e
   | bool=>cases e
   | str=>cases e
   | tup=>cases e
   | ref=>cases e
theorem ZpI{W:Wd}: ∀{xs:List Value} {ks:List Int},IntsAre xs ks→VRs W (ks.map V.int) xs
 | _,_,.nil=>.nil
 | _,_,.cons n t r=>.cons (.int n t) (ZpI r)
noncomputable def Zgx: List V→Hp→Option (V×Hp)
 | [.ref a],H=>H[a]?.bind fun vs=>(Zdv vs).bind fun ns=>if vs.length<64 then some (.ref H.length,H++[(Zdm ns).map V.int])else none
 | _,_=>none
section
variable {prog:Program} {w:World}
theorem ZtF: OpN prog w (fun xs=>call (.builtin "sorted") xs) Zgx:=by
 intro Γ W ρ H fr s Q E as xs v H' r hx ho post
 unfold Zgx at ho
 split at ho
 ·obtain⟨vs,e1,ho⟩:=Zz0.mp ho
  obtain⟨ks,e3,ho⟩:=Zz0.mp ho
  split at ho
  ·rename_i h64
   cases ho
   obtain⟨x,ex,rx⟩:=hx.one
   subst ex
   cases rx with
   | @ref _ a ea=>
    obtain⟨hl,ys,k,hg,hv⟩:=r.at e1 ea
    have isl:s.heap.IsList a ys.toArray:=⟨_,hg,rfl,k,rfl⟩
    refine sorted_ints isl (ZmN hv e3) (by rw[hv.length];exact h64) fun out ms a1 a2 a3=>?_
    have em:=Zo0 a2 a3
    subst em
    obtain⟨q,hq⟩:=sortedAll_at s.heap ys out
    have hlen:ks.length=vs.length:=by rw[←hv.length];exact(ZmN hv e3).length.symm
    obtain⟨r2,ap⟩:=r.more (h':=sortedAll s.heap ys out) (fs:=[(s.heap.objs.size+1,ZbX out.toList q)]) (fun b o hb=>sortedAll_old hb) (fun u hu=>by
     rw[List.mem_singleton.mp hu]
     refine⟨?_,Nat.le_succ _⟩
     rw[hq])
    obtain⟨W2,l2,r3,v3⟩:=Zgd r2 (fun t ht=>ap _ Zz5 t ht) (ZpI a1) (by rw[List.length_map,ZtE,hlen];exact hl)
    exact post W2 _ s.toks _ l2 r3 v3
  ·cases ho
 ·cases ho
end
end PM
namespace PM
open PySem PySem.W PySem.Calls PyProof.Rows PyProof PySem.SeqAt
open SeqRoads2 MeetsSeq3 MeetsSeq2 MeetsSeq AutoSeq1
theorem ZsH(l:Addr)(its:Array Value)(n:Nat)(dd:Option Addr)(sl:Array (Option Value))(x:Value)(tk:Tok)(e:Value→Bool)(j:Nat)(hj:j<its.size)(h1:1≤j)(small:(j:Int)<2 ^ 63-1)
  (hit:e its[j]=true) (no:∀m (hm:m<its.size),1≤m→m<j→e its[m]=false):
  Meets (Builtin.«list.index» ⟨[.ref l,x,.int 1 tk],[]⟩) fun A R s=>s.heap.get? l=some { cls:=.type "list",dict:=dd,data:=.seq its n,slots:=sl }∧(∀y,y∈its→EqAt A.in1 s y x (e y))∧R (.ok (.ret (.int j s.toks))) { s with toks:=s.toks+1 }:=by
 intro prog w A R s h
 obtain⟨hp,g,d,tk',os⟩:=s
 obtain⟨hq0,he,h⟩:=h
 wp_walk using wpAny_loadPart' hq0
 have b1:((fun i:Int=>if i<0 then max 0 (i+(its.size:Int))else i) ((some (1:Int)).getD 0))=((1:Nat):Int):=by simp
 have b2:((fun i:Int=>if i<0 then max 0 (i+(its.size:Int))else i) ((Option.none:Option Int).getD (2 ^ 63-1)))=2 ^ 63-1:=by simp
 rw[b1,b2]
 refine⟨plainId_quiet plain_index_loop _,codeAny_builtin entry_index_loop ?_⟩
 rw[Around.under_plainId plain_index_loop _];exact index_loopAt l its n dd sl x e (2 ^ 63-1) j hj small hit _ 1 rfl h1 no prog w A R _ ⟨hq0,he,h⟩
section
variable {prog:Program} {w:World} {A:Around} {E:Value→Shared→Prop} {s:Shared}
theorem Zsf{l:Addr}{vs:List Value}{ns:List Int}{k:Int}{t t':Tok}{Q:Value→Shared→Prop}(hl:s.heap.IsList l vs.toArray)(hi:IntsAre vs ns)(hn:ns.length≤100000)(hk:k∈ns.drop 1)
  (h:Q (.int ((1+(ns.drop 1).idxOf k:Nat)) s.toks) { s with toks:=s.toks+1 }):wpAny (model prog w) A (call (.builtin "list.index") [.ref l,.int k t,.int 1 t']) Q E s:=by
 obtain⟨⟨c0,dd,da,sl⟩,ho,ec,n,ed⟩:=id hl
 simp only at ec ed
 subst ec ed
 have hlen:=hi.length
 have hj:(ns.drop 1).idxOf k<(ns.drop 1).length:=List.idxOf_lt_length_iff.mpr hk
 have hj':1+(ns.drop 1).idxOf k<ns.length:=by rw[List.length_drop]at hj;omega
 refine call_meets PySem.F.slot_list_index ⟨_,ho,rfl⟩ PySem.F.entry_list_index (PySem.F.args_list_index_3 _ _ _) (ZsH l vs.toArray n dd sl (.int k t) t' (isInt k) (1+(ns.drop 1).idxOf k) (by simpa [hlen]using hj') (by omega) (by omega) ?_ ?_) ⟨ho,fun y hy=>(eq_isInt k t hi y (by simpa using hy)).at _ _,h⟩
 ·show isInt k vs[1+(ns.drop 1).idxOf k]=true
  rw[isInt_at k hi _ (by omega) hj']
  have:=List.getElem_idxOf hj
  rw[List.getElem_drop]at this
  simpa using this
 ·intro m hm h1 h2
  show isInt k vs[m]=false
  rw[isInt_at k hi m (by simpa using hm) (by have:=hm;simp[hlen]at this;omega)]
  have hm':m-1<(ns.drop 1).length:=by rw[List.length_drop];omega
  have:=ne_of_lt_idxOf (k:=k) (ns:=ns.drop 1) (j:=m-1) (by omega) hm'
  rw[List.getElem_drop]at this
  simpa [show 1+(m-1)=m by omega]using this
end
noncomputable def ZiA: V→V→V→Hp→Option (V×Hp)
 | .ref a,.int k,.int b,H=>H[a]?.bind fun vs=>(Zdv vs).bind fun ns=>if b=1∧k∈ns.drop 1 then some (.int ((1+(ns.drop 1).idxOf k:Nat):Int),H)else none
 | _,_,_,_=>none
noncomputable def ZgI(f g h:Ex): Ex:=fun ρ H=>(f ρ H).bind fun p=>(g ρ p.2).bind fun q=>(h ρ q.2).bind fun u=>ZiA p.1 q.1 u.1 u.2
section
variable {prog:Program} {w:World} {Γ:Cx}
theorem Zsg{a b c:V}{H:Hp}{r:V×Hp}(h:ZiA a b c H=some r): ∃i k vs ns,a=.ref i∧b=.int k∧c=.int 1∧H[i]?=some vs∧Zdv vs=some ns∧k∈ns.drop 1∧r=(.int ((1+(ns.drop 1).idxOf k:Nat):Int),H):=by
 unfold ZiA at h
 split at h
 ·obtain⟨vs,e1,h⟩:=Zz0.mp h
  obtain⟨ns,e2,h⟩:=Zz0.mp h
  split at h
  ·rename_i q
   cases h
   obtain⟨rfl,q⟩:=q
   exact⟨_,_,vs,ns,rfl,rfl,rfl,e1,e2,q,rfl⟩
  ·cases h
 ·cases h
theorem J.index{o e1 e2:Expr}{apos pos:Pos}{f g k:Ex}(ho:J prog w Γ o f)(h1:J prog w Γ e1 g)(h2:J prog w Γ e2 k)(hbase:attributeBase o "index" Γ.env (eval o Γ.env)=eval o Γ.env:=by rfl)
  (hline:(apos.endLine == pos.line)=true:=by rfl) (htrees:backTo pos (starEach [e1,e2] Γ.env)=[(false,eval e1 Γ.env),(false,eval e2 Γ.env)]:=by rfl) (hstay:∀ρ H p,f ρ H=some p→∀q,g ρ p.2=some q→p.2=q.2:=by intro _ _ _ _ _ h;cases h;rfl) (hstay2:∀ρ H p,g ρ H=some p→∀q,k ρ p.2=some q→p.2=q.2:=by intro _ _ _ _ _ h;cases h;rfl):J prog w Γ (.Call (.Attribute o "index" apos) [e1,e2] [] pos) (ZgI f g k):=by
 intro W ρ H fr s Q E v H' r hx post
 obtain⟨p,x1,hx⟩:=Zz0.mp hx
 obtain⟨q,x2,hx⟩:=Zz0.mp hx
 obtain⟨u,x3,x4⟩:=Zz0.mp hx
 obtain⟨i,kk,vs,ns,ea,eb,ec,hvs,hns,hmem,er⟩:=Zsg x4
 refine wpAny_Call_method2_late hbase hline htrees (ho W ρ H fr s _ E _ _ r x1 fun W1 k1 t1 x l1 r1 y1=>?_)
 rw[ea]at y1
 have s1:=hstay ρ H p x1 q x2
 have s2:=hstay2 ρ p.2 q x2 u x3
 cases y1 with
 | @ref _ a aa=>
 obtain⟨hl,xs,n,hg,hv⟩:=r1.at (by rw[s1,s2];exact hvs) aa
 refine⟨"list","list.index",PySem.F.plainAttrs_list,PySem.F.slot_list_index,PySem.F.type_list_index,(show k1.IsList a xs.toArray from⟨_,hg,rfl,n,rfl⟩).typeIs,fun b eb=>by cases eb;exact⟨_,hg,rfl⟩,?_⟩
 refine Calls.callWith_builtin rfl (Calls.evalArgs_plain (Calls.spliced_cons ?_))
 refine h1 W1 ρ _ fr _ _ E _ _ r1 x2 fun W2 k2 t2 y l2 r2 y2=>Calls.spliced_cons ?_
 refine h2 W2 ρ _ fr _ _ E _ _ r2 x3 fun W3 k3 t3 z l3 r3 z3=>Calls.spliced_nil ?_
 rw[eb]at y2
 rw[ec]at z3
 cases y2 with
 | int _ ty=>
 cases z3 with
 | int _ tz=>
 obtain⟨hl3,xs3,n3,hg3,hv3⟩:=r3.at hvs (l3.at (l2.at aa))
 rw[Zbg]at hl3
 have hI:=ZmN hv3 hns
 refine Zsf ⟨_,hg3,rfl,n3,rfl⟩ hI (by rw[←hI.length,hv3.length];omega) hmem ?_
 have:=post W3 k3 (t3+1) (.int ((1+(ns.drop 1).idxOf kk:Nat):Int) t3) ((l1.trans l2).trans l3)
 cases er
 exact this r3 (.int _ _)
end
end PM
end
section
set_option autoImplicit false
namespace TM
open PySem PM
theorem Zmo{H:Hp}: ∀ks:List Int,RFs H (ks.map V.int) (ks.map T.int) []
 | []=>.nil
 | k::ks=>.cons (.int k) (Zmo ks)
noncomputable def Zim: List T→Option T
 | [.lst ts]=>(Zdl ts).bind fun ns=>if ts.length<64 then some (.lst ((Zdm ns).map T.int))else none
 | _=>none
theorem ZuD: OCn Zgx Zim:=fun H vs ts t F hp r h=>by
 unfold Zim at h
 split at h
 ·obtain⟨v,rfl,r'⟩:=r.one_inv
  cases r' with
  | ref e hs=>
   obtain⟨ks,h1,h⟩:=Zz0.mp h
   split at h
   ·rename_i h64
    cases h
    refine⟨_,[(Zdm ks).map V.int],_,?_,Zd0 (Zmo (Zdm ks)),fun a m=>?_,fun _=>?_⟩
    ·simp only[Zgx,e,Option.bind_some,Zih hs h1]
     rw[if_pos (by rw[hs.length];exact h64)]
    ·rcases Zz7.mp m with rfl | m
     ·exact .inl (Zz10 _)
     ·cases m
    ·simp
   ·cases h
 ·cases h
noncomputable def ZgJ(p q r:PE): PE:=fun σ=>(p σ).bind fun t=>(q σ).bind fun k=>(r σ).bind fun b=>match t,k,b with
 | .lst ts,.int k,.int b=>(Zdl ts).bind fun ns=>if b=1∧k∈ns.drop 1 then some (.int ((1+(ns.drop 1).idxOf k:Nat):Int))else none
 | _,_,_=>none
section
variable {O N M K:List Nat} {u u' u'':Bool}
theorem E.index{e1 e2 e3:Ex}{p1 p2 p3:PE}(x:E O N u e1 p1)(y:E O M u' e2 p2)(z:E O K u'' e3 p3): E O [] true (ZgI e1 e2 e3) (ZgJ p1 p2 p3):=fun c ρ σ H Φ t s h=>by
 obtain⟨t1,h1,h⟩:=Zz0.mp h
 obtain⟨t2,h2,h⟩:=Zz0.mp h
 obtain⟨t3,h3,h⟩:=Zz0.mp h
 obtain⟨v1,X,F1,a1,a2,_,_⟩:=x c ρ σ H Φ t1 s h1
 obtain⟨v2,Y,F2,b1,b2,_,_⟩:=y c ρ σ (H++X) Φ t2 (s.ext X) h2
 obtain⟨v3,Z,F3,c1,c2,_,_⟩:=z c ρ σ (H++X++Y) Φ t3 ((s.ext X).ext Y) h3
 have a3:=(a2.ext Y).ext Z
 split at h
 ·obtain⟨ns,e1,h⟩:=Zz0.mp h
  split at h
  ·rename_i hc
   cases h
   cases b2
   cases c2
   cases a3 with
   | ref e hs=>
    refine⟨_,X++Y++Z,[],?_,.int _,by simp,by simp⟩
    have e':=e
    simp only[ZgI,a1,b1,c1,Option.bind_some,ZiA,e',Zih hs e1]
    rw[if_pos hc]
    simp
  ·cases h
 ·cases h
end
section
variable {σ:TL} {Q:T→Prop}
end
end TM
end
section
namespace My
open PySem
section
variable {prog:Program} {w:World} {A:Around} {E:Value→Shared→Prop} {s:Shared}
theorem fill_range{R:Result→Shared→Prop}{r:Addr}{a b c:Int}{t u v:Tok}{n:Nat}(hr:IsRange s.heap r a b c t u v)(hn:Builtin.Range.rangeSize a b c=n)(hlen:n≤2 ^ 24)(S:Addr)(res:Value)(c₀:Nat)
  (at_S:s.heap.get? S=some { cls:=.type "list",data:=.seq #[] c₀ }) (ito:Obj) {St:Nat→Heap→Prop} (W:Walks prog w A.in1 s.heap.objs.size [s.heap.objs.size] [s.heap.objs.size] n (fun i v=>∃t,v=.int (a+i*c) t) St)
  (st:∀g:Heap,g.get? s.heap.objs.size=some ito→St 0 g)
  (iter:∀(Q:Value→Shared→Prop) (E':Value→Shared→Prop),Q (.ref s.heap.objs.size) { s with heap:=s.heap.push ito }→wpAny (model prog w) A.in1 (pyIter (.ref r)) Q E' s) (hito:(s.heap.push ito).get? s.heap.objs.size=some ito)
  (out:∀g tk acc k,(∀b o,b≠S→s.heap.get? b=some o→g.get? b=some o)→g.get? S=some { cls:=.type "list",dict:=none,data:=.seq acc k,slots:=#[] }→ItemsOf (fun i v=>∃t,v=.int (a+i*c) t) acc n→R (.ok (.ret res)) { s with heap:=g,toks:=tk }):
  wpAny (model prog w) A.in1 (Builtin.List.listExtendWith (.ref S) (.ref r) res)
   (fun fin s'=>match fin with
    | .done f=>R (.ok f) s'
    | .again c'=>c'.quiet=true∧codeAny (model prog w) A c' R s') (fun e s'=>R (.error e) s') s:=by
 have ne_r:S≠r:=fun e=>by rw[e,hr]at at_S;simp at at_S
 have ne_I:S≠s.heap.objs.size:=Nat.ne_of_lt (Heap.lt_size at_S)
 have off:S∉[s.heap.objs.size]:=fun q=>ne_I (Zz9.mp q)
 have loop:∀(g:Heap) (k tk:Nat),g.get? s.heap.objs.size=some ito→(∀b o,b≠S→s.heap.get? b=some o→g.get? b=some o)→g.get? S=some { cls:=.type "list",data:=.seq #[] k } →
   codeAny (model prog w) A (.builtin "list.extend.loop" ⟨[.ref S,.ref s.heap.objs.size,res],[]⟩) R { s with heap:=g,toks:=tk }:=by
  intro g k tk at_I keeps at_S'
  refine codeAny_extend_loopS W.toS (by rw[sizeLine_eq];omega) S off res n 0 _ #[] k rfl (Nat.zero_le _) (st _ at_I) at_S' (ItemsOf.nil _) fun s' acc k' mv at_S'' its=>?_
  rw[Moved.eq_with mv]
  refine out s'.heap s'.toks acc k' (fun b o bS e=>mv.heap b o (fun q=>?_) (keeps b o bS e)) at_S'' its
  rcases Zz7.mp q with q | q
  ·exact bS q
  ·exact absurd (Heap.lt_size e) (by rw[List.mem_singleton.mp q];exact Nat.lt_irrefl _)
 unfold Builtin.List.listExtendWith
 refine wpAny_bind (wpAny_typeOf (T:="range") ⟨_,hr,rfl⟩ ?_)
 have z1:Builtin.List.listSameRef (.ref S) (.ref r)=false:=by simp[Builtin.List.listSameRef,ne_r]
 have z2:(Value.type "range" == Value.type "list")=false:=by decide
 have z3:(Value.type "range" == Value.type "tuple")=false:=by decide
 simp only[z1,z2,z3,Bool.or_false,Bool.false_eq_true,if_false]
 refine wpAny_bind (iter _ _ ?_)
 refine wpAny_bind (wpAny_holding (wpAny_hint_range (n:=n) (Heap.get?_push_of_some _ hr) hn hlen ?_))
 have at_S1:=Heap.get?_push_of_some ito at_S
 refine wpAny_ite_split (fun _=>?_) (fun _=>wpAny_pure ⟨plainId_quiet F.plain_extend_loop _,loop _ c₀ _ hito (fun b o _ e=>Heap.get?_push_of_some _ e) at_S1⟩)
 refine wpAny_bind (wpAny_rule ?_);refine wpAny_bind ?_
 show wpAny _ _ (updateSeq S (·.push .none) >>= fun _=>updateSeq S (·.pop)) _ _ _;refine wpAny_bind (wpAny_updateSeq at_S1 rfl ?_)
 have at_S2:=Heap.get?_update_self (Obj.mapSeq (·.push Value.none)) at_S1 rfl
 refine wpAny_updateSeq (hz:=by seq_fits) at_S2 rfl ?_
 have at_S3:=Heap.get?_update_self (Obj.mapSeq (·.pop)) at_S2 rfl
 refine wpAny_pure ⟨plainId_quiet F.plain_extend_loop _,loop _ _ _ ?_ (fun b o bS e=>?_) at_S3⟩
 ·exact(Heap.get?_update_other _ _ ne_I).trans ((Heap.get?_update_other _ _ ne_I).trans hito)
 ·exact(Heap.get?_update_other _ _ (Ne.symm bS)).trans ((Heap.get?_update_other _ _ (Ne.symm bS)).trans (Heap.get?_push_of_some _ e))
theorem fill_any{R:Result→Shared→Prop}{r:Addr}{a b c:Int}{t u v:Tok}{n:Nat}(hh:A.handled=none)(hr:IsRange s.heap r a b c t u v)(hn:Builtin.Range.rangeSize a b c=n)(hlen:n≤2 ^ 24)(S:Addr)(res:Value)(c₀:Nat)
  (at_S:s.heap.get? S=some { cls:=.type "list",data:=.seq #[] c₀ })
  (out:∀g tk acc k,(∀b o,b≠S→s.heap.get? b=some o→g.get? b=some o)→g.get? S=some { cls:=.type "list",dict:=none,data:=.seq acc k,slots:=#[] }→ItemsOf (fun i v=>∃t,v=.int (a+i*c) t) acc n→R (.ok (.ret res)) { s with heap:=g,toks:=tk }):
  wpAny (model prog w) A.in1 (Builtin.List.listExtendWith (.ref S) (.ref r) res)
   (fun fin s'=>match fin with
    | .done f=>R (.ok f) s'
    | .again c'=>c'.quiet=true∧codeAny (model prog w) A c' R s') (fun e s'=>R (.error e) s') s:=by
 by_cases sm:Builtin.Range.small a b c=true
 ·refine fill_range hr hn hlen S res c₀ at_S _ (Walks.range (prog:=prog) (w:=w) (A:=A.in1) hh s.heap.objs.size a c n) (fun g at_g=>?_) (fun Q' E' q=>wpAny_pyIter_range hr sm q) (Heap.get?_push_size _ rfl) out
  show IsRangeIter _ _ _ _ _
  rw[hn]at at_g
  simpa using at_g
 ·refine fill_range hr hn hlen S res c₀ at_S _ (Walks.longrange (prog:=prog) (w:=w) (A:=A.in1) hh s.heap.objs.size a c n) (fun g at_g=>?_) (fun Q' E' q=>wpAny_pyIter_longrange hr (by simpa using sm) q) (Heap.get?_push_size _ rfl) out
  show IsLongIter _ _ _ _ _
  rw[hn]at at_g
  simpa using at_g
theorem list_any{Q:Value→Shared→Prop}{r:Addr}{a b c:Int}{t u v:Tok}{n:Nat}(hh:A.handled=none)(hr:IsRange s.heap r a b c t u v)(hn:Builtin.Range.rangeSize a b c=n)(hlen:n≤2 ^ 24)
  (out:∀g tk acc k,(∀b o,s.heap.get? b=some o→g.get? b=some o)→g.get? s.heap.objs.size=some { cls:=.type "list",dict:=none,data:=.seq acc k,slots:=#[] }→ItemsOf (fun i v=>∃t,v=.int (a+i*c) t) acc n →
   Q (.ref s.heap.objs.size) { s with heap:=g,toks:=tk }):
  wpAny (model prog w) A (call (.type "list") [.ref r]) Q E s:=by
 refine callType_codes (Q₁:=fun obj s₁=>obj=.ref s.heap.objs.size∧s₁ = { s with heap:=s.heap.push { cls:=.type "list",data:=.seq #[] } }) F.called_list (F.typeCall_list_1 _) F.entry_list_init (code_list_new _ ⟨rfl,rfl⟩) fun obj s₁ h₁=>?_
 obtain⟨rfl,rfl⟩:=h₁
 have at_S:(s.heap.push { cls:=.type "list",data:=.seq #[] }).get? s.heap.objs.size=some { cls:=.type "list",data:=.seq #[] }:=Heap.get?_push_size _ rfl
 refine⟨⟨_,at_S,rfl⟩,F.args_list_init_2 _ _,?_⟩
 have hr':=Heap.get?_push_of_some { cls:=.type "list",data:=.seq #[] } hr
 have ne_r:s.heap.objs.size≠r:=fun e=>absurd (Heap.lt_size hr) (by rw[←e];exact Nat.lt_irrefl _)
 show wpAny _ _ (do let old ←Builtin.List.listItems (.ref s.heap.objs.size);Builtin.List.listUpdate (.ref s.heap.objs.size) (fun _=>#[]);letGo old.toList.reverse;Builtin.List.listExtendWith (.ref s.heap.objs.size) (.ref r) .none) _ _ _
 refine wpAny_bind ?_;unfold Builtin.List.listItems;refine wpAny_bind (wpAny_seqItems at_S rfl (wpAny_pure ?_))
 show wpAny _ _ (updateSeq s.heap.objs.size (fun _=>#[]) >>= fun _=>letGo (#[]:Array Value).toList.reverse >>= fun _=>Builtin.List.listExtendWith (.ref s.heap.objs.size) (.ref r) .none) _ _ _
 refine wpAny_bind (wpAny_updateSeq at_S rfl ?_)
 have at_S2:=Heap.get?_update_self (Obj.mapSeq (fun _=>(#[]:Array Value))) at_S rfl
 have oth:∀b o,b≠s.heap.objs.size→s.heap.get? b=some o→((s.heap.push { cls:=.type "list",data:=.seq #[] }).update s.heap.objs.size (Obj.mapSeq (fun _=>(#[]:Array Value)))).get? b=some o:=fun b o hb e=>(Heap.get?_update_other _ _ (Ne.symm hb)).trans (Heap.get?_push_of_some _ e)
 have hr2:=oth r _ (Ne.symm ne_r) hr
 refine wpAny_bind (wpAny_letGo ?_)
 refine' fill_any (t:=t) (u:=u) (v:=v) (A:=A.in1) (R:=wants (fun r s₂=>r=Value.none∧Q (Value.ref s.heap.objs.size) s₂) E) hh ?_ hn hlen s.heap.objs.size .none ?k0 ?k2 fun g tk acc k keeps at_g its=>?k3
 case k2=>exact at_S2
 ·exact hr2
 case k3=>exact⟨rfl,out g tk acc k (fun b o e=>keeps b o (Nat.ne_of_lt (Heap.lt_size e)) (oth b o (Nat.ne_of_lt (Heap.lt_size e)) e)) at_g its⟩
end
end My
end
section
set_option autoImplicit false
namespace PM
open PySem PySem.W PySem.Calls PyProof.Rows PyProof
noncomputable def ZdX(a:Int)(n:Nat): List V:=(List.range n).map fun(i:Nat)=>V.int (a+i)
noncomputable def ZgK: List V→Hp→Option (V×Hp)
 | [.int a,.int b],H=>if 0≤b-a∧b-a≤1000 then some (.ref H.length,H++[ZdX a (b-a).toNat])else none
 | _,_=>none
theorem ZuE{W:Wd}{a:Int}: ∀{n:Nat} {xs:List Value},xs.length=n→(∀(j:Nat) (v:Value),xs[j]?=some v→∃t:Tok,v=Value.int (a+(j:Int)*1) t)→VRs W (ZdX a n) xs:=by
 intro n
 induction n generalizing a with
 | zero=>
  intro xs hl _
  have:xs=[]:=List.length_eq_zero_iff.mp hl
  subst this
  exact .nil
 | succ n ih=>
  intro xs hl hv
  cases xs with
  | nil=>cases hl
  | cons v xs=>
   obtain⟨t,e⟩:=hv 0 v rfl
   subst e
   have r:ZdX a (n+1)=V.int (a+((0:Nat):Int)*1)::ZdX (a+1) n:=by
    simp only[ZdX,List.range_succ_eq_map,List.map_cons,List.map_map]
    refine congr (congrArg _ (congrArg _ (by omega))) ?_
    apply List.map_congr_left
    intro i _
    show V.int _=V.int _
    congr 1
    simp only[Nat.succ_eq_add_one]
    omega
   rw[r]
   refine .cons (.int _ t) (ih (by simpa using hl) fun j u hu=>?_)
   obtain⟨t',e'⟩:=hv (j+1) u (by simpa using hu)
   refine⟨t',?_⟩
   rw[e']
   congr 1
   omega
section
variable {prog:Program} {w:World} {Γ:Cx}
theorem ZvQ{x x2:Str}{np pos np2 pos2:Pos}{e:Expr}{es:List Expr}{g:Exs}(hn:Nm prog w Γ x (.type "list"))(hr:Nm prog w Γ x2 (.type "range"))(h:Js prog w Γ (e::es) g)
  (he:starEach (e::es) Γ.env=(false,eval e Γ.env)::starEach es Γ.env:=by rfl) (hp:∀pos,(backTo pos (starEach es Γ.env)).any (·.1)=false:=by intro _;rfl):J prog w Γ (.Call (.Name x np) [.Call (.Name x2 np2) (e::es) [] pos2] [] pos) (ZA ZgK g):=by
 intro W ρ H fr s Q E v H' r hf post
 obtain⟨p,e1,hf⟩:=Zz0.mp hf
 refine wpAny_Call_ofName (hn.use r ?_)
 refine PySem.Pv.callWith_type1 (wpAny_items_cons (wpAny_Call_ofName (hr.use r (PySem.Pv.callWith_type1 (h pos2 W ρ H fr s _ E _ _ r e1 fun W1 k1 t1 xs l1 r1 x1=>?_) he (hp pos2)))) rfl) rfl rfl
 obtain⟨vs,H1⟩:=p
 dsimp only at hf x1 r1
 unfold ZgK at hf
 split at hf
 ·obtain⟨y,z,ex,ry,rz⟩:=x1.two
  subst ex
  cases ry
  cases rz
  split at hf
  ·rename_i _ _ a b _ _ hc
   cases hf
   refine call_range_2 (wpAny_items_nil ?_)
   refine My.list_any (n:=(b-a).toNat) Γ.hh (IsRange.new ..) ?_ (by omega) fun g tk acc k up hg its=>?_
   ·unfold Builtin.Range.rangeSize
    rw[if_pos (by decide)]
    split
    ·omega
    ·omega
   have e:acc=acc.toList.toArray:=by simp
   obtain⟨W2,l2,r2,v2⟩:=(r1.push _).listAt (xs:=acc.toList) up (by rw[hg]) (ZuE (a:=a) (n:=(b-a).toNat) (by have:=its.1;simpa using this) fun j v hv=>its.2 j v (by simpa using hv)) (by simp[ZdX,LEN];omega)
   exact post W2 g tk _ (l1.trans l2) r2 v2
  ·cases hf
 ·cases hf
end
end PM
end
section
set_option autoImplicit false
namespace TM
open PySem PM
noncomputable def ZgL: List T→Option T
 | [.int a,.int b]=>if 0≤b-a∧b-a≤1000 then some (.lst (tab (b-a).toNat fun i=>.int (a+i)))else none
 | _=>none
theorem ZvR: OCn ZgK ZgL:=fun H vs ts t F hp r h=>by
 unfold ZgL at h
 split at h
 ·split at h
  ·rename_i a b hc
   cases h
   cases r with
   | cons r1 r2=>
   obtain⟨v,rfl,r'⟩:=r2.one_inv
   cases r1
   cases r'
   have e1:ZdX a (b-a).toNat=((List.range (b-a).toNat).map fun(i:Nat)=>a+(i:Int)).map V.int:=by rw[ZdX,List.map_map];rfl
   have e2:(tab (b-a).toNat fun i=>T.int (a+i))=((List.range (b-a).toNat).map fun(i:Nat)=>a+(i:Int)).map T.int:=by rw[tab,List.map_map];rfl
   refine⟨_,[ZdX a (b-a).toNat],_,by simp only[ZgK];rw[if_pos hc],by rw[e1,e2];exact Zd0 (Zmo _),fun q m=>?_,fun _=>?_⟩
   ·rcases Zz7.mp m with rfl | m
    ·exact .inl (Zz10 _)
    ·cases m
   ·simp
  ·cases h
 ·cases h
section
variable {Q:T→Prop}
theorem ZuF{a b:Int}{n:Nat}(h:b=a+n)(hn:n≤1000)(q:Q (.lst (tab n fun i=>.int (a+i)))): Pk (ZgL [.int a,.int b]) Q:=by
 refine⟨_,?_,q⟩
 simp only[ZgL]
 rw[if_pos (by omega),show(b-a).toNat=n by omega]
end
end TM
end
section
set_option autoImplicit false
namespace TM
open PySem PM
noncomputable def EN(O N:List Nat)(e:Ex)(p:PE): Prop:=∀(c:Ctx) (ρ:Lc) (σ:TL) (H:Hp) (Φ:Nat→List Nat) (ts:List T),St c O ρ σ H Φ→p σ=some (.lst ts) →
 ∃a vs X F,e ρ H=some (.ref a,H++X)∧(H++X)[a]?=some vs∧RFs (H++X) vs ts F∧H.length≤a∧a∉F∧∀b∈F,From H N σ Φ b
section
variable {O N M K:List Nat} {u u':Bool}
theorem ZuG{e:Ex}{p:PE}{lo hi:Pt}{plo phi:PPt}(x:E O N u e p)(y:Pe O lo plo)(z:Pe O hi phi): EN O N (Zdf e lo hi) (Zdw p plo phi):=fun c ρ σ H Φ ts0 s h=>by
 obtain⟨t1,h1,h⟩:=Zz0.mp h
 obtain⟨a,h2,h⟩:=Zz0.mp h
 obtain⟨b,h3,h⟩:=Zz0.mp h
 obtain⟨v,X,F,a1,a2,a3,a4⟩:=x c ρ σ H Φ t1 s h1
 obtain⟨o1,Y,b1,b2⟩:=y c ρ σ (H++X) Φ a (s.ext X) h2
 obtain⟨o2,Z,c1,c2⟩:=z c ρ σ (H++X++Y) Φ b ((s.ext X).ext Y) h3
 cases a2 with
 | none=>cases h
 | bool=>cases h
 | int=>cases h
 | str=>cases h
 | tup=>cases h
 | @ref i vs ts F e1 hs=>
 cases h
 have e3:((H++X)++(Y++Z))[i]?=Option.some vs:=by rw[List.getElem?_append_left (Zz6.mp e1).1];exact e1
 have hs':=hs.ext (Y++Z)
 have hlen:=hs.length
 obtain⟨G,g1,g2⟩:=hs'.pick (sliceRange (sliceBounds a b none vs.length).1 (sliceBounds a b none vs.length).2.1 (sliceBounds a b none vs.length).2.2)
 have g1':RFs (H++X++(Y++Z)) (ZbH vs a b) (ZbH ts a b) G:=by unfold ZbH;rw[←hlen];exact g1
 refine⟨(H++X++(Y++Z)).length,ZbH vs a b,X++(Y++Z)++[ZbH vs a b],G,?_,?_,?_,?_,fun m=>?_,fun q m=>a3 q (Zz2 _ (g2 q m))⟩
 ·simp only[Zdf,a1,Option.bind_some,b1,c1,b2,c2]
  rw[List.append_assoc (H++X),e3]
  simp
 ·simp
 ·have:=g1'.ext [ZbH vs a b]
  simpa using this
 ·simp
 ·exact absurd (g1'.lt _ m) (Nat.lt_irrefl _)
noncomputable def Zin(i:Nat)(p pv pk:PE): PS:=fun σ=>(p σ).bind fun t=>match t with
 | .lst ts=>(pv (ZW σ i (.lst ts))).bind fun w=>(pk (ZW σ i (.lst ts))).bind fun k=>match k with
  | .int k=>if 0≤k∧k<ts.length then some (none,ZW σ i (.lst (ts.set k.toNat w)))else none
  | _=>none
 | _=>none
theorem ZuH{O1 R:List Nat}{fr:Bool}{i:Nat}{e v k:Ex}{p pv pk:PE}(x:EN O N e p)(y:E O1 M u v pv)(z:E O1 K u' k pk)(hi:i∉O1)(hN:∀j∈N,j∉O1)(hM:∀j∈M,j∉O1∧j≠i)(hO:∀j∈O1,j∈O): S O O1 R fr (Zs (ZE i e) (Zbt v (Zb i) k)) (Zin i p pv pk):=fun c ρ σ H Φ r s q=>by
 obtain⟨t,h1,q⟩:=Zz0.mp q
 cases t <;> first | (cases q;done) | skip
 rename_i ts
 obtain⟨w,h2,q⟩:=Zz0.mp q
 obtain⟨kt,h3,q⟩:=Zz0.mp q
 cases kt <;> first | (cases q;done) | skip
 rename_i kk
 dsimp only at q
 split at q
 ·rename_i hk
  cases q
  obtain⟨a,vs,X,F,a1,a2,a3,a4,a5,a6⟩:=x c ρ σ H Φ ts s h1
  have s':=s.less hO
  have low:∀j t,σ j=some t→∀b∈Φ j,b<H.length:=fun j t e b m=>by
   obtain⟨_,_,r⟩:=s.slot j t e
   exact r.lt b m
  have ha:a<(H++X).length:=(Zz6.mp a2).1
  have s1:St c O1 (upd ρ i (.ref a)) (ZW σ i (.lst ts)) (H++X) (Zal Φ i (a::F)):=(s'.ext X).put hi (.ref a2 a3) (fun b m=>by
   rcases Zz7.mp m with rfl | m
   ·exact .inl (Nat.le_trans s.len a4)
   ·exact s.from_src (a6 b m)) (fun j hj t' e' b m q=>by
   rcases Zz7.mp q with rfl | q
   ·have:=low j t' e' b m;omega
   ·exact s'.from_off hN (a6 b q) hj e' m)
  obtain⟨vw,Y,Fw,b1,b2,b3,b4⟩:=y c _ _ (H++X) _ w s1 h2
  obtain⟨vk,Z,Fk,c1,c2,c3,c4⟩:=z c _ _ (H++X++Y) _ _ (s1.ext Y) h3
  cases c2
  have aFw:a∉Fw:=fun m=>by
   rcases b3 a m with q | ⟨j,hj,⟨t',e'⟩,mj⟩
   ·omega
   ·have hji:=(hM j hj).2
    simp[ZW,hji]at e'
    simp[Zal,hji]at mj
    have:=low j t' e' a mj;omega
  have srcw:∀b∈Fw,c.H0.length≤b∨c.P b:=fun b m=>s1.from_src (b3 b m)
  have offw:∀b∈Fw,∀j∈O1,∀t',σ j=some t'→b∉Φ j:=fun b m j hj t' e' q=>by
   have hji:j≠i:=fun q=>hi (q▸hj)
   have:=s1.from_off (fun j hj=>(hM j hj).1) (b3 b m) hj (t:=t') (by simp[ZW,hji,e'])
   simp[Zal,hji]at this
   exact this q
  have hkt:kk.toNat<ts.length:=by omega
  have a3':RFs (H++X++Y++Z) vs ts F:=(a3.ext Y).ext Z
  obtain⟨v0,Gk,F1,F2,e0,r0,eG,rb⟩:=a3'.split (List.getElem?_eq_getElem hkt)
  subst eG
  have ha3:a<(H++X++Y++Z).length:=by simp only[List.length_append]at *;omega
  have e3:(H++X++Y++Z)[a]?=some vs:=by rw[List.getElem?_append_left (by simp only[List.length_append]at *;omega),List.getElem?_append_left ha];exact a2
  have fr1:∀b,b≠a→((H++X++Y++Z).set a (vs.set kk.toNat vw))[b]?=(H++X++Y++Z)[b]?:=fun b hb=>List.getElem?_set_ne (Ne.symm hb)
  have rw':RF ((H++X++Y++Z).set a (vs.set kk.toNat vw)) vw w Fw:=(b2.ext Z).frame fun b m=>fr1 b fun q=>aFw (q▸m)
  have rs:=rb ((H++X++Y++Z).set a (vs.set kk.toNat vw)) vw w Fw rw' (fun b m=>fr1 b fun q=>a5 (q▸List.mem_append_left _ m)) (fun b m=>fr1 b fun q=>a5 (q▸List.mem_append_right _ (Zz3 _ m)))
  have hin:∀b∈F1++(Fw++F2),b∈F1++(Gk++F2)∨b∈Fw:=fun b m=>by
   simp only[List.mem_append]at m ⊢
   rcases m with m | m | m
   ·exact .inl (.inl m)
   ·exact .inr m
   ·exact .inl (.inr (.inr m))
  have nin:a∉F1++(Fw++F2):=fun m=>(hin a m).elim a5 aFw
  refine⟨upd ρ i (.ref a),(H++X++Y++Z).set a (vs.set kk.toNat vw),Zal Φ i (a::(F1++(Fw++F2))),by simp,fun b hb _=>?_,.inl ⟨rfl,?_,⟨fun j t' e'=>?_,fun j t' e'=>?_,fun j hj t' e'=>?_,?_,fun b hb hn=>?_,s.pos,s.f0⟩,fun b m=>?_⟩⟩
  ·rw[fr1 b (by omega),List.getElem?_append_left (by simp only[List.length_append];omega),List.getElem?_append_left (by simp only[List.length_append];omega),List.getElem?_append_left hb]
  ·have e5:Zb i (upd ρ i (.ref a)) (H++X++Y)=some (.ref a,H++X++Y):=by simp[Zb,upd]
   simp only[Zs,ZE,a1,Option.map_some,Option.bind_some,Zbt,b1,e5,c1,ZiV,e3]
   rw[if_pos ⟨by have:=s.pos;have:=s.len;omega,by rw[a3'.length];exact hk⟩]
   rfl
  ·by_cases q:j=i
   ·subst q
    simp[ZW]at e'
    subst e'
    exact⟨.ref a,by simp[upd],by simp only[Zal,if_true];exact .ref (List.getElem?_set_self ha3) rs⟩
   ·simp[ZW,q]at e'
    obtain⟨w',g1,g2⟩:=s.slot j t' e'
    refine⟨w',by simp[upd,q,g1],?_⟩
    simp only[Zal,q,if_false]
    exact(((g2.ext X).ext Y).ext Z).frame fun b m=>fr1 b (by have:=low j t' e' b m;omega)
  ·by_cases q:j=i
   ·subst q
    simp only[Zal,if_true]
    intro b m
    rcases Zz7.mp m with rfl | m
    ·exact .inl (Nat.le_trans s.len a4)
    ·rcases hin b m with m | m
     ·exact s.from_src (a6 b m)
     ·exact srcw b m
   ·simp[ZW,q]at e'
    simpa [Zal,q]using s.src j t' e'
  ·have hji:j≠i:=fun q=>hi (q▸hj)
   simp[ZW,hji]at e'
   obtain⟨p1,p2,p3⟩:=s.own j (hO j hj) t' e'
   simp only[Zal,hji,if_false]
   refine⟨p1,p2,fun l w' hl el b hb=>?_⟩
   by_cases q:l=i
   ·subst q
    simp only[if_true]
    intro m
    rcases Zz7.mp m with rfl | m
    ·have:=low j t' e' b hb;omega
    ·rcases hin b m with m | m
     ·exact s'.from_off hN (a6 b m) hj e' hb
     ·exact offw b m j hj t' e' hb
   ·simp[ZW,q]at el
    simpa [q]using p3 l w' hl el b hb
  ·have:=s.len
   simp only[List.length_set,List.length_append]
   omega
  ·have:=s.len
   rw[fr1 b (by omega),List.getElem?_append_left (by simp only[List.length_append];omega),List.getElem?_append_left (by simp only[List.length_append];omega),List.getElem?_append_left (by omega)]
   exact s.keep b hb hn
  ·obtain⟨j,hj,⟨t',e'⟩,m⟩:=m
   have hji:j≠i:=fun q=>hi (q▸hj)
   simp[ZW,hji]at e'
   simp[Zal,hji]at m
   exact .inr ⟨j,hO j hj,⟨t',e'⟩,m⟩
 ·cases q
theorem Zxx{O' R:List Nat}{fr:Bool}{a b c:Sm}{q:PS}(h:S O O' R fr (Zs (Zs a b) c) q): S O O' R fr (Zs a (Zs b c)) q:=by
 have:Zs (Zs a b) c=Zs a (Zs b c):=by
  funext ρ H
  simp only[Zs]
  cases a ρ H with
  | none=>rfl
  | some r=>
   obtain⟨o,ρ1,H1⟩:=r
   cases o <;> rfl
 rw[←this]
 exact h
end
section
variable {R:T→Prop} {N:TL→Prop} {σ:TL}
theorem ZtG{i:Nat}{p pv pk:PE}(h:Pk (p σ) fun t=>∃ts,t=.lst ts∧Pk (pv (ZW σ i (.lst ts))) fun w=>Pk (pk (ZW σ i (.lst ts))) fun k=>∃kk:Int,k=.int kk∧0≤kk∧kk<ts.length∧N (ZW σ i (.lst (ts.set kk.toNat w)))): Psk (Zin i p pv pk σ) R N:=by
 obtain⟨_,e1,ts,rfl,w,e2,_,e3,kk,rfl,h0,h1,hN⟩:=h
 refine⟨none,_,?_,fun t q=>(by cases q),fun _=>hN⟩
 simp only[Zin,e1,Option.bind_some,e2,e3]
 rw[if_pos ⟨h0,h1⟩]
end
end TM
end
section
set_option autoImplicit false
namespace PM
open PySem PySem.W PySem.Calls PyProof.Rows PyProof PySem.Spec
noncomputable def ZiB: Expr→Bool
 | .Starred _ _=>true
 | _=>false
theorem Znr{e:Expr}{es:List Expr}{env:Env}(h:ZiB e=false): starEach (e::es) env=(false,eval e env)::starEach es env:=by
 cases e <;> first | rfl | cases h
noncomputable def ZiC: List Expr→Bool
 | []=>true
 | e::es=>!ZiB e && ZiC es
theorem ZqI{env:Env}: ∀{es:List Expr} (pos:Pos),ZiC es=true→(backTo pos (starEach es env)).any (·.1)=false
 | [],pos,_=>by rfl
 | e::es,pos,h=>by
  simp only[ZiC,Bool.and_eq_true,Bool.not_eq_true']at h
  have ih:=ZqI (env:=env) (es:=es) pos h.2
  rw[Znr h.1]
  unfold backTo at ih ⊢
  simp only[List.map_cons,List.any_cons,Bool.false_or]
  exact ih
section
variable {prog:Program} {w:World} {Γ:Cx}
theorem jc{e:Expr}{es:List Expr}{f:Ex}{g:Exs}(h1:J prog w Γ e f)(h2:Js prog w Γ es g)(hs:ZiB e=false:=by exact rfl): Js prog w Γ (e::es) (Zg f g):=Zu6 h1 h2 (Znr hs)
end
section
variable {prog:Program} {w:World} {K:Frag} {p:Program} {loose:List Str} {mean:ExcName→Option Value} {mg mb:Str→Option Value}
theorem ZuI{f:Addr}{room:Nat}: Def prog w K p loose mean mg mb f room (fun _ _=>none):=by
 intro Γ dp un clr hd hu W ρ H fr s Q E as xs v H' r hx hF post
 cases hF
end
end PM
end
section
set_option autoImplicit false
namespace PM
open PySem PySem.W PySem.Calls PyProof.Rows PyProof PySem.Spec
section
variable {prog:Program} {w:World} {Γ:Cx}
theorem ln1{α:Type _}: ∀{xs:List α},xs.length=1→∃x0,xs=[x0]
 | [x0],_=>⟨x0,rfl⟩
theorem ln2{α:Type _}: ∀{xs:List α},xs.length=2→∃x0 x1,xs=[x0,x1]
 | [x0,x1],_=>⟨x0,x1,rfl⟩
theorem ln3{α:Type _}: ∀{xs:List α},xs.length=3→∃x0 x1 x2,xs=[x0,x1,x2]
 | [x0,x1,x2],_=>⟨x0,x1,x2,rfl⟩
theorem ln4{α:Type _}: ∀{xs:List α},xs.length=4→∃x0 x1 x2 x3,xs=[x0,x1,x2,x3]
 | [x0,x1,x2,x3],_=>⟨x0,x1,x2,x3,rfl⟩
theorem ln5{α:Type _}: ∀{xs:List α},xs.length=5→∃x0 x1 x2 x3 x4,xs=[x0,x1,x2,x3,x4]
 | [x0,x1,x2,x3,x4],_=>⟨x0,x1,x2,x3,x4,rfl⟩
theorem ln6{α:Type _}: ∀{xs:List α},xs.length=6→∃x0 x1 x2 x3 x4 x5,xs=[x0,x1,x2,x3,x4,x5]
 | [x0,x1,x2,x3,x4,x5],_=>⟨x0,x1,x2,x3,x4,x5,rfl⟩
theorem ln7{α:Type _}: ∀{xs:List α},xs.length=7→∃x0 x1 x2 x3 x4 x5 x6,xs=[x0,x1,x2,x3,x4,x5,x6]
 | [x0,x1,x2,x3,x4,x5,x6],_=>⟨x0,x1,x2,x3,x4,x5,x6,rfl⟩
theorem jI{k:Int}{n:Nat}{pos:Pos}: J prog w Γ (.Constant (.int k) n pos) (Zk k):=J.int _ _ _
theorem jN{n:Nat}{pos:Pos}: J prog w Γ (.Constant .none n pos) ZY:=J.none _ _
theorem jB{b:Bool}{n:Nat}{pos:Pos}: J prog w Γ (.Constant (.bool b) n pos) (Zcg b):=J.bool _ _ _
theorem cO{elt iter:Expr}{x:Str}{px:Pos}{ifs:List Expr}{scope:Scope}{pos:Pos}{cl:List (Str×Addr)}{t:Nat}{g:Src}{c:Ts}{f:Ex}(hg:JI prog w Γ iter g)(hel:∀C ρ,J prog w (Zbu Γ scope cl C [(x,t)] ρ) elt f)(hif:∀C ρ,JF prog w (Zbu Γ scope cl C [(x,t)] ρ) ifs c)
  (hclos:closureFor scope Γ.env=pure cl:=by with_unfolding_all rfl) (hcell:∀y∈scope.names,y.2≠.cell:=by decide) (hkind:scope.kind=.function:=by exact rfl) (hnames:∀y∈scope.names,y.2=.local→scope.names.lookup y.1=some .local:=by decide) (hx:scope.names.lookup x=some .local:=by exact rfl) (hs:∀x,foldedSetIterable iter Γ.env x=pure x:=by intro _;rfl):
  J prog w Γ (.ListComp elt [⟨.Name x px,iter,ifs,0⟩] scope pos) (Zar g (Zak t) c f):=Zwr hg hel hif hclos hcell hkind hnames hx hs
theorem cT{elt iter:Expr}{x x₂:Str}{px px₂ tp:Pos}{kt:Nat}{scope:Scope}{pos:Pos}{cl:List (Str×Addr)}{t t₂:Nat}{g:Src}{f:Ex}(hg:JI2 prog w Γ iter g)(hel:∀C ρ,J prog w (Zbu Γ scope cl C [(x,t),(x₂,t₂)] ρ) elt f)
  (hclos:closureFor scope Γ.env=pure cl:=by with_unfolding_all rfl) (hcell:∀y∈scope.names,y.2≠.cell:=by decide) (hkind:scope.kind=.function:=by exact rfl) (hnames:∀y∈scope.names,y.2=.local→scope.names.lookup y.1=some .local:=by decide) (hx:scope.names.lookup x=some .local:=by exact rfl) (hx₂:scope.names.lookup x₂=some .local:=by exact rfl) (hxx:x≠x₂:=by decide) (htt:t≠t₂:=by decide) (hs:∀x,foldedSetIterable iter Γ.env x=pure x:=by intro _;rfl):
  J prog w Γ (.ListComp elt [⟨.Tuple [.Name x px,.Name x₂ px₂] kt tp,iter,[],0⟩] scope pos) (Zar g (Zb6 t t₂) Zao f):=Zvb hg hel hclos hcell hkind hnames hx hx₂ hxx htt hs
theorem sO{elt iter:Expr}{x y:Str}{px py pos spos:Pos}{ifs:List Expr}{scope:Scope}{cl:List (Str×Addr)}{t i:Nat}{g:Src}{c:Ts}{f:Ex}(hy:Sto prog w Γ y i)(hg:JI prog w Γ iter g)(hel:∀C ρ,J prog w (Zbu Γ scope cl C [(x,t)] ρ) elt f)(hif:∀C ρ,JF prog w (Zbu Γ scope cl C [(x,t)] ρ) ifs c)
  (hsw:swapsWith (.ListComp elt [⟨.Name x px,iter,ifs,0⟩] scope pos) (some (.Name y py)) spos.line Γ.env=pure true:=by rfl)
  (hclos:closureFor scope Γ.env=pure cl:=by with_unfolding_all rfl) (hcell:∀y∈scope.names,y.2≠.cell:=by decide) (hkind:scope.kind=.function:=by exact rfl) (hnames:∀y∈scope.names,y.2=.local→scope.names.lookup y.1=some .local:=by decide) (hx:scope.names.lookup x=some .local:=by exact rfl) (hs:∀x,foldedSetIterable iter Γ.env x=pure x:=by intro _;rfl):
  S1 prog w Γ (.Assign [.Name y py] (.ListComp elt [⟨.Name x px,iter,ifs,0⟩] scope pos) spos) (ZE i (Zar g (Zak t) c f)):=ZsE hy hg hel hif hsw hclos hcell hkind hnames hx hs
theorem sT{elt iter:Expr}{x x₂ y:Str}{px px₂ tp py pos spos:Pos}{kt:Nat}{scope:Scope}{cl:List (Str×Addr)}{t t₂ i:Nat}{g:Src}{f:Ex}(hy:Sto prog w Γ y i)(hg:JI2 prog w Γ iter g)(hel:∀C ρ,J prog w (Zbu Γ scope cl C [(x,t),(x₂,t₂)] ρ) elt f)
  (hsw:swapsWith (.ListComp elt [⟨.Tuple [.Name x px,.Name x₂ px₂] kt tp,iter,[],0⟩] scope pos) (some (.Name y py)) spos.line Γ.env=pure true:=by rfl)
  (hclos:closureFor scope Γ.env=pure cl:=by with_unfolding_all rfl) (hcell:∀y∈scope.names,y.2≠.cell:=by decide) (hkind:scope.kind=.function:=by exact rfl) (hnames:∀y∈scope.names,y.2=.local→scope.names.lookup y.1=some .local:=by decide) (hx:scope.names.lookup x=some .local:=by exact rfl) (hx₂:scope.names.lookup x₂=some .local:=by exact rfl) (hxx:x≠x₂:=by decide) (htt:t≠t₂:=by decide) (hs:∀x,foldedSetIterable iter Γ.env x=pure x:=by intro _;rfl):
  S1 prog w Γ (.Assign [.Name y py] (.ListComp elt [⟨.Tuple [.Name x px,.Name x₂ px₂] kt tp,iter,[],0⟩] scope pos) spos) (ZE i (Zar g (Zb6 t t₂) Zao f)):=Zse hy hg hel hsw hclos hcell hkind hnames hx hx₂ hxx htt hs
end
section
variable {prog:Program} {w:World} {dp un:Nat} {gd:Option (List Code)} {cn:Str} {cs:Scope} {L a:Addr} {ccd:Value} {cl:List (Str×Addr)} {outer:List Env} {h₀:Heap} {hu:un+200<cLine} {names:List Str}
theorem vL{x:Str}{i:Nat}{pos:Pos}(hi:names[i]?=some x:=by rfl)(hx:cs.names.lookup x=some .local:=by exact rfl)(hk:cs.kind=.function:=by exact rfl)(hd:(x == ("__debug__":Str))=false:=by exact rfl): J prog w (ZbS dp un gd cn cs L a ccd cl outer h₀ hu names) (.Name x pos) (Zb i):=ZiK (Zwp hi hx hk hd)
theorem vC{x:Str}{i:Nat}{pos:Pos}(hi:names[i]?=some x:=by rfl)(hx:cs.names.lookup x=some .cell:=by exact rfl)(hk:cs.kind=.function:=by exact rfl)(hd:(x == ("__debug__":Str))=false:=by exact rfl): J prog w (ZbS dp un gd cn cs L a ccd cl outer h₀ hu names) (.Name x pos) (Zb i):=ZiK (Zwq hi hx hk hd)
theorem sL{x:Str}{i:Nat}(nd:names.Nodup:=by decide)(hi:names[i]?=some x:=by rfl)(hx:cs.names.lookup x=some .local:=by exact rfl)(hk:cs.kind=.function:=by exact rfl): Sto prog w (ZbS dp un gd cn cs L a ccd cl outer h₀ hu names) x i:=Zu8 nd hi hx hk
theorem sC{x:Str}{i:Nat}(nd:names.Nodup:=by decide)(hi:names[i]?=some x:=by rfl)(hx:cs.names.lookup x=some .cell:=by exact rfl)(hk:cs.kind=.function:=by exact rfl)(hcl:(cl.lookup x).isSome=true:=by exact rfl): Sto prog w (ZbS dp un gd cn cs L a ccd cl outer h₀ hu names) x i:=Zu9 nd hi hx hk hcl
end
section
variable {prog:Program} {w:World} {K:Frag} {p:Program} {loose:List Str} {mean:ExcName→Option Value} {mg mb:Str→Option Value} {Γ:Cx} {dp un:Nat}
theorem nB{x:Str}{v:Value}(clr:Clr K p loose mean mg mb Γ dp un)(e:nsIn K mainGlobals x=some Option.none:=by k_is)(hv:bootBuiltins x=some v:=by boot_by_name)(hn:x≠"__name__":=by decide)(hg:Γ.env.globals=mainGlobals:=by exact rfl)(hb:Γ.env.builtins=builtinsNs:=by exact rfl)(hk:Γ.env.scope.kind=.function:=by exact rfl)(hx:Γ.env.kindOf x=some .globalImplicit:=by exact rfl)(hd:(x == ("__debug__":Str))=false:=by exact rfl): Nm prog w Γ x v:=Zuf clr e hv hn hg hb hk hx hd
theorem cF{x:Str}{np pos:Pos}{f:Addr}{room:Nat}{e:Expr}{es:List Expr}{g:Exs}{o:List V→Hp→Option (V×Hp)}(clr:Clr K p loose mean mg mb Γ dp un)(D:Def prog w K p loose mean mg mb f room o)(h:Js prog w Γ (e::es) g)
  (en:nsIn K mainGlobals x=some (some (.ref f)):=by k_is) (hg:Γ.env.globals=mainGlobals:=by exact rfl) (hk:Γ.env.scope.kind=.function:=by exact rfl) (hx:Γ.env.kindOf x=some .globalImplicit:=by exact rfl) (hd0:(x == ("__debug__":Str))=false:=by exact rfl)
  (hkeep:keepIn K (.ref f)=true:=by k_is) (hd:dp+room<recursionLimit:=by omega) (hu:un+10*room+300<cLine:=by omega)
  (he:ZiB e=false:=by exact rfl) (hp:ZiC es=true:=by exact rfl):J prog w Γ (.Call (.Name x np) (e::es) [] pos) (ZA o g):=Zvc clr (Zwv clr en hg hk hx hd0) hkeep D hd hu h (Znr he) (fun pos=>ZqI pos hp)
theorem Dof{name qual:Str}{params:Arguments}{body:List Stmt}{scope:Scope}{dV kV doc pm cdv ct oc:Value}{an od:Option Addr}{osl:Array (Option Value)}{f:Addr}{names:List Str}{n room:Nat}{g:Sm}
  (hbody:∀(dp un:Nat) (gd:Option (List Code)) (L:Addr) (outer:List Env) (h₀:Heap) (hu:un+200<cLine),Clr K p loose mean mg mb (ZbS dp un gd qual scope L f cdv (cellsFrom (L+1) scope.names []) outer h₀ hu names) dp un→dp+room<recursionLimit→un+10*room+300<cLine →
   Ss prog w (ZbS dp un gd qual scope L f cdv (cellsFrom (L+1) scope.names []) outer h₀ hu names) body g)
  (ho:K.lookup f=some ⟨oc,od,.func (fnOf name qual params body scope dV kV doc pm an cdv ct),osl⟩:=by k_is) (hcd:codeIn K cdv qual=true:=by k_is) (nd:names.Nodup:=by decide) (hn:n≤names.length:=by decide)
  (hbind:∀s xs,xs.length=n→BindsTo s (fnOf name qual params body scope dV kV doc pm an cdv ct) ⟨xs,[]⟩ ((names.take n).zip xs):=by
   intro s xs hx
   first
   | (obtain⟨x0,rfl⟩:=ln1 hx;exact BindsTo.of_eq rfl)
   | (obtain⟨x0,x1,rfl⟩:=ln2 hx;exact BindsTo.of_eq rfl)
   | (obtain⟨x0,x1,x2,rfl⟩:=ln3 hx;exact BindsTo.of_eq rfl)
   | (obtain⟨x0,x1,x2,x3,rfl⟩:=ln4 hx;exact BindsTo.of_eq rfl)
   | (obtain⟨x0,x1,x2,x3,x4,rfl⟩:=ln5 hx;exact BindsTo.of_eq rfl)
   | (obtain⟨x0,x1,x2,x3,x4,x5,rfl⟩:=ln6 hx;exact BindsTo.of_eq rfl)
   | (obtain⟨x0,x1,x2,x3,x4,x5,x6,rfl⟩:=ln7 hx;exact BindsTo.of_eq rfl)) (hkinds:∀x∈names.take n,scope.names.lookup x=some .local∨scope.names.lookup x=some .cell:=by decide) (hone:((cellsFrom 0 scope.names []).map (·.1)).Nodup:=by decide +kernel)
  (hco:scope.isCoroutine=false:=by exact rfl) (hgen:scope.isGenerator=false:=by exact rfl) (hk:scope.kind=.function:=by exact rfl):
  Def prog w K p loose mean mg mb f (room+1) (Z7 n g):=Zqc ho hcd nd hn hbind hkinds hone hco hgen hk hbody
end
section
variable {prog:Program} {w:World} {Γ:Cx} {scope:Scope} {cl:List (Str×Addr)} {C:Addr} {ts:List (Str×Nat)} {ρ0:Lc}
theorem vO{x:Str}{t:Nat}{pos:Pos}(hm:(x,t)∈ts:=by first | exact Zz5 | exact Zz2 _ Zz5)(hk:scope.kind=.function:=by exact rfl)(hl:(compEnvC scope cl C Γ.env).kindOf x=some .local:=by exact rfl)(hd:(x == ("__debug__":Str))=false:=by exact rfl): J prog w (Zbu Γ scope cl C ts ρ0) (.Name x pos) (Zb t):=ZiK (Zve hm hk hl hd)
end
section
variable {prog:Program} {w:World} {dp un:Nat} {gd:Option (List Code)} {cn:Str} {cs:Scope} {L a:Addr} {ccd:Value} {clf:List (Str×Addr)} {outer:List Env} {h₀:Heap} {hu:un+200<cLine} {names:List Str} {scope:Scope} {cl:List (Str×Addr)} {C:Addr} {ts:List (Str×Nat)} {ρ0:Lc}
theorem vD{x:Str}{i:Nat}{pos:Pos}(hi:names[i]?=some x:=by rfl)(hx:cs.names.lookup x=some .cell:=by exact rfl)(hne:∀p∈ts,p.2≠i:=by decide)(hcl:cl.lookup x=clf.lookup x:=by exact rfl)(hk:scope.kind=.function:=by exact rfl)(hl:(compEnvC scope cl C (envX cn cs L a ccd clf)).kindOf x=some .cell:=by exact rfl)(hd:(x == ("__debug__":Str))=false:=by exact rfl):
  J prog w (Zbu (ZbS dp un gd cn cs L a ccd clf outer h₀ hu names) scope cl C ts ρ0) (.Name x pos) (Zb i):=ZiK (Zvf hi hx hne hcl hk hl hd)
end
end PM
end
section
open PySem PM TM
namespace L
variable {H:Hp} {a:V} {t:T} {F:List Nat} {ρ:Lc} {σ:TL}
noncomputable def Zkk: Sm:=Zs (ZE 2 (Ze Z3 (Ze ZaO (Ze ZaO (Zb 1) (Zb 1)) (Zk 7919)) (Zk 11))) (Zs (Z1 (ZK (Ze oGt (ZA Zay (Zg (Zb 0) Zn)) (Zk 0))) (ZE 2 (Ze Z3 (Zb 2) (Ze Zr (Zb 0) (Ze oMod (Zb 1) (ZA Zay (Zg (Zb 0) Zn)))))) Z6) (ZG (Zb 2)))
noncomputable def Zhp:=Z7 2 Zkk
noncomputable def Zkl: PS:=(Zt (ZF 2 (Zd ZX (Zd Zaz (Zd Zaz (Za 1) (Za 1)) (Zj 7919)) (Zj 11))) (Zt (Z2 (ZH (Zd qGt (Zw Zaq (Zf (Za 0) Zm)) (Zj 0))) (ZF 2 (Zd ZX (Za 2) (Zd Zq (Za 0) (Zd Zbl (Za 1) (Zw Zaq (Zf (Za 0) Zm)))))) Z4) (ZI (Za 2))))
noncomputable def ZfW:=Zad 2 Zkl
theorem ZnW: SimF false Zhp ZfW:=Zaj (show S [] [] [] false Zkk Zkl from(Zz (ZR (O':=[]) (ZU Zab (ZU Za0 (ZU Za0 (Zc 1) (Zc 1)) (Zl _)) (Zl _))) (Zz (Zae (ZN (ZC ZfG (Zat ZaJ (Zh (Zc 0) Zo)) (Zl _))) (ZR (O':=[]) (ZU Zab (Zc 2) (Zy Zx (Zc 0) (ZC ZbF (Zc 1) (Zat ZaJ (Zh (Zc 0) Zo)))))) Zag) (ZV (Zc 2)))))
noncomputable def ZkY: Sm:=ZG (Ze oMod (Ze oMod (Ze ZaO (ZA Zhp (Zg (Zb 0) (Zg (Zb 1) Zn))) (Zk 48271)) (Zk 2147483647)) (Zb 2))
noncomputable def ZbN:=Z7 3 ZkY
noncomputable def ZkZ: PS:=(ZI (Zd Zbl (Zd Zbl (Zd Zaz (Zw ZfW (Zf (Za 0) (Zf (Za 1) Zm))) (Zj 48271)) (Zj 2147483647)) (Za 2)))
noncomputable def ZbB:=Zad 3 ZkZ
theorem Zb2: SimF false ZbN ZbB:=Zaj (show S [] [] [] false ZkY ZkZ from(ZV (ZC ZbF (ZC ZbF (ZU Za0 (ZP ZnW (Zh (Zc 0) (Zh (Zc 1) Zo))) (Zl _)) (Zl _)) (Zc 2))))
noncomputable def ZjY: Sm:=Zs (ZE 2 (ZA Zhp (Zg (Zb 0) (Zg (Zb 1) Zn)))) (Zs (ZE 3 (Ze Zr (Za4 (Zg (Zk 3) (Zg (Zk 9) (Zg (Ze oPow (Zk 10) (Zk 9)) (Zg (Ze oPow (Zk 10) (Zk 40)) Zn))))) (Ze oMod (Ze oMod (Ze ZaO (Zb 2) (Zk 69621)) (Zk 2147483629)) (Zk 4)))) (ZG (Ze Zba (Ze oMod (Ze ZaO (Zb 2) (Ze oPow (Zk 48271) (Zk 9))) (Ze Z3 (Ze ZaO (Zk 2) (Zb 3)) (Zk 1))) (Zb 3))))
noncomputable def Zd4:=Z7 2 ZjY
noncomputable def ZjZ: PS:=(Zt (ZF 2 (Zw ZfW (Zf (Za 0) (Zf (Za 1) Zm)))) (Zt (ZF 3 (Zd Zq (ZaW (Zf (Zj 3) (Zf (Zj 9) (Zf (Zd Zdo (Zj 10) (Zj 9)) (Zf (Zd Zdo (Zj 10) (Zj 40)) Zm))))) (Zd Zbl (Zd Zbl (Zd Zaz (Za 2) (Zj 69621)) (Zj 2147483629)) (Zj 4)))) (ZI (Zd Za5 (Zd Zbl (Zd Zaz (Za 2) (Zd Zdo (Zj 48271) (Zj 9))) (Zd ZX (Zd Zaz (Zj 2) (Za 3)) (Zj 1))) (Za 3)))))
noncomputable def ZdI:=Zad 2 ZjZ
theorem ZeW: SimF false Zd4 ZdI:=Zaj (show S [] [] [] false ZjY ZjZ from(Zz (ZR (O':=[]) (ZP ZnW (Zh (Zc 0) (Zh (Zc 1) Zo)))) (Zz (ZR (O':=[]) (Zy Zx (E.list (Zh (Zl _) (Zh (Zl _) (Zh (ZC Zno (Zl _) (Zl _)) (Zh (ZC Zno (Zl _) (Zl _)) Zo))))) (ZC ZbF (ZC ZbF (ZU Za0 (Zc 2) (Zl _)) (Zl _)) (Zl _)))) (ZV (ZC Zbi (ZC ZbF (ZU Za0 (Zc 2) (ZC Zno (Zl _) (Zl _))) (ZU Zab (ZU Za0 (Zl _) (Zc 3)) (Zl _))) (Zc 3))))))
noncomputable def Zkm: Sm:=Zs (ZE 2 (ZA ZbN (Zg (Zb 0) (Zg (Zb 1) (Zg (Zk 42) Zn))))) (Zs (Z1 (ZK (Ze oLt (Ze oMod (Zb 2) (Zk 6)) (Zk 2))) (ZG (ZY)) Z6) (Zs (Z1 (ZK (Ze oLt (Ze oMod (Zb 2) (Zk 6)) (Zk 4))) (ZG (Zk 0)) Z6) (Zs (Z1 (ZK (Ze oEq (Ze oMod (Zb 2) (Zk 6)) (Zk 4))) (ZG (Ze oDiv (Zb 2) (Zk 6))) Z6) (ZG (ZA ZdC (Zg (ZA Zd4 (Zg (Zb 0) (Zg (Zb 1) Zn))) Zn))))))
noncomputable def Zkn:=Z7 2 Zkm
noncomputable def Zko: PS:=(Zt (ZF 2 (Zw ZbB (Zf (Za 0) (Zf (Za 1) (Zf (Zj 42) Zm))))) (Zt (Z2 (ZH (Zd qLt (Zd Zbl (Za 2) (Zj 6)) (Zj 2))) (ZI (Z0)) Z4) (Zt (Z2 (ZH (Zd qLt (Zd Zbl (Za 2) (Zj 6)) (Zj 4))) (ZI (Zj 0)) Z4) (Zt (Z2 (ZH (Zd qEq (Zd Zbl (Za 2) (Zj 6)) (Zj 4))) (ZI (Zd ZcT (Za 2) (Zj 6))) Z4) (ZI (Zw ZdD (Zf (Zw ZdI (Zf (Za 0) (Zf (Za 1) Zm))) Zm)))))))
noncomputable def Zhq:=Zad 2 Zko
theorem Zsh: SimF false Zkn Zhq:=Zaj (show S [] [] [] false Zkm Zko from(Zz (ZR (O':=[]) (ZP Zb2 (Zh (Zc 0) (Zh (Zc 1) (Zh (Zl _) Zo))))) (Zz (Zae (ZN (ZC Zcs (ZC ZbF (Zc 2) (Zl _)) (Zl _))) (ZV (Zaa)) Zag) (Zz (Zae (ZN (ZC Zcs (ZC ZbF (Zc 2) (Zl _)) (Zl _))) (ZV (Zl _)) Zag) (Zz (Zae (ZN (ZC Za1 (ZC ZbF (Zc 2) (Zl _)) (Zl _))) (ZV (ZC ZdV (Zc 2) (Zl _))) Zag) (ZV (Zat ZeI (Zh (ZP ZeW (Zh (Zc 0) (Zh (Zc 1) Zo))) Zo))))))))
noncomputable def ZjH: Sm:=Zs (Z1 (ZK (Ze oEq (Zb 0) (Zk 0))) (ZG (Zaw (Zg (Zk 0) (Zg (Zb 1) Zn)))) Z6) (ZG (Zaw (Zg (Zb 0) (Zg (Ze oMod (Zb 1) (Zb 0)) Zn))))
noncomputable def Zd2:=Z7 2 ZjH
noncomputable def ZjI: PS:=(Zt (Z2 (ZH (Zd qEq (Za 0) (Zj 0))) (ZI (ZaC (Zf (Zj 0) (Zf (Za 1) Zm)))) Z4) (ZI (ZaC (Zf (Za 0) (Zf (Zd Zbl (Za 1) (Za 0)) Zm)))))
noncomputable def ZdG:=Zad 2 ZjI
theorem ZeS: SimF false Zd2 ZdG:=Zaj (show S [] [] [] false ZjH ZjI from(Zz (Zae (ZN (ZC Za1 (Zc 0) (Zl _))) (ZV (E.tup (Zh (Zl _) (Zh (Zc 1) Zo)))) Zag) (ZV (E.tup (Zh (Zc 0) (Zh (ZC ZbF (Zc 1) (Zc 0)) Zo))))))
noncomputable def Zk0: Sm:=Zs (ZE 3 (ZA ZbN (Zg (Zb 0) (Zg (Zb 1) (Zg (Zk 60) Zn))))) (Zs (Z1 (ZK (Ze oLt (Ze oMod (Zb 3) (Zk 5)) (Zk 2))) (ZG (Zaw (Zg (Zk 1) (Zg (Zk 0) Zn)))) Z6) (Zs (Z1 (ZK (Ze oEq (Ze oMod (Zb 3) (Zk 5)) (Zk 2))) (ZG (Zaw (Zg (Zk 0) (Zg (Zb 2) Zn)))) Z6) (Zs (Z1 (ZK (Ze oEq (Ze oMod (Zb 3) (Zk 5)) (Zk 3))) (ZG (ZA Zd2 (Zg (Ze Z3 (Ze oDiv (Zb 3) (Zk 5)) (Zk 1)) (Zg (Zb 2) Zn)))) Z6) (ZG (ZA Zd2 (Zg (ZA ZdC (Zg (ZA Zd4 (Zg (Zb 0) (Zg (Zb 1) Zn))) Zn)) (Zg (Zb 2) Zn)))))))
noncomputable def Zk1:=Z7 3 Zk0
noncomputable def Zk2: PS:=(Zt (ZF 3 (Zw ZbB (Zf (Za 0) (Zf (Za 1) (Zf (Zj 60) Zm))))) (Zt (Z2 (ZH (Zd qLt (Zd Zbl (Za 3) (Zj 5)) (Zj 2))) (ZI (ZaC (Zf (Zj 1) (Zf (Zj 0) Zm)))) Z4) (Zt (Z2 (ZH (Zd qEq (Zd Zbl (Za 3) (Zj 5)) (Zj 2))) (ZI (ZaC (Zf (Zj 0) (Zf (Za 2) Zm)))) Z4) (Zt (Z2 (ZH (Zd qEq (Zd Zbl (Za 3) (Zj 5)) (Zj 3))) (ZI (Zw ZdG (Zf (Zd ZX (Zd ZcT (Za 3) (Zj 5)) (Zj 1)) (Zf (Za 2) Zm)))) Z4) (ZI (Zw ZdG (Zf (Zw ZdD (Zf (Zw ZdI (Zf (Za 0) (Zf (Za 1) Zm))) Zm)) (Zf (Za 2) Zm))))))))
noncomputable def Zhz:=Zad 3 Zk2
theorem ZsI: SimF false Zk1 Zhz:=Zaj (show S [] [] [] false Zk0 Zk2 from(Zz (ZR (O':=[]) (ZP Zb2 (Zh (Zc 0) (Zh (Zc 1) (Zh (Zl _) Zo))))) (Zz (Zae (ZN (ZC Zcs (ZC ZbF (Zc 3) (Zl _)) (Zl _))) (ZV (E.tup (Zh (Zl _) (Zh (Zl _) Zo)))) Zag) (Zz (Zae (ZN (ZC Za1 (ZC ZbF (Zc 3) (Zl _)) (Zl _))) (ZV (E.tup (Zh (Zl _) (Zh (Zc 2) Zo)))) Zag) (Zz (Zae (ZN (ZC Za1 (ZC ZbF (Zc 3) (Zl _)) (Zl _))) (ZV (ZP ZeS (Zh (ZU Zab (ZC ZdV (Zc 3) (Zl _)) (Zl _)) (Zh (Zc 2) Zo)))) Zag) (ZV (ZP ZeS (Zh (Zat ZeI (Zh (ZP ZeW (Zh (Zc 0) (Zh (Zc 1) Zo))) Zo)) (Zh (Zc 2) Zo)))))))))
noncomputable def Zk3: Sm:=Zs (ZE 3 (Ze Z3 (Za4 (Zg (Zk 0) Zn)) (Zb 2))) (Zs (ZE 4 (ZA Zay (Zg (Zb 3) Zn))) (Zs (ZE 5 (Za4 Zn)) (Zs (ZaU (ZaM (Zg (Zb 4) Zn)) (Zak 6) (Zs (ZE 7 (Za4 Zn)) (Zs (ZaU (ZaM (Zg (Zb 4) Zn)) (Zak 8) (Zs (ZE 9 (ZA Zkn (Zg (Zb 0) (Zg (Ze Z3 (Ze Z3 (Zb 1) (Ze ZaO (Zb 6) (Zb 4))) (Zb 8)) Zn)))) (Zs (Z1 (ZK (Ze Zcl (Zb 9) (ZY))) (ZE 9 (Ze Z3 (Ze Zba (Ze Zr (Zb 3) (Zb 6)) (Ze Zr (Zb 3) (Zb 8))) (Zb 9))) Z6) (Zcr (Zds (Zb 7) (Zb 9)))))) (Zs (Zbt (Zk 0) (Zb 7) (Zb 6)) (Zcr (Zds (Zb 5) (Zb 7))))))) (ZG (Zaw (Zg (Zb 5) (Zg (Zar (ZaM (Zg (Ze Zba (Zb 4) (Zk 1)) Zn)) (Zak 100) Zao (ZA Zk1 (Zg (Zb 0) (Zg (Ze Z3 (Ze Z3 (Zb 1) (Ze ZaO (Zb 4) (Zb 4))) (Zb 100)) (Zg (Ze Zr (Zb 2) (Zb 100)) Zn))))) Zn)))))))
noncomputable def ZhA:=Z7 3 Zk3
noncomputable def Zk4: PS:=(Zt (ZF 3 (Zd ZX (ZaW (Zf (Zj 0) Zm)) (Za 2))) (Zt (ZF 4 (Zw Zaq (Zf (Za 3) Zm))) (Zt (ZF 5 (ZaW Zm)) (Zt (ZaI (ZaB (Zf (Za 4) Zm)) (Z5 6) (Zt (ZF 7 (ZaW Zm)) (Zt (ZaI (ZaB (Zf (Za 4) Zm)) (Z5 8) (Zt (ZF 9 (Zw Zhq (Zf (Za 0) (Zf (Zd ZX (Zd ZX (Za 1) (Zd Zaz (Za 6) (Za 4))) (Za 8)) Zm)))) (Zt (Z2 (ZH (Zd Zb4 (Za 9) (Z0))) (ZF 9 (Zd ZX (Zd Za5 (Zd Zq (Za 3) (Za 6)) (Zd Zq (Za 3) (Za 8))) (Za 9))) Z4) (ZcW 7 [] ZaS (ZbE (Za 9)))))) (Zt (Zbm 7 [] (Zj 0) ZaS (Za 6)) (ZcW 5 [7] ZaS (Za 7)))))) (ZI (ZaC (Zf (Za 5) (Zf (Zam (ZaB (Zf (Zd Za5 (Za 4) (Zj 1)) Zm)) (Z5 100) Zah (ZbE (Zw Zhz (Zf (Za 0) (Zf (Zd ZX (Zd ZX (Za 1) (Zd Zaz (Za 4) (Za 4))) (Za 100)) (Zf (Zd Zq (Za 2) (Za 100)) Zm)))))) Zm))))))))
noncomputable def Zf4:=Zad 3 Zk4
theorem Zn8: SimF true ZhA Zf4:=Zaj (show S [] [5] [] true Zk3 Zk4 from(Zz (ZR (O':=[]) (ZU Zab (E.list (Zh (Zl _) Zo)) (Zc 2))) (Zz (ZR (O':=[]) (Zat ZaJ (Zh (Zc 3) Zo))) (Zz (ZbP (O':=[5]) (E.list Zo)) (Zz (Zbd (Gs.range (Zh (Zc 4) Zo)) PutOk.one (by decide) (by decide) (Zz (ZbP (O':=[5,7]) (ZaZ (O':=[]) (E.list Zo))) (Zz (Zbd (Gs.range (Zh (Zc 4) Zo)) PutOk.one (by decide) (by decide) (Zz (ZR (O':=[5,7]) (ZP Zsh (Zh (Zc 0) (Zh (ZU Zab (ZU Zab (Zc 1) (ZU Za0 (Zc 6) (Zc 4))) (Zc 8)) Zo)))) (Zz (Zae (ZN (ZC ZcJ (Zc 9) (Zaa))) (ZR (O':=[5,7]) (ZU Zab (ZC Zbi (Zy Zx (Zc 3) (Zc 6)) (Zy Zx (Zc 3) (Zc 8))) (Zc 9))) Zag) (ZeJ (O':=[5,7]) (by decide) Zbr (ZaZ (O':=[5]) (E.flat (Zc 9))) (by decide) (by decide))))) (Zz (S.put (O':=[5,7]) (by decide) (ZaZ (O':=[5]) (Zl _)) Zbr (Zc 6) (by decide) (by decide)) (ZeJ (O':=[5]) (by decide) Zbr (ZaZ (O':=[7]) (E.own (by decide))) (by decide) (by decide)))))) (ZbG (E.tup (Zdb (E.own (by decide)) (Zdb (Zcx (Gs.range (Zh (ZC Zbi (Zc 4) (Zl _)) Zo)) PutOk.one (by decide) Zau (ZaZ (O':=[]) (E.flat (ZP ZsI (Zh (Zc 0) (Zh (ZU Zab (ZU Zab (Zc 1) (ZU Za0 (Zc 4) (Zc 4))) (Zc 100)) (Zh (Zy Zx (Zc 2) (Zc 100)) Zo))))))) Zo (by decide) (by decide)) (by decide) (by decide)))))))))
noncomputable def Zk5: Sm:=Zs (Z1 (ZK (Ze oIs (Zb 0) (ZY))) (ZG (ZY)) Z6) (ZG (Zaw (Zg (Zar (Zbe (Ze Zr (Zb 0) (Zk 0))) (Zak 100) Zao (ZA ZcK (Zg (Zb 100) Zn))) (Zg (ZA ZcK (Zg (Ze Zr (Zb 0) (Zk 1)) Zn)) Zn))))
noncomputable def ZhB:=Z7 1 Zk5
noncomputable def Zk6: PS:=(Zt (Z2 (ZH (Zd qIs (Za 0) (Z0))) (ZI (Z0)) Z4) (ZI (ZaC (Zf (Zam (ZaD (Zd Zq (Za 0) (Zj 0))) (Z5 100) Zah (Zw Zcm (Zf (Za 100) Zm))) (Zf (Zw Zcm (Zf (Zd Zq (Za 0) (Zj 1)) Zm)) Zm)))))
noncomputable def ZdK:=Zad 1 Zk6
theorem Zn9: SimF false ZhB ZdK:=Zaj (show S [] [] [] false Zk5 Zk6 from(Zz (Zae (ZN (ZC Zbv (Zc 0) (Zaa))) (ZV (Zaa)) Zag) (ZV (E.tup (Zh (Zbx (Gs.seq (Zy Zx (Zc 0) (Zl _))) PutOk.one (by decide) Zau (Zgv ZdN (Zh (Zc 100) Zo))) (Zh (Zgv ZdN (Zh (Zy Zx (Zc 0) (Zl _)) Zo)) Zo))))))
noncomputable def Zkp: Sm:=ZG (eOr (Ze oIs (Zb 1) (ZY)) (Zeo (Ze Zcl (Zb 0) (ZY)) (Ze oLe (Zb 0) (Zb 1))))
noncomputable def Zkq:=Z7 2 Zkp
noncomputable def Zkr: PS:=(ZI ((pOr (Zd qIs (Za 1) (Z0)) ((ZdY (Zd Zb4 (Za 0) (Z0)) (Zd qLe (Za 0) (Za 1)))))))
noncomputable def Zhr:=Zad 2 Zkr
theorem Zsi: SimF false Zkq Zhr:=Zaj (show S [] [] [] false Zkp Zkr from(ZV ((ZxN (E.sh (ZC Zbv (Zc 1) (Zaa))) (E.sh ((ZiL (E.sh (ZC ZcJ (Zc 0) (Zaa))) (E.sh (ZC Znv (Zc 0) (Zc 1))))))))))
noncomputable def Zk7: Sm:=Zs (Z1 (ZK (Ze oEq (Ze Zr (Zb 0) (Zk 0)) (Zk 0))) (ZG (Ze oEq (Zb 1) (Ze Zr (Zb 0) (Zk 1)))) Z6) (ZG (Ze oEq (Ze oMod (Zb 1) (Ze Zr (Zb 0) (Zk 0))) (Ze Zr (Zb 0) (Zk 1))))
noncomputable def ZhC:=Z7 2 Zk7
noncomputable def Zk8: PS:=(Zt (Z2 (ZH (Zd qEq (Zd Zq (Za 0) (Zj 0)) (Zj 0))) (ZI (Zd qEq (Za 1) (Zd Zq (Za 0) (Zj 1)))) Z4) (ZI (Zd qEq (Zd Zbl (Za 1) (Zd Zq (Za 0) (Zj 0))) (Zd Zq (Za 0) (Zj 1)))))
noncomputable def Zf5:=Zad 2 Zk8
theorem Zoa: SimF false ZhC Zf5:=Zaj (show S [] [] [] false Zk7 Zk8 from(Zz (Zae (ZN (ZC Za1 (Zy Zx (Zc 0) (Zl _)) (Zl _))) (ZV (ZC Za1 (Zc 1) (Zy Zx (Zc 0) (Zl _)))) Zag) (ZV (ZC Za1 (ZC ZbF (Zc 1) (Zy Zx (Zc 0) (Zl _))) (Zy Zx (Zc 0) (Zl _))))))
noncomputable def ZlK: Sm:=Zs (ZE 0 (ZA ZdC (Zg (Zb 0) Zn))) (Zs (ZE 1 (ZA ZdC (Zg (Zb 1) Zn))) (Zs (ZcZ (ZK (Ze oNe (Zb 1) (Zk 0))) (Zs (ZE 2 (Ze oMod (Zb 0) (Zb 1))) (Zs (ZE 0 (Zb 1)) (ZE 1 (Zb 2)))) 1000000) (ZG (Zb 0))))
noncomputable def ZhT:=Z7 2 ZlK
noncomputable def ZlL: PS:=(Zt (ZF 0 (Zw ZdD (Zf (Za 0) Zm))) (Zt (ZF 1 (Zw ZdD (Zf (Za 1) Zm))) (Zt (Zdi (ZH (Zd qNe (Za 1) (Zj 0))) (Zt (ZF 2 (Zd Zbl (Za 0) (Za 1))) (Zt (ZF 0 (Za 1)) (ZF 1 (Za 2)))) 1000000) (ZI (Za 0)))))
noncomputable def Zge:=Zad 2 ZlL
theorem Zox: SimF false ZhT Zge:=Zaj (show S [] [] [] false ZlK ZlL from(Zz (ZR (O':=[]) (Zat ZeI (Zh (Zc 0) Zo))) (Zz (ZR (O':=[]) (Zat ZeI (Zh (Zc 1) Zo))) (Zz (Zfk (ZN (ZC ZbM (Zc 1) (Zl _))) (Zz (ZR (O':=[]) (ZC ZbF (Zc 0) (Zc 1))) (Zz (ZR (O':=[]) (Zc 1)) (ZR (O':=[]) (Zc 2)))) 1000000) (ZV (Zc 0))))))
noncomputable def Zj0: Sm:=Zs (ZE 3 (Zar (Zbe (Ze Zr (Zb 2) (Zk 0))) (Zak 100) Zao (ZA ZcK (Zg (Zb 100) Zn)))) (Zs (ZE 4 (ZA ZcK (Zg (Ze Zr (Zb 2) (Zk 1)) Zn))) (Zs (ZE 5 (ZA ZbN (Zg (Zb 0) (Zg (Zb 1) (Zg (ZA Zay (Zg (Zb 3) Zn)) Zn))))) (Zs (ZE 6 (ZA ZbN (Zg (Zb 0) (Zg (Ze Z3 (Zb 1) (Zk 1)) (Zg (ZA Zay (Zg (Zb 3) Zn)) Zn))))) (Zs (ZE 7 (ZA ZbN (Zg (Zb 0) (Zg (Ze Z3 (Zb 1) (Zk 2)) (Zg (Zk 5) Zn))))) (Zs (Z1 (ZaT (ZK (Ze oLt (Zb 7) (Zk 3))) (ZaT (ZK (Ze oNe (Zb 5) (Zb 6))) (ZaT (ZK (Ze oIs (Ze Zr (Ze Zr (Zb 3) (Zb 5)) (Zb 6)) (ZY))) Zao))) (Zbt (ZA Zd4 (Zg (Zb 0) (Zg (Ze Z3 (Zb 1) (Zk 3)) Zn))) (Ze Zr (Zb 3) (Zb 5)) (Zb 6)) (Z1 (ZaT (ZK (Ze oLt (Zb 7) (Zk 3))) (ZaT (ZK (Ze oNe (Zb 5) (Zb 6))) Zao)) (Zbt (Ze Zba (Ze Zba (Ze Zr (Ze Zr (Zb 3) (Zb 5)) (Zb 6)) (Zk 1)) (ZA ZbN (Zg (Zb 0) (Zg (Ze Z3 (Zb 1) (Zk 3)) (Zg (Zk 4) Zn))))) (Ze Zr (Zb 3) (Zb 5)) (Zb 6)) (Z1 (ZK (Ze oGt (ZA Zay (Zg (Zb 4) Zn)) (Zk 0))) (Zs (ZE 8 (ZA ZbN (Zg (Zb 0) (Zg (Zb 1) (Zg (ZA Zay (Zg (Zb 4) Zn)) Zn))))) (Zs (ZE 9 (Ze Zr (Zb 4) (Zb 8))) (Zbt (ZA Zd2 (Zg (Ze ZaO (Ze Zr (Zb 9) (Zk 0)) (Ze Z3 (Zk 1) (Ze oMod (Zb 7) (Zk 2)))) (Zg (Ze Z3 (Ze Zr (Zb 9) (Zk 1)) (ZA ZbN (Zg (Zb 0) (Zg (Ze Z3 (Zb 1) (Zk 3)) (Zg (Zk 3) Zn))))) Zn))) (Zb 4) (Zb 8)))) Z6))) (ZG (Zaw (Zg (Zb 3) (Zg (Zb 4) Zn)))))))))
noncomputable def Zj1:=Z7 3 Zj0
noncomputable def Zj2: PS:=(Zt (ZF 3 (Zam (ZaD (Zd Zq (Za 2) (Zj 0))) (Z5 100) Zah (pFl (Zw Zcm (Zf (Za 100) Zm))))) (Zt (ZF 4 (pFl (Zw Zcm (Zf (Zd Zq (Za 2) (Zj 1)) Zm)))) (Zt (ZF 5 (Zw ZbB (Zf (Za 0) (Zf (Za 1) (Zf (Zw Zaq (Zf (Za 3) Zm)) Zm))))) (Zt (ZF 6 (Zw ZbB (Zf (Za 0) (Zf (Zd ZX (Za 1) (Zj 1)) (Zf (Zw Zaq (Zf (Za 3) Zm)) Zm))))) (Zt (ZF 7 (Zw ZbB (Zf (Za 0) (Zf (Zd ZX (Za 1) (Zj 2)) (Zf (Zj 5) Zm))))) (Zt (Z2 (ZaK (ZH (Zd qLt (Za 7) (Zj 3))) (ZaK (ZH (Zd qNe (Za 5) (Za 6))) (ZaK (ZH (Zd qIs (Zd Zq (Zd Zq (Za 3) (Za 5)) (Za 6)) (Z0))) Zah))) (Zbm 3 [] (ZbE (Zw ZdI (Zf (Za 0) (Zf (Zd ZX (Za 1) (Zj 3)) Zm)))) (Zcy ZaS (Za 5)) (Za 6)) (Z2 (ZaK (ZH (Zd qLt (Za 7) (Zj 3))) (ZaK (ZH (Zd qNe (Za 5) (Za 6))) Zah)) (Zbm 3 [] (Zd Za5 (Zd Za5 (Zd Zq (Zd Zq (Za 3) (Za 5)) (Za 6)) (Zj 1)) (Zw ZbB (Zf (Za 0) (Zf (Zd ZX (Za 1) (Zj 3)) (Zf (Zj 4) Zm))))) (Zcy ZaS (Za 5)) (Za 6)) (Z2 (ZH (Zd qGt (Zw Zaq (Zf (Za 4) Zm)) (Zj 0))) (Zt (ZF 8 (Zw ZbB (Zf (Za 0) (Zf (Za 1) (Zf (Zw Zaq (Zf (Za 4) Zm)) Zm))))) (Zt (ZF 9 (ZbE (Zd Zq (Za 4) (Za 8)))) (Zbm 4 [] (ZbE (Zw ZdG (Zf (Zd Zaz (Zd Zq (Za 9) (Zj 0)) (Zd ZX (Zj 1) (Zd Zbl (Za 7) (Zj 2)))) (Zf (Zd ZX (Zd Zq (Za 9) (Zj 1)) (Zw ZbB (Zf (Za 0) (Zf (Zd ZX (Za 1) (Zj 3)) (Zf (Zj 3) Zm))))) Zm)))) ZaS (Za 8)))) Z4))) (ZI (ZaC (Zf (Za 3) (Zf (Za 4) Zm))))))))))
noncomputable def Zhh:=Zad 3 Zj2
theorem ZrS: SimF false Zj1 Zhh:=Zaj (show S [] [3,4] [] false Zj0 Zj2 from(Zz (ZbP (O':=[3]) (Zcx (Gs.seq (Zy Zx (Zc 2) (Zl _))) PutOk.one (by decide) Zau (Zfj ZdN (Zh (Zc 100) Zo)))) (Zz (ZbP (O':=[3,4]) (ZaZ (O':=[]) (Zfj ZdN (Zh (Zy Zx (Zc 2) (Zl _)) Zo)))) (Zz (ZR (O':=[3,4]) (ZP Zb2 (Zh (Zc 0) (Zh (Zc 1) (Zh (Zat ZaJ (Zh (Zc 3) Zo)) Zo))))) (Zz (ZR (O':=[3,4]) (ZP Zb2 (Zh (Zc 0) (Zh (ZU Zab (Zc 1) (Zl _)) (Zh (Zat ZaJ (Zh (Zc 3) Zo)) Zo))))) (Zz (ZR (O':=[3,4]) (ZP Zb2 (Zh (Zc 0) (Zh (ZU Zab (Zc 1) (Zl _)) (Zh (Zl _) Zo))))) (Zz (Zae (Za3 (ZN (ZC Zcs (Zc 7) (Zl _))) (Za3 (ZN (ZC ZbM (Zc 5) (Zc 6))) (Za3 (ZN (ZC Zbv (Zy Zx (Zy Zx (Zc 3) (Zc 5)) (Zc 6)) (Zaa))) Zau))) (S.put (O':=[3,4]) (by decide) (ZaZ (O':=[4]) (E.flat (ZP ZeW (Zh (Zc 0) (Zh (ZU Zab (Zc 1) (Zl _)) Zo))))) (Zdh Zbr (Zc 5)) (Zc 6) (by decide) (by decide)) (Zae (Za3 (ZN (ZC Zcs (Zc 7) (Zl _))) (Za3 (ZN (ZC ZbM (Zc 5) (Zc 6))) Zau)) (S.put (O':=[3,4]) (by decide) (ZaZ (O':=[4]) (ZC Zbi (ZC Zbi (Zy Zx (Zy Zx (Zc 3) (Zc 5)) (Zc 6)) (Zl _)) (ZP Zb2 (Zh (Zc 0) (Zh (ZU Zab (Zc 1) (Zl _)) (Zh (Zl _) Zo)))))) (Zdh Zbr (Zc 5)) (Zc 6) (by decide) (by decide)) (Zae (ZN (ZC ZfG (Zat ZaJ (Zh (Zc 4) Zo)) (Zl _))) (Zz (ZR (O':=[3,4]) (ZP Zb2 (Zh (Zc 0) (Zh (Zc 1) (Zh (Zat ZaJ (Zh (Zc 4) Zo)) Zo))))) (Zz (ZR (O':=[3,4]) (ZaZ (O':=[]) (E.flat (Zy Zx (Zc 4) (Zc 8))))) (S.put (O':=[3,4]) (by decide) (ZaZ (O':=[3]) (E.flat (ZP ZeS (Zh (ZU Za0 (Zy Zx (Zc 9) (Zl _)) (ZU Zab (Zl _) (ZC ZbF (Zc 7) (Zl _)))) (Zh (ZU Zab (Zy Zx (Zc 9) (Zl _)) (ZP Zb2 (Zh (Zc 0) (Zh (ZU Zab (Zc 1) (Zl _)) (Zh (Zl _) Zo))))) Zo))))) Zbr (Zc 8) (by decide) (by decide)))) Zag))) (ZV (E.tup (Zh (Zc 3) (Zh (Zc 4) Zo)))))))))))
noncomputable def ZlM: Sm:=Zs (ZE 2 (ZA ZdC (Zg (Zb 0) Zn))) (Zs (ZE 3 (ZA ZdC (Zg (Zb 1) Zn))) (Zs (ZcZ (ZK (Ze oNe (Zb 3) (Zk 0))) (Zs (ZE 4 (Ze oMod (Zb 2) (Zb 3))) (Zs (ZE 2 (Zb 3)) (ZE 3 (Zb 4)))) 1000000) (ZG (Zb 2))))
noncomputable def ZhU:=Z7 2 ZlM
noncomputable def ZlN: PS:=(Zt (ZF 2 (Zw ZdD (Zf (Za 0) Zm))) (Zt (ZF 3 (Zw ZdD (Zf (Za 1) Zm))) (Zt (Zdi (ZH (Zd qNe (Za 3) (Zj 0))) (Zt (ZF 4 (Zd Zbl (Za 2) (Za 3))) (Zt (ZF 2 (Za 3)) (ZF 3 (Za 4)))) 1000000) (ZI (Za 2)))))
noncomputable def Zgf:=Zad 2 ZlN
theorem Zoy: SimF false ZhU Zgf:=Zaj (show S [] [] [] false ZlM ZlN from(Zz (ZR (O':=[]) (Zat ZeI (Zh (Zc 0) Zo))) (Zz (ZR (O':=[]) (Zat ZeI (Zh (Zc 1) Zo))) (Zz (Zfk (ZN (ZC ZbM (Zc 3) (Zl _))) (Zz (ZR (O':=[]) (ZC ZbF (Zc 2) (Zc 3))) (Zz (ZR (O':=[]) (Zc 3)) (ZR (O':=[]) (Zc 4)))) 1000000) (ZV (Zc 2))))))
noncomputable def Zna: Sm:=Zs (Z1 (ZK (Ze oLt (Zb 0) (Zk 0))) (PM.sNo) Z6) (Zs (Z1 (ZK (Ze oEq (Zb 0) (Zk 0))) (ZG (Zaw (Zg (Zk 0) (Zg (Zb 1) Zn)))) Z6) (ZG (Zaw (Zg (Zb 0) (Zg (Ze oMod (Zb 1) (Zb 0)) Zn)))))
noncomputable def ZgM:=Z7 2 Zna
noncomputable def Znb: PS:=(Zt (Z2 (ZH (Zd qLt (Za 0) (Zj 0))) (qNo) Z4) (Zt (Z2 (ZH (Zd qEq (Za 0) (Zj 0))) (ZI (ZaC (Zf (Zj 0) (Zf (Za 1) Zm)))) Z4) (ZI (ZaC (Zf (Za 0) (Zf (Zd Zbl (Za 1) (Za 0)) Zm))))))
noncomputable def Zfv:=Zad 2 Znb
theorem Znc: SimF false ZgM Zfv:=Zaj (show S [] [] [] false Zna Znb from(Zz (Zae (ZN (ZC Zcs (Zc 0) (Zl _))) (ZxO (O':=[])) Zag) (Zz (Zae (ZN (ZC Za1 (Zc 0) (Zl _))) (ZV (E.tup (Zh (Zl _) (Zh (Zc 1) Zo)))) Zag) (ZV (E.tup (Zh (Zc 0) (Zh (ZC ZbF (Zc 1) (Zc 0)) Zo)))))))
noncomputable def ZlO: Sm:=Zs (ZE 2 (Ze oMod (Zb 0) (Zb 1))) (Zs (ZE 3 (Zb 1)) (Zs (ZE 4 (Zk 1)) (Zs (ZE 5 (Zk 0)) (Zs (ZcZ (ZK (Ze oNe (Zb 3) (Zk 0))) (Zs (ZE 6 (Ze oDiv (Zb 2) (Zb 3))) (Zs (ZE 7 (Ze Zba (Zb 2) (Ze ZaO (Zb 6) (Zb 3)))) (Zs (ZE 8 (Ze Zba (Zb 4) (Ze ZaO (Zb 6) (Zb 5)))) (Zs (ZE 2 (Zb 3)) (Zs (ZE 4 (Zb 5)) (Zs (ZE 3 (Zb 7)) (ZE 5 (Zb 8)))))))) 1000000) (ZG (Ze oMod (Zb 4) (Zb 1)))))))
noncomputable def ZlP:=Z7 2 ZlO
noncomputable def ZlQ: PS:=(Zt (ZF 2 (Zd Zbl (Za 0) (Za 1))) (Zt (ZF 3 (Za 1)) (Zt (ZF 4 (Zj 1)) (Zt (ZF 5 (Zj 0)) (Zt (Zdi (ZH (Zd qNe (Za 3) (Zj 0))) (Zt (ZF 6 (Zd ZcT (Za 2) (Za 3))) (Zt (ZF 7 (Zd Za5 (Za 2) (Zd Zaz (Za 6) (Za 3)))) (Zt (ZF 8 (Zd Za5 (Za 4) (Zd Zaz (Za 6) (Za 5)))) (Zt (ZF 2 (Za 3)) (Zt (ZF 4 (Za 5)) (Zt (ZF 3 (Za 7)) (ZF 5 (Za 8)))))))) 1000000) (ZI (Zd Zbl (Za 4) (Za 1))))))))
noncomputable def ZhV:=Zad 2 ZlQ
theorem ZtH: SimF false ZlP ZhV:=Zaj (show S [] [] [] false ZlO ZlQ from(Zz (ZR (O':=[]) (ZC ZbF (Zc 0) (Zc 1))) (Zz (ZR (O':=[]) (Zc 1)) (Zz (ZR (O':=[]) (Zl _)) (Zz (ZR (O':=[]) (Zl _)) (Zz (Zfk (ZN (ZC ZbM (Zc 3) (Zl _))) (Zz (ZR (O':=[]) (ZC ZdV (Zc 2) (Zc 3))) (Zz (ZR (O':=[]) (ZC Zbi (Zc 2) (ZU Za0 (Zc 6) (Zc 3)))) (Zz (ZR (O':=[]) (ZC Zbi (Zc 4) (ZU Za0 (Zc 6) (Zc 5)))) (Zz (ZR (O':=[]) (Zc 3)) (Zz (ZR (O':=[]) (Zc 5)) (Zz (ZR (O':=[]) (Zc 7)) (ZR (O':=[]) (Zc 8)))))))) 1000000) (ZV (ZC ZbF (Zc 4) (Zc 1)))))))))
noncomputable def Zk9: Sm:=Zs (Z1 (ZK (Ze oEq (Ze Zr (Zb 0) (Zk 0)) (Zk 0))) (ZG (eIf (ZK (ZA ZhC (Zg (Zb 1) (Zg (Ze Zr (Zb 0) (Zk 1)) Zn)))) (Zb 0) (ZY))) Z6) (Zs (Z1 (ZK (Ze oEq (Ze Zr (Zb 1) (Zk 0)) (Zk 0))) (ZG (eIf (ZK (ZA ZhC (Zg (Zb 0) (Zg (Ze Zr (Zb 1) (Zk 1)) Zn)))) (Zb 1) (ZY))) Z6) (Zs (ZE 2 (ZA ZhU (Zg (Ze Zr (Zb 0) (Zk 0)) (Zg (Ze Zr (Zb 1) (Zk 0)) Zn)))) (Zs (ZE 3 (Ze Zba (Ze Zr (Zb 1) (Zk 1)) (Ze Zr (Zb 0) (Zk 1)))) (Zs (Z1 (ZK (Ze oNe (Ze oMod (Zb 3) (Zb 2)) (Zk 0))) (ZG (ZY)) Z6) (Zs (ZE 4 (Ze oDiv (Ze Zr (Zb 1) (Zk 0)) (Zb 2))) (Zs (ZE 5 (Ze ZaO (Ze oDiv (Zb 3) (Zb 2)) (ZA ZlP (Zg (Ze oDiv (Ze Zr (Zb 0) (Zk 0)) (Zb 2)) (Zg (Zb 4) Zn))))) (ZG (ZA ZgM (Zg (Ze ZaO (Ze Zr (Zb 0) (Zk 0)) (Zb 4)) (Zg (Ze Z3 (Ze Zr (Zb 0) (Zk 1)) (Ze ZaO (Ze Zr (Zb 0) (Zk 0)) (Zb 5))) Zn))))))))))
noncomputable def ZhD:=Z7 2 Zk9
noncomputable def Zla: PS:=(Zt (Z2 (ZH (Zd qEq (Zd Zq (Za 0) (Zj 0)) (Zj 0))) (ZI (pIf (ZH (Zw Zf5 (Zf (Za 1) (Zf (Zd Zq (Za 0) (Zj 1)) Zm)))) (Za 0) (Z0))) Z4) (Zt (Z2 (ZH (Zd qEq (Zd Zq (Za 1) (Zj 0)) (Zj 0))) (ZI (pIf (ZH (Zw Zf5 (Zf (Za 0) (Zf (Zd Zq (Za 1) (Zj 1)) Zm)))) (Za 1) (Z0))) Z4) (Zt (ZF 2 (Zw Zgf (Zf (Zd Zq (Za 0) (Zj 0)) (Zf (Zd Zq (Za 1) (Zj 0)) Zm)))) (Zt (ZF 3 (Zd Za5 (Zd Zq (Za 1) (Zj 1)) (Zd Zq (Za 0) (Zj 1)))) (Zt (Z2 (ZH (Zd qNe (Zd Zbl (Za 3) (Za 2)) (Zj 0))) (ZI (Z0)) Z4) (Zt (ZF 4 (Zd ZcT (Zd Zq (Za 1) (Zj 0)) (Za 2))) (Zt (ZF 5 (Zd Zaz (Zd ZcT (Za 3) (Za 2)) (Zw ZhV (Zf (Zd ZcT (Zd Zq (Za 0) (Zj 0)) (Za 2)) (Zf (Za 4) Zm))))) (ZI (Zw Zfv (Zf (Zd Zaz (Zd Zq (Za 0) (Zj 0)) (Za 4)) (Zf (Zd ZX (Zd Zq (Za 0) (Zj 1)) (Zd Zaz (Zd Zq (Za 0) (Zj 0)) (Za 5))) Zm)))))))))))
noncomputable def Zf6:=Zad 2 Zla
theorem Zob: SimF false ZhD Zf6:=Zaj (show S [] [] [] false Zk9 Zla from(Zz (Zae (ZN (ZC Za1 (Zy Zx (Zc 0) (Zl _)) (Zl _))) (ZV (ZfB (ZN (ZP Zoa (Zh (Zc 1) (Zh (Zy Zx (Zc 0) (Zl _)) Zo)))) (E.sh (Zc 0)) (E.sh (Zaa)))) Zag) (Zz (Zae (ZN (ZC Za1 (Zy Zx (Zc 1) (Zl _)) (Zl _))) (ZV (ZfB (ZN (ZP Zoa (Zh (Zc 0) (Zh (Zy Zx (Zc 1) (Zl _)) Zo)))) (E.sh (Zc 1)) (E.sh (Zaa)))) Zag) (Zz (ZR (O':=[]) (ZP Zoy (Zh (Zy Zx (Zc 0) (Zl _)) (Zh (Zy Zx (Zc 1) (Zl _)) Zo)))) (Zz (ZR (O':=[]) (ZC Zbi (Zy Zx (Zc 1) (Zl _)) (Zy Zx (Zc 0) (Zl _)))) (Zz (Zae (ZN (ZC ZbM (ZC ZbF (Zc 3) (Zc 2)) (Zl _))) (ZV (Zaa)) Zag) (Zz (ZR (O':=[]) (ZC ZdV (Zy Zx (Zc 1) (Zl _)) (Zc 2))) (Zz (ZR (O':=[]) (ZU Za0 (ZC ZdV (Zc 3) (Zc 2)) (ZP ZtH (Zh (ZC ZdV (Zy Zx (Zc 0) (Zl _)) (Zc 2)) (Zh (Zc 4) Zo))))) (ZV (ZP Znc (Zh (ZU Za0 (Zy Zx (Zc 0) (Zl _)) (Zc 4)) (Zh (ZU Zab (Zy Zx (Zc 0) (Zl _)) (ZU Za0 (Zy Zx (Zc 0) (Zl _)) (Zc 5))) Zo))))))))))))
noncomputable def Zks: Sm:=ZG (ZA ZgM (Zg (ZA ZhU (Zg (Ze Zr (Zb 0) (Zk 0)) (Zg (Ze Zr (Zb 1) (Zk 0)) Zn))) (Zg (Ze Z3 (Ze Zr (Zb 0) (Zk 1)) (Ze Zr (Zb 1) (Zk 1))) Zn)))
noncomputable def ZfX:=Z7 2 Zks
noncomputable def Zkt: PS:=(ZI (Zw Zfv (Zf (Zw Zgf (Zf (Zd Zq (Za 0) (Zj 0)) (Zf (Zd Zq (Za 1) (Zj 0)) Zm))) (Zf (Zd ZX (Zd Zq (Za 0) (Zj 1)) (Zd Zq (Za 1) (Zj 1))) Zm))))
noncomputable def Ze0:=Zad 2 Zkt
theorem Zku: SimF false ZfX Ze0:=Zaj (show S [] [] [] false Zks Zkt from(ZV (ZP Znc (Zh (ZP Zoy (Zh (Zy Zx (Zc 0) (Zl _)) (Zh (Zy Zx (Zc 1) (Zl _)) Zo))) (Zh (ZU Zab (Zy Zx (Zc 0) (Zl _)) (Zy Zx (Zc 1) (Zl _))) Zo)))))
noncomputable def Zj3: Sm:=ZG (ZA ZgM (Zg (Ze ZaO (Ze Zr (Zb 0) (Zk 0)) (ZA ZdC (Zg (Zb 1) Zn))) (Zg (Ze ZaO (Ze Zr (Zb 0) (Zk 1)) (Zb 1)) Zn)))
noncomputable def Zhi:=Z7 2 Zj3
noncomputable def Zj4: PS:=(ZI (Zw Zfv (Zf (Zd Zaz (Zd Zq (Za 0) (Zj 0)) (Zw ZdD (Zf (Za 1) Zm))) (Zf (Zd Zaz (Zd Zq (Za 0) (Zj 1)) (Za 1)) Zm))))
noncomputable def ZfU:=Zad 2 Zj4
theorem ZnM: SimF false Zhi ZfU:=Zaj (show S [] [] [] false Zj3 Zj4 from(ZV (ZP Znc (Zh (ZU Za0 (Zy Zx (Zc 0) (Zl _)) (Zat ZeI (Zh (Zc 1) Zo))) (Zh (ZU Za0 (Zy Zx (Zc 0) (Zl _)) (Zc 1)) Zo)))))
noncomputable def Zj5: Sm:=Zs (Z1 (ZK (Ze oEq (Ze Zr (Zb 0) (Zk 0)) (Zk 0))) (ZG (eIf (ZK (Ze oLe (Ze Zr (Zb 0) (Zk 1)) (Zb 1))) (Ze Zr (Zb 0) (Zk 1)) (ZY))) Z6) (ZG (Ze Zba (Zb 1) (Ze oMod (Ze Zba (Zb 1) (Ze Zr (Zb 0) (Zk 1))) (Ze Zr (Zb 0) (Zk 0)))))
noncomputable def Zj6:=Z7 2 Zj5
noncomputable def Zj7: PS:=(Zt (Z2 (ZH (Zd qEq (Zd Zq (Za 0) (Zj 0)) (Zj 0))) (ZI (pIf (ZH (Zd qLe (Zd Zq (Za 0) (Zj 1)) (Za 1))) (Zd Zq (Za 0) (Zj 1)) (Z0))) Z4) (ZI (Zd Za5 (Za 1) (Zd Zbl (Zd Za5 (Za 1) (Zd Zq (Za 0) (Zj 1))) (Zd Zq (Za 0) (Zj 0))))))
noncomputable def Zhj:=Zad 2 Zj7
theorem ZrT: SimF false Zj6 Zhj:=Zaj (show S [] [] [] false Zj5 Zj7 from(Zz (Zae (ZN (ZC Za1 (Zy Zx (Zc 0) (Zl _)) (Zl _))) (ZV (ZfB (ZN (ZC Znv (Zy Zx (Zc 0) (Zl _)) (Zc 1))) (E.sh (Zy Zx (Zc 0) (Zl _))) (E.sh (Zaa)))) Zag) (ZV (ZC Zbi (Zc 1) (ZC ZbF (ZC Zbi (Zc 1) (Zy Zx (Zc 0) (Zl _))) (Zy Zx (Zc 0) (Zl _)))))))
noncomputable def Zmp: Sm:=ZG (eIf (ZK (ZA Zkq (Zg (Zb 0) (Zg (Zb 1) Zn)))) (Zb 0) (Zb 1))
noncomputable def Zh5:=Z7 2 Zmp
noncomputable def Zmq: PS:=(ZI (pIf (ZH (Zw Zhr (Zf (Za 0) (Zf (Za 1) Zm)))) (Za 0) (Za 1)))
noncomputable def Zgn:=Zad 2 Zmq
theorem Zo1: SimF false Zh5 Zgn:=Zaj (show S [] [] [] false Zmp Zmq from(ZV (ZfB (ZN (ZP Zsi (Zh (Zc 0) (Zh (Zc 1) Zo)))) (E.sh (Zc 0)) (E.sh (Zc 1)))))
noncomputable def Zlb: Sm:=Zs (Z1 (tOr (ZK (Ze oIs (Zb 0) (ZY))) (tOr (ZK (Ze oIs (Zb 1) (ZY))) Zcd)) (ZG (ZY)) Z6) (ZG (Ze Z3 (Zb 0) (Zb 1)))
noncomputable def Zet:=Z7 2 Zlb
noncomputable def Zlc: PS:=(Zt (Z2 (bOr (ZH (Zd qIs (Za 0) (Z0))) (bOr (ZH (Zd qIs (Za 1) (Z0))) Zcf)) (ZI (Z0)) Z4) (ZI (Zd ZX (Za 0) (Za 1))))
noncomputable def Zd5:=Zad 2 Zlc
theorem Zf7: SimF false Zet Zd5:=Zaj (show S [] [] [] false Zlb Zlc from(Zz (Zae (Zbc (ZN (ZC Zbv (Zc 0) (Zaa))) (Zbc (ZN (ZC Zbv (Zc 1) (Zaa))) ZcG)) (ZV (Zaa)) Zag) (ZV (ZU Zab (Zc 0) (Zc 1)))))
noncomputable def Zi4: Sm:=ZG (Zar (Zc4 (Zb 0) (Zb 2)) (Zb6 100 101) Zao (ZA Zh5 (Zg (Zb 100) (Zg (ZA Zet (Zg (Zb 1) (Zg (Zb 101) Zn))) Zn))))
noncomputable def Zi5:=Z7 3 Zi4
noncomputable def Zi6: PS:=(ZI (Zam (Zc5 (Za 0) (Za 2)) (Zcp 100 101) Zah (ZbE (Zw Zgn (Zf (Za 100) (Zf (Zw Zd5 (Zf (Za 1) (Zf (Za 101) Zm))) Zm))))))
noncomputable def Zg4:=Zad 3 Zi6
theorem Zq0: SimF true Zi5 Zg4:=Zaj (show S [] [] [] true Zi4 Zi6 from(ZbG (Zcx (Gs.zip (Zc 0) (Zc 2)) PutOk.two (by decide) Zau (E.flat (ZP Zo1 (Zh (Zc 100) (Zh (ZP Zf7 (Zh (Zc 1) (Zh (Zc 101) Zo))) Zo)))))))
noncomputable def Zkv: Sm:=ZG (Zar (Zbe (Zb 0)) (Zak 100) Zao (ZA Zi5 (Zg (Zb 100) (Zg (Ze Zr (Zb 100) (Zb 1)) (Zg (Ze Zr (Zb 0) (Zb 1)) Zn)))))
noncomputable def Zkw:=Z7 2 Zkv
noncomputable def Zkx: PS:=(ZI (Zam (ZaD (Za 0)) (Z5 100) Zah (Zw Zg4 (Zf (Za 100) (Zf (Zd Zq (Za 100) (Za 1)) (Zf (Zd Zq (Za 0) (Za 1)) Zm))))))
noncomputable def Zhs:=Zad 2 Zkx
theorem ZnX: SimF true Zkw Zhs:=Zaj (show S [] [] [] true Zkv Zkx from(ZbG (Zcx (Gs.seq (Zc 0)) PutOk.one (by decide) Zau (ZcS Zq0 (Zh (Zc 100) (Zh (Zy Zx (Zc 100) (Zc 1)) (Zh (Zy Zx (Zc 0) (Zc 1)) Zo)))))))
noncomputable def Zjh: Sm:=ZG (ZA ZgY (Zg (Zar (ZaM (Zg (ZA Zay (Zg (Zb 0) Zn)) Zn)) (Zak 100) Zao (Ze oLt (Ze Zr (Ze Zr (Zb 0) (Zb 100)) (Zb 100)) (Zk 0))) Zn))
noncomputable def Zji:=Z7 1 Zjh
noncomputable def Zjj: PS:=(ZI (Zw ZgZ (Zf (Zam (ZaB (Zf (Zw Zaq (Zf (Za 0) Zm)) Zm)) (Z5 100) Zah (Zd qLt (Zd Zq (Zd Zq (Za 0) (Za 100)) (Za 100)) (Zj 0))) Zm)))
noncomputable def Zg8:=Zad 1 Zjj
theorem ZnE: SimF false Zji Zg8:=Zaj (show S [] [] [] false Zjh Zjj from(ZV (Zat Zxl (Zh (Zbx (Gs.range (Zh (Zat ZaJ (Zh (Zc 0) Zo)) Zo)) PutOk.one (by decide) Zau (ZC Zcs (Zy Zx (Zy Zx (Zc 0) (Zc 100)) (Zc 100)) (Zl _))) Zo))))
noncomputable def Zmr: Sm:=Zs (ZE 1 (Zb 0)) (Zs (ZaU (ZaM (Zg (ZA Zay (Zg (Zb 0) Zn)) Zn)) (Zak 2) (Zs (ZE 1 (ZA Zkw (Zg (Zb 1) (Zg (Zb 2) Zn)))) (Z1 (ZK (ZA Zji (Zg (Zb 1) Zn))) (ZG (ZY)) Z6))) (ZG (Zb 1)))
noncomputable def Zfe:=Z7 1 Zmr
noncomputable def Zms: PS:=(Zt (ZF 1 (Za 0)) (Zt (ZiO (ZaB (Zf (Zw Zaq (Zf (Za 0) Zm)) Zm)) (Z5 2) (Zt (ZF 1 (Zw Zhs (Zf (Za 1) (Zf (Za 2) Zm)))) (Z2 (ZH (Zw Zg8 (Zf (Za 1) Zm))) (ZI (Z0)) Z4))) (ZI (Za 1))))
noncomputable def Zgo:=Zad 1 Zms
theorem ZuJ: SimF true Zfe Zgo:=Zaj (show S [] [1] [] true Zmr Zms from(Zz (ZR (O':=[]) (Zc 0)) (Zz (Zw1 (Gs.range (Zh (Zat ZaJ (Zh (Zc 0) Zo)) Zo)) PutOk.one PutOk.one (by decide) (by decide) (by decide) (Zz (ZbP (O':=[1]) (ZcS ZnX (Zh (Zc 1) (Zh (Zc 2) Zo)))) (Zae (ZN (ZP ZnE (Zh (Zc 1) Zo))) (ZbG (Zaa)) Zag)) (Zz (ZbP (O':=[1]) (ZaZ (O':=[]) (ZcS ZnX (Zh (Zc 1) (Zh (Zc 2) Zo))))) (Zae (ZN (ZP ZnE (Zh (Zc 1) Zo))) (ZbG (Zaa)) Zag))) (ZbG (E.own (by decide))))))
noncomputable def Zky: Sm:=ZG (Zeo (eIs "int" (Zb 0)) (ZiS (eIs "bool" (Zb 0))))
noncomputable def ZfY:=Z7 1 Zky
noncomputable def Zkz: PS:=(ZI ((ZdY (pIs "int" (Za 0)) (ZiW (pIs "bool" (Za 0))))))
noncomputable def Ze1:=Zad 1 Zkz
theorem ZkA: SimF false ZfY Ze1:=Zaj (show S [] [] [] false Zky Zkz from(ZV ((ZiL (E.sh (ZdZ (Zc 0))) (E.sh (Zxj (ZdZ (Zc 0))))))))
noncomputable def Zld: Sm:=Zs (Z1 (tOr (ZcM (ZK (eIs "list" (Zb 0)))) (tOr (ZK (Ze oNe (ZA Zay (Zg (Zb 0) Zn)) (Zb 1))) Zcd)) (ZG (Zcg false)) Z6) (Zs (ZaU (ZaM (Zg (Zb 1) Zn)) (Zak 2) (Zs (Z1 (tOr (ZcM (ZK (eIs "list" (Ze Zr (Zb 0) (Zb 2))))) (tOr (ZK (Ze oNe (ZA Zay (Zg (Ze Zr (Zb 0) (Zb 2)) Zn)) (Zb 1))) Zcd)) (ZG (Zcg false)) Z6) (Zs (ZaU (Zbe (Ze Zr (Zb 0) (Zb 2))) (Zak 3) (Z1 (ZaT (ZK (Ze Zcl (Zb 3) (ZY))) (ZaT (ZcM (ZK (ZA ZfY (Zg (Zb 3) Zn)))) Zao)) (ZG (Zcg false)) Z6)) (Z1 (ZK (Ze oNe (Ze Zr (Ze Zr (Zb 0) (Zb 2)) (Zb 2)) (Zk 0))) (ZG (Zcg false)) Z6)))) (ZG (Zcg true)))
noncomputable def Zle:=Z7 2 Zld
noncomputable def Zlf: PS:=(Zt (Z2 (bOr (ZcC (ZH (pIs "list" (Za 0)))) (bOr (ZH (Zd qNe (Zw Zaq (Zf (Za 0) Zm)) (Za 1))) Zcf)) (ZI (Zch false)) Z4) (Zt (ZaI (ZaB (Zf (Za 1) Zm)) (Z5 2) (Zt (Z2 (bOr (ZcC (ZH (pIs "list" (Zd Zq (Za 0) (Za 2))))) (bOr (ZH (Zd qNe (Zw Zaq (Zf (Zd Zq (Za 0) (Za 2)) Zm)) (Za 1))) Zcf)) (ZI (Zch false)) Z4) (Zt (ZaI (ZaD (Zd Zq (Za 0) (Za 2))) (Z5 3) (Z2 (ZaK (ZH (Zd Zb4 (Za 3) (Z0))) (ZaK (ZcC (ZH (Zw Ze1 (Zf (Za 3) Zm)))) Zah)) (ZI (Zch false)) Z4)) (Z2 (ZH (Zd qNe (Zd Zq (Zd Zq (Za 0) (Za 2)) (Za 2)) (Zj 0))) (ZI (Zch false)) Z4)))) (ZI (Zch true))))
noncomputable def ZhE:=Zad 2 Zlf
theorem ZsJ: SimF false Zle ZhE:=Zaj (show S [] [] [] false Zld Zlf from(Zz (Zae (Zbc (Zdg (ZN (ZdZ (Zc 0)))) (Zbc (ZN (ZC ZbM (Zat ZaJ (Zh (Zc 0) Zo)) (Zc 1))) ZcG)) (ZV (E.bool _)) Zag) (Zz (Zbd (Gs.range (Zh (Zc 1) Zo)) PutOk.one (by decide) (by decide) (Zz (Zae (Zbc (Zdg (ZN (ZdZ (Zy Zx (Zc 0) (Zc 2))))) (Zbc (ZN (ZC ZbM (Zat ZaJ (Zh (Zy Zx (Zc 0) (Zc 2)) Zo)) (Zc 1))) ZcG)) (ZV (E.bool _)) Zag) (Zz (Zbd (Gs.seq (Zy Zx (Zc 0) (Zc 2))) PutOk.one (by decide) (by decide) (Zae (Za3 (ZN (ZC ZcJ (Zc 3) (Zaa))) (Za3 (Zdg (ZN (ZP ZkA (Zh (Zc 3) Zo)))) Zau)) (ZV (E.bool _)) Zag)) (Zae (ZN (ZC ZbM (Zy Zx (Zy Zx (Zc 0) (Zc 2)) (Zc 2)) (Zl _))) (ZV (E.bool _)) Zag)))) (ZV (E.bool _)))))
noncomputable def Zjk: Sm:=ZG (Zaw (Zg (ZA Zet (Zg (Ze Zr (Zb 0) (Zk 0)) (Zg (Ze Zr (Zb 1) (Zk 0)) Zn))) (Zg (ZA Zet (Zg (Ze Zr (Zb 0) (Zk 1)) (Zg (Ze Zr (Zb 1) (Zk 1)) Zn))) Zn)))
noncomputable def Zjl:=Z7 2 Zjk
noncomputable def Zjm: PS:=(ZI (ZaC (Zf (Zw Zd5 (Zf (Zd Zq (Za 0) (Zj 0)) (Zf (Zd Zq (Za 1) (Zj 0)) Zm))) (Zf (Zw Zd5 (Zf (Zd Zq (Za 0) (Zj 1)) (Zf (Zd Zq (Za 1) (Zj 1)) Zm))) Zm))))
noncomputable def Zg9:=Zad 2 Zjm
theorem Zrd: SimF false Zjl Zg9:=Zaj (show S [] [] [] false Zjk Zjm from(ZV (E.tup (Zh (ZP Zf7 (Zh (Zy Zx (Zc 0) (Zl _)) (Zh (Zy Zx (Zc 1) (Zl _)) Zo))) (Zh (ZP Zf7 (Zh (Zy Zx (Zc 0) (Zl _)) (Zh (Zy Zx (Zc 1) (Zl _)) Zo))) Zo)))))
noncomputable def ZkB: Sm:=Zs (Z1 (ZK (Ze oIs (Zb 0) (ZY))) (ZG (ZY)) Z6) (ZG (Ze ZaO (Zb 0) (Zb 1)))
noncomputable def ZfZ:=Z7 2 ZkB
noncomputable def ZkC: PS:=(Zt (Z2 (ZH (Zd qIs (Za 0) (Z0))) (ZI (Z0)) Z4) (ZI (Zd Zaz (Za 0) (Za 1))))
noncomputable def Ze2:=Zad 2 ZkC
theorem ZkD: SimF false ZfZ Ze2:=Zaj (show S [] [] [] false ZkB ZkC from(Zz (Zae (ZN (ZC Zbv (Zc 0) (Zaa))) (ZV (Zaa)) Zag) (ZV (ZU Za0 (Zc 0) (Zc 1)))))
noncomputable def Zi7: Sm:=Zs (Z1 (ZK (Ze oEq (Zb 1) (Zk 0))) (ZG (Zaw (Zg (Zk 0) (Zg (Zk 0) Zn)))) Z6) (Zs (ZE 2 (ZA ZfZ (Zg (Ze Zr (Zb 0) (Zk 0)) (Zg (Zb 1) Zn)))) (Zs (ZE 3 (ZA ZfZ (Zg (Ze Zr (Zb 0) (Zk 1)) (Zg (Zb 1) Zn)))) (Zs (Z1 (ZK (Ze oLt (Zb 1) (Zk 0))) (ZG (Zaw (Zg (Zb 3) (Zg (Zb 2) Zn)))) Z6) (ZG (Zaw (Zg (Zb 2) (Zg (Zb 3) Zn)))))))
noncomputable def Zi8:=Z7 2 Zi7
noncomputable def Zi9: PS:=(Zt (Z2 (ZH (Zd qEq (Za 1) (Zj 0))) (ZI (ZaC (Zf (Zj 0) (Zf (Zj 0) Zm)))) Z4) (Zt (ZF 2 (Zw Ze2 (Zf (Zd Zq (Za 0) (Zj 0)) (Zf (Za 1) Zm)))) (Zt (ZF 3 (Zw Ze2 (Zf (Zd Zq (Za 0) (Zj 1)) (Zf (Za 1) Zm)))) (Zt (Z2 (ZH (Zd qLt (Za 1) (Zj 0))) (ZI (ZaC (Zf (Za 3) (Zf (Za 2) Zm)))) Z4) (ZI (ZaC (Zf (Za 2) (Zf (Za 3) Zm))))))))
noncomputable def Zg5:=Zad 2 Zi9
theorem Zq1: SimF false Zi8 Zg5:=Zaj (show S [] [] [] false Zi7 Zi9 from(Zz (Zae (ZN (ZC Za1 (Zc 1) (Zl _))) (ZV (E.tup (Zh (Zl _) (Zh (Zl _) Zo)))) Zag) (Zz (ZR (O':=[]) (ZP ZkD (Zh (Zy Zx (Zc 0) (Zl _)) (Zh (Zc 1) Zo)))) (Zz (ZR (O':=[]) (ZP ZkD (Zh (Zy Zx (Zc 0) (Zl _)) (Zh (Zc 1) Zo)))) (Zz (Zae (ZN (ZC Zcs (Zc 1) (Zl _))) (ZV (E.tup (Zh (Zc 3) (Zh (Zc 2) Zo)))) Zag) (ZV (E.tup (Zh (Zc 2) (Zh (Zc 3) Zo)))))))))
noncomputable def ZjJ: Sm:=Zs (ZE 2 (Zaw (Zg (Ze Zr (Zb 0) (Zk 0)) (Zg (Ze Zr (Zb 0) (Zk 0)) Zn)))) (Zs (ZaU (Zc4 (ZdU (Zb 0) 1) (Zb 1)) (Zb6 3 4) (ZE 2 (ZA Zjl (Zg (Zb 2) (Zg (ZA Zi8 (Zg (Zb 4) (Zg (Zb 3) Zn))) Zn))))) (ZG (Zb 2)))
noncomputable def ZjK:=Z7 2 ZjJ
noncomputable def ZjL: PS:=(Zt (ZF 2 (ZaC (Zf (Zd Zq (Za 0) (Zj 0)) (Zf (Zd Zq (Za 0) (Zj 0)) Zm)))) (Zt (ZaI (Zc5 (Zdz (Za 0) 1) (Za 1)) (Zcp 3 4) (ZF 2 (Zw Zg9 (Zf (Za 2) (Zf (Zw Zg5 (Zf (Za 4) (Zf (Za 3) Zm))) Zm))))) (ZI (Za 2))))
noncomputable def Zhe:=Zad 2 ZjL
theorem ZrB: SimF false ZjK Zhe:=Zaj (show S [] [] [] false ZjJ ZjL from(Zz (ZR (O':=[]) (E.tup (Zh (Zy Zx (Zc 0) (Zl _)) (Zh (Zy Zx (Zc 0) (Zl _)) Zo)))) (Zz (Zbd (Gs.zip (Zix (Zc 0)) (Zc 1)) PutOk.two (by decide) (by decide) (ZR (O':=[]) (ZP Zrd (Zh (Zc 2) (Zh (ZP Zq1 (Zh (Zc 4) (Zh (Zc 3) Zo))) Zo))))) (ZV (Zc 2)))))
noncomputable def Zlg: Sm:=Zs (ZE 2 (Zaw (Zg (Zk 0) (Zg (Ze Zr (Zb 0) (Zk 0)) Zn)))) (Zs (ZaU (Zc4 (ZdU (Zb 0) 1) (Zb 1)) (Zb6 3 4) (ZE 2 (ZA ZfX (Zg (Zb 2) (Zg (ZA Zhi (Zg (Zb 4) (Zg (Zb 3) Zn))) Zn))))) (ZG (Zb 2)))
noncomputable def Zlh:=Z7 2 Zlg
noncomputable def Zli: PS:=(Zt (ZF 2 (ZaC (Zf (Zj 0) (Zf (Zd Zq (Za 0) (Zj 0)) Zm)))) (Zt (ZaI (Zc5 (Zdz (Za 0) 1) (Za 1)) (Zcp 3 4) (ZF 2 (Zw Ze0 (Zf (Za 2) (Zf (Zw ZfU (Zf (Za 4) (Zf (Za 3) Zm))) Zm))))) (ZI (Za 2))))
noncomputable def ZhF:=Zad 2 Zli
theorem ZsK: SimF false Zlh ZhF:=Zaj (show S [] [] [] false Zlg Zli from(Zz (ZR (O':=[]) (E.tup (Zh (Zl _) (Zh (Zy Zx (Zc 0) (Zl _)) Zo)))) (Zz (Zbd (Gs.zip (Zix (Zc 0)) (Zc 1)) PutOk.two (by decide) (by decide) (ZR (O':=[]) (ZP Zku (Zh (Zc 2) (Zh (ZP ZnM (Zh (Zc 4) (Zh (Zc 3) Zo))) Zo))))) (ZV (Zc 2)))))
noncomputable def ZjM: Sm:=ZG (Ze Z3 (Za4 (Zg (Zaw (Zg (Zk 0) (Zg (Zk 0) Zn))) Zn)) (Zb 0))
noncomputable def ZeT:=Z7 1 ZjM
noncomputable def ZjN: PS:=(ZI (Zd ZX (ZaW (Zf (ZaC (Zf (Zj 0) (Zf (Zj 0) Zm))) Zm)) (Za 0)))
noncomputable def ZeU:=Zad 1 ZjN
theorem ZjO: SimF false ZeT ZeU:=Zaj (show S [] [] [] false ZjM ZjN from(ZV (ZU Zab (E.list (Zh (E.tup (Zh (Zl _) (Zh (Zl _) Zo))) Zo)) (Zc 0))))
noncomputable def Zjn: Sm:=Zs (ZE 3 (Ze Zr (Zb 1) (Zb 2))) (Zs (ZaU (ZiM (Zb 1)) (Zb6 4 5) (Z1 (ZaT (ZK (Ze Zcl (Zb 3) (ZY))) (ZaT (ZK (Ze oEq (ZA Zet (Zg (Ze Zr (Ze Zr (Zb 0) (Zb 2)) (Zb 4)) (Zg (Ze Zr (Ze Zr (Zb 0) (Zb 4)) (Zb 2)) Zn))) (Zk 0))) Zao)) (ZE 3 (ZA ZhD (Zg (Zb 3) (Zg (ZA ZfX (Zg (Zb 5) (Zg (Zaw (Zg (Zk 0) (Zg (Ze Zr (Ze Zr (Zb 0) (Zb 2)) (Zb 4)) Zn))) Zn))) Zn)))) Z6)) (ZG (Zb 3)))
noncomputable def ZfN:=Z7 3 Zjn
noncomputable def Zjo: PS:=(Zt (ZF 3 (Zd Zq (Za 1) (Za 2))) (Zt (ZaI (ZiN (Za 1)) (Zcp 4 5) (Z2 (ZaK (ZH (Zd Zb4 (Za 3) (Z0))) (ZaK (ZH (Zd qEq (Zw Zd5 (Zf (Zd Zq (Zd Zq (Za 0) (Za 2)) (Za 4)) (Zf (Zd Zq (Zd Zq (Za 0) (Za 4)) (Za 2)) Zm))) (Zj 0))) Zah)) (ZF 3 (Zw Zf6 (Zf (Za 3) (Zf (Zw Ze0 (Zf (Za 5) (Zf (ZaC (Zf (Zj 0) (Zf (Zd Zq (Zd Zq (Za 0) (Za 2)) (Za 4)) Zm))) Zm))) Zm)))) Z4)) (ZI (Za 3))))
noncomputable def Zes:=Zad 3 Zjo
theorem ZnF: SimF false ZfN Zes:=Zaj (show S [] [] [] false Zjn Zjo from(Zz (ZR (O':=[]) (Zy Zx (Zc 1) (Zc 2))) (Zz (Zbd (ZvL (Zc 1)) PutOk.two (by decide) (by decide) (Zae (Za3 (ZN (ZC ZcJ (Zc 3) (Zaa))) (Za3 (ZN (ZC Za1 (ZP Zf7 (Zh (Zy Zx (Zy Zx (Zc 0) (Zc 2)) (Zc 4)) (Zh (Zy Zx (Zy Zx (Zc 0) (Zc 4)) (Zc 2)) Zo))) (Zl _))) Zau)) (ZR (O':=[]) (ZP Zob (Zh (Zc 3) (Zh (ZP Zku (Zh (Zc 5) (Zh (E.tup (Zh (Zl _) (Zh (Zy Zx (Zy Zx (Zc 0) (Zc 2)) (Zc 4)) Zo))) Zo))) Zo)))) Zag)) (ZV (Zc 3)))))
noncomputable def ZfR: Sm:=Zs (Z1 (ZK (Ze oIs (Zb 0) (ZY))) (ZG (ZY)) Z6) (Zs (ZE 1 (ZA ZeT (Zg (Ze Zr (Zb 0) (Zk 1)) Zn))) (Zs (ZE 2 (Zar (ZaM (Zg (Zk 1) (Zg (ZA Zay (Zg (Zb 1) Zn)) Zn))) (Zak 100) Zao (ZA ZfN (Zg (Ze Zr (Zb 0) (Zk 0)) (Zg (Zb 1) (Zg (Zb 100) Zn)))))) (Zs (Z1 (ZK (Ze oIn (ZY) (Zb 2))) (ZG (ZY)) Z6) (ZG (Zaw (Zg (Ze Zr (Zb 0) (Zk 0)) (Zg (Zb 2) Zn)))))))
noncomputable def Zd3:=Z7 1 ZfR
noncomputable def ZfS: PS:=(Zt (Z2 (ZH (Zd qIs (Za 0) (Z0))) (ZI (Z0)) Z4) (Zt (ZF 1 (Zw ZeU (Zf (Zd Zq (Za 0) (Zj 1)) Zm))) (Zt (ZF 2 (Zam (ZaB (Zf (Zj 1) (Zf (Zw Zaq (Zf (Za 1) Zm)) Zm))) (Z5 100) Zah (Zw Zes (Zf (Zd Zq (Za 0) (Zj 0)) (Zf (Za 1) (Zf (Za 100) Zm)))))) (Zt (Z2 (ZH (Zd qIn (Z0) (Za 2))) (ZI (Z0)) Z4) (ZI (ZaC (Zf (Zd Zq (Za 0) (Zj 0)) (Zf (Za 2) Zm))))))))
noncomputable def ZdH:=Zad 1 ZfS
theorem ZrC: SimF false Zd3 ZdH:=Zaj (show S [] [] [] false ZfR ZfS from(Zz (Zae (ZN (ZC Zbv (Zc 0) (Zaa))) (ZV (Zaa)) Zag) (Zz (ZR (O':=[]) (ZP ZjO (Zh (Zy Zx (Zc 0) (Zl _)) Zo))) (Zz (ZR (O':=[]) (Zbx (Gs.range (Zh (Zl _) (Zh (Zat ZaJ (Zh (Zc 1) Zo)) Zo))) PutOk.one (by decide) Zau (ZP ZnF (Zh (Zy Zx (Zc 0) (Zl _)) (Zh (Zc 1) (Zh (Zc 100) Zo)))))) (Zz (Zae (ZN (ZC ZeP (Zaa) (Zc 2))) (ZV (Zaa)) Zag) (ZV (E.tup (Zh (Zy Zx (Zc 0) (Zl _)) (Zh (Zc 2) Zo)))))))))
noncomputable def ZiD: Sm:=Zs (Z1 (ZK (Ze oIs (Zb 0) (ZY))) (ZG (ZY)) Z6) (Zs (ZE 1 (ZA Zfe (Zg (Ze Zr (Zb 0) (Zk 0)) Zn))) (Zs (Z1 (ZK (Ze oIs (Zb 1) (ZY))) (ZG (ZY)) Z6) (ZG (Zaw (Zg (Zb 1) (Zg (Ze Zr (Zb 0) (Zk 1)) Zn))))))
noncomputable def Zee:=Z7 1 ZiD
noncomputable def ZiE: PS:=(Zt (Z2 (ZH (Zd qIs (Za 0) (Z0))) (ZI (Z0)) Z4) (Zt (ZF 1 (Zw Zgo (Zf (Zd Zq (Za 0) (Zj 0)) Zm))) (Zt (Z2 (ZH (Zd qIs (Za 1) (Z0))) (ZI (Z0)) Z4) (ZI (ZaC (Zf (Za 1) (Zf (Zd Zq (Za 0) (Zj 1)) Zm)))))))
noncomputable def Zef:=Zad 1 ZiE
noncomputable def Znd: Sm:=ZG (ZA Zd3 (Zg (ZA Zee (Zg (Zb 0) Zn)) Zn))
noncomputable def Zfw:=Z7 1 Znd
noncomputable def ZiF: PS:=(ZI (Zw ZdH (Zf (Zw Zef (Zf (Za 0) Zm)) Zm)))
noncomputable def Zgy: T→Bool
 | .none=>true
 | .tup [_,.lst ts]=>T.flats ts
 | _=>false
noncomputable def ZeE: List T→Option T:=fun ts=>(Zad 1 ZiF ts).bind fun t=>if Zgy t then some t else none
theorem Zqo(hp:0<H.length)(r:RF H a t F): St ⟨H,[],fun x=>x∈F⟩ [] (fun i=>[a][i]?) (fun i=>[t][i]?) H (fun _=>F):=by
 refine⟨fun i u e=>?_,fun i u e x m=>.inr m,fun i hi=>(nomatch hi),Nat.le_refl _,fun x _ _=>rfl,hp,by simp⟩
 cases i with
 | zero=>cases e;exact⟨a,rfl,r⟩
 | succ i=>simp at e
theorem ZpJ(e:ρ 0=some a)(r:RF H a t F)(ht:t≠.none): Z1 (ZK (Ze oIs (Zb 0) (ZY))) (ZG (ZY)) Z6 ρ H=some (none,ρ,H):=by
 cases r <;> first | exact absurd rfl ht | simp[Z1,ZK,Ze,Zb,e,ZY,oIs,ZcQ,Z6]
theorem ZpK(e:σ 0=some t)(ht:t≠.none): Z2 (ZH (Zd qIs (Za 0) (Z0))) (ZI (Z0)) Z4 σ=some (none,σ):=by
 cases t <;> first | exact absurd rfl ht | simp[Z2,ZH,Zd,Za,e,Z0,qIs,ZbW,Z4]
theorem ZpL(e:σ 0=some .none): Z2 (ZH (Zd qIs (Za 0) (Z0))) (ZI (Z0)) Z4 σ=some (some .none,σ):=by
 simp[Z2,ZH,Zd,Za,e,Z0,qIs,ZbW,ZI]
theorem Znx{a b:PS}{σ1:TL}(h:a σ=some (none,σ1)): Zt a b σ=b σ1:=by simp only[Zt,h,Option.bind_some]
theorem ZqP{a b:PS}{σ1:TL}(h:a σ=some (some t,σ1)): Zt a b σ=some (some t,σ1):=by simp only[Zt,h,Option.bind_some]
theorem ZeL{a b:Sm}{ρ1:Lc}{H1:Hp}(h:a ρ H=some (none,ρ1,H1)): Zs a b ρ H=b ρ1 H1:=by simp only[Zs,h,Option.bind_some]
theorem Zxy{a b:Sm}{ρ1:Lc}{H1:Hp}{v:V}(h:a ρ H=some (some v,ρ1,H1)): Zs a b ρ H=some (some v,ρ1,H1):=by simp only[Zs,h,Option.bind_some]
theorem ZsL{u:T}(hp:0<H.length)(r:RF H a t F)(h:Zef [t]=some u):
  (u=.none∧∃X,Zee [a] H=some (.none,H++X))∨∃w0 v1 u0 u1 X F0 F1,u=.tup [u0,u1]∧Zee [a] H=some (.tup [w0,v1],H++X)∧RF (H++X) w0 u0 F0∧F0.Nodup∧(∀x∈F0,H.length≤x)∧RF (H++X) v1 u1 F1:=by
 have st:=Zqo hp r
 unfold Zef Zad at h
 simp only[List.length_cons,List.length_nil,Nat.zero_add,if_true]at h
 obtain⟨r1,h,h0⟩:=Zz1.mp h
 unfold ZiE at h
 by_cases hn:t=.none
 ·subst hn
  rw[ZqP (ZpL rfl)]at h
  cases h
  cases h0
  cases r
  exact .inl ⟨rfl,[],by simp[Zee,Z7,ZiD,Zs,Z1,ZK,Ze,Zb,ZY,oIs,ZcQ,ZG]⟩
 ·rw[Znx (ZpK (σ:=fun i=>[t][i]?) rfl hn)]at h
  have ev:∀b:Sm,Zs (Z1 (ZK (Ze oIs (Zb 0) (ZY))) (ZG (ZY)) Z6) b (fun i=>[a][i]?) H=b (fun i=>[a][i]?) H:=fun b=>ZeL (ZpJ rfl r hn)
  obtain⟨r2,h1',h⟩:=Zz0.mp h
  obtain⟨u0,h1,e1⟩:=Zz1.mp h1'
  subst e1
  have x1:E [] [] true (ZA Zfe (Zg (Ze Zr (Zb 0) (Zk 0)) Zn)) (Zw Zgo (Zf (Zd Zq (Za 0) (Zj 0)) Zm)):=ZcS ZuJ (Zh (Zy Zx (Zc 0) (Zl _)) Zo)
  obtain⟨w0,X,F0,a1,a2,a3,a4⟩:=x1 _ _ _ _ _ _ st h1
  have new:∀x∈F0,H.length≤x:=fun x m=>(a3 x m).nil
  have e2:ZE 1 (ZA Zfe (Zg (Ze Zr (Zb 0) (Zk 0)) Zn)) (fun i=>[a][i]?) H=some (none,upd (fun i=>[a][i]?) 1 w0,H++X):=by simp only[ZE,a1,Option.map_some]
  simp only at h
  have ev2:∀b:Sm,Zs (ZE 1 (ZA Zfe (Zg (Ze Zr (Zb 0) (Zk 0)) Zn))) b (fun i=>[a][i]?) H=b (upd (fun i=>[a][i]?) 1 w0) (H++X):=fun b=>ZeL e2
  have fin:∀o,Zs (Z1 (ZK (Ze oIs (Zb 1) (ZY))) (ZG (ZY)) Z6) (ZG (Zaw (Zg (Zb 1) (Zg (Ze Zr (Zb 0) (Zk 1)) Zn)))) (upd (fun i=>[a][i]?) 1 w0) (H++X)=some o→Zee [a] H=some (o.1.getD .none,o.2.2):=fun o ho=>by
   unfold Zee Z7 ZiD
   simp only[List.length_cons,List.length_nil,Nat.zero_add,if_true]
   rw[ev,ev2,ho]
   rfl
  by_cases hu:u0=.none
  ·subst hu
   cases a2
   obtain⟨r3,h2,h⟩:=Zz0.mp h
   have:r3=(some .none,ZW (fun i=>[t][i]?) 1 .none):=by
    have:=h2
    simp[Z2,ZH,Zd,Za,ZW,Z0,qIs,ZbW,ZI]at this
    exact this.symm
   subst this
   cases h
   cases h0
   refine .inl ⟨rfl,X,fin (some .none,upd (fun i=>[a][i]?) 1 .none,H++X) ?_⟩
   exact Zxy (by simp[Z1,ZK,Ze,Zb,upd,ZY,oIs,ZcQ,ZG])
  ·have e3:Z1 (ZK (Ze oIs (Zb 1) (ZY))) (ZG (ZY)) Z6 (upd (fun i=>[a][i]?) 1 w0) (H++X)=some (none,upd (fun i=>[a][i]?) 1 w0,H++X):=by
    cases a2 <;> first | exact(hu rfl).elim | simp[Z1,ZK,Ze,Zb,upd,ZY,oIs,ZcQ,Z6]
   have e4:Z2 (ZH (Zd qIs (Za 1) (Z0))) (ZI (Z0)) Z4 (ZW (fun i=>[t][i]?) 1 u0)=some (none,ZW (fun i=>[t][i]?) 1 u0):=by
    cases u0 <;> first | exact(hu rfl).elim | simp[Z2,ZH,Zd,Za,ZW,Z0,qIs,ZbW,Z4]
   rw[Znx e4]at h
   obtain⟨u',h5,h6⟩:=Zz1.mp h
   subst h6
   obtain⟨us,h7,h8⟩:=Zz1.mp h5
   subst h8
   obtain⟨q0,g1,h9⟩:=Zz0.mp h7
   obtain⟨qs,g2,h10⟩:=Zz0.mp h9
   cases h10
   obtain⟨q1,g3,g6⟩:=Zz0.mp g2
   obtain⟨qs',g4,g7⟩:=Zz0.mp g6
   cases g7
   cases g4
   have eq0:q0=u0:=by
    have:ZW (fun i=>[t][i]?) 1 u0 1=some q0:=g1
    simp[ZW]at this
    exact this.symm
   subst eq0
   have g5:Zq t (.int 1)=some q1:=by
    have:=g3
    simpa [Zd,Za,ZW,Zj]using this
   obtain⟨v1,F1,b1,b2,b3⟩:=Zx _ _ _ _ _ _ _ _ (r.ext X) (RF.int (H:=H++X) 1) g5
   cases h0
   refine .inr ⟨w0,v1,q0,q1,X,F0,F1,rfl,fin (some (.tup [w0,v1]),upd (fun i=>[a][i]?) 1 w0,H++X) ?_,a2,a4 rfl,new,b2⟩
   rw[ZeL e3]
   simp[ZG,Zaw,Zg,Zb,upd,Ze,Zk,b1,Zn,Zbg]
theorem Zoz{put:T→TL→Option TL}{f:PE}{σ:TL}: ∀{ts us:List T},Zcq put Zah f σ ts=some us→T.flats us=true→Zcq put Zah (ZbE f) σ ts=some us
 | [],_,h,_=>h
 | t::ts,us,h,hf=>by
  obtain⟨σ1,h1,h⟩:=Zz0.mp h
  simp only[Zah,Option.bind_some,if_true]at h
  obtain⟨x,h2,h⟩:=Zz0.mp h
  obtain⟨xs,h3,h⟩:=Zz1.mp h
  subst h
  simp only[T.flats,Bool.and_eq_true]at hf
  simp only[Zcq,h1,Option.bind_some,Zah,if_true,ZbE,h2,hf.1,Zoz h3 hf.2,Option.map_some]
theorem Zoc{u:T}(hp:0<H.length)(r:RF H a t F)(h:ZdH [t]=some u)(ok:Zgy u=true):
  (u=.none∧∃X,Zd3 [a] H=some (.none,H++X))∨∃w0 w1 u0 u1 X F1,u=.tup [u0,u1]∧Zr a (.int 0) H=some (w0,H)∧Zq t (.int 0)=some u0∧Zd3 [a] H=some (.tup [w0,w1],H++X)∧RF (H++X) w1 u1 F1∧F1.Nodup∧(∀x∈F1,H.length≤x):=by
 have st:=Zqo hp r
 have hfull:=h
 unfold ZdH Zad at h
 simp only[List.length_cons,List.length_nil,Nat.zero_add,if_true]at h
 obtain⟨r1,h,h0⟩:=Zz1.mp h
 unfold ZfS at h
 by_cases hn:t=.none
 ·subst hn
  rw[ZqP (ZpL rfl)]at h
  cases h
  cases h0
  cases r
  exact .inl ⟨rfl,[],by simp[Zd3,Z7,ZfR,Zs,Z1,ZK,Ze,Zb,ZY,oIs,ZcQ,ZG]⟩
 ·rw[Znx (ZpK (σ:=fun i=>[t][i]?) rfl hn)]at h
  have ev:∀b:Sm,Zs (Z1 (ZK (Ze oIs (Zb 0) (ZY))) (ZG (ZY)) Z6) b (fun i=>[a][i]?) H=b (fun i=>[a][i]?) H:=fun b=>ZeL (ZpJ rfl r hn)
  obtain⟨r2,h1',h⟩:=Zz0.mp h
  obtain⟨t1,h1,e1⟩:=Zz1.mp h1'
  subst e1
  have x1:E [] ([0]++[]) false (ZA ZeT (Zg (Ze Zr (Zb 0) (Zk 1)) Zn)) (Zw ZeU (Zf (Zd Zq (Za 0) (Zj 1)) Zm)):=ZP ZjO (Zh (Zy Zx (Zc 0) (Zl _)) Zo)
  obtain⟨v1,X1,Fr,a1,a2,a3,_⟩:=x1 _ _ _ _ _ _ st h1
  have st1:=(st.ext X1).put (j:=1) (by simp) a2 (fun x m=>st.from_src (a3 x m)) (fun i hi=>(nomatch hi))
  have ev1:∀b:Sm,Zs (ZE 1 (ZA ZeT (Zg (Ze Zr (Zb 0) (Zk 1)) Zn))) b (fun i=>[a][i]?) H=b (upd (fun i=>[a][i]?) 1 v1) (H++X1):=fun b=>ZeL (by simp only[ZE,a1,Option.map_some])
  simp only at h
  obtain⟨r3,h2',h⟩:=Zz0.mp h
  obtain⟨t2,h2,e2⟩:=Zz1.mp h2'
  subst e2
  simp only at h
  generalize hσ:ZW (fun i=>[t][i]?) 1 t1=σ1 at *
  generalize hρ:upd (fun i=>[a][i]?) 1 v1=ρ1 at *
  have hρ0:ρ1 0=some a:=by rw[←hρ];simp[upd]
  have hσ0:σ1 0=some t:=by rw[←hσ];simp[ZW]
  have x2:∀ts,T.flats ts=true→Zam (ZaB (Zf (Zj 1) (Zf (Zw Zaq (Zf (Za 1) Zm)) Zm))) (Z5 100) Zah (Zw Zes (Zf (Zd Zq (Za 0) (Zj 0)) (Zf (Za 1) (Zf (Za 100) Zm)))) σ1=some (.lst ts)→∃w X G,Zar (ZaM (Zg (Zk 1) (Zg (ZA Zay (Zg (Zb 1) Zn)) Zn))) (Zak 100) Zao (ZA ZfN (Zg (Ze Zr (Zb 0) (Zk 0)) (Zg (Zb 1) (Zg (Zb 100) Zn)))) ρ1 (H++X1)=some (w,H++X1++X)∧RF (H++X1++X) w (.lst ts) G∧G.Nodup∧∀x∈G,(H++X1).length≤x:=fun ts hf he=>by
   have y:E [] [] true (Zar (ZaM (Zg (Zk 1) (Zg (ZA Zay (Zg (Zb 1) Zn)) Zn))) (Zak 100) Zao (ZA ZfN (Zg (Ze Zr (Zb 0) (Zk 0)) (Zg (Zb 1) (Zg (Zb 100) Zn))))) (Zam (ZaB (Zf (Zj 1) (Zf (Zw Zaq (Zf (Za 1) Zm)) Zm))) (Z5 100) Zah (ZbE (Zw Zes (Zf (Zd Zq (Za 0) (Zj 0)) (Zf (Za 1) (Zf (Za 100) Zm)))))):=Zcx (Gs.range (Zh (Zl _) (Zh (Zat ZaJ (Zh (Zc 1) Zo)) Zo))) PutOk.one (by decide) Zau (E.flat (ZP ZnF (Zh (Zy Zx (Zc 0) (Zl _)) (Zh (Zc 1) (Zh (Zc 100) Zo)))))
   have he2:Zam (ZaB (Zf (Zj 1) (Zf (Zw Zaq (Zf (Za 1) Zm)) Zm))) (Z5 100) Zah (ZbE (Zw Zes (Zf (Zd Zq (Za 0) (Zj 0)) (Zf (Za 1) (Zf (Za 100) Zm))))) σ1=some (.lst ts):=by
    obtain⟨zs,g1,g2⟩:=Zz0.mp he
    split at g2
    ·rename_i hl
     obtain⟨us,g3,g4⟩:=Zz1.mp g2
     cases g4
     simp only[Zam,g1,Option.bind_some]
     rw[if_pos hl,Zoz g3 hf]
     rfl
    ·cases g2
   obtain⟨w,X,G,b1,b2,b3,b4⟩:=y _ _ _ _ _ _ st1 he2
   exact⟨w,X,G,b1,b2,b4 rfl,fun x m=>(b3 x m).nil⟩
  obtain⟨ts,rfl⟩:∃ts,t2=.lst ts:=by
   obtain⟨zs,g1,g2⟩:=Zz0.mp h2
   split at g2
   ·obtain⟨us,g3,g4⟩:=Zz1.mp g2
    exact⟨us,g4.symm⟩
   ·cases g2
  by_cases hu:u=.none
  ·subst hu
   obtain⟨v,X,G,c1,c2,_⟩:=ZrC H [a] [t] .none F hp (RFs.one r) hfull
   cases c2
   exact .inl ⟨rfl,X,c1⟩
  ·obtain⟨r4,h3,h⟩:=Zz0.mp h
   obtain⟨b,h4,h5⟩:=Zz0.mp h3
   cases b with
   | true=>
    simp only[if_true]at h5
    cases h5
    cases h
    cases h0
    exact absurd rfl hu
   | false=>
    cases h5
    simp only at h
    obtain⟨u',h6,h7⟩:=Zz1.mp h
    subst h7
    obtain⟨us,h8,h9⟩:=Zz1.mp h6
    subst h9
    obtain⟨q0,g1,h10⟩:=Zz0.mp h8
    obtain⟨qs,g2,h11⟩:=Zz0.mp h10
    cases h11
    obtain⟨q1,g3,g6⟩:=Zz0.mp g2
    obtain⟨qs',g4,g7⟩:=Zz0.mp g6
    cases g7
    cases g4
    have eq1:q1=.lst ts:=by
     have:ZW σ1 2 (.lst ts) 2=some q1:=g3
     simp[ZW]at this
     exact this.symm
    subst eq1
    have g5:Zq t (.int 0)=some q0:=by
     have:=g1
     simpa [Zd,Za,ZW,Zj,hσ0]using this
    cases h0
    obtain⟨w,X,G,b1,b2,b3,b4⟩:=x2 ts ok h2
    obtain⟨w0,F0,i1,i2,i3⟩:=Zx _ _ _ _ _ _ _ _ r (RF.int (H:=H) 0) g5
    have st2:=(st1.ext X).put (j:=2) (by simp) b2 (fun x m=>.inl (by have:=b4 x m;simp at this;show H.length≤x;omega)) (fun i hi=>(nomatch hi))
    have bt:Bt [] (ZK (Ze oIn (ZY) (Zb 2))) (ZH (Zd qIn (Z0) (Za 2))):=ZN (ZC ZeP Zaa (Zc 2))
    obtain⟨Y,k1⟩:=bt _ _ _ _ _ _ st2 h4
    refine .inr ⟨w0,w,q0,.lst ts,X1++X++Y,G,rfl,i1,g5,?_,by rw[←List.append_assoc,←List.append_assoc];exact b2.ext Y,b3,fun x m=>by have:=b4 x m;simp at this;omega⟩
    unfold Zd3 Z7 ZfR
    simp only[List.length_cons,List.length_nil,Nat.zero_add,if_true]
    rw[ev,ev1,ZeL (ρ1:=upd ρ1 2 w) (H1:=H++X1++X) (by simp only[ZE,b1,Option.map_some]),ZeL (ρ1:=upd ρ1 2 w) (H1:=H++X1++X++Y) (by simp only[Z1,k1,Option.bind_some];rfl)]
    have hidx:=(ZlI i1 (X1++X++Y)).2
    have hr:(upd ρ1 2 w) 0=some a:=by simp[upd,hρ0]
    have h2w:(upd ρ1 2 w) 2=some w:=by simp[upd]
    simp only[←List.append_assoc]at hidx ⊢
    generalize H++X1++X++Y=K at *
    have e5:Zaw (Zg (Ze Zr (Zb 0) (Zk 0)) (Zg (Zb 2) Zn)) (upd ρ1 2 w) K=some (.tup [w0,w],K):=by
     simp only[Zaw,Zg,Ze,Zb,hr,h2w,Zk,Zn,Option.map_some,Option.bind_some,hidx]
     rw[if_pos (by rw[Zbg];simp)]
    simp only[ZG,e5,Option.map_some]
    rfl
theorem Zqp: SimF true Zfw ZeE:=fun H vs ts t F1 hp r h=>by
 obtain⟨t',h1,h2⟩:=Zz0.mp h
 by_cases ok:Zgy t'=true
 ·rw[if_pos ok]at h2
  cases h2
  unfold Zad at h1
  split at h1
  ·rename_i hl
   obtain⟨t0,rfl⟩:∃t0,ts=[t0]:=List.length_eq_one_iff.mp hl
   obtain⟨a,rfl,r0⟩:=r.one_inv
   obtain⟨r1,h3,h4⟩:=Zz1.mp h1
   obtain⟨u,h5,h6⟩:=Zz1.mp h3
   subst h6
   cases h4
   obtain⟨us,h7,h8⟩:=Zz0.mp h5
   obtain⟨q0,g1,h9⟩:=Zz0.mp h7
   obtain⟨qs,g2,h10⟩:=Zz0.mp h9
   cases h10
   cases g2
   have g3:Zef [t0]=some q0:=by
    have:=g1
    simpa [Zw,Zf,Za,Zm]using this
   have g4:ZdH [q0]=some u:=h8
   have run:∀v1 X1 v2 X2,Zee [a] H=some (v1,H++X1)→Zd3 [v1] (H++X1)=some (v2,H++X1++X2)→Zfw [a] H=some (v2,H++(X1++X2)):=fun v1 X1 v2 X2 e1 e2=>by
    simp[Zfw,Z7,Znd,ZG,ZA,Zg,Zb,Zn,e1,e2]
   rcases ZsL hp r0 g3 with⟨rfl,X,e1⟩ | ⟨w0,v1,u0,u1,X,F0,F2,rfl,e1,a1,a2,a3,a4⟩
   ·have hp2:0<(H++X).length:=by rw[List.length_append];omega
    rcases Zoc hp2 (.none (H:=H++X)) g4 ok with⟨rfl,Y,e2⟩ | ⟨_,_,_,_,_,_,_,e2,_⟩
    ·exact⟨.none,X++Y,[],run _ _ _ _ e1 e2,.none,by simp,by simp⟩
    ·cases e2
   ·have hp2:0<(H++X).length:=by rw[List.length_append];omega
    rcases Zoc hp2 (.tup (.cons a1 (.one a4))) g4 ok with⟨rfl,Y,e2⟩ | ⟨x0,w1,y0,y1,Y,F1',rfl,e3,e4,e2,b1,b2,b3⟩
    ·exact⟨.none,X++Y,[],run _ _ _ _ e1 e2,.none,by simp,by simp⟩
    ·have ex:x0=w0:=by
      have:Zr (.tup [w0,v1]) (.int 0) (H++X)=some (w0,H++X):=by simp[Zr,seqIndex?]
      rw[this]at e3
      cases e3
      rfl
     have ey:y0=u0:=by
      have:Zq (.tup [u0,u1]) (.int 0)=some u0:=by simp[Zq,seqIndex?]
      rw[this]at e4
      cases e4
      rfl
     subst ex ey
     have nd:(F0++F1').Nodup:=by
      rw[List.nodup_append]
      refine⟨a2,b2,fun x hx y hy e=>?_⟩
      have:=a1.lt x hx
      have:=b3 y hy
      omega
     have nw:∀x∈F0++F1',H.length≤x:=fun x m=>by
      rcases Zz8.mp m with m | m
      ·exact a3 x m
      ·have:=b3 x m;rw[List.length_append]at this;omega
     exact⟨.tup [x0,w1],X++Y,F0++F1',run _ _ _ _ e1 e2,by rw[←List.append_assoc];exact .tup (.cons (a1.ext Y) (.one b1)),fun x m=>.inl (nw x m),fun _=>⟨nd,nw⟩⟩
  ·cases h1
 ·rw[if_neg ok]at h2
  cases h2
noncomputable def Zja: Sm:=Zs (Z1 (ZK (Ze Zcl (Zb 0) (ZY))) (ZG (ZA Zj6 (Zg (Zb 1) (Zg (Zb 0) Zn)))) Z6) (Zs (Z1 (ZK (Ze oEq (Ze Zr (Zb 1) (Zk 0)) (Zk 0))) (ZG (Ze Zr (Zb 1) (Zk 1))) Z6) (ZG (ZY)))
noncomputable def Zjb:=Z7 2 Zja
noncomputable def Zjc: PS:=(Zt (Z2 (ZH (Zd Zb4 (Za 0) (Z0))) (ZI (Zw Zhj (Zf (Za 1) (Zf (Za 0) Zm)))) Z4) (Zt (Z2 (ZH (Zd qEq (Zd Zq (Za 1) (Zj 0)) (Zj 0))) (ZI (Zd Zq (Za 1) (Zj 1))) Z4) (ZI (Z0))))
noncomputable def Zg6:=Zad 2 Zjc
theorem Zq2: SimF false Zjb Zg6:=Zaj (show S [] [] [] false Zja Zjc from(Zz (Zae (ZN (ZC ZcJ (Zc 0) (Zaa))) (ZV (ZP ZrT (Zh (Zc 1) (Zh (Zc 0) Zo)))) Zag) (Zz (Zae (ZN (ZC Za1 (Zy Zx (Zc 1) (Zl _)) (Zl _))) (ZV (Zy Zx (Zc 1) (Zl _))) Zag) (ZV (Zaa)))))
noncomputable def ZjP: Sm:=Zs (ZE 3 (Za4 Zn)) (Zs (ZaU (Zc4 (Zb 0) (Zb 2)) (Zb6 4 5) (Zs (ZE 6 (ZA Zjb (Zg (Zb 4) (Zg (ZA ZfX (Zg (Zb 1) (Zg (ZA Zhi (Zg (Zb 5) (Zg (eUn ZdB (Zk 1)) Zn))) Zn))) Zn)))) (Zs (Z1 (ZaT (ZK (Ze oIs (Zb 6) (ZY))) (ZaT (ZK (Ze Zcl (Zb 4) (ZY))) Zao)) (ZG (ZY)) Z6) (Zcr (Zds (Zb 3) (Zb 6)))))) (ZG (Zb 3)))
noncomputable def ZjQ:=Z7 3 ZjP
noncomputable def ZjR: PS:=(Zt (ZF 3 (ZaW Zm)) (Zt (ZaI (Zc5 (Za 0) (Za 2)) (Zcp 4 5) (Zt (ZF 6 (Zw Zg6 (Zf (Za 4) (Zf (Zw Ze0 (Zf (Za 1) (Zf (Zw ZfU (Zf (Za 5) (Zf (pUn Zdp (Zj 1)) Zm))) Zm))) Zm)))) (Zt (Z2 (ZaK (ZH (Zd qIs (Za 6) (Z0))) (ZaK (ZH (Zd Zb4 (Za 4) (Z0))) Zah)) (ZI (Z0)) Z4) (ZcW 3 [] ZaS (ZbE (Za 6)))))) (ZI (Za 3))))
noncomputable def Zhf:=Zad 3 ZjR
theorem ZrD: SimF false ZjQ Zhf:=Zaj (show S [] [3] [] false ZjP ZjR from(Zz (ZbP (O':=[3]) (E.list Zo)) (Zz (Zbd (Gs.zip (Zc 0) (Zc 2)) PutOk.two (by decide) (by decide) (Zz (ZR (O':=[3]) (ZP Zq2 (Zh (Zc 4) (Zh (ZP Zku (Zh (Zc 1) (Zh (ZP ZnM (Zh (Zc 5) (Zh (Zej Zek (Zl _)) Zo))) Zo))) Zo)))) (Zz (Zae (Za3 (ZN (ZC Zbv (Zc 6) (Zaa))) (Za3 (ZN (ZC ZcJ (Zc 4) (Zaa))) Zau)) (ZV (Zaa)) Zag) (ZeJ (O':=[3]) (by decide) Zbr (ZaZ (O':=[]) (E.flat (Zc 6))) (by decide) (by decide))))) (ZV (Zc 3)))))
noncomputable def ZlR: Sm:=Zs (Z1 (ZK (Ze oIs (Zb 0) (ZY))) (ZG (ZY)) Z6) (Zs (ZE 1 (ZA ZeT (Zg (Ze Zr (Zb 0) (Zk 1)) Zn))) (Zs (ZE 2 (Zar (Zc4 (Ze Zr (Zb 0) (Zk 0)) (Zb 1)) (Zb6 100 101) Zao (ZA ZjQ (Zg (Zb 100) (Zg (Zb 101) (Zg (Zb 1) Zn)))))) (Zs (Z1 (ZK (Ze oIn (ZY) (Zb 2))) (ZG (ZY)) Z6) (ZG (Zaw (Zg (Zb 2) (Zg (Ze Zr (Zb 0) (Zk 1)) Zn)))))))
noncomputable def ZlS:=Z7 1 ZlR
noncomputable def ZhW: PS:=(Zt (Z2 (ZH (Zd qIs (Za 0) (Z0))) (ZI (Z0)) Z4) (Zt (ZF 1 (Zw ZeU (Zf (Zd Zq (Za 0) (Zj 1)) Zm))) (Zt (ZF 2 (Zam (Zc5 (Zd Zq (Za 0) (Zj 0)) (Za 1)) (Zcp 100 101) Zah (Zw Zhf (Zf (Za 100) (Zf (Za 101) (Zf (Za 1) Zm)))))) (Zt (Z2 (ZH (Zd qIn (Z0) (Za 2))) (ZI (Z0)) Z4) (ZI (ZaC (Zf (Za 2) (Zf (Zd Zq (Za 0) (Zj 1)) Zm))))))))
noncomputable def Ze8:=Zad 1 ZhW
theorem ZtI: SimF false ZlS Ze8:=Zaj (show S [] [] [] false ZlR ZhW from(Zz (Zae (ZN (ZC Zbv (Zc 0) (Zaa))) (ZV (Zaa)) Zag) (Zz (ZR (O':=[]) (ZP ZjO (Zh (Zy Zx (Zc 0) (Zl _)) Zo))) (Zz (ZR (O':=[]) (Zbx (Gs.zip (Zy Zx (Zc 0) (Zl _)) (Zc 1)) PutOk.two (by decide) Zau (ZP ZrD (Zh (Zc 100) (Zh (Zc 101) (Zh (Zc 1) Zo)))))) (Zz (Zae (ZN (ZC ZeP (Zaa) (Zc 2))) (ZV (Zaa)) Zag) (ZV (E.tup (Zh (Zc 2) (Zh (Zy Zx (Zc 0) (Zl _)) Zo)))))))))
noncomputable def ZmO: Sm:=ZG (ZA Zfw (Zg (ZA ZlS (Zg (ZA Zfw (Zg (Zb 0) Zn)) Zn)) Zn))
noncomputable def Zgz:=Z7 1 ZmO
noncomputable def Zio: PS:=(ZI (Zw ZeE (Zf (Zw Ze8 (Zf (Zw ZeE (Zf (Za 0) Zm)) Zm)) Zm)))
noncomputable def Zck:=Zad 1 Zio
theorem ZmP: SimF true Zgz Zck:=Zaj (show S [] [] [] true ZmO Zio from(ZbG (ZcS Zqp (Zh (ZP ZtI (Zh (ZP Zqp (Zh (Zc 0) Zo)) Zo)) Zo))))
noncomputable def ZiZ: Sm:=Zs (ZE 1 (ZA Zay (Zg (Zb 0) Zn))) (Zs (ZE 2 (Zar (Zbe (Zb 0)) (Zak 100) Zao (ZA ZcK (Zg (Zb 100) Zn)))) (Zs (ZE 3 (Zk 1)) (Zs (ZcZ (ZK (Ze oLt (Zb 3) (Zb 1))) (Zs (ZE 4 (Zar (Zbe (Zb 2)) (Zak 102) Zao (ZA ZcK (Zg (Zb 102) Zn)))) (Zs (ZaU (ZaM (Zg (Zb 1) Zn)) (Zak 5) (ZaU (ZaM (Zg (Zb 1) Zn)) (Zak 6) (ZaU (ZaM (Zg (Zb 1) Zn)) (Zak 7) (Z1 (ZaT (ZK (Ze Zcl (Ze Zr (Ze Zr (Zb 4) (Zb 5)) (Zb 7)) (ZY))) (ZaT (ZK (Ze Zcl (Ze Zr (Ze Zr (Zb 4) (Zb 7)) (Zb 6)) (ZY))) Zao)) (Zs (ZE 8 (Ze Z3 (Ze Zr (Ze Zr (Zb 4) (Zb 5)) (Zb 7)) (Ze Zr (Ze Zr (Zb 4) (Zb 7)) (Zb 6)))) (Z1 (tOr (ZK (Ze oIs (Ze Zr (Ze Zr (Zb 2) (Zb 5)) (Zb 6)) (ZY))) (tOr (ZK (Ze oLt (Zb 8) (Ze Zr (Ze Zr (Zb 2) (Zb 5)) (Zb 6)))) Zcd)) (Zbt (Zb 8) (Ze Zr (Zb 2) (Zb 5)) (Zb 6)) Z6)) Z6)))) (ZE 3 (Ze ZaO (Zk 2) (Zb 3))))) 1000000) (Zs (ZaU (ZaM (Zg (Zb 1) Zn)) (Zak 5) (Z1 (ZK (Ze oLt (Ze Zr (Ze Zr (Zb 2) (Zb 5)) (Zb 5)) (Zk 0))) (ZG (ZY)) Z6)) (ZG (Zb 2))))))
noncomputable def Zg2:=Z7 1 ZiZ
noncomputable def Zi0: PS:=(Zt (ZF 1 (Zw Zaq (Zf (Za 0) Zm))) (Zt (ZF 2 (Zam (ZaD (Za 0)) (Z5 100) Zah (pFl (Zw Zcm (Zf (Za 100) Zm))))) (Zt (ZF 3 (Zj 1)) (Zt (Zdi (ZH (Zd qLt (Za 3) (Za 1))) (Zt (ZF 4 (Zam (ZaD (Za 2)) (Z5 102) Zah (pFl (Zw Zcm (Zf (Za 102) Zm))))) (Zt (ZaI (ZaB (Zf (Za 1) Zm)) (Z5 5) (ZaI (ZaB (Zf (Za 1) Zm)) (Z5 6) (ZaI (ZaB (Zf (Za 1) Zm)) (Z5 7) (Z2 (ZaK (ZH (Zd Zb4 (Zd Zq (Zd Zq (Za 4) (Za 5)) (Za 7)) (Z0))) (ZaK (ZH (Zd Zb4 (Zd Zq (Zd Zq (Za 4) (Za 7)) (Za 6)) (Z0))) Zah)) (Zt (ZF 8 (Zd ZX (Zd Zq (Zd Zq (Za 4) (Za 5)) (Za 7)) (Zd Zq (Zd Zq (Za 4) (Za 7)) (Za 6)))) (Z2 (bOr (ZH (Zd qIs (Zd Zq (Zd Zq (Za 2) (Za 5)) (Za 6)) (Z0))) (bOr (ZH (Zd qLt (Za 8) (Zd Zq (Zd Zq (Za 2) (Za 5)) (Za 6)))) Zcf)) (Zbm 2 [] (ZbE (Za 8)) (Zcy ZaS (Za 5)) (Za 6)) Z4)) Z4)))) (ZF 3 (Zd Zaz (Zj 2) (Za 3))))) 1000000) (Zt (ZaI (ZaB (Zf (Za 1) Zm)) (Z5 5) (Z2 (ZH (Zd qLt (Zd Zq (Zd Zq (Za 2) (Za 5)) (Za 5)) (Zj 0))) (ZI (Z0)) Z4)) (ZI (Za 2)))))))
noncomputable def ZeR:=Zad 1 Zi0
theorem ZnB: SimF false Zg2 ZeR:=Zaj (show S [] [2] [] false ZiZ Zi0 from(Zz (ZR (O':=[]) (Zat ZaJ (Zh (Zc 0) Zo))) (Zz (ZbP (O':=[2]) (Zcx (Gs.seq (Zc 0)) PutOk.one (by decide) Zau (Zfj ZdN (Zh (Zc 100) Zo)))) (Zz (ZR (O':=[2]) (Zl _)) (Zz (Zfk (ZN (ZC Zcs (Zc 3) (Zc 1))) (Zz (ZR (O':=[2]) (ZaZ (O':=[]) (Zcx (Gs.seq (Zc 2)) PutOk.one (by decide) Zau (Zfj ZdN (Zh (Zc 102) Zo))))) (Zz (Zbd (Gs.range (Zh (Zc 1) Zo)) PutOk.one (by decide) (by decide) (Zbd (Gs.range (Zh (Zc 1) Zo)) PutOk.one (by decide) (by decide) (Zbd (Gs.range (Zh (Zc 1) Zo)) PutOk.one (by decide) (by decide) (Zae (Za3 (ZN (ZC ZcJ (Zy Zx (Zy Zx (Zc 4) (Zc 5)) (Zc 7)) (Zaa))) (Za3 (ZN (ZC ZcJ (Zy Zx (Zy Zx (Zc 4) (Zc 7)) (Zc 6)) (Zaa))) Zau)) (Zz (ZR (O':=[2]) (ZU Zab (Zy Zx (Zy Zx (Zc 4) (Zc 5)) (Zc 7)) (Zy Zx (Zy Zx (Zc 4) (Zc 7)) (Zc 6)))) (Zae (Zbc (ZN (ZC Zbv (Zy Zx (Zy Zx (Zc 2) (Zc 5)) (Zc 6)) (Zaa))) (Zbc (ZN (ZC Zcs (Zc 8) (Zy Zx (Zy Zx (Zc 2) (Zc 5)) (Zc 6)))) ZcG)) (S.put (O':=[2]) (by decide) (ZaZ (O':=[]) (E.flat (Zc 8))) (Zdh Zbr (Zc 5)) (Zc 6) (by decide) (by decide)) Zag)) Zag)))) (ZR (O':=[2]) (ZU Za0 (Zl _) (Zc 3))))) 1000000) (Zz (Zbd (Gs.range (Zh (Zc 1) Zo)) PutOk.one (by decide) (by decide) (Zae (ZN (ZC Zcs (Zy Zx (Zy Zx (Zc 2) (Zc 5)) (Zc 5)) (Zl _))) (ZV (Zaa)) Zag)) (ZV (Zc 2))))))))
noncomputable def ZlT: Sm:=Zs (ZE 2 (Ze Zr (Zb 0) (Zk 0))) (Zs (ZE 3 (Ze Zr (Zb 1) (Zk 0))) (Zs (ZE 4 (Zk 1)) (Zs (ZE 5 (Zk 0)) (Zs (ZcZ (ZK (Ze oNe (Zb 3) (Zk 0))) (Zs (ZE 6 (Ze oDiv (Zb 2) (Zb 3))) (Zs (ZE 7 (Ze Zba (Zb 2) (Ze ZaO (Zb 6) (Zb 3)))) (Zs (ZE 2 (Zb 3)) (Zs (ZE 3 (Zb 7)) (Zs (ZE 7 (Ze Zba (Zb 4) (Ze ZaO (Zb 6) (Zb 5)))) (Zs (ZE 4 (Zb 5)) (ZE 5 (Zb 7)))))))) 1000000) (Zs (ZE 8 (Ze Zba (Ze Zr (Zb 1) (Zk 1)) (Ze Zr (Zb 0) (Zk 1)))) (Zs (Z1 (ZK (Ze oEq (Zb 2) (Zk 0))) (Zs (Z1 (ZK (Ze oNe (Zb 8) (Zk 0))) (ZG (ZY)) Z6) (ZG (Zb 0))) Z6) (Zs (Z1 (ZK (Ze oNe (Ze oMod (Zb 8) (Zb 2)) (Zk 0))) (ZG (ZY)) Z6) (ZG (ZA Zd2 (Zg (Ze ZaO (Ze oDiv (Ze Zr (Zb 0) (Zk 0)) (Zb 2)) (Ze Zr (Zb 1) (Zk 0))) (Zg (Ze Z3 (Ze Zr (Zb 0) (Zk 1)) (Ze ZaO (Ze ZaO (Ze Zr (Zb 0) (Zk 0)) (Zb 4)) (Ze oDiv (Zb 8) (Zb 2)))) Zn)))))))))))
noncomputable def ZhX:=Z7 2 ZlT
noncomputable def ZlU: PS:=(Zt (ZF 2 (Zd Zq (Za 0) (Zj 0))) (Zt (ZF 3 (Zd Zq (Za 1) (Zj 0))) (Zt (ZF 4 (Zj 1)) (Zt (ZF 5 (Zj 0)) (Zt (Zdi (ZH (Zd qNe (Za 3) (Zj 0))) (Zt (ZF 6 (Zd ZcT (Za 2) (Za 3))) (Zt (ZF 7 (Zd Za5 (Za 2) (Zd Zaz (Za 6) (Za 3)))) (Zt (ZF 2 (Za 3)) (Zt (ZF 3 (Za 7)) (Zt (ZF 7 (Zd Za5 (Za 4) (Zd Zaz (Za 6) (Za 5)))) (Zt (ZF 4 (Za 5)) (ZF 5 (Za 7)))))))) 1000000) (Zt (ZF 8 (Zd Za5 (Zd Zq (Za 1) (Zj 1)) (Zd Zq (Za 0) (Zj 1)))) (Zt (Z2 (ZH (Zd qEq (Za 2) (Zj 0))) (Zt (Z2 (ZH (Zd qNe (Za 8) (Zj 0))) (ZI (Z0)) Z4) (ZI (Za 0))) Z4) (Zt (Z2 (ZH (Zd qNe (Zd Zbl (Za 8) (Za 2)) (Zj 0))) (ZI (Z0)) Z4) (ZI (Zw ZdG (Zf (Zd Zaz (Zd ZcT (Zd Zq (Za 0) (Zj 0)) (Za 2)) (Zd Zq (Za 1) (Zj 0))) (Zf (Zd ZX (Zd Zq (Za 0) (Zj 1)) (Zd Zaz (Zd Zaz (Zd Zq (Za 0) (Zj 0)) (Za 4)) (Zd ZcT (Za 8) (Za 2)))) Zm))))))))))))
noncomputable def Zgg:=Zad 2 ZlU
theorem ZoA: SimF false ZhX Zgg:=Zaj (show S [] [] [] false ZlT ZlU from(Zz (ZR (O':=[]) (Zy Zx (Zc 0) (Zl _))) (Zz (ZR (O':=[]) (Zy Zx (Zc 1) (Zl _))) (Zz (ZR (O':=[]) (Zl _)) (Zz (ZR (O':=[]) (Zl _)) (Zz (Zfk (ZN (ZC ZbM (Zc 3) (Zl _))) (Zz (ZR (O':=[]) (ZC ZdV (Zc 2) (Zc 3))) (Zz (ZR (O':=[]) (ZC Zbi (Zc 2) (ZU Za0 (Zc 6) (Zc 3)))) (Zz (ZR (O':=[]) (Zc 3)) (Zz (ZR (O':=[]) (Zc 7)) (Zz (ZR (O':=[]) (ZC Zbi (Zc 4) (ZU Za0 (Zc 6) (Zc 5)))) (Zz (ZR (O':=[]) (Zc 5)) (ZR (O':=[]) (Zc 7)))))))) 1000000) (Zz (ZR (O':=[]) (ZC Zbi (Zy Zx (Zc 1) (Zl _)) (Zy Zx (Zc 0) (Zl _)))) (Zz (Zae (ZN (ZC Za1 (Zc 2) (Zl _))) (Zz (Zae (ZN (ZC ZbM (Zc 8) (Zl _))) (ZV (Zaa)) Zag) (ZV (Zc 0))) Zag) (Zz (Zae (ZN (ZC ZbM (ZC ZbF (Zc 8) (Zc 2)) (Zl _))) (ZV (Zaa)) Zag) (ZV (ZP ZeS (Zh (ZU Za0 (ZC ZdV (Zy Zx (Zc 0) (Zl _)) (Zc 2)) (Zy Zx (Zc 1) (Zl _))) (Zh (ZU Zab (Zy Zx (Zc 0) (Zl _)) (ZU Za0 (ZU Za0 (Zy Zx (Zc 0) (Zl _)) (Zc 4)) (ZC ZdV (Zc 8) (Zc 2)))) Zo)))))))))))))
noncomputable def Zj8: Sm:=Zs (ZE 2 (Ze Z3 (Za4 (Zg (Zaw (Zg (Zk 0) (Zg (Zk 0) Zn))) Zn)) (Zb 1))) (Zs (ZE 3 (Ze Z3 (Za4 (Zg (Zaw (Zg (Zk 0) (Zg (Zk 0) Zn))) Zn)) (Zb 1))) (Zs (ZaU (ZaM (Zg (Zk 1) (Zg (ZA Zay (Zg (Zb 2) Zn)) Zn))) (Zak 4) (ZaU (ZaM (Zg (ZA Zay (Zg (Zb 2) Zn)) Zn)) (Zak 5) (Zs (ZE 6 (Ze Zr (Ze Zr (Zb 0) (Zb 4)) (Zb 5))) (Z1 (ZaT (ZK (Ze oNe (Zb 4) (Zb 5))) (ZaT (ZK (Ze Zcl (Zb 6) (ZY))) (ZaT (ZK (Ze oEq (Ze Zr (Ze Zr (Zb 0) (Zb 5)) (Zb 4)) (eUn ZdB (Zb 6)))) (ZaT (ZK (Ze Zcl (Ze Zr (Zb 3) (Zb 4)) (ZY))) Zao)))) (Zbt (ZA ZhX (Zg (Ze Zr (Zb 3) (Zb 4)) (Zg (ZA Zd2 (Zg (Ze Zr (Ze Zr (Zb 2) (Zb 5)) (Zk 0)) (Zg (Ze Z3 (Ze Zr (Ze Zr (Zb 2) (Zb 5)) (Zk 1)) (Zb 6)) Zn))) Zn))) (Zb 3) (Zb 4)) Z6)))) (Zs (Z1 (ZK (Ze oIn (ZY) (Zb 3))) (ZG (ZY)) Z6) (ZG (ZdU (Zb 3) 1)))))
noncomputable def Zhk:=Z7 2 Zj8
noncomputable def Zj9: PS:=(Zt (ZF 2 (Zd ZX (ZaW (Zf (ZaC (Zf (Zj 0) (Zf (Zj 0) Zm))) Zm)) (Za 1))) (Zt (ZF 3 (pFl (Zd ZX (ZaW (Zf (ZaC (Zf (Zj 0) (Zf (Zj 0) Zm))) Zm)) (Za 1)))) (Zt (ZaI (ZaB (Zf (Zj 1) (Zf (Zw Zaq (Zf (Za 2) Zm)) Zm))) (Z5 4) (ZaI (ZaB (Zf (Zw Zaq (Zf (Za 2) Zm)) Zm)) (Z5 5) (Zt (ZF 6 (Zd Zq (Zd Zq (Za 0) (Za 4)) (Za 5))) (Z2 (ZaK (ZH (Zd qNe (Za 4) (Za 5))) (ZaK (ZH (Zd Zb4 (Za 6) (Z0))) (ZaK (ZH (Zd qEq (Zd Zq (Zd Zq (Za 0) (Za 5)) (Za 4)) (pUn Zdp (Za 6)))) (ZaK (ZH (Zd Zb4 (Zd Zq (Za 3) (Za 4)) (Z0))) Zah)))) (Zbm 3 [] (ZbE (Zw Zgg (Zf (Zd Zq (Za 3) (Za 4)) (Zf (Zw ZdG (Zf (Zd Zq (Zd Zq (Za 2) (Za 5)) (Zj 0)) (Zf (Zd ZX (Zd Zq (Zd Zq (Za 2) (Za 5)) (Zj 1)) (Za 6)) Zm))) Zm)))) ZaS (Za 4)) Z4)))) (Zt (Z2 (ZH (Zd qIn (Z0) (Za 3))) (ZI (Z0)) Z4) (ZI (Zdz (Za 3) 1))))))
noncomputable def ZfV:=Zad 2 Zj9
theorem ZnN: SimF false Zhk ZfV:=Zaj (show S [] [3] [] false Zj8 Zj9 from(Zz (ZR (O':=[]) (ZU Zab (E.list (Zh (E.tup (Zh (Zl _) (Zh (Zl _) Zo))) Zo)) (Zc 1))) (Zz (ZbP (O':=[3]) (Zea Zab (E.list (Zh (E.tup (Zh (Zl _) (Zh (Zl _) Zo))) Zo)) (Zc 1))) (Zz (Zbd (Gs.range (Zh (Zl _) (Zh (Zat ZaJ (Zh (Zc 2) Zo)) Zo))) PutOk.one (by decide) (by decide) (Zbd (Gs.range (Zh (Zat ZaJ (Zh (Zc 2) Zo)) Zo)) PutOk.one (by decide) (by decide) (Zz (ZR (O':=[3]) (Zy Zx (Zy Zx (Zc 0) (Zc 4)) (Zc 5))) (Zae (Za3 (ZN (ZC ZbM (Zc 4) (Zc 5))) (Za3 (ZN (ZC ZcJ (Zc 6) (Zaa))) (Za3 (ZN (ZC Za1 (Zy Zx (Zy Zx (Zc 0) (Zc 5)) (Zc 4)) (Zej Zek (Zc 6)))) (Za3 (ZN (ZC ZcJ (Zy Zx (Zc 3) (Zc 4)) (Zaa))) Zau)))) (S.put (O':=[3]) (by decide) (ZaZ (O':=[]) (E.flat (ZP ZoA (Zh (Zy Zx (Zc 3) (Zc 4)) (Zh (ZP ZeS (Zh (Zy Zx (Zy Zx (Zc 2) (Zc 5)) (Zl _)) (Zh (ZU Zab (Zy Zx (Zy Zx (Zc 2) (Zc 5)) (Zl _)) (Zc 6)) Zo))) Zo))))) Zbr (Zc 4) (by decide) (by decide)) Zag)))) (Zz (Zae (ZN (ZC ZeP (Zaa) (Zc 3))) (ZV (Zaa)) Zag) (ZV (Zix (Zc 3))))))))
noncomputable def ZjS: Sm:=Zs (ZE 2 (Ze Z3 (Za4 (Zg (Zaw (Zg (Zk 0) (Zg (Zk 0) Zn))) Zn)) (Zb 1))) (Zs (ZE 3 (Zar (Zbe (Zb 0)) (Zak 100) Zao (ZA ZcK (Zg (Zb 100) Zn)))) (Zs (ZaU (ZaM (Zg (ZA Zay (Zg (Zb 2) Zn)) Zn)) (Zak 4) (ZaU (ZaM (Zg (ZA Zay (Zg (Zb 2) Zn)) Zn)) (Zak 5) (Zs (ZE 6 (ZA ZhT (Zg (Ze Zr (Ze Zr (Zb 2) (Zb 4)) (Zk 0)) (Zg (Ze Zr (Ze Zr (Zb 2) (Zb 5)) (Zk 0)) Zn)))) (Zs (ZE 7 (Ze Zba (Ze Zr (Ze Zr (Zb 2) (Zb 4)) (Zk 1)) (Ze Zr (Ze Zr (Zb 2) (Zb 5)) (Zk 1)))) (Zs (ZE 8 (Ze Zr (Ze Zr (Zb 0) (Zb 4)) (Zb 5))) (Z1 (ZaT (ZK (Ze oNe (Zb 4) (Zb 5))) (ZaT (ZK (Ze oEq (Zb 6) (Zk 0))) Zao)) (Zs (Z1 (ZaT (ZK (Ze Zcl (Zb 8) (ZY))) (ZaT (ZK (Ze oLt (Zb 8) (Zb 7))) Zao)) (ZG (ZY)) Z6) (Zbt (Zb 7) (Ze Zr (Zb 3) (Zb 4)) (Zb 5))) (Z1 (ZaT (ZK (Ze oNe (Zb 4) (Zb 5))) (ZaT (ZK (Ze Zcl (Zb 8) (ZY))) Zao)) (Zbt (Ze Zba (Zb 8) (Ze oMod (Ze Zba (Zb 8) (Zb 7)) (Zb 6))) (Ze Zr (Zb 3) (Zb 4)) (Zb 5)) Z6))))))) (ZG (Zb 3))))
noncomputable def ZjT:=Z7 2 ZjS
noncomputable def ZjU: PS:=(Zt (ZF 2 (Zd ZX (ZaW (Zf (ZaC (Zf (Zj 0) (Zf (Zj 0) Zm))) Zm)) (Za 1))) (Zt (ZF 3 (Zam (ZaD (Za 0)) (Z5 100) Zah (pFl (Zw Zcm (Zf (Za 100) Zm))))) (Zt (ZaI (ZaB (Zf (Zw Zaq (Zf (Za 2) Zm)) Zm)) (Z5 4) (ZaI (ZaB (Zf (Zw Zaq (Zf (Za 2) Zm)) Zm)) (Z5 5) (Zt (ZF 6 (Zw Zge (Zf (Zd Zq (Zd Zq (Za 2) (Za 4)) (Zj 0)) (Zf (Zd Zq (Zd Zq (Za 2) (Za 5)) (Zj 0)) Zm)))) (Zt (ZF 7 (Zd Za5 (Zd Zq (Zd Zq (Za 2) (Za 4)) (Zj 1)) (Zd Zq (Zd Zq (Za 2) (Za 5)) (Zj 1)))) (Zt (ZF 8 (Zd Zq (Zd Zq (Za 0) (Za 4)) (Za 5))) (Z2 (ZaK (ZH (Zd qNe (Za 4) (Za 5))) (ZaK (ZH (Zd qEq (Za 6) (Zj 0))) Zah)) (Zt (Z2 (ZaK (ZH (Zd Zb4 (Za 8) (Z0))) (ZaK (ZH (Zd qLt (Za 8) (Za 7))) Zah)) (ZI (Z0)) Z4) (Zbm 3 [] (ZbE (Za 7)) (Zcy ZaS (Za 4)) (Za 5))) (Z2 (ZaK (ZH (Zd qNe (Za 4) (Za 5))) (ZaK (ZH (Zd Zb4 (Za 8) (Z0))) Zah)) (Zbm 3 [] (Zd Za5 (Za 8) (Zd Zbl (Zd Za5 (Za 8) (Za 7)) (Za 6))) (Zcy ZaS (Za 4)) (Za 5)) Z4))))))) (ZI (Za 3)))))
noncomputable def Zhg:=Zad 2 ZjU
theorem ZrE: SimF false ZjT Zhg:=Zaj (show S [] [3] [] false ZjS ZjU from(Zz (ZR (O':=[]) (ZU Zab (E.list (Zh (E.tup (Zh (Zl _) (Zh (Zl _) Zo))) Zo)) (Zc 1))) (Zz (ZbP (O':=[3]) (Zcx (Gs.seq (Zc 0)) PutOk.one (by decide) Zau (Zfj ZdN (Zh (Zc 100) Zo)))) (Zz (Zbd (Gs.range (Zh (Zat ZaJ (Zh (Zc 2) Zo)) Zo)) PutOk.one (by decide) (by decide) (Zbd (Gs.range (Zh (Zat ZaJ (Zh (Zc 2) Zo)) Zo)) PutOk.one (by decide) (by decide) (Zz (ZR (O':=[3]) (ZP Zox (Zh (Zy Zx (Zy Zx (Zc 2) (Zc 4)) (Zl _)) (Zh (Zy Zx (Zy Zx (Zc 2) (Zc 5)) (Zl _)) Zo)))) (Zz (ZR (O':=[3]) (ZC Zbi (Zy Zx (Zy Zx (Zc 2) (Zc 4)) (Zl _)) (Zy Zx (Zy Zx (Zc 2) (Zc 5)) (Zl _)))) (Zz (ZR (O':=[3]) (Zy Zx (Zy Zx (Zc 0) (Zc 4)) (Zc 5))) (Zae (Za3 (ZN (ZC ZbM (Zc 4) (Zc 5))) (Za3 (ZN (ZC Za1 (Zc 6) (Zl _))) Zau)) (Zz (Zae (Za3 (ZN (ZC ZcJ (Zc 8) (Zaa))) (Za3 (ZN (ZC Zcs (Zc 8) (Zc 7))) Zau)) (ZV (Zaa)) Zag) (S.put (O':=[3]) (by decide) (ZaZ (O':=[]) (E.flat (Zc 7))) (Zdh Zbr (Zc 4)) (Zc 5) (by decide) (by decide))) (Zae (Za3 (ZN (ZC ZbM (Zc 4) (Zc 5))) (Za3 (ZN (ZC ZcJ (Zc 8) (Zaa))) Zau)) (S.put (O':=[3]) (by decide) (ZaZ (O':=[]) (ZC Zbi (Zc 8) (ZC ZbF (ZC Zbi (Zc 8) (Zc 7)) (Zc 6)))) (Zdh Zbr (Zc 4)) (Zc 5) (by decide) (by decide)) Zag))))))) (ZV (Zc 3))))))
noncomputable def ZkE: Sm:=Zs (Z1 (ZK (Ze oIs (Zb 0) (ZY))) (ZG (ZY)) Z6) (Zs (ZE 1 (ZA Zg2 (Zg (Ze Zr (Zb 0) (Zk 0)) Zn))) (Zs (Z1 (ZK (Ze oIs (Zb 1) (ZY))) (ZG (ZY)) Z6) (Zs (ZE 2 (ZA Zhk (Zg (Zb 1) (Zg (Ze Zr (Zb 0) (Zk 1)) Zn)))) (Zs (Z1 (ZK (Ze oIs (Zb 2) (ZY))) (ZG (ZY)) Z6) (Zs (ZE 1 (ZA ZjT (Zg (Zb 1) (Zg (Zb 2) Zn)))) (Zs (Z1 (ZK (Ze oIs (Zb 1) (ZY))) (ZG (ZY)) Z6) (Zs (ZE 1 (ZA Zg2 (Zg (Zb 1) Zn))) (Zs (Z1 (ZK (Ze oIs (Zb 1) (ZY))) (ZG (ZY)) Z6) (Zs (ZE 2 (ZA Zhk (Zg (Zb 1) (Zg (Zb 2) Zn)))) (Zs (Z1 (ZK (Ze oIs (Zb 2) (ZY))) (ZG (ZY)) Z6) (ZG (Zaw (Zg (Zb 1) (Zg (Zb 2) Zn))))))))))))))
noncomputable def Zf0:=Z7 1 ZkE
noncomputable def Zht: PS:=(Zt (Z2 (ZH (Zd qIs (Za 0) (Z0))) (ZI (Z0)) Z4) (Zt (ZF 1 (Zw ZeR (Zf (Zd Zq (Za 0) (Zj 0)) Zm))) (Zt (Z2 (ZH (Zd qIs (Za 1) (Z0))) (ZI (Z0)) Z4) (Zt (ZF 2 (Zw ZfV (Zf (Za 1) (Zf (Zd Zq (Za 0) (Zj 1)) Zm)))) (Zt (Z2 (ZH (Zd qIs (Za 2) (Z0))) (ZI (Z0)) Z4) (Zt (ZF 1 (Zw Zhg (Zf (Za 1) (Zf (Za 2) Zm)))) (Zt (Z2 (ZH (Zd qIs (Za 1) (Z0))) (ZI (Z0)) Z4) (Zt (ZF 1 (Zw ZeR (Zf (Za 1) Zm))) (Zt (Z2 (ZH (Zd qIs (Za 1) (Z0))) (ZI (Z0)) Z4) (Zt (ZF 2 (Zw ZfV (Zf (Za 1) (Zf (Za 2) Zm)))) (Zt (Z2 (ZH (Zd qIs (Za 2) (Z0))) (ZI (Z0)) Z4) (ZI (ZaC (Zf (Za 1) (Zf (Za 2) Zm)))))))))))))))
noncomputable def Zcu:=Zad 1 Zht
theorem ZkF: SimF false Zf0 Zcu:=Zaj (show S [] [] [] false ZkE Zht from(Zz (Zae (ZN (ZC Zbv (Zc 0) (Zaa))) (ZV (Zaa)) Zag) (Zz (ZR (O':=[]) (ZP ZnB (Zh (Zy Zx (Zc 0) (Zl _)) Zo))) (Zz (Zae (ZN (ZC Zbv (Zc 1) (Zaa))) (ZV (Zaa)) Zag) (Zz (ZR (O':=[]) (ZP ZnN (Zh (Zc 1) (Zh (Zy Zx (Zc 0) (Zl _)) Zo)))) (Zz (Zae (ZN (ZC Zbv (Zc 2) (Zaa))) (ZV (Zaa)) Zag) (Zz (ZR (O':=[]) (ZP ZrE (Zh (Zc 1) (Zh (Zc 2) Zo)))) (Zz (Zae (ZN (ZC Zbv (Zc 1) (Zaa))) (ZV (Zaa)) Zag) (Zz (ZR (O':=[]) (ZP ZnB (Zh (Zc 1) Zo))) (Zz (Zae (ZN (ZC Zbv (Zc 1) (Zaa))) (ZV (Zaa)) Zag) (Zz (ZR (O':=[]) (ZP ZnN (Zh (Zc 1) (Zh (Zc 2) Zo)))) (Zz (Zae (ZN (ZC Zbv (Zc 2) (Zaa))) (ZV (Zaa)) Zag) (ZV (E.tup (Zh (Zc 1) (Zh (Zc 2) Zo))))))))))))))))
noncomputable def ZkG: Sm:=Zs (Z1 (tOr (ZcM (ZK (eIs "tuple" (Zb 0)))) (tOr (ZK (Ze oNe (ZA Zay (Zg (Zb 0) Zn)) (Zk 2))) (tOr (ZcM (ZK (ZA Zle (Zg (Ze Zr (Zb 0) (Zk 0)) (Zg (Ze Z3 (Zb 1) (Zk 1)) Zn))))) Zcd))) (ZG (Zcg false)) Z6) (Zs (Z1 (tOr (ZcM (ZK (eIs "list" (Ze Zr (Zb 0) (Zk 1))))) (tOr (ZK (Ze oNe (ZA Zay (Zg (Ze Zr (Zb 0) (Zk 1)) Zn)) (Zb 1))) Zcd)) (ZG (Zcg false)) Z6) (Zs (ZaU (Zbe (Ze Zr (Zb 0) (Zk 1))) (Zak 2) (Zs (Z1 (tOr (ZcM (ZK (eIs "tuple" (Zb 2)))) (tOr (ZK (Ze oNe (ZA Zay (Zg (Zb 2) Zn)) (Zk 2))) Zcd)) (ZG (Zcg false)) Z6) (Zs (Z1 (tOr (ZcM (ZK (ZA ZfY (Zg (Ze Zr (Zb 2) (Zk 0)) Zn)))) (tOr (ZcM (ZK (ZA ZfY (Zg (Ze Zr (Zb 2) (Zk 1)) Zn)))) Zcd)) (ZG (Zcg false)) Z6) (Z1 (tOr (ZK (Ze oLt (Ze Zr (Zb 2) (Zk 0)) (Zk 0))) (tOr (ZaT (ZK (Ze oGt (Ze Zr (Zb 2) (Zk 0)) (Zk 0))) (ZaT (ZcM (ZgG oLe oLt (Zk 0) (Ze Zr (Zb 2) (Zk 1)) (Ze Zr (Zb 2) (Zk 0)))) Zao)) Zcd)) (ZG (Zcg false)) Z6)))) (ZG (Zcg true))))
noncomputable def ZkH:=Z7 2 ZkG
noncomputable def ZkI: PS:=(Zt (Z2 (bOr (ZcC (ZH (pIs "tuple" (Za 0)))) (bOr (ZH (Zd qNe (Zw Zaq (Zf (Za 0) Zm)) (Zj 2))) (bOr (ZcC (ZH (Zw ZhE (Zf (Zd Zq (Za 0) (Zj 0)) (Zf (Zd ZX (Za 1) (Zj 1)) Zm))))) Zcf))) (ZI (Zch false)) Z4) (Zt (Z2 (bOr (ZcC (ZH (pIs "list" (Zd Zq (Za 0) (Zj 1))))) (bOr (ZH (Zd qNe (Zw Zaq (Zf (Zd Zq (Za 0) (Zj 1)) Zm)) (Za 1))) Zcf)) (ZI (Zch false)) Z4) (Zt (ZaI (ZaD (Zd Zq (Za 0) (Zj 1))) (Z5 2) (Zt (Z2 (bOr (ZcC (ZH (pIs "tuple" (Za 2)))) (bOr (ZH (Zd qNe (Zw Zaq (Zf (Za 2) Zm)) (Zj 2))) Zcf)) (ZI (Zch false)) Z4) (Zt (Z2 (bOr (ZcC (ZH (Zw Ze1 (Zf (Zd Zq (Za 2) (Zj 0)) Zm)))) (bOr (ZcC (ZH (Zw Ze1 (Zf (Zd Zq (Za 2) (Zj 1)) Zm)))) Zcf)) (ZI (Zch false)) Z4) (Z2 (bOr (ZH (Zd qLt (Zd Zq (Za 2) (Zj 0)) (Zj 0))) (bOr (ZaK (ZH (Zd qGt (Zd Zq (Za 2) (Zj 0)) (Zj 0))) (ZaK (ZcC (ZgH qLe qLt (Zj 0) (Zd Zq (Za 2) (Zj 1)) (Zd Zq (Za 2) (Zj 0)))) Zah)) Zcf)) (ZI (Zch false)) Z4)))) (ZI (Zch true)))))
noncomputable def Zhu:=Zad 2 ZkI
theorem Zsj: SimF false ZkH Zhu:=Zaj (show S [] [] [] false ZkG ZkI from(Zz (Zae (Zbc (Zdg (ZN (ZdZ (Zc 0)))) (Zbc (ZN (ZC ZbM (Zat ZaJ (Zh (Zc 0) Zo)) (Zl _))) (Zbc (Zdg (ZN (ZP ZsJ (Zh (Zy Zx (Zc 0) (Zl _)) (Zh (ZU Zab (Zc 1) (Zl _)) Zo))))) ZcG))) (ZV (E.bool _)) Zag) (Zz (Zae (Zbc (Zdg (ZN (ZdZ (Zy Zx (Zc 0) (Zl _))))) (Zbc (ZN (ZC ZbM (Zat ZaJ (Zh (Zy Zx (Zc 0) (Zl _)) Zo)) (Zc 1))) ZcG)) (ZV (E.bool _)) Zag) (Zz (Zbd (Gs.seq (Zy Zx (Zc 0) (Zl _))) PutOk.one (by decide) (by decide) (Zz (Zae (Zbc (Zdg (ZN (ZdZ (Zc 2)))) (Zbc (ZN (ZC ZbM (Zat ZaJ (Zh (Zc 2) Zo)) (Zl _))) ZcG)) (ZV (E.bool _)) Zag) (Zz (Zae (Zbc (Zdg (ZN (ZP ZkA (Zh (Zy Zx (Zc 2) (Zl _)) Zo)))) (Zbc (Zdg (ZN (ZP ZkA (Zh (Zy Zx (Zc 2) (Zl _)) Zo)))) ZcG)) (ZV (E.bool _)) Zag) (Zae (Zbc (ZN (ZC Zcs (Zy Zx (Zc 2) (Zl _)) (Zl _))) (Zbc (Za3 (ZN (ZC ZfG (Zy Zx (Zc 2) (Zl _)) (Zl _))) (Za3 (Zdg (ZuA Znv Zcs (Zl _) (Zy Zx (Zc 2) (Zl _)) (Zy Zx (Zc 2) (Zl _)))) Zau)) ZcG)) (ZV (E.bool _)) Zag)))) (ZV (E.bool _))))))
noncomputable def Zlj: Sm:=Zs (Z1 (ZK (Ze oIs (Zb 1) (ZY))) (ZG (Ze oIs (Zb 0) (ZY))) Z6) (ZG (Zeo (ZA ZkH (Zg (Zb 0) (Zg (ZA Zay (Zg (Ze Zr (Zb 1) (Zk 1)) Zn)) Zn))) (Ze oEq (Zb 0) (Zb 1))))
noncomputable def Zlk:=Z7 2 Zlj
noncomputable def ZhG: PS:=(Zt (Z2 (ZH (Zd qIs (Za 1) (Z0))) (ZI (Zd qIs (Za 0) (Z0))) Z4) (ZI ((ZdY (Zw Zhu (Zf (Za 0) (Zf (Zw Zaq (Zf (Zd Zq (Za 1) (Zj 1)) Zm)) Zm))) (Zd qEq (Za 0) (Za 1))))))
noncomputable def Zd6:=Zad 2 ZhG
theorem ZsM: SimF false Zlk Zd6:=Zaj (show S [] [] [] false Zlj ZhG from(Zz (Zae (ZN (ZC Zbv (Zc 1) (Zaa))) (ZV (ZC Zbv (Zc 0) (Zaa))) Zag) (ZV ((ZiL (E.sh (ZP Zsj (Zh (Zc 0) (Zh (Zat ZaJ (Zh (Zy Zx (Zc 1) (Zl _)) Zo)) Zo)))) (E.sh (ZC Za1 (Zc 0) (Zc 1))))))))
noncomputable def ZmQ(F:List V→Hp→Option (V×Hp)): Sm:=Zs (Z1 (ZK (eIs "list" (Zb 0))) (ZG (Zar (Zbe (Zb 0)) (Zak 100) Zao (ZA F (Zg (Zb 100) Zn)))) Z6) (Zs (Z1 (ZK (eIs "tuple" (Zb 0))) (ZG (ZA Zfh (Zg (Zar (Zbe (Zb 0)) (Zak 102) Zao (ZA F (Zg (Zb 102) Zn))) Zn))) Z6) (ZG (Zb 0)))
noncomputable def Zff: Nat→List V→Hp→Option (V×Hp)
 | 0=>fun _ _=>none
 | n+1=>Z7 1 (ZmQ (Zff n))
noncomputable def ZmR: List V→Hp→Option (V×Hp):=Zff 9
noncomputable def Zfo(F:List T→Option T): PS:=(Zt (Z2 (ZH (pIs "list" (Za 0))) (ZI (Zam (ZaD (Za 0)) (Z5 100) Zah (Zw F (Zf (Za 100) Zm)))) Z4) (Zt (Z2 (ZH (pIs "tuple" (Za 0))) (ZI (Zw Zii (Zf (Zam (ZaD (Za 0)) (Z5 102) Zah (Zw F (Zf (Za 102) Zm))) Zm))) Z4) (ZI (ZbE (Za 0)))))
noncomputable def Zev: Nat→List T→Option T
 | 0=>fun _=>none
 | n+1=>Zad 1 (Zfo (Zev n))
noncomputable def ZmS: List T→Option T:=Zev 9
theorem Zmt: ∀n:Nat,SimF true (Zff n) (Zev n)
 | 0=>ZtD
 | n+1=>Zaj (show S [] [] [] true (ZmQ (Zff n)) (Zfo (Zev n))from(Zz (Zae (ZN (ZdZ (Zc 0))) (ZbG (Zcx (Gs.seq (Zc 0)) PutOk.one (by decide) Zau (ZcS (Zmt n) (Zh (Zc 100) Zo)))) Zag) (Zz (Zae (ZN (ZdZ (Zc 0))) (ZbG (ZvO ZuB (Zdb (Zcx (Gs.seq (Zc 0)) PutOk.one (by decide) Zau (ZcS (Zmt n) (Zh (Zc 102) Zo))) Zo (by decide) (by decide)))) Zag) (ZbG (E.flat (Zc 0))))))
theorem ZvS: SimF true ZmR ZmS:=Zmt 9
noncomputable def ZjV: Sm:=ZG (Zar (ZaM (Zg (Ze Z3 (Zb 1) (Zk 1)) Zn)) (Zak 100) Zao (eIf (ZK (Ze oEq (Zb 0) (Zb 100))) (Zk 0) (ZY)))
noncomputable def ZjW:=Z7 2 ZjV
noncomputable def ZjX: PS:=(ZI (Zam (ZaB (Zf (Zd ZX (Za 1) (Zj 1)) Zm)) (Z5 100) Zah (pIf (ZH (Zd qEq (Za 0) (Za 100))) (Zj 0) (Z0))))
noncomputable def ZfT:=Zad 2 ZjX
theorem ZrF: SimF true ZjW ZfT:=Zaj (show S [] [] [] true ZjV ZjX from(ZbG (Zcx (Gs.range (Zh (ZU Zab (Zc 1) (Zl _)) Zo)) PutOk.one (by decide) Zau (ZfB (ZN (ZC Za1 (Zc 0) (Zc 100))) (Zl _) (Zaa)))))
noncomputable def Zne: Sm:=ZG (Ze Z3 (Ze Z3 (Zdf (Zb 0) Zeh (Zei (Ze Zba (Zb 1) (Zk 1)))) (Za4 (Zg (Zb 2) Zn))) (Zdf (Zb 0) (Zei (Zb 1)) Zeh))
noncomputable def Znf:=Z7 3 Zne
noncomputable def Zhl: Sm:=Z1 (ZK (Ze Zcl (Zb 0) (ZY))) (Zs (Zbt (Zk 7) (Ze Zr (Ze Zr (Zb 0) (Zk 0)) (Zk 0)) (Zk 0)) (Zs (Zcr (Zds (Ze Zr (Zb 0) (Zk 0)) (Za4 (Zg (Zk 7) Zn)))) (Zcr (Zds (Ze Zr (Zb 0) (Zk 1)) (Zaw (Zg (Zk 7) (Zg (Zk 7) Zn))))))) Z6
noncomputable def Zka:=Z7 1 Zhl
noncomputable def Zkb: PS:=(Z2 (ZH (Zd Zb4 (Za 0) (Z0))) (Zt (Zbm 0 [] (Zj 7) (Zcy (Zcy ZaS (Zj 0)) (Zj 0)) (Zj 0)) (Zt (ZcW 0 [] (Zcy ZaS (Zj 0)) (ZaW (Zf (Zj 7) Zm))) (ZcW 0 [] (Zcy ZaS (Zj 1)) (ZaC (Zf (Zj 7) (Zf (Zj 7) Zm)))))) Z4)
noncomputable def ZeX:=ZfJ 1 Zkb
theorem ZrU: SimM Zka ZeX:=ZpG (show S [0] [0] [0] false Zhl Zkb from(Zae (ZN (ZC ZcJ (Zc 0) (Zaa))) (Zz (S.put (O':=[0]) (by decide) (ZaZ (O':=[]) (Zl _)) (Zdh (Zdh Zbr (Zl _)) (Zl _)) (Zl _) (by decide) (by decide)) (Zz (ZeJ (O':=[0]) (by decide) (Zdh Zbr (Zl _)) (ZaZ (O':=[]) (E.list (Zdb (Zl _) Zo (by decide) (by decide)))) (by decide) (by decide)) (ZeJ (O':=[0]) (by decide) (Zdh Zbr (Zl _)) (ZaZ (O':=[]) (E.tup (Zdb (Zl _) (Zdb (Zl _) Zo (by decide) (by decide)) (by decide) (by decide)))) (by decide) (by decide)))) Zag)) (by decide) (by unfold Zhl;repeat' first | exact Keep0.next | exact Zov | exact Keep0.ret | exact Keep0.put | apply Keep0.seq | apply Zow | exact Keep0.set (by decide))
noncomputable def ZlV: Sm:=Zs (ZE 2 (ZA Zay (Zg (Ze Zr (Zb 0) (Zk 1)) Zn))) (Zs (ZE 3 (Zar (Zbe (Ze Zr (Zb 0) (Zk 0))) (Zak 100) Zao (Ze Z3 (Zb 100) (Ze ZaO (Za4 (Zg (ZY) Zn)) (Zb 1))))) (Zs (ZE 4 (Zar (ZaM (Zg (Ze Z3 (Zb 2) (Zk 1)) (Zg (Ze Z3 (Ze Z3 (Zb 2) (Zb 1)) (Zk 1)) Zn))) (Zak 102) Zao (ZA ZjW (Zg (Zb 102) (Zg (Ze Z3 (Zb 2) (Zb 1)) Zn))))) (ZG (Zaw (Zg (Ze Z3 (Zb 3) (Zb 4)) (Zg (Ze Z3 (Ze Zr (Zb 0) (Zk 1)) (Ze ZaO (Za4 (Zg (Zaw (Zg (Zk 1) (Zg (Zk 0) Zn))) Zn)) (Zb 1))) Zn))))))
noncomputable def ZlW:=Z7 2 ZlV
noncomputable def ZlX: PS:=(Zt (ZF 2 (Zw Zaq (Zf (Zd Zq (Za 0) (Zj 1)) Zm))) (Zt (ZF 3 (Zam (ZaD (Zd Zq (Za 0) (Zj 0))) (Z5 100) Zah (pFl (Zd ZX (Za 100) (Zd Zaz (ZaW (Zf (Z0) Zm)) (Za 1)))))) (Zt (ZF 4 (Zam (ZaB (Zf (Zd ZX (Za 2) (Zj 1)) (Zf (Zd ZX (Zd ZX (Za 2) (Za 1)) (Zj 1)) Zm))) (Z5 102) Zah (Zw ZfT (Zf (Za 102) (Zf (Zd ZX (Za 2) (Za 1)) Zm))))) (ZI (ZaC (Zf (Zd ZX (Za 3) (Za 4)) (Zf (pFl (Zd ZX (Zd Zq (Za 0) (Zj 1)) (Zd Zaz (ZaW (Zf (ZaC (Zf (Zj 1) (Zf (Zj 0) Zm))) Zm)) (Za 1)))) Zm)))))))
noncomputable def Zgh:=Zad 2 ZlX
theorem ZtJ: SimF true ZlW Zgh:=Zaj (show S [] [3,4] [] true ZlV ZlX from(Zz (ZR (O':=[]) (Zat ZaJ (Zh (Zy Zx (Zc 0) (Zl _)) Zo))) (Zz (ZbP (O':=[3]) (Zcx (Gs.seq (Zy Zx (Zc 0) (Zl _))) PutOk.one (by decide) Zau (Zea Zab (Zc 100) (ZU Za0 (E.list (Zh (Zaa) Zo)) (Zc 1))))) (Zz (ZbP (O':=[3,4]) (ZaZ (O':=[]) (Zcx (Gs.range (Zh (ZU Zab (Zc 2) (Zl _)) (Zh (ZU Zab (ZU Zab (Zc 2) (Zc 1)) (Zl _)) Zo))) PutOk.one (by decide) Zau (ZcS ZrF (Zh (Zc 102) (Zh (ZU Zab (Zc 2) (Zc 1)) Zo)))))) (ZbG (E.tup (Zdb (Zqn (E.own (by decide)) (E.own (by decide)) (by decide) (by decide)) (Zdb (Zea Zab (Zy Zx (Zc 0) (Zl _)) (ZU Za0 (E.list (Zh (E.tup (Zh (Zl _) (Zh (Zl _) Zo))) Zo)) (Zc 1))) Zo (by decide) (by decide)) (by decide) (by decide))))))))
noncomputable def ZhH: Sm:=Zbt (ZA Zh5 (Zg (Ze Zr (Ze Zr (Zb 0) (Zb 1)) (Zb 2)) (Zg (Zb 3) Zn))) (Ze Zr (Zb 0) (Zb 1)) (Zb 2)
noncomputable def Zll:=Z7 4 ZhH
noncomputable def Zlm: PS:=(Zbm 0 [] (ZbE (Zw Zgn (Zf (Zd Zq (Zd Zq (Za 0) (Za 1)) (Za 2)) (Zf (Za 3) Zm)))) (Zcy ZaS (Za 1)) (Za 2))
noncomputable def ZhI:=ZfJ 4 Zlm
theorem ZsN: SimM Zll ZhI:=ZpG (show S [0] [0] [0] false ZhH Zlm from(S.put (O':=[0]) (by decide) (ZaZ (O':=[]) (E.flat (ZP Zo1 (Zh (Zy Zx (Zy Zx (Zc 0) (Zc 1)) (Zc 2)) (Zh (Zc 3) Zo))))) (Zdh Zbr (Zc 1)) (Zc 2) (by decide) (by decide))) (by decide) (by unfold ZhH;repeat' first | exact Keep0.next | exact Zov | exact Keep0.ret | exact Keep0.put | apply Keep0.seq | apply Zow | exact Keep0.set (by decide))
noncomputable def Zi1: Sm:=Zs (ZE 3 (ZA ZmR (Zg (Zb 0) Zn))) (Zs (ZaU (Zc4 (Zb 1) (Zb 2)) (Zb6 4 5) (ZaU (Zc4 (Zb 1) (Zb 5)) (Zb6 6 7) (Zcr (ZA Zll (Zg (Zb 3) (Zg (Zb 4) (Zg (Zb 6) (Zg (Zb 7) Zn)))))))) (ZG (Zb 3)))
noncomputable def Zi2:=Z7 3 Zi1
noncomputable def Zi3: PS:=(Zt (ZF 3 (Zw ZmS (Zf (Za 0) Zm))) (Zt (ZaI (Zc5 (Za 1) (Za 2)) (Zcp 4 5) (ZaI (Zc5 (Za 1) (Za 5)) (Zcp 6 7) (ZfK 3 ZhI (Zf (Za 4) (Zf (Za 6) (Zf (Za 7) Zm)))))) (ZI (Za 3))))
noncomputable def Zg3:=Zad 3 Zi3
theorem ZqT: SimF true Zi2 Zg3:=Zaj (show S [] [3] [] true Zi1 Zi3 from(Zz (ZbP (O':=[3]) (ZcS ZvS (Zh (Zc 0) Zo))) (Zz (Zbd (Gs.zip (Zc 1) (Zc 2)) PutOk.two (by decide) (by decide) (Zbd (Gs.zip (Zc 1) (Zc 5)) PutOk.two (by decide) (by decide) (Zql (O':=[3]) (by decide) ZsN (Zh (Zc 4) (Zh (Zc 6) (Zh (Zc 7) Zo))) (by decide) (by decide)))) (ZbG (E.own (by decide))))))
noncomputable def ZlY: Sm:=Zs (ZE 3 (ZA ZcK (Zg (Ze Zr (Zb 0) (Zk 1)) Zn))) (Zs (ZaU (Zc4 (Zb 1) (Ze Zr (Zb 2) (Zk 1))) (Zb6 4 5) (Zbt (ZA ZhD (Zg (Ze Zr (Zb 3) (Ze Zba (Zb 4) (Zk 1))) (Zg (Zb 5) Zn))) (Zb 3) (Ze Zba (Zb 4) (Zk 1)))) (Zs (Z1 (ZK (Ze oIn (ZY) (Zb 3))) (ZG (ZY)) Z6) (ZG (Zaw (Zg (ZA Zi2 (Zg (Ze Zr (Zb 0) (Zk 0)) (Zg (Ze Z3 (Za4 (Zg (Zk 0) Zn)) (Zb 1)) (Zg (Ze Zr (Zb 2) (Zk 0)) Zn)))) (Zg (Zb 3) Zn))))))
noncomputable def ZlZ:=Z7 3 ZlY
noncomputable def Zl0: PS:=(Zt (ZF 3 (pFl (Zw Zcm (Zf (Zd Zq (Za 0) (Zj 1)) Zm)))) (Zt (ZaI (Zc5 (Za 1) (Zd Zq (Za 2) (Zj 1))) (Zcp 4 5) (Zbm 3 [] (ZbE (Zw Zf6 (Zf (Zd Zq (Za 3) (Zd Za5 (Za 4) (Zj 1))) (Zf (Za 5) Zm)))) ZaS (Zd Za5 (Za 4) (Zj 1)))) (Zt (Z2 (ZH (Zd qIn (Z0) (Za 3))) (ZI (Z0)) Z4) (ZI (ZaC (Zf (Zw Zg3 (Zf (Zd Zq (Za 0) (Zj 0)) (Zf (Zd ZX (ZaW (Zf (Zj 0) Zm)) (Za 1)) (Zf (Zd Zq (Za 2) (Zj 0)) Zm)))) (Zf (Za 3) Zm)))))))
noncomputable def Ze9:=Zad 3 Zl0
theorem ZtK: SimF true ZlZ Ze9:=Zaj (show S [] [3] [] true ZlY Zl0 from(Zz (ZbP (O':=[3]) (Zfj ZdN (Zh (Zy Zx (Zc 0) (Zl _)) Zo))) (Zz (Zbd (Gs.zip (Zc 1) (Zy Zx (Zc 2) (Zl _))) PutOk.two (by decide) (by decide) (S.put (O':=[3]) (by decide) (ZaZ (O':=[]) (E.flat (ZP Zob (Zh (Zy Zx (Zc 3) (ZC Zbi (Zc 4) (Zl _))) (Zh (Zc 5) Zo))))) Zbr (ZC Zbi (Zc 4) (Zl _)) (by decide) (by decide))) (Zz (Zae (ZN (ZC ZeP (Zaa) (Zc 3))) (ZbG (Zaa)) Zag) (ZbG (E.tup (Zdb (ZcS ZqT (Zh (Zy Zx (Zc 0) (Zl _)) (Zh (ZU Zab (E.list (Zh (Zl _) Zo)) (Zc 1)) (Zh (Zy Zx (Zc 2) (Zl _)) Zo)))) (Zdb (E.own (by decide)) Zo (by decide) (by decide)) (by decide) (by decide))))))))
noncomputable def Zl1: Sm:=Zs (ZE 3 (Ze Z3 (Za4 (Zg (ZA Zd4 (Zg (Zb 0) (Zg (Zb 1) Zn))) Zn)) (Ze ZaO (Za4 (Zg (Zk 0) Zn)) (Zb 2)))) (Zs (ZE 4 (ZA ZbN (Zg (Zb 0) (Zg (Zb 1) (Zg (Zk 6) Zn))))) (Zs (Z1 (tOr (ZK (Ze oEq (Zb 4) (Zk 0))) (tOr (ZK (Ze oEq (Zb 2) (Zk 0))) Zcd)) (ZG (Zb 3)) Z6) (Zs (ZE 5 (Ze Z3 (Zk 1) (ZA ZbN (Zg (Zb 0) (Zg (Ze Z3 (Zb 1) (Zk 1)) (Zg (Zb 2) Zn)))))) (Zs (Z1 (ZK (Ze oEq (Zb 4) (Zk 1))) (Zbt (Ze Zba (ZA ZbN (Zg (Zb 0) (Zg (Ze Z3 (Zb 1) (Zk 2)) (Zg (Zk 13) Zn)))) (Zk 6)) (Zb 3) (Zb 5)) Z6) (Zs (Z1 (tOr (ZK (Ze oEq (Zb 4) (Zk 2))) (tOr (ZK (Ze oEq (Zb 4) (Zk 3))) Zcd)) (Zs (ZE 6 (Ze Z3 (Zk 1) (ZA ZbN (Zg (Zb 0) (Zg (Ze Z3 (Zb 1) (Zk 2)) (Zg (Zb 2) Zn)))))) (Zs (Zbt (Zk 1) (Zb 3) (Zb 5)) (Zbt (Ze Zba (Ze Zr (Zb 3) (Zb 6)) (Zk 1)) (Zb 3) (Zb 6)))) Z6) (Zs (Z1 (ZK (Ze oEq (Zb 4) (Zk 4))) (ZaU (ZaM (Zg (Zb 2) Zn)) (Zak 7) (Zbt (Ze Zba (ZA ZbN (Zg (Zb 0) (Zg (Ze Z3 (Ze Z3 (Zb 1) (Zk 1)) (Zb 7)) (Zg (Zk 7) Zn)))) (Zk 3)) (Zb 3) (Ze Z3 (Zb 7) (Zk 1)))) Z6) (Zs (Z1 (ZK (Ze oEq (Zb 4) (Zk 5))) (ZaU (ZaM (Zg (Zb 2) Zn)) (Zak 7) (Zbt (Ze Zba (ZA ZbN (Zg (Zb 0) (Zg (Ze Z3 (Ze Z3 (Zb 1) (Zk 1)) (Zb 7)) (Zg (Zk 2000000001) Zn)))) (Zk 1000000000)) (Zb 3) (Ze Z3 (Zb 7) (Zk 1)))) Z6) (ZG (Zb 3)))))))))
noncomputable def Zl2:=Z7 3 Zl1
noncomputable def Zl3: PS:=(Zt (ZF 3 (pFl (Zd ZX (ZaW (Zf (Zw ZdI (Zf (Za 0) (Zf (Za 1) Zm))) Zm)) (Zd Zaz (ZaW (Zf (Zj 0) Zm)) (Za 2))))) (Zt (ZF 4 (Zw ZbB (Zf (Za 0) (Zf (Za 1) (Zf (Zj 6) Zm))))) (Zt (Z2 (bOr (ZH (Zd qEq (Za 4) (Zj 0))) (bOr (ZH (Zd qEq (Za 2) (Zj 0))) Zcf)) (ZI (Za 3)) Z4) (Zt (ZF 5 (Zd ZX (Zj 1) (Zw ZbB (Zf (Za 0) (Zf (Zd ZX (Za 1) (Zj 1)) (Zf (Za 2) Zm)))))) (Zt (Z2 (ZH (Zd qEq (Za 4) (Zj 1))) (Zbm 3 [] (Zd Za5 (Zw ZbB (Zf (Za 0) (Zf (Zd ZX (Za 1) (Zj 2)) (Zf (Zj 13) Zm)))) (Zj 6)) ZaS (Za 5)) Z4) (Zt (Z2 (bOr (ZH (Zd qEq (Za 4) (Zj 2))) (bOr (ZH (Zd qEq (Za 4) (Zj 3))) Zcf)) (Zt (ZF 6 (Zd ZX (Zj 1) (Zw ZbB (Zf (Za 0) (Zf (Zd ZX (Za 1) (Zj 2)) (Zf (Za 2) Zm)))))) (Zt (Zbm 3 [] (Zj 1) ZaS (Za 5)) (Zbm 3 [] (Zd Za5 (Zd Zq (Za 3) (Za 6)) (Zj 1)) ZaS (Za 6)))) Z4) (Zt (Z2 (ZH (Zd qEq (Za 4) (Zj 4))) (ZaI (ZaB (Zf (Za 2) Zm)) (Z5 7) (Zbm 3 [] (Zd Za5 (Zw ZbB (Zf (Za 0) (Zf (Zd ZX (Zd ZX (Za 1) (Zj 1)) (Za 7)) (Zf (Zj 7) Zm)))) (Zj 3)) ZaS (Zd ZX (Za 7) (Zj 1)))) Z4) (Zt (Z2 (ZH (Zd qEq (Za 4) (Zj 5))) (ZaI (ZaB (Zf (Za 2) Zm)) (Z5 7) (Zbm 3 [] (Zd Za5 (Zw ZbB (Zf (Za 0) (Zf (Zd ZX (Zd ZX (Za 1) (Zj 1)) (Za 7)) (Zf (Zj 2000000001) Zm)))) (Zj 1000000000)) ZaS (Zd ZX (Za 7) (Zj 1)))) Z4) (ZI (Za 3))))))))))
noncomputable def ZhY:=Zad 3 Zl3
theorem ZtL: SimF true Zl2 ZhY:=Zaj (show S [] [3] [] true Zl1 Zl3 from(Zz (ZbP (O':=[3]) (Zea Zab (E.list (Zh (ZP ZeW (Zh (Zc 0) (Zh (Zc 1) Zo))) Zo)) (ZU Za0 (E.list (Zh (Zl _) Zo)) (Zc 2)))) (Zz (ZR (O':=[3]) (ZP Zb2 (Zh (Zc 0) (Zh (Zc 1) (Zh (Zl _) Zo))))) (Zz (Zae (Zbc (ZN (ZC Za1 (Zc 4) (Zl _))) (Zbc (ZN (ZC Za1 (Zc 2) (Zl _))) ZcG)) (ZbG (E.own (by decide))) Zag) (Zz (ZR (O':=[3]) (ZU Zab (Zl _) (ZP Zb2 (Zh (Zc 0) (Zh (ZU Zab (Zc 1) (Zl _)) (Zh (Zc 2) Zo)))))) (Zz (Zae (ZN (ZC Za1 (Zc 4) (Zl _))) (S.put (O':=[3]) (by decide) (ZaZ (O':=[]) (ZC Zbi (ZP Zb2 (Zh (Zc 0) (Zh (ZU Zab (Zc 1) (Zl _)) (Zh (Zl _) Zo)))) (Zl _))) Zbr (Zc 5) (by decide) (by decide)) Zag) (Zz (Zae (Zbc (ZN (ZC Za1 (Zc 4) (Zl _))) (Zbc (ZN (ZC Za1 (Zc 4) (Zl _))) ZcG)) (Zz (ZR (O':=[3]) (ZU Zab (Zl _) (ZP Zb2 (Zh (Zc 0) (Zh (ZU Zab (Zc 1) (Zl _)) (Zh (Zc 2) Zo)))))) (Zz (S.put (O':=[3]) (by decide) (ZaZ (O':=[]) (Zl _)) Zbr (Zc 5) (by decide) (by decide)) (S.put (O':=[3]) (by decide) (ZaZ (O':=[]) (ZC Zbi (Zy Zx (Zc 3) (Zc 6)) (Zl _))) Zbr (Zc 6) (by decide) (by decide)))) Zag) (Zz (Zae (ZN (ZC Za1 (Zc 4) (Zl _))) (Zbd (Gs.range (Zh (Zc 2) Zo)) PutOk.one (by decide) (by decide) (S.put (O':=[3]) (by decide) (ZaZ (O':=[]) (ZC Zbi (ZP Zb2 (Zh (Zc 0) (Zh (ZU Zab (ZU Zab (Zc 1) (Zl _)) (Zc 7)) (Zh (Zl _) Zo)))) (Zl _))) Zbr (ZU Zab (Zc 7) (Zl _)) (by decide) (by decide))) Zag) (Zz (Zae (ZN (ZC Za1 (Zc 4) (Zl _))) (Zbd (Gs.range (Zh (Zc 2) Zo)) PutOk.one (by decide) (by decide) (S.put (O':=[3]) (by decide) (ZaZ (O':=[]) (ZC Zbi (ZP Zb2 (Zh (Zc 0) (Zh (ZU Zab (ZU Zab (Zc 1) (Zl _)) (Zc 7)) (Zh (Zl _) Zo)))) (Zl _))) Zbr (ZU Zab (Zc 7) (Zl _)) (by decide) (by decide))) Zag) (ZbG (E.own (by decide))))))))))))
noncomputable def Zjp: Sm:=Zs (ZE 2 (Zar (ZaM (Zg (Zk 1) (Zg (ZA Zay (Zg (Zb 1) Zn)) Zn))) (Zak 100) (ZK (Ze oGt (Ze Zr (Zb 1) (Zb 100)) (Zk 0))) (Zb 100))) (Zs (ZE 3 (Zar (ZaM (Zg (Zk 1) (Zg (ZA Zay (Zg (Zb 1) Zn)) Zn))) (Zak 102) (ZK (Ze oLt (Ze Zr (Zb 1) (Zb 102)) (Zk 0))) (Zb 102))) (Zs (Z1 (ZaT (ZK (Ze oEq (ZA Zay (Zg (Zb 2) Zn)) (Zk 1))) (ZaT (ZK (Ze oEq (ZA Zay (Zg (Zb 3) Zn)) (Zk 1))) (ZaT (ZK (Ze oEq (Ze Zr (Zb 1) (Ze Zr (Zb 2) (Zk 0))) (Zk 1))) (ZaT (ZK (Ze oEq (Ze Zr (Zb 1) (Ze Zr (Zb 3) (Zk 0))) (eUn ZdB (Zk 1)))) Zao)))) (Zs (Z1 (ZK (Ze oIs (Ze Zr (Ze Zr (Ze Zr (Zb 0) (Zk 0)) (Ze Zr (Zb 2) (Zk 0))) (Ze Zr (Zb 3) (Zk 0))) (ZY))) (ZG (ZY)) Z6) (ZG (Ze Z3 (Ze Zr (Ze Zr (Ze Zr (Zb 0) (Zk 0)) (Ze Zr (Zb 2) (Zk 0))) (Ze Zr (Zb 3) (Zk 0))) (Ze Zr (Zb 1) (Zk 0))))) Z6) (Zs (ZE 4 (Ze Z3 (Zar (Zbe (Zb 2)) (Zak 104) Zao (Ze Zr (Ze Zr (Ze Zr (Zb 0) (Zk 0)) (Zb 104)) (Zk 0))) (Zar (Zbe (Zb 3)) (Zak 106) Zao (Ze Zr (Ze Zr (Ze Zr (Zb 0) (Zk 0)) (Zk 0)) (Zb 106))))) (Zs (Z1 (ZK (Ze oIn (ZY) (Zb 4))) (ZG (ZY)) Z6) (Zs (ZE 5 (Ze Zr (Zb 1) (Zk 0))) (Zs (ZaU (Zbe (Zb 2)) (Zak 6) (ZE 5 (Ze Z3 (Zb 5) (Ze ZaO (Ze Zr (Zb 1) (Zb 6)) (Ze Zr (Ze Zr (Ze Zr (Zb 0) (Zk 0)) (Zb 6)) (Zk 0)))))) (Zs (ZaU (Zbe (Zb 3)) (Zak 6) (ZE 5 (Ze Zba (Zb 5) (Ze ZaO (Ze Zr (Zb 1) (Zb 6)) (Ze Zr (Ze Zr (Ze Zr (Zb 0) (Zk 0)) (Zk 0)) (Zb 6)))))) (ZG (Zb 5)))))))))
noncomputable def Zjq:=Z7 2 Zjp
noncomputable def Zjr: PS:=(Zt (ZF 2 (Zam (ZaB (Zf (Zj 1) (Zf (Zw Zaq (Zf (Za 1) Zm)) Zm))) (Z5 100) (ZH (Zd qGt (Zd Zq (Za 1) (Za 100)) (Zj 0))) (Za 100))) (Zt (ZF 3 (Zam (ZaB (Zf (Zj 1) (Zf (Zw Zaq (Zf (Za 1) Zm)) Zm))) (Z5 102) (ZH (Zd qLt (Zd Zq (Za 1) (Za 102)) (Zj 0))) (Za 102))) (Zt (Z2 (ZaK (ZH (Zd qEq (Zw Zaq (Zf (Za 2) Zm)) (Zj 1))) (ZaK (ZH (Zd qEq (Zw Zaq (Zf (Za 3) Zm)) (Zj 1))) (ZaK (ZH (Zd qEq (Zd Zq (Za 1) (Zd Zq (Za 2) (Zj 0))) (Zj 1))) (ZaK (ZH (Zd qEq (Zd Zq (Za 1) (Zd Zq (Za 3) (Zj 0))) (pUn Zdp (Zj 1)))) Zah)))) (Zt (Z2 (ZH (Zd qIs (Zd Zq (Zd Zq (Zd Zq (Za 0) (Zj 0)) (Zd Zq (Za 2) (Zj 0))) (Zd Zq (Za 3) (Zj 0))) (Z0))) (ZI (Z0)) Z4) (ZI (Zd ZX (Zd Zq (Zd Zq (Zd Zq (Za 0) (Zj 0)) (Zd Zq (Za 2) (Zj 0))) (Zd Zq (Za 3) (Zj 0))) (Zd Zq (Za 1) (Zj 0))))) Z4) (Zt (ZF 4 (Zd ZX (Zam (ZaD (Za 2)) (Z5 104) Zah (Zd Zq (Zd Zq (Zd Zq (Za 0) (Zj 0)) (Za 104)) (Zj 0))) (Zam (ZaD (Za 3)) (Z5 106) Zah (Zd Zq (Zd Zq (Zd Zq (Za 0) (Zj 0)) (Zj 0)) (Za 106))))) (Zt (Z2 (ZH (Zd qIn (Z0) (Za 4))) (ZI (Z0)) Z4) (Zt (ZF 5 (Zd Zq (Za 1) (Zj 0))) (Zt (ZaI (ZaD (Za 2)) (Z5 6) (ZF 5 (Zd ZX (Za 5) (Zd Zaz (Zd Zq (Za 1) (Za 6)) (Zd Zq (Zd Zq (Zd Zq (Za 0) (Zj 0)) (Za 6)) (Zj 0)))))) (Zt (ZaI (ZaD (Za 3)) (Z5 6) (ZF 5 (Zd Za5 (Za 5) (Zd Zaz (Zd Zq (Za 1) (Za 6)) (Zd Zq (Zd Zq (Zd Zq (Za 0) (Zj 0)) (Zj 0)) (Za 6)))))) (ZI (Za 5))))))))))
noncomputable def Zha:=Zad 2 Zjr
theorem Zre: SimF false Zjq Zha:=Zaj (show S [] [] [] false Zjp Zjr from(Zz (ZR (O':=[]) (Zbx (Gs.range (Zh (Zl _) (Zh (Zat ZaJ (Zh (Zc 1) Zo)) Zo))) PutOk.one (by decide) (ZN (ZC ZfG (Zy Zx (Zc 1) (Zc 100)) (Zl _))) (Zc 100))) (Zz (ZR (O':=[]) (Zbx (Gs.range (Zh (Zl _) (Zh (Zat ZaJ (Zh (Zc 1) Zo)) Zo))) PutOk.one (by decide) (ZN (ZC Zcs (Zy Zx (Zc 1) (Zc 102)) (Zl _))) (Zc 102))) (Zz (Zae (Za3 (ZN (ZC Za1 (Zat ZaJ (Zh (Zc 2) Zo)) (Zl _))) (Za3 (ZN (ZC Za1 (Zat ZaJ (Zh (Zc 3) Zo)) (Zl _))) (Za3 (ZN (ZC Za1 (Zy Zx (Zc 1) (Zy Zx (Zc 2) (Zl _))) (Zl _))) (Za3 (ZN (ZC Za1 (Zy Zx (Zc 1) (Zy Zx (Zc 3) (Zl _))) (Zej Zek (Zl _)))) Zau)))) (Zz (Zae (ZN (ZC Zbv (Zy Zx (Zy Zx (Zy Zx (Zc 0) (Zl _)) (Zy Zx (Zc 2) (Zl _))) (Zy Zx (Zc 3) (Zl _))) (Zaa))) (ZV (Zaa)) Zag) (ZV (ZU Zab (Zy Zx (Zy Zx (Zy Zx (Zc 0) (Zl _)) (Zy Zx (Zc 2) (Zl _))) (Zy Zx (Zc 3) (Zl _))) (Zy Zx (Zc 1) (Zl _))))) Zag) (Zz (ZR (O':=[]) (ZU Zab (Zbx (Gs.seq (Zc 2)) PutOk.one (by decide) Zau (Zy Zx (Zy Zx (Zy Zx (Zc 0) (Zl _)) (Zc 104)) (Zl _))) (Zbx (Gs.seq (Zc 3)) PutOk.one (by decide) Zau (Zy Zx (Zy Zx (Zy Zx (Zc 0) (Zl _)) (Zl _)) (Zc 106))))) (Zz (Zae (ZN (ZC ZeP (Zaa) (Zc 4))) (ZV (Zaa)) Zag) (Zz (ZR (O':=[]) (Zy Zx (Zc 1) (Zl _))) (Zz (Zbd (Gs.seq (Zc 2)) PutOk.one (by decide) (by decide) (ZR (O':=[]) (ZU Zab (Zc 5) (ZU Za0 (Zy Zx (Zc 1) (Zc 6)) (Zy Zx (Zy Zx (Zy Zx (Zc 0) (Zl _)) (Zc 6)) (Zl _)))))) (Zz (Zbd (Gs.seq (Zc 3)) PutOk.one (by decide) (by decide) (ZR (O':=[]) (ZC Zbi (Zc 5) (ZU Za0 (Zy Zx (Zc 1) (Zc 6)) (Zy Zx (Zy Zx (Zy Zx (Zc 0) (Zl _)) (Zl _)) (Zc 6)))))) (ZV (Zc 5)))))))))))
noncomputable def Zjd: Sm:=ZG (Ze oEq (ZA Zgx (Zg (Zar (Zbe (ZdU (Zb 0) 1)) (Zak 100) (ZK (Ze oNe (Zb 100) (Zk 0))) (Zb 100)) Zn)) (Za4 (Zg (eUn ZdB (Zk 1)) (Zg (Zk 1) Zn))))
noncomputable def Zje:=Z7 1 Zjd
noncomputable def Zjf: PS:=(ZI (Zd qEq (Zw Zim (Zf (Zam (ZaD (Zdz (Za 0) 1)) (Z5 100) (ZH (Zd qNe (Za 100) (Zj 0))) (Za 100)) Zm)) (ZaW (Zf (pUn Zdp (Zj 1)) (Zf (Zj 1) Zm)))))
noncomputable def Zg7:=Zad 1 Zjf
theorem Zq3: SimF false Zje Zg7:=Zaj (show S [] [] [] false Zjd Zjf from(ZV (ZC Za1 (Zgv ZuD (Zh (Zbx (Gs.seq (Zix (Zc 0))) PutOk.one (by decide) (ZN (ZC ZbM (Zc 100) (Zl _))) (Zc 100)) Zo)) (E.list (Zh (Zej Zek (Zl _)) (Zh (Zl _) Zo))))))
noncomputable def Zjs: Sm:=Zs (ZE 1 (Ze Zr (Zb 0) (Zk 0))) (ZG (Zar (ZaM (Zg (Zk 1) (Zg (ZA Zay (Zg (Zb 1) Zn)) Zn))) (Zak 100) Zao (Zaw (Zg (ZA ZfZ (Zg (Ze Zr (Ze Zr (Zb 1) (Zk 0)) (Zb 100)) (Zg (eUn ZdB (Zk 1)) Zn))) (Zg (Ze Zr (Ze Zr (Zb 1) (Zb 100)) (Zk 0)) Zn)))))
noncomputable def Zjt:=Z7 1 Zjs
noncomputable def Zju: PS:=(Zt (ZF 1 (Zd Zq (Za 0) (Zj 0))) (ZI (Zam (ZaB (Zf (Zj 1) (Zf (Zw Zaq (Zf (Za 1) Zm)) Zm))) (Z5 100) Zah (ZaC (Zf (Zw Ze2 (Zf (Zd Zq (Zd Zq (Za 1) (Zj 0)) (Za 100)) (Zf (pUn Zdp (Zj 1)) Zm))) (Zf (Zd Zq (Zd Zq (Za 1) (Za 100)) (Zj 0)) Zm))))))
noncomputable def Zhb:=Zad 1 Zju
theorem Zrf: SimF false Zjt Zhb:=Zaj (show S [] [] [] false Zjs Zju from(Zz (ZR (O':=[]) (Zy Zx (Zc 0) (Zl _))) (ZV (Zbx (Gs.range (Zh (Zl _) (Zh (Zat ZaJ (Zh (Zc 1) Zo)) Zo))) PutOk.one (by decide) Zau (E.tup (Zh (ZP ZkD (Zh (Zy Zx (Zy Zx (Zc 1) (Zl _)) (Zc 100)) (Zh (Zej Zek (Zl _)) Zo))) (Zh (Zy Zx (Zy Zx (Zc 1) (Zc 100)) (Zl _)) Zo)))))))
noncomputable def Zln: Sm:=Zs (Z1 (ZK (ZA Zje (Zg (Zb 1) Zn))) (ZG (ZA Zet (Zg (Ze Zr (Ze Zr (Ze Zr (Zb 0) (Zk 0)) (ZgI (Zb 1) (Zk 1) (Zk 1))) (ZgI (Zb 1) (eUn ZdB (Zk 1)) (Zk 1))) (Zg (Ze Zr (Zb 1) (Zk 0)) Zn)))) Z6) (ZG (Ze Zr (ZA ZjK (Zg (Zb 1) (Zg (ZA Zjt (Zg (Zb 0) Zn)) Zn))) (Zk 1)))
noncomputable def Zlo:=Z7 2 Zln
noncomputable def Zlp: PS:=(Zt (Z2 (ZH (Zw Zg7 (Zf (Za 1) Zm))) (ZI (Zw Zd5 (Zf (Zd Zq (Zd Zq (Zd Zq (Za 0) (Zj 0)) (ZgJ (Za 1) (Zj 1) (Zj 1))) (ZgJ (Za 1) (pUn Zdp (Zj 1)) (Zj 1))) (Zf (Zd Zq (Za 1) (Zj 0)) Zm)))) Z4) (ZI (Zd Zq (Zw Zhe (Zf (Za 1) (Zf (Zw Zhb (Zf (Za 0) Zm)) Zm))) (Zj 1))))
noncomputable def ZhJ:=Zad 2 Zlp
theorem ZsO: SimF false Zlo ZhJ:=Zaj (show S [] [] [] false Zln Zlp from(Zz (Zae (ZN (ZP Zq3 (Zh (Zc 1) Zo))) (ZV (ZP Zf7 (Zh (Zy Zx (Zy Zx (Zy Zx (Zc 0) (Zl _)) (E.index (Zc 1) (Zl _) (Zl _))) (E.index (Zc 1) (Zej Zek (Zl _)) (Zl _))) (Zh (Zy Zx (Zc 1) (Zl _)) Zo)))) Zag) (ZV (Zy Zx (ZP ZrB (Zh (Zc 1) (Zh (ZP Zrf (Zh (Zc 0) Zo)) Zo))) (Zl _)))))
noncomputable def ZkJ: Sm:=ZG (Zar (Zbe (Zb 0)) (Zak 100) Zao (Ze ZaO (Zb 100) (Zb 1)))
noncomputable def ZkK:=Z7 2 ZkJ
noncomputable def ZkL: PS:=(ZI (Zam (ZaD (Za 0)) (Z5 100) Zah (Zd Zaz (Za 100) (Za 1))))
noncomputable def Zhv:=Zad 2 ZkL
theorem Zsk: SimF false ZkK Zhv:=Zaj (show S [] [] [] false ZkJ ZkL from(ZV (Zbx (Gs.seq (Zc 0)) PutOk.one (by decide) Zau (ZU Za0 (Zc 100) (Zc 1)))))
noncomputable def ZkM: Sm:=ZG (Ze Z3 (Ze Zr (Zb 0) (Zk 0)) (ZA ZgW (Zg (Zar (ZaM (Zg (ZA Zay (Zg (Zb 1) Zn)) Zn)) (Zak 100) Zao (Ze ZaO (Ze Zr (Zb 0) (Ze Z3 (Zb 100) (Zk 1))) (Ze Zr (Zb 1) (Zb 100)))) Zn)))
noncomputable def ZkN:=Z7 2 ZkM
noncomputable def ZkO: PS:=(ZI (Zd ZX (Zd Zq (Za 0) (Zj 0)) (Zw ZiY (Zf (Zam (ZaB (Zf (Zw Zaq (Zf (Za 1) Zm)) Zm)) (Z5 100) Zah (Zd Zaz (Zd Zq (Za 0) (Zd ZX (Za 100) (Zj 1))) (Zd Zq (Za 1) (Za 100)))) Zm))))
noncomputable def Zhw:=Zad 2 ZkO
theorem Zsl: SimF false ZkN Zhw:=Zaj (show S [] [] [] false ZkM ZkO from(ZV (ZU Zab (Zy Zx (Zc 0) (Zl _)) (Zat Zxk (Zh (Zbx (Gs.range (Zh (Zat ZaJ (Zh (Zc 1) Zo)) Zo)) PutOk.one (by decide) Zau (ZU Za0 (Zy Zx (Zc 0) (ZU Zab (Zc 100) (Zl _))) (Zy Zx (Zc 1) (Zc 100)))) Zo)))))
noncomputable def Zlq: Sm:=ZG (Zar (Zc4 (Zb 0) (Zb 1)) (Zb6 100 101) Zao (Ze Z3 (Zb 100) (Zb 101)))
noncomputable def Zlr:=Z7 2 Zlq
noncomputable def Zls: PS:=(ZI (Zam (Zc5 (Za 0) (Za 1)) (Zcp 100 101) Zah (Zd ZX (Za 100) (Za 101))))
noncomputable def ZhK:=Zad 2 Zls
theorem ZsP: SimF false Zlr ZhK:=Zaj (show S [] [] [] false Zlq Zls from(ZV (Zbx (Gs.zip (Zc 0) (Zc 1)) PutOk.two (by decide) Zau (ZU Zab (Zc 100) (Zc 101)))))
noncomputable def Zlt: Sm:=ZG (ZA Zlr (Zg (Zb 0) (Zg (ZA ZkK (Zg (Zb 1) (Zg (eUn ZdB (Zk 1)) Zn))) Zn)))
noncomputable def Zlu:=Z7 2 Zlt
noncomputable def Zlv: PS:=(ZI (Zw ZhK (Zf (Za 0) (Zf (Zw Zhv (Zf (Za 1) (Zf (pUn Zdp (Zj 1)) Zm))) Zm))))
noncomputable def ZhL:=Zad 2 Zlv
theorem ZsQ: SimF false Zlu ZhL:=Zaj (show S [] [] [] false Zlt Zlv from(ZV (ZP ZsP (Zh (Zc 0) (Zh (ZP Zsk (Zh (Zc 1) (Zh (Zej Zek (Zl _)) Zo))) Zo)))))
noncomputable def Zkc: Sm:=ZG (Zar (Zbe (Zb 2)) (Zak 100) Zao (ZA Zlo (Zg (Zb 0) (Zg (ZA Zlu (Zg (Zb 1) (Zg (Zb 100) Zn))) Zn))))
noncomputable def Zkd:=Z7 3 Zkc
noncomputable def Zke: PS:=(ZI (Zam (ZaD (Za 2)) (Z5 100) Zah (Zw ZhJ (Zf (Za 0) (Zf (Zw ZhL (Zf (Za 1) (Zf (Za 100) Zm))) Zm)))))
noncomputable def Zhm:=Zad 3 Zke
theorem ZrV: SimF false Zkd Zhm:=Zaj (show S [] [] [] false Zkc Zke from(ZV (Zbx (Gs.seq (Zc 2)) PutOk.one (by decide) Zau (ZP ZsO (Zh (Zc 0) (Zh (ZP ZsQ (Zh (Zc 1) (Zh (Zc 100) Zo))) Zo))))))
noncomputable def Zl4: Sm:=ZG (Zar (ZaM (Zg (Ze Z3 (Zb 1) (Zk 1)) Zn)) (Zak 100) Zao (eIf (ZaT (ZK (Ze oGt (Zb 0) (Zk 0))) (ZaT (ZK (Ze oEq (Zb 100) (Zb 0))) Zao)) (Zk 1) (Zk 0)))
noncomputable def Zgi:=Z7 2 Zl4
noncomputable def Zl5: PS:=(ZI (Zam (ZaB (Zf (Zd ZX (Za 1) (Zj 1)) Zm)) (Z5 100) Zah (pIf (ZaK (ZH (Zd qGt (Za 0) (Zj 0))) (ZaK (ZH (Zd qEq (Za 100) (Za 0))) Zah)) (Zj 1) (Zj 0))))
noncomputable def Zeu:=Zad 2 Zl5
theorem Zl6: SimF false Zgi Zeu:=Zaj (show S [] [] [] false Zl4 Zl5 from(ZV (Zbx (Gs.range (Zh (ZU Zab (Zc 1) (Zl _)) Zo)) PutOk.one (by decide) Zau (ZfB (Za3 (ZN (ZC ZfG (Zc 0) (Zl _))) (Za3 (ZN (ZC Za1 (Zc 100) (Zc 0))) Zau)) (E.sh (Zl _)) (E.sh (Zl _))))))
noncomputable def Zmu: Sm:=Zs (Z1 (ZK (Ze oIs (Zb 0) (ZY))) (ZG (ZY)) Z6) (Zs (ZE 2 (Ze Z3 (Za4 (Zg (ZA Zgi (Zg (Zk 0) (Zg (ZA Zay (Zg (Ze Zr (Zb 0) (Zk 1)) Zn)) Zn))) Zn)) (Zb 1))) (Zs (ZE 3 (Zar (Zbe (Zb 2)) (Zak 100) Zao (ZA Zkd (Zg (Zb 0) (Zg (Zb 100) (Zg (Zb 2) Zn)))))) (Zs (ZE 4 (Zar (Zbe (Zb 1)) (Zak 102) Zao (ZA Zlh (Zg (Zb 102) (Zg (Ze Zr (Zb 0) (Zk 1)) Zn))))) (ZG (ZA Zgz (Zg (Zaw (Zg (Zb 3) (Zg (Zb 4) Zn))) Zn))))))
noncomputable def Zh6:=Z7 2 Zmu
noncomputable def Zh7: PS:=(Zt (Z2 (ZH (Zd qIs (Za 0) (Z0))) (ZI (Z0)) Z4) (Zt (ZF 2 (Zd ZX (ZaW (Zf (Zw Zeu (Zf (Zj 0) (Zf (Zw Zaq (Zf (Zd Zq (Za 0) (Zj 1)) Zm)) Zm))) Zm)) (Za 1))) (Zt (ZF 3 (Zam (ZaD (Za 2)) (Z5 100) Zah (Zw Zhm (Zf (Za 0) (Zf (Za 100) (Zf (Za 2) Zm)))))) (Zt (ZF 4 (Zam (ZaD (Za 1)) (Z5 102) Zah (Zw ZhF (Zf (Za 102) (Zf (Zd Zq (Za 0) (Zj 1)) Zm))))) (ZI (Zw Zck (Zf (ZaC (Zf (Za 3) (Zf (Za 4) Zm))) Zm)))))))
noncomputable def ZcH:=Zad 2 Zh7
theorem Zo2: SimF true Zh6 ZcH:=Zaj (show S [] [] [] true Zmu Zh7 from(Zz (Zae (ZN (ZC Zbv (Zc 0) (Zaa))) (ZbG (Zaa)) Zag) (Zz (ZR (O':=[]) (ZU Zab (E.list (Zh (ZP Zl6 (Zh (Zl _) (Zh (Zat ZaJ (Zh (Zy Zx (Zc 0) (Zl _)) Zo)) Zo))) Zo)) (Zc 1))) (Zz (ZR (O':=[]) (Zbx (Gs.seq (Zc 2)) PutOk.one (by decide) Zau (ZP ZrV (Zh (Zc 0) (Zh (Zc 100) (Zh (Zc 2) Zo)))))) (Zz (ZR (O':=[]) (Zbx (Gs.seq (Zc 1)) PutOk.one (by decide) Zau (ZP ZsK (Zh (Zc 102) (Zh (Zy Zx (Zc 0) (Zl _)) Zo))))) (ZbG (ZcS ZmP (Zh (E.tup (Zh (Zc 3) (Zh (Zc 4) Zo))) Zo))))))))
noncomputable def Zjv: Sm:=Zs (ZE 2 (Zk 0)) (Zs (ZE 3 (Ze Zr (Zb 0) (Zk 0))) (Zs (ZaU (ZaM (Zg (ZA Zay (Zg (Zb 1) Zn)) Zn)) (Zak 4) (Zs (ZE 2 (ZA ZhT (Zg (Zb 2) (Zg (Ze ZaO (Ze Zr (Zb 0) (Ze Z3 (Zb 4) (Zk 1))) (Ze Zr (Ze Zr (Zb 1) (Zb 4)) (Zk 0))) Zn)))) (ZE 3 (Ze Z3 (Zb 3) (Ze ZaO (Ze Zr (Zb 0) (Ze Z3 (Zb 4) (Zk 1))) (Ze Zr (Ze Zr (Zb 1) (Zb 4)) (Zk 1))))))) (ZG (ZA Zd2 (Zg (Zb 2) (Zg (Zb 3) Zn))))))
noncomputable def Zjw:=Z7 2 Zjv
noncomputable def Zjx: PS:=(Zt (ZF 2 (Zj 0)) (Zt (ZF 3 (Zd Zq (Za 0) (Zj 0))) (Zt (ZaI (ZaB (Zf (Zw Zaq (Zf (Za 1) Zm)) Zm)) (Z5 4) (Zt (ZF 2 (Zw Zge (Zf (Za 2) (Zf (Zd Zaz (Zd Zq (Za 0) (Zd ZX (Za 4) (Zj 1))) (Zd Zq (Zd Zq (Za 1) (Za 4)) (Zj 0))) Zm)))) (ZF 3 (Zd ZX (Za 3) (Zd Zaz (Zd Zq (Za 0) (Zd ZX (Za 4) (Zj 1))) (Zd Zq (Zd Zq (Za 1) (Za 4)) (Zj 1))))))) (ZI (Zw ZdG (Zf (Za 2) (Zf (Za 3) Zm)))))))
noncomputable def Zhc:=Zad 2 Zjx
theorem Zrg: SimF false Zjw Zhc:=Zaj (show S [] [] [] false Zjv Zjx from(Zz (ZR (O':=[]) (Zl _)) (Zz (ZR (O':=[]) (Zy Zx (Zc 0) (Zl _))) (Zz (Zbd (Gs.range (Zh (Zat ZaJ (Zh (Zc 1) Zo)) Zo)) PutOk.one (by decide) (by decide) (Zz (ZR (O':=[]) (ZP Zox (Zh (Zc 2) (Zh (ZU Za0 (Zy Zx (Zc 0) (ZU Zab (Zc 4) (Zl _))) (Zy Zx (Zy Zx (Zc 1) (Zc 4)) (Zl _))) Zo)))) (ZR (O':=[]) (ZU Zab (Zc 3) (ZU Za0 (Zy Zx (Zc 0) (ZU Zab (Zc 4) (Zl _))) (Zy Zx (Zy Zx (Zc 1) (Zc 4)) (Zl _))))))) (ZV (ZP ZeS (Zh (Zc 2) (Zh (Zc 3) Zo))))))))
noncomputable def Zlw: Sm:=ZG (Zar (ZaM (Zg (ZA Zay (Zg (Zb 0) Zn)) Zn)) (Zak 100) Zao (Ze Zba (Ze Zr (Zb 0) (Zb 100)) (Ze Zr (Zb 1) (Zb 100))))
noncomputable def Zlx:=Z7 2 Zlw
noncomputable def Zly: PS:=(ZI (Zam (ZaB (Zf (Zw Zaq (Zf (Za 0) Zm)) Zm)) (Z5 100) Zah (Zd Za5 (Zd Zq (Za 0) (Za 100)) (Zd Zq (Za 1) (Za 100)))))
noncomputable def ZhM:=Zad 2 Zly
theorem ZsR: SimF false Zlx ZhM:=Zaj (show S [] [] [] false Zlw Zly from(ZV (Zbx (Gs.range (Zh (Zat ZaJ (Zh (Zc 0) Zo)) Zo)) PutOk.one (by decide) Zau (ZC Zbi (Zy Zx (Zc 0) (Zc 100)) (Zy Zx (Zc 1) (Zc 100))))))
noncomputable def Zkf: Sm:=Zs (Z1 (ZK (Ze oIs (Zb 0) (ZY))) (ZG (ZY)) Z6) (Zs (ZE 2 (Ze Z3 (Za4 (Zg (Ze ZaO (Za4 (Zg (Zk 0) Zn)) (Ze Z3 (ZA Zay (Zg (Ze Zr (Zb 0) (Zk 1)) Zn)) (Zk 1))) Zn)) (Zb 1))) (Zs (ZE 3 (Za4 Zn)) (Zs (ZaU (Zbe (Zb 2)) (Zak 4) (Zcr (Zds (Zb 3) (Zar (Zbe (Zb 2)) (Zak 100) Zao (ZA Zjq (Zg (Zb 0) (Zg (ZA Zlx (Zg (Zb 4) (Zg (Zb 100) Zn))) Zn))))))) (ZG (ZA Zf0 (Zg (Zaw (Zg (Zb 3) (Zg (Zar (Zbe (Zb 1)) (Zak 102) Zao (ZA Zjw (Zg (Zb 102) (Zg (Ze Zr (Zb 0) (Zk 1)) Zn)))) Zn))) Zn))))))
noncomputable def Zhn:=Z7 2 Zkf
noncomputable def Zho: PS:=(Zt (Z2 (ZH (Zd qIs (Za 0) (Z0))) (ZI (Z0)) Z4) (Zt (ZF 2 (Zd ZX (ZaW (Zf (Zd Zaz (ZaW (Zf (Zj 0) Zm)) (Zd ZX (Zw Zaq (Zf (Zd Zq (Za 0) (Zj 1)) Zm)) (Zj 1))) Zm)) (Za 1))) (Zt (ZF 3 (ZaW Zm)) (Zt (ZaI (ZaD (Za 2)) (Z5 4) (ZcW 3 [] ZaS (Zam (ZaD (Za 2)) (Z5 100) Zah (ZbE (Zw Zha (Zf (Za 0) (Zf (Zw ZhM (Zf (Za 4) (Zf (Za 100) Zm))) Zm))))))) (ZI (Zw Zcu (Zf (ZaC (Zf (Za 3) (Zf (Zam (ZaD (Za 1)) (Z5 102) Zah (Zw Zhc (Zf (Za 102) (Zf (Zd Zq (Za 0) (Zj 1)) Zm)))) Zm))) Zm)))))))
noncomputable def ZcD:=Zad 2 Zho
theorem ZnO: SimF false Zhn ZcD:=Zaj (show S [] [3] [] false Zkf Zho from(Zz (Zae (ZN (ZC Zbv (Zc 0) (Zaa))) (ZV (Zaa)) Zag) (Zz (ZR (O':=[]) (ZU Zab (E.list (Zh (ZU Za0 (E.list (Zh (Zl _) Zo)) (ZU Zab (Zat ZaJ (Zh (Zy Zx (Zc 0) (Zl _)) Zo)) (Zl _))) Zo)) (Zc 1))) (Zz (ZbP (O':=[3]) (E.list Zo)) (Zz (Zbd (Gs.seq (Zc 2)) PutOk.one (by decide) (by decide) (ZeJ (O':=[3]) (by decide) Zbr (ZaZ (O':=[]) (Zcx (Gs.seq (Zc 2)) PutOk.one (by decide) Zau (E.flat (ZP Zre (Zh (Zc 0) (Zh (ZP ZsR (Zh (Zc 4) (Zh (Zc 100) Zo))) Zo)))))) (by decide) (by decide))) (ZV (ZP ZkF (Zh (E.tup (Zh (Zc 3) (Zh (Zbx (Gs.seq (Zc 1)) PutOk.one (by decide) Zau (ZP Zrg (Zh (Zc 102) (Zh (Zy Zx (Zc 0) (Zl _)) Zo)))) Zo))) Zo))))))))
noncomputable def ZmT: PS:=(ZI (Zd ZX (Zd ZX (Zdw (Za 0) Zeb (Zec (Zd Za5 (Za 1) (Zj 1)))) (ZaW (Zf (Za 2) Zm))) (Zdw (Za 0) (Zec (Za 1)) Zeb)))
noncomputable def ZgA:=Zad 3 ZmT
theorem ZvT: SimF false Znf ZgA:=Zaj (show S [] [] [] false Zne ZmT from(ZV (ZU Zab (ZU Zab (ZpA (Zc 0) Pe.none (Pe.some (ZC Zbi (Zc 1) (Zl _)))) (E.list (Zh (Zc 2) Zo))) (ZpA (Zc 0) (Pe.some (Zc 1)) Pe.none))))
noncomputable def Zlz: Sm:=ZG (Zar (ZaM (Zg (Zk 1) (Zg (Ze Z3 (Zb 0) (Zk 1)) Zn))) (Zak 100) Zao (ZA Zgi (Zg (Zb 100) (Zg (Zb 1) Zn))))
noncomputable def ZhN:=Z7 2 Zlz
noncomputable def ZlA: PS:=(ZI (Zam (ZaB (Zf (Zj 1) (Zf (Zd ZX (Za 0) (Zj 1)) Zm))) (Z5 100) Zah (Zw Zeu (Zf (Za 100) (Zf (Za 1) Zm)))))
noncomputable def Ze3:=Zad 2 ZlA
theorem Zod: SimF false ZhN Ze3:=Zaj (show S [] [] [] false Zlz ZlA from(ZV (Zbx (Gs.range (Zh (Zl _) (Zh (ZU Zab (Zc 0) (Zl _)) Zo))) PutOk.one (by decide) Zau (ZP Zl6 (Zh (Zc 100) (Zh (Zc 1) Zo))))))
noncomputable def ZlB: Sm:=Zs (ZE 4 (ZA Zgz (Zg (Zb 0) Zn))) (Zs (Z1 (tOr (ZK (Ze oIs (Zb 4) (ZY))) (tOr (ZK (Ze oIs (Zb 3) (ZY))) Zcd)) (ZG (ZY)) Z6) (Zs (ZE 5 (ZA Zay (Zg (Ze Zr (Zb 4) (Zk 1)) Zn))) (Zs (ZE 6 (Ze Z3 (Ze Z3 (Zb 5) (ZA Zay (Zg (Zb 2) Zn))) (Zk 1))) (Zs (ZE 7 (ZA Zh6 (Zg (Zb 4) (Zg (Ze Z3 (ZA ZhN (Zg (Zb 5) (Zg (Zb 5) Zn))) (Zb 2)) Zn)))) (Zs (Z1 (ZK (Ze oIs (Zb 7) (ZY))) (ZG (ZY)) Z6) (Zs (ZE 8 (ZA Zgz (Zg (ZA ZlZ (Zg (ZA ZlW (Zg (Zb 7) (Zg (Zk 1) Zn))) (Zg (ZA ZgK (Zg (Ze Z3 (Zb 5) (Zk 1)) (Zg (Ze Z3 (Zb 6) (Zk 1)) Zn))) (Zg (Zb 3) Zn)))) Zn))) (ZG (ZA Zh6 (Zg (Zb 8) (Zg (ZA Znf (Zg (ZA ZhN (Zg (Zb 5) (Zg (Zb 6) Zn))) (Zg (Zb 1) (Zg (ZA Zgi (Zg (Zb 6) (Zg (Zb 6) Zn))) Zn)))) Zn))))))))))
noncomputable def ZlC:=Z7 4 ZlB
noncomputable def Zf8: PS:=(Zt (ZF 4 (Zw Zck (Zf (Za 0) Zm))) (Zt (Z2 (bOr (ZH (Zd qIs (Za 4) (Z0))) (bOr (ZH (Zd qIs (Za 3) (Z0))) Zcf)) (ZI (Z0)) Z4) (Zt (ZF 5 (Zw Zaq (Zf (Zd Zq (Za 4) (Zj 1)) Zm))) (Zt (ZF 6 (Zd ZX (Zd ZX (Za 5) (Zw Zaq (Zf (Za 2) Zm))) (Zj 1))) (Zt (ZF 7 (Zw ZcH (Zf (Za 4) (Zf (Zd ZX (Zw Ze3 (Zf (Za 5) (Zf (Za 5) Zm))) (Za 2)) Zm)))) (Zt (Z2 (ZH (Zd qIs (Za 7) (Z0))) (ZI (Z0)) Z4) (Zt (ZF 8 (Zw Zck (Zf (Zw Ze9 (Zf (Zw Zgh (Zf (Za 7) (Zf (Zj 1) Zm))) (Zf (Zw ZgL (Zf (Zd ZX (Za 5) (Zj 1)) (Zf (Zd ZX (Za 6) (Zj 1)) Zm))) (Zf (Za 3) Zm)))) Zm))) (ZI (Zw ZcH (Zf (Za 8) (Zf (Zw ZgA (Zf (Zw Ze3 (Zf (Za 5) (Zf (Za 6) Zm))) (Zf (Za 1) (Zf (Zw Zeu (Zf (Za 6) (Zf (Za 6) Zm))) Zm)))) Zm)))))))))))
noncomputable def Zc8:=Zad 4 Zf8
theorem ZsS: SimF true ZlC Zc8:=Zaj (show S [] [] [] true ZlB Zf8 from(Zz (ZR (O':=[]) (ZP ZmP (Zh (Zc 0) Zo))) (Zz (Zae (Zbc (ZN (ZC Zbv (Zc 4) (Zaa))) (Zbc (ZN (ZC Zbv (Zc 3) (Zaa))) ZcG)) (ZbG (Zaa)) Zag) (Zz (ZR (O':=[]) (Zat ZaJ (Zh (Zy Zx (Zc 4) (Zl _)) Zo))) (Zz (ZR (O':=[]) (ZU Zab (ZU Zab (Zc 5) (Zat ZaJ (Zh (Zc 2) Zo))) (Zl _))) (Zz (ZR (O':=[]) (ZP Zo2 (Zh (Zc 4) (Zh (ZU Zab (ZP Zod (Zh (Zc 5) (Zh (Zc 5) Zo))) (Zc 2)) Zo)))) (Zz (Zae (ZN (ZC Zbv (Zc 7) (Zaa))) (ZbG (Zaa)) Zag) (Zz (ZR (O':=[]) (ZP ZmP (Zh (ZP ZtK (Zh (ZP ZtJ (Zh (Zc 7) (Zh (Zl _) Zo))) (Zh (Zgv ZvR (Zh (ZU Zab (Zc 5) (Zl _)) (Zh (ZU Zab (Zc 6) (Zl _)) Zo))) (Zh (Zc 3) Zo)))) Zo))) (ZbG (ZcS Zo2 (Zh (Zc 8) (Zh (ZP ZvT (Zh (ZP Zod (Zh (Zc 5) (Zh (Zc 6) Zo))) (Zh (Zc 1) (Zh (ZP Zl6 (Zh (Zc 6) (Zh (Zc 6) Zo))) Zo)))) Zo))))))))))))
noncomputable def Zjy: Sm:=Zs (ZE 1 (Za4 Zn)) (Zs (ZaU (ZaM (Zg (Zb 0) Zn)) (Zak 2) (Zs (ZE 3 (Ze ZaO (Za4 (Zg (Zk 0) Zn)) (Ze Z3 (Zb 0) (Zk 1)))) (Zs (Zbt (Zk 1) (Zb 3) (Ze Z3 (Zb 2) (Zk 1))) (Zcr (Zds (Zb 1) (Zb 3)))))) (ZG (Zb 1)))
noncomputable def Zhd:=Z7 1 Zjy
noncomputable def Zjz: PS:=(Zt (ZF 1 (ZaW Zm)) (Zt (ZaI (ZaB (Zf (Za 0) Zm)) (Z5 2) (Zt (ZF 3 (pFl (Zd Zaz (ZaW (Zf (Zj 0) Zm)) (Zd ZX (Za 0) (Zj 1))))) (Zt (Zbm 3 [] (Zj 1) ZaS (Zd ZX (Za 2) (Zj 1))) (ZcW 1 [3] ZaS (Za 3))))) (ZI (Za 1))))
noncomputable def ZfO:=Zad 1 Zjz
theorem ZnG: SimF true Zhd ZfO:=Zaj (show S [] [1] [] true Zjy Zjz from(Zz (ZbP (O':=[1]) (E.list Zo)) (Zz (Zbd (Gs.range (Zh (Zc 0) Zo)) PutOk.one (by decide) (by decide) (Zz (ZbP (O':=[1,3]) (ZaZ (O':=[]) (Zea Za0 (E.list (Zh (Zl _) Zo)) (ZU Zab (Zc 0) (Zl _))))) (Zz (S.put (O':=[1,3]) (by decide) (ZaZ (O':=[1]) (Zl _)) Zbr (ZU Zab (Zc 2) (Zl _)) (by decide) (by decide)) (ZeJ (O':=[1]) (by decide) Zbr (ZaZ (O':=[3]) (E.own (by decide))) (by decide) (by decide))))) (ZbG (E.own (by decide))))))
noncomputable def ZjA: Sm:=Zs (ZE 3 (Ze Z3 (Zar (Zbe (Ze Zr (Zb 0) (Zk 0))) (Zak 100) Zao (Ze Z3 (Zb 100) (Za4 (Zg (ZY) Zn)))) (Za4 (Zg (Ze Z3 (Ze ZaO (Za4 (Zg (ZY) Zn)) (ZA Zay (Zg (Ze Zr (Zb 0) (Zk 0)) Zn))) (Za4 (Zg (Zk 0) Zn))) Zn)))) (Zs (ZE 4 (Ze Z3 (Ze Zr (Zb 0) (Zk 1)) (Za4 (Zg (Zaw (Zg (Zk 1) (Zg (Zk 0) Zn))) Zn)))) (Zs (ZE 5 (Ze Z3 (Za4 (Zg (Zk 0) Zn)) (Zar (ZaM (Zg (ZA Zay (Zg (Ze Zr (Zb 2) (Zk 1)) Zn)) Zn)) (Zak 102) Zao (Ze Z3 (Zb 1) (Zb 102))))) (Zs (ZaU (ZaM (Zg (ZA Zay (Zg (Zb 5) Zn)) Zn)) (Zak 6) (ZaU (ZaM (Zg (ZA Zay (Zg (Zb 5) Zn)) Zn)) (Zak 7) (Zs (ZE 8 (Ze Zr (Ze Zr (Ze Zr (Zb 2) (Zk 0)) (Zb 6)) (Zb 7))) (Zs (ZE 9 (Ze Zr (Ze Zr (Zb 3) (Ze Zr (Zb 5) (Zb 6))) (Ze Zr (Zb 5) (Zb 7)))) (Z1 (tOr (ZK (Ze oIs (Zb 9) (ZY))) (tOr (ZaT (ZK (Ze Zcl (Zb 8) (ZY))) (ZaT (ZK (Ze oLt (Zb 8) (Zb 9))) Zao)) Zcd)) (Zbt (Zb 8) (Ze Zr (Zb 3) (Ze Zr (Zb 5) (Zb 6))) (Ze Zr (Zb 5) (Zb 7))) Z6))))) (Zs (ZaU (ZaM (Zg (ZA Zay (Zg (Ze Zr (Zb 2) (Zk 1)) Zn)) Zn)) (Zak 10) (Zbt (ZA ZhX (Zg (Ze Zr (Zb 4) (Ze Zba (Ze Z3 (Zb 1) (Zb 10)) (Zk 1))) (Zg (Ze Zr (Ze Zr (Zb 2) (Zk 1)) (Zb 10)) Zn))) (Zb 4) (Ze Zba (Ze Z3 (Zb 1) (Zb 10)) (Zk 1)))) (Zs (Z1 (ZK (Ze oIn (ZY) (Zb 4))) (ZG (ZY)) Z6) (ZG (Zaw (Zg (Zb 3) (Zg (Zb 4) Zn)))))))))
noncomputable def ZjB:=Z7 3 ZjA
noncomputable def ZjC: PS:=(Zt (ZF 3 (Zd ZX (Zam (ZaD (Zd Zq (Za 0) (Zj 0))) (Z5 100) Zah (pFl (Zd ZX (Za 100) (ZaW (Zf (Z0) Zm))))) (ZaW (Zf (pFl (Zd ZX (Zd Zaz (ZaW (Zf (Z0) Zm)) (Zw Zaq (Zf (Zd Zq (Za 0) (Zj 0)) Zm))) (ZaW (Zf (Zj 0) Zm)))) Zm)))) (Zt (ZF 4 (pFl (Zd ZX (Zd Zq (Za 0) (Zj 1)) (ZaW (Zf (ZaC (Zf (Zj 1) (Zf (Zj 0) Zm))) Zm))))) (Zt (ZF 5 (Zd ZX (ZaW (Zf (Zj 0) Zm)) (Zam (ZaB (Zf (Zw Zaq (Zf (Zd Zq (Za 2) (Zj 1)) Zm)) Zm)) (Z5 102) Zah (Zd ZX (Za 1) (Za 102))))) (Zt (ZaI (ZaB (Zf (Zw Zaq (Zf (Za 5) Zm)) Zm)) (Z5 6) (ZaI (ZaB (Zf (Zw Zaq (Zf (Za 5) Zm)) Zm)) (Z5 7) (Zt (ZF 8 (Zd Zq (Zd Zq (Zd Zq (Za 2) (Zj 0)) (Za 6)) (Za 7))) (Zt (ZF 9 (ZbE (Zd Zq (Zd Zq (Za 3) (Zd Zq (Za 5) (Za 6))) (Zd Zq (Za 5) (Za 7))))) (Z2 (bOr (ZH (Zd qIs (Za 9) (Z0))) (bOr (ZaK (ZH (Zd Zb4 (Za 8) (Z0))) (ZaK (ZH (Zd qLt (Za 8) (Za 9))) Zah)) Zcf)) (Zbm 3 [] (ZbE (Za 8)) (Zcy ZaS (Zd Zq (Za 5) (Za 6))) (Zd Zq (Za 5) (Za 7))) Z4))))) (Zt (ZaI (ZaB (Zf (Zw Zaq (Zf (Zd Zq (Za 2) (Zj 1)) Zm)) Zm)) (Z5 10) (Zbm 4 [] (ZbE (Zw Zgg (Zf (Zd Zq (Za 4) (Zd Za5 (Zd ZX (Za 1) (Za 10)) (Zj 1))) (Zf (Zd Zq (Zd Zq (Za 2) (Zj 1)) (Za 10)) Zm)))) ZaS (Zd Za5 (Zd ZX (Za 1) (Za 10)) (Zj 1)))) (Zt (Z2 (ZH (Zd qIn (Z0) (Za 4))) (ZI (Z0)) Z4) (ZI (ZaC (Zf (Za 3) (Zf (Za 4) Zm))))))))))
noncomputable def ZfP:=Zad 3 ZjC
theorem Zrh: SimF false ZjB ZfP:=Zaj (show S [] [3,4] [] false ZjA ZjC from(Zz (ZbP (O':=[3]) (Zqn (Zcx (Gs.seq (Zy Zx (Zc 0) (Zl _))) PutOk.one (by decide) Zau (Zea Zab (Zc 100) (E.list (Zh (Zaa) Zo)))) (E.list (Zdb (Zea Zab (ZU Za0 (E.list (Zh (Zaa) Zo)) (Zat ZaJ (Zh (Zy Zx (Zc 0) (Zl _)) Zo))) (E.list (Zh (Zl _) Zo))) Zo (by decide) (by decide))) (by decide) (by decide))) (Zz (ZbP (O':=[3,4]) (ZaZ (O':=[]) (Zea Zab (Zy Zx (Zc 0) (Zl _)) (E.list (Zh (E.tup (Zh (Zl _) (Zh (Zl _) Zo))) Zo))))) (Zz (ZR (O':=[3,4]) (ZU Zab (E.list (Zh (Zl _) Zo)) (Zbx (Gs.range (Zh (Zat ZaJ (Zh (Zy Zx (Zc 2) (Zl _)) Zo)) Zo)) PutOk.one (by decide) Zau (ZU Zab (Zc 1) (Zc 102))))) (Zz (Zbd (Gs.range (Zh (Zat ZaJ (Zh (Zc 5) Zo)) Zo)) PutOk.one (by decide) (by decide) (Zbd (Gs.range (Zh (Zat ZaJ (Zh (Zc 5) Zo)) Zo)) PutOk.one (by decide) (by decide) (Zz (ZR (O':=[3,4]) (Zy Zx (Zy Zx (Zy Zx (Zc 2) (Zl _)) (Zc 6)) (Zc 7))) (Zz (ZR (O':=[3,4]) (ZaZ (O':=[]) (E.flat (Zy Zx (Zy Zx (Zc 3) (Zy Zx (Zc 5) (Zc 6))) (Zy Zx (Zc 5) (Zc 7)))))) (Zae (Zbc (ZN (ZC Zbv (Zc 9) (Zaa))) (Zbc (Za3 (ZN (ZC ZcJ (Zc 8) (Zaa))) (Za3 (ZN (ZC Zcs (Zc 8) (Zc 9))) Zau)) ZcG)) (S.put (O':=[3,4]) (by decide) (ZaZ (O':=[4]) (E.flat (Zc 8))) (Zdh Zbr (Zy Zx (Zc 5) (Zc 6))) (Zy Zx (Zc 5) (Zc 7)) (by decide) (by decide)) Zag))))) (Zz (Zbd (Gs.range (Zh (Zat ZaJ (Zh (Zy Zx (Zc 2) (Zl _)) Zo)) Zo)) PutOk.one (by decide) (by decide) (S.put (O':=[3,4]) (by decide) (ZaZ (O':=[3]) (E.flat (ZP ZoA (Zh (Zy Zx (Zc 4) (ZC Zbi (ZU Zab (Zc 1) (Zc 10)) (Zl _))) (Zh (Zy Zx (Zy Zx (Zc 2) (Zl _)) (Zc 10)) Zo))))) Zbr (ZC Zbi (ZU Zab (Zc 1) (Zc 10)) (Zl _)) (by decide) (by decide))) (Zz (Zae (ZN (ZC ZeP (Zaa) (Zc 4))) (ZV (Zaa)) Zag) (ZV (E.tup (Zh (Zc 3) (Zh (Zc 4) Zo)))))))))))
noncomputable def ZjD: Sm:=Zs (ZE 4 (ZA Zay (Zg (Ze Zr (Zb 0) (Zk 1)) Zn))) (Zs (ZE 5 (ZA Zhn (Zg (ZA Zf0 (Zg (Zb 0) Zn)) (Zg (Ze Z3 (ZA Zhd (Zg (Zb 4) Zn)) (Zb 2)) Zn)))) (Zs (Z1 (ZK (Ze oIs (Zb 5) (ZY))) (ZG (ZY)) Z6) (Zs (ZE 5 (ZA Zf0 (Zg (ZA ZjB (Zg (Zb 5) (Zg (Ze Z3 (Zb 4) (Zk 1)) (Zg (Zb 3) Zn)))) Zn))) (Zs (ZE 6 (ZA Zhd (Zg (Ze Z3 (Ze Z3 (Zb 4) (ZA Zay (Zg (Zb 2) Zn))) (Zk 1)) Zn))) (Zs (ZE 7 (Zdf (Zb 6) Zeh (Zei (Zb 4)))) (Zs (Zbt (Ze Zr (Zb 6) (eUn ZdB (Zk 1))) (Zb 7) (Ze Zba (Zb 1) (Zk 1))) (ZG (ZA Zhn (Zg (Zb 5) (Zg (Zb 7) Zn))))))))))
noncomputable def ZjE:=Z7 4 ZjD
noncomputable def ZjF: PS:=(Zt (ZF 4 (Zw Zaq (Zf (Zd Zq (Za 0) (Zj 1)) Zm))) (Zt (ZF 5 (Zw ZcD (Zf (Zw Zcu (Zf (Za 0) Zm)) (Zf (Zd ZX (Zw ZfO (Zf (Za 4) Zm)) (Za 2)) Zm)))) (Zt (Z2 (ZH (Zd qIs (Za 5) (Z0))) (ZI (Z0)) Z4) (Zt (ZF 5 (Zw Zcu (Zf (Zw ZfP (Zf (Za 5) (Zf (Zd ZX (Za 4) (Zj 1)) (Zf (Za 3) Zm)))) Zm))) (Zt (ZF 6 (Zw ZfO (Zf (Zd ZX (Zd ZX (Za 4) (Zw Zaq (Zf (Za 2) Zm))) (Zj 1)) Zm))) (Zt (Zin 7 (Zdw (Za 6) Zeb (Zec (Za 4))) (Zd Zq (Za 6) (pUn Zdp (Zj 1))) (Zd Za5 (Za 1) (Zj 1))) (ZI (Zw ZcD (Zf (Za 5) (Zf (Za 7) Zm))))))))))
noncomputable def ZfQ:=Zad 4 ZjF
theorem Zri: SimF false ZjE ZfQ:=Zaj (show S [] [] [] false ZjD ZjF from(Zz (ZR (O':=[]) (Zat ZaJ (Zh (Zy Zx (Zc 0) (Zl _)) Zo))) (Zz (ZR (O':=[]) (ZP ZnO (Zh (ZP ZkF (Zh (Zc 0) Zo)) (Zh (ZU Zab (ZP ZnG (Zh (Zc 4) Zo)) (Zc 2)) Zo)))) (Zz (Zae (ZN (ZC Zbv (Zc 5) (Zaa))) (ZV (Zaa)) Zag) (Zz (ZR (O':=[]) (ZP ZkF (Zh (ZP Zrh (Zh (Zc 5) (Zh (ZU Zab (Zc 4) (Zl _)) (Zh (Zc 3) Zo)))) Zo))) (Zz (ZR (O':=[]) (ZP ZnG (Zh (ZU Zab (ZU Zab (Zc 4) (Zat ZaJ (Zh (Zc 2) Zo))) (Zl _)) Zo))) (Zxx (Zz (ZuH (O1:=[]) (ZuG (Zc 6) Pe.none (Pe.some (Zc 4))) (Zy Zx (Zc 6) (Zej Zek (Zl _))) (ZC Zbi (Zc 1) (Zl _)) (by decide) (by decide) (by decide) (by decide)) (ZV (ZP ZnO (Zh (Zc 5) (Zh (Zc 7) Zo))))))))))))
noncomputable def Zmv: Sm:=Zs (ZE 1 (Za4 (Zg (Zaw (Zg (Zk 1) (Zg (Zk 0) Zn))) (Zg (Zaw (Zg (Zk 1) (Zg (Zk 1) Zn))) (Zg (Zaw (Zg (Zk 2) (Zg (Zk 1) Zn))) (Zg (Zaw (Zg (Zk 1) (Zg (Zk 2) Zn))) (Zg (Zaw (Zg (Zk 1) (Zg (Zk 1) Zn))) (Zg (Zaw (Zg (Zk 2) (Zg (Zk 0) Zn))) (Zg (Zaw (Zg (Zk 1) (Zg (Zk 1) Zn))) (Zg (Zaw (Zg (Zk 2) (Zg (Zk 2) Zn))) (Zg (Zaw (Zg (Zk 1) (Zg (Zk 3) Zn))) (Zg (Zaw (Zg (Zk 1) (Zg (Zk 4) Zn))) Zn)))))))))))) (Zs (ZE 2 (Ze Zr (Zb 1) (ZA ZbN (Zg (Zb 0) (Zg (Zk 0) (Zg (Zk 10) Zn)))))) (Zs (ZE 3 (Ze Zr (Zb 2) (Zk 0))) (Zs (ZE 4 (Zar (ZaM (Zg (Zb 3) Zn)) (Zak 100) Zao (ZA Zd4 (Zg (Zb 0) (Zg (Ze Z3 (Zk 2) (Zb 100)) Zn))))) (Zs (ZE 5 (ZA ZhA (Zg (Zb 0) (Zg (Zk 28) (Zg (Zb 4) Zn))))) (Zs (ZE 6 (Zar (ZaM (Zg (Ze Zr (Zb 2) (Zk 1)) Zn)) (Zak 102) Zao (ZA Zl2 (Zg (Zb 0) (Zg (Ze Z3 (Zk 8) (Ze ZaO (Zk 5) (Zb 102))) (Zg (Zb 3) Zn)))))) (Zs (ZE 7 (Zar (Zbe (Zb 6)) (Zak 104) Zao (ZA ZkN (Zg (Zb 104) (Zg (Zb 4) Zn))))) (Zs (ZE 8 (ZA Zd4 (Zg (Zb 0) (Zg (Zk 6) Zn)))) (Zs (Z1 (ZaT (ZK (Ze oGt (ZA Zay (Zg (Zb 6) Zn)) (Zk 0))) (ZaT (ZK (Ze oEq (ZA ZbN (Zg (Zb 0) (Zg (Zk 7) (Zg (Zk 2) Zn)))) (Zk 1))) Zao)) (ZE 8 (Ze Zba (Ze Z3 (Ze Zr (Zb 7) (Zk 0)) (ZA ZbN (Zg (Zb 0) (Zg (Zk 6) (Zg (Zk 7) Zn))))) (Zk 3))) Z6) (Zs (ZE 9 (ZA ZhA (Zg (Zb 0) (Zg (Zk 40) (Zg (Ze Z3 (Zb 7) (Za4 (Zg (Zb 8) Zn))) Zn))))) (Zs (Z1 (ZK (Ze oEq (ZA ZbN (Zg (Zb 0) (Zg (Zk 1) (Zg (Zk 3) Zn)))) (Zk 1))) (ZE 9 (ZA Zj1 (Zg (Zb 0) (Zg (Zk 90) (Zg (Zb 9) Zn))))) Z6) (Zs (ZE 10 (Ze Z3 (Zk 1) (ZA ZbN (Zg (Zb 0) (Zg (Zk 4) (Zg (Zb 3) Zn)))))) (Zs (ZE 11 (Za4 (Zg (ZA ZhB (Zg (Zb 5) Zn)) (Zg (ZA ZhB (Zg (Zb 9) Zn)) (Zg (Zar (Zbe (Zb 6)) (Zak 106) Zao (ZA ZcK (Zg (Zb 106) Zn))) Zn))))) (Zs (ZE 12 (ZA ZlC (Zg (Zb 5) (Zg (Zb 10) (Zg (Zb 6) (Zg (Zb 9) Zn)))))) (Zs (Z1 (tOr (ZK (Ze oNe (Zb 5) (Ze Zr (Zb 11) (Zk 0)))) (tOr (ZK (Ze oNe (Zb 9) (Ze Zr (Zb 11) (Zk 1)))) (tOr (ZK (Ze oNe (Zb 6) (Ze Zr (Zb 11) (Zk 2)))) Zcd))) (ZG (Zcg false)) Z6) (Zs (Z1 (ZcM (ZK (ZA Zlk (Zg (Zb 12) (Zg (ZA ZjE (Zg (Ze Zr (Zb 11) (Zk 0)) (Zg (Zb 10) (Zg (Ze Zr (Zb 11) (Zk 2)) (Zg (Ze Zr (Zb 11) (Zk 1)) Zn))))) Zn))))) (ZG (Zcg false)) Z6) (Zs (Zcr (ZA Zka (Zg (Zb 12) Zn))) (ZG (Zeo (Ze oEq (Zb 5) (Ze Zr (Zb 11) (Zk 0))) (Ze oEq (Zb 9) (Ze Zr (Zb 11) (Zk 1)))))))))))))))))))))
noncomputable def Zo3:=Z7 1 Zmv
noncomputable def Zmw: PS:=(Zt (ZF 1 (ZaW (Zf (ZaC (Zf (Zj 1) (Zf (Zj 0) Zm))) (Zf (ZaC (Zf (Zj 1) (Zf (Zj 1) Zm))) (Zf (ZaC (Zf (Zj 2) (Zf (Zj 1) Zm))) (Zf (ZaC (Zf (Zj 1) (Zf (Zj 2) Zm))) (Zf (ZaC (Zf (Zj 1) (Zf (Zj 1) Zm))) (Zf (ZaC (Zf (Zj 2) (Zf (Zj 0) Zm))) (Zf (ZaC (Zf (Zj 1) (Zf (Zj 1) Zm))) (Zf (ZaC (Zf (Zj 2) (Zf (Zj 2) Zm))) (Zf (ZaC (Zf (Zj 1) (Zf (Zj 3) Zm))) (Zf (ZaC (Zf (Zj 1) (Zf (Zj 4) Zm))) Zm)))))))))))) (Zt (ZF 2 (Zd Zq (Za 1) (Zw ZbB (Zf (Za 0) (Zf (Zj 0) (Zf (Zj 10) Zm)))))) (Zt (ZF 3 (Zd Zq (Za 2) (Zj 0))) (Zt (ZF 4 (Zam (ZaB (Zf (Za 3) Zm)) (Z5 100) Zah (Zw ZdI (Zf (Za 0) (Zf (Zd ZX (Zj 2) (Za 100)) Zm))))) (Zt (ZF 5 (Zw Zf4 (Zf (Za 0) (Zf (Zj 28) (Zf (Za 4) Zm))))) (Zt (ZF 6 (Zam (ZaB (Zf (Zd Zq (Za 2) (Zj 1)) Zm)) (Z5 102) Zah (Zw ZhY (Zf (Za 0) (Zf (Zd ZX (Zj 8) (Zd Zaz (Zj 5) (Za 102))) (Zf (Za 3) Zm)))))) (Zt (ZF 7 (Zam (ZaD (Za 6)) (Z5 104) Zah (Zw Zhw (Zf (Za 104) (Zf (Za 4) Zm))))) (Zt (ZF 8 (Zw ZdI (Zf (Za 0) (Zf (Zj 6) Zm)))) (Zt (Z2 (ZaK (ZH (Zd qGt (Zw Zaq (Zf (Za 6) Zm)) (Zj 0))) (ZaK (ZH (Zd qEq (Zw ZbB (Zf (Za 0) (Zf (Zj 7) (Zf (Zj 2) Zm)))) (Zj 1))) Zah)) (ZF 8 (Zd Za5 (Zd ZX (Zd Zq (Za 7) (Zj 0)) (Zw ZbB (Zf (Za 0) (Zf (Zj 6) (Zf (Zj 7) Zm))))) (Zj 3))) Z4) (Zt (ZF 9 (Zw Zf4 (Zf (Za 0) (Zf (Zj 40) (Zf (Zd ZX (Za 7) (ZaW (Zf (Za 8) Zm))) Zm))))) (Zt (Z2 (ZH (Zd qEq (Zw ZbB (Zf (Za 0) (Zf (Zj 1) (Zf (Zj 3) Zm)))) (Zj 1))) (ZF 9 (Zw Zhh (Zf (Za 0) (Zf (Zj 90) (Zf (Za 9) Zm))))) Z4) (Zt (ZF 10 (Zd ZX (Zj 1) (Zw ZbB (Zf (Za 0) (Zf (Zj 4) (Zf (Za 3) Zm)))))) (Zt (ZF 11 (ZaW (Zf (Zw ZdK (Zf (Za 5) Zm)) (Zf (Zw ZdK (Zf (Za 9) Zm)) (Zf (Zam (ZaD (Za 6)) (Z5 106) Zah (Zw Zcm (Zf (Za 106) Zm))) Zm))))) (Zt (ZF 12 (Zw Zc8 (Zf (Za 5) (Zf (Za 10) (Zf (Za 6) (Zf (Za 9) Zm)))))) (Zt (Z2 (bOr (ZH (Zd qNe (Za 5) (Zd Zq (Za 11) (Zj 0)))) (bOr (ZH (Zd qNe (Za 9) (Zd Zq (Za 11) (Zj 1)))) (bOr (ZH (Zd qNe (Za 6) (Zd Zq (Za 11) (Zj 2)))) Zcf))) (ZI (Zch false)) Z4) (Zt (Z2 (ZcC (ZH (Zw Zd6 (Zf (Za 12) (Zf (Zw ZfQ (Zf (Zd Zq (Za 11) (Zj 0)) (Zf (Za 10) (Zf (Zd Zq (Za 11) (Zj 2)) (Zf (Zd Zq (Za 11) (Zj 1)) Zm))))) Zm))))) (ZI (Zch false)) Z4) (Zt (ZfK 12 ZeX Zm) (ZI ((ZdY (Zd qEq (Za 5) (Zd Zq (Za 11) (Zj 0))) (Zd qEq (Za 9) (Zd Zq (Za 11) (Zj 1)))))))))))))))))))))))
noncomputable def Zmx:=Zad 1 Zmw
theorem ZuK: SimF false Zo3 Zmx:=Zaj (show S [] [12] [] false Zmv Zmw from(Zz (ZR (O':=[]) (E.list (Zh (E.tup (Zh (Zl _) (Zh (Zl _) Zo))) (Zh (E.tup (Zh (Zl _) (Zh (Zl _) Zo))) (Zh (E.tup (Zh (Zl _) (Zh (Zl _) Zo))) (Zh (E.tup (Zh (Zl _) (Zh (Zl _) Zo))) (Zh (E.tup (Zh (Zl _) (Zh (Zl _) Zo))) (Zh (E.tup (Zh (Zl _) (Zh (Zl _) Zo))) (Zh (E.tup (Zh (Zl _) (Zh (Zl _) Zo))) (Zh (E.tup (Zh (Zl _) (Zh (Zl _) Zo))) (Zh (E.tup (Zh (Zl _) (Zh (Zl _) Zo))) (Zh (E.tup (Zh (Zl _) (Zh (Zl _) Zo))) Zo)))))))))))) (Zz (ZR (O':=[]) (Zy Zx (Zc 1) (ZP Zb2 (Zh (Zc 0) (Zh (Zl _) (Zh (Zl _) Zo)))))) (Zz (ZR (O':=[]) (Zy Zx (Zc 2) (Zl _))) (Zz (ZR (O':=[]) (Zbx (Gs.range (Zh (Zc 3) Zo)) PutOk.one (by decide) Zau (ZP ZeW (Zh (Zc 0) (Zh (ZU Zab (Zl _) (Zc 100)) Zo))))) (Zz (ZR (O':=[]) (ZP Zn8 (Zh (Zc 0) (Zh (Zl _) (Zh (Zc 4) Zo))))) (Zz (ZR (O':=[]) (Zbx (Gs.range (Zh (Zy Zx (Zc 2) (Zl _)) Zo)) PutOk.one (by decide) Zau (ZP ZtL (Zh (Zc 0) (Zh (ZU Zab (Zl _) (ZU Za0 (Zl _) (Zc 102))) (Zh (Zc 3) Zo)))))) (Zz (ZR (O':=[]) (Zbx (Gs.seq (Zc 6)) PutOk.one (by decide) Zau (ZP Zsl (Zh (Zc 104) (Zh (Zc 4) Zo))))) (Zz (ZR (O':=[]) (ZP ZeW (Zh (Zc 0) (Zh (Zl _) Zo)))) (Zz (Zae (Za3 (ZN (ZC ZfG (Zat ZaJ (Zh (Zc 6) Zo)) (Zl _))) (Za3 (ZN (ZC Za1 (ZP Zb2 (Zh (Zc 0) (Zh (Zl _) (Zh (Zl _) Zo)))) (Zl _))) Zau)) (ZR (O':=[]) (ZC Zbi (ZU Zab (Zy Zx (Zc 7) (Zl _)) (ZP Zb2 (Zh (Zc 0) (Zh (Zl _) (Zh (Zl _) Zo))))) (Zl _))) Zag) (Zz (ZR (O':=[]) (ZP Zn8 (Zh (Zc 0) (Zh (Zl _) (Zh (ZU Zab (Zc 7) (E.list (Zh (Zc 8) Zo))) Zo))))) (Zz (Zae (ZN (ZC Za1 (ZP Zb2 (Zh (Zc 0) (Zh (Zl _) (Zh (Zl _) Zo)))) (Zl _))) (ZR (O':=[]) (ZP ZrS (Zh (Zc 0) (Zh (Zl _) (Zh (Zc 9) Zo))))) Zag) (Zz (ZR (O':=[]) (ZU Zab (Zl _) (ZP Zb2 (Zh (Zc 0) (Zh (Zl _) (Zh (Zc 3) Zo)))))) (Zz (ZR (O':=[]) (E.list (Zh (ZP Zn9 (Zh (Zc 5) Zo)) (Zh (ZP Zn9 (Zh (Zc 9) Zo)) (Zh (Zbx (Gs.seq (Zc 6)) PutOk.one (by decide) Zau (Zgv ZdN (Zh (Zc 106) Zo))) Zo))))) (Zz (ZbP (O':=[12]) (ZcS ZsS (Zh (Zc 5) (Zh (Zc 10) (Zh (Zc 6) (Zh (Zc 9) Zo)))))) (Zz (Zae (Zbc (ZN (ZC ZbM (Zc 5) (Zy Zx (Zc 11) (Zl _)))) (Zbc (ZN (ZC ZbM (Zc 9) (Zy Zx (Zc 11) (Zl _)))) (Zbc (ZN (ZC ZbM (Zc 6) (Zy Zx (Zc 11) (Zl _)))) ZcG))) (ZV (E.bool _)) Zag) (Zz (Zae (Zdg (ZN (ZP ZsM (Zh (Zc 12) (Zh (ZP Zri (Zh (Zy Zx (Zc 11) (Zl _)) (Zh (Zc 10) (Zh (Zy Zx (Zc 11) (Zl _)) (Zh (Zy Zx (Zc 11) (Zl _)) Zo))))) Zo))))) (ZV (E.bool _)) Zag) (Zz (Zql (O':=[12]) (by decide) ZrU Zo (by decide) (by decide)) (ZV ((ZiL (E.sh (ZC Za1 (Zc 5) (Zy Zx (Zc 11) (Zl _)))) (E.sh (ZC Za1 (Zc 9) (Zy Zx (Zc 11) (Zl _)))))))))))))))))))))))))
end L
end
section
set_option autoImplicit false
open PySem PySem.W PyProof.Rows PM TM My
local macro_rules | `(tactic| walk_at "tkrd") => `(tactic| first | with_reducible assumption | with_reducible exact ZbJ | ((with_reducible apply ZvI); decide; walk_at "tkrd") | ((with_reducible apply Zus); decide; walk_at "tkrd") | exact rfl | assumption)
local macro_rules | `(tactic| walk_at "tkyes") => `(tactic| first | rfl | (with_reducible assumption) | (simp only [Bool.not_eq_true', Bool.not_eq_false', decide_eq_true_eq, decide_eq_false_iff_not, beq_iff_eq, beq_eq_false_iff_ne, ne_eq, Bool.not_true, Bool.not_false, not_false_eq_true, not_true_eq_false, bne_iff_ne, Decidable.not_not, List.length_map] <;> first | done | omega | assumption))
local macro_rules | `(tactic| walk_at "tkflat") => `(tactic| first | rfl | exact Zfn | exact Zgm | exact Zhy fun i hi => by first | rfl | exact Zfn | exact Zgm)
local macro_rules | `(tactic| walk_at "tkop") => `(tactic| first | with_reducible refine Zm7 ?_ | with_reducible refine ZwN ?_ | with_reducible refine ZwO ?_ | with_reducible refine Zxr ?_ | with_reducible refine Zxs ?_ | with_reducible refine Zxt ?_ | with_reducible refine tk_ge ?_ | with_reducible refine ZwQ ?_ | with_reducible refine tk_max ?_ | with_reducible refine tk_min ?_ | with_reducible refine Zxu ?_ | with_reducible refine Zxv ?_ | with_reducible refine tk_eqb ?_ | with_reducible refine tk_neb ?_ | with_reducible refine ZwR ?_ | with_reducible refine ZwS ?_ | with_reducible refine ZwT ?_ | with_reducible refine ZwU ?_ | with_reducible refine Zvt ?_ | with_reducible refine Zvu ?_ | with_reducible refine tk_notl ?_ | with_reducible refine Zvv ?_ | with_reducible refine Zvw ?_ | with_reducible refine ZwV ?_ | with_reducible refine Zvx ?_ | ((with_reducible apply Zvy); (first | assumption | omega)) | ((with_reducible apply Zvz); (first | decide | omega); (first | decide | omega)) | ((with_reducible apply ZvA); (first | decide | omega); rfl) | ((with_reducible apply Zik); (first | decide | omega); rfl) | ((with_reducible apply ZpC); omega) | with_reducible refine Zum ?_ | with_reducible refine tk_list1t ?_ | with_reducible refine ZvB ?_ | with_reducible refine tk_all ?_ | with_reducible refine ZwW ?_ | ((with_reducible apply ZwP); (first | decide | omega)))
local macro_rules | `(tactic| walk_at "tk1") => `(tactic| first | with_reducible refine ZwE ?_ | with_reducible refine Zxm ?_ | with_reducible refine Zvm ?_ | with_reducible refine ZwF ?_ | with_reducible refine ZwG ?_ | with_reducible refine Zvn ?_ | with_reducible refine Zvl ?_ | with_reducible refine Zvo ?_ | with_reducible refine Zxn ?_ | with_reducible refine Zxo ?_ | with_reducible refine ZwH ?_ | with_reducible refine ZwI ?_ | with_reducible refine Zxp ?_ | with_reducible refine Zxq ?_ | with_reducible refine ZwJ ?_ | with_reducible refine Zvp ?_ | with_reducible refine Zvq ?_ | with_reducible refine Zul ?_ | with_reducible refine Zvr ?_ | with_reducible refine ZwK ?_ | with_reducible refine Zn7 ?_ | with_reducible refine tk_truth_n ?_ | with_reducible refine Zvs ?_ | with_reducible refine ZwL ?_ | with_reducible refine Zm4 ?_ | with_reducible refine tk_exp ?_ | with_reducible refine Ziy ?_ | with_reducible refine Zm5 ?_ | with_reducible refine ZwB ?_ | with_reducible refine ZwC ?_ | with_reducible refine Zvk ?_ | with_reducible refine tk_str ?_ | ((with_reducible apply ZwD); walk_at "tkrd") | ((with_reducible apply Zqh); walk_at "tkyes") | ((with_reducible apply ZwM); walk_at "tkyes") | ((with_reducible apply Zm6); rfl) | (refine And.intro (show T.flat _ = true by walk_at "tkflat") ?_) | (refine And.intro (show T.flatIn _ = true by walk_at "tkflat") ?_) | with_reducible refine Zil ?_ | with_reducible refine Sq.lst ?_ | with_reducible refine Sq.tup ?_ | with_reducible refine Zup ?_ | ((with_reducible apply Rn.one); omega) | with_reducible refine Zm8 ?_ | with_reducible refine ZvM ?_ | with_reducible refine ZvN ?_ | with_reducible refine ZuC ?_ | with_reducible refine Zi.eq ?_ | with_reducible refine Zi.mn ?_ | with_reducible refine ZwX ?_ | with_reducible refine ZvG ?_ | with_reducible refine ZwY ?_ | with_reducible refine ZvH ?_ | ((with_reducible apply ZvE); walk_at "tkrd"; (first | (rw [Zap]; omega) | (simp; done))) | ((with_reducible apply ZvF); walk_at "tkrd"; (first | (rw [Zap]; omega) | (simp; done))) | ((with_reducible apply Zuq); walk_at "tkrd"; (first | assumption | omega)) | ((with_reducible apply Zur); walk_at "tkrd"; (first | assumption | omega); (first | assumption | omega)) | walk_at "tkop")
local macro_rules | `(tactic| walk_at "zz") => `(tactic| repeat' walk_at "tk1")
local macro_rules | `(tactic| walk_at "zr") => `(tactic| walk_at "tkrd")
namespace L
open PySem PySem.W PyProof.Rows PM TM My
variable {a v:Option Int} {L N b i j k k' m n r t:Nat} {ns:List Int} {c d x:Nat→Int} {A B F G G' G2 Γ:Nat→Nat→Option Int} {σ:TL} {g:PE} {Q:T→Prop} {R R' R2 S:Nat→Int×Int} {K K' M M' y:Int} {p q:Int×Int} {f:Nat→T} {β:Type} {o:Option (Int×Int)} {ts:List T} {D w:T} {done done':Nat→Nat→Nat→Prop} {l:List Nat} {P:(Nat→Int)→Prop} {C:Nat→Nat→Int} {ρ:Nat→Option (Int×Int)} {I:(Nat→Nat→Option Int)→(Nat→Int×Int)→Prop}
section
variable {Q:T→Prop}
theorem ZxP(h:Q (.int T9)): Pk (Zdo (.int 10) (.int 9)) Q:=by
 have:=Zxi []
 simp only[oPow]at this
 split at this
 ·rename_i hc
  refine⟨_,by simp only[Zdo];rw[if_pos hc],?_⟩
  simp only[Option.some.injEq,Prod.mk.injEq,V.int.injEq,and_true]at this
  rw[this];exact h
 ·cases this
theorem Zxz(h:Q (.int T40)): Pk (Zdo (.int 10) (.int 40)) Q:=by
 have:=ZwA []
 simp only[oPow]at this
 split at this
 ·rename_i hc
  refine⟨_,by simp only[Zdo];rw[if_pos hc],?_⟩
  simp only[Option.some.injEq,Prod.mk.injEq,V.int.injEq,and_true]at this
  rw[this];exact h
 ·cases this
theorem ZxA(h:Q (.int M9)): Pk (Zdo (.int 48271) (.int 9)) Q:=by
 have:=Zwz []
 simp only[oPow]at this
 split at this
 ·rename_i hc
  refine⟨_,by simp only[Zdo];rw[if_pos hc],?_⟩
  simp only[Option.some.injEq,Prod.mk.injEq,V.int.injEq,and_true]at this
  rw[this];exact h
 ·cases this
theorem Zdt{a b:Int}(h1:-(2 ^ 64)<b)(h2:b<2 ^ 64)(h:Q (.int (a*b))): Pk (Zaz (.int a) (.int b)) Q:=ZbK (Ztx h1 h2) h
theorem ZpM{a b:Int}(h1:-(2 ^ 64)<a)(h2:a<2 ^ 64)(h:Q (.int (a*b))): Pk (Zaz (.int a) (.int b)) Q:=ZbK (ZsF h1 h2) h
end
noncomputable def scr(ns:List Int): T:=.lst (ns.map T.int)
noncomputable def Lay(ns:List Int): Prop:=PyData.layable0 (.list (ns.map .int))=true
noncomputable def Zcn(ns:List Int)(k:Int): Int:=k*k*7919+11+(if 0<ns.length then cellAt ns (k.fmod ns.length) 0 else 0)
theorem Zo4{k:Int}(h0:0≤k)(h9:k≤10000): ZfW [scr ns,.int k]=some (.int (Zcn ns k)):=by
 apply Pk.eq
 unfold ZfW Zkl Zcn scr
 by_cases hl:0<ns.length
 ·have a:=Int.fmod_nonneg_of_pos k (show(0:Int)<ns.length by omega)
  have b:=Int.fmod_lt_of_pos k (show(0:Int)<ns.length by omega)
  have e:(ns.map T.int).length=ns.length:=by simp
  walk_at "zz"
  refine Zdt (by omega) (by omega) ?_
  walk_at "zz"
  refine Zdt (by omega) (by omega) ?_
  walk_at "zz"
  refine Zik (t:=.int (cellAt ns (k.fmod ns.length) 0)) (by rw[e];omega) ?_ ?_
  ·rw[e,List.getElem?_map,List.getElem?_eq_getElem (by omega),cellAt_def]
   simp only[Option.map_some,T.int.injEq,Option.some.injEq]
   rw[List.getD_eq_getElem?_getD,List.getElem?_eq_getElem (by omega)]
   rfl
  walk_at "zz"
  rw[if_pos hl]
 ·walk_at "zz"
  refine Zdt (by omega) (by omega) ?_
  walk_at "zz"
  refine Zdt (by omega) (by omega) ?_
  walk_at "zz"
  rw[if_neg hl]
  simp
theorem ZsT{k:Int}(hL:Lay ns)(h0:0≤k)(h9:k≤10000): Builtin.Int.intBits (Zcn ns k)≤2 ^ 21:=by
 unfold Zcn
 have h1:0≤k*k:=Int.mul_nonneg h0 h0
 have h2:k*k≤10000*10000:=Int.mul_le_mul h9 h9 h0 (by decide)
 have hb:Builtin.Int.intBits (k*k*7919+11)≤2 ^ 20:=Nat.le_trans (intBits_le_64 (by omega) (by omega)) (by decide)
 have hc:Builtin.Int.intBits (if 0<ns.length then cellAt ns (k.fmod ns.length) 0 else 0)≤2 ^ 20:=by
  split
  ·exact(cell_at hL _).bits
  ·exact bits_zero
 exact Nat.le_trans (PM.Zui hb hc) (by decide)
noncomputable def Zbs(ns:List Int)(k many:Int): Int:=((Zcn ns k*48271).fmod 2147483647).fmod many
theorem Zb8(ns:List Int)(k:Int){many:Int}(h:0<many): 0≤Zbs ns k many∧Zbs ns k many<many:=⟨Int.fmod_nonneg_of_pos _ h,Int.fmod_lt_of_pos _ h⟩
theorem Zb9{k many:Int}(h0:0≤k)(h9:k≤10000)(hm:0<many): ZbB [scr ns,.int k,.int many]=some (.int (Zbs ns k many)):=by
 apply Pk.eq
 unfold ZbB ZkZ
 walk_at "zz"
 refine ZM (Zo4 h0 h9) ?_
 walk_at "zz"
 refine Zdt (by decide) (by decide) ?_
 walk_at "zz"
 rfl
noncomputable def ZdS(ns:List Int)(k:Int): Int:=[3,9,T9,T40].getD (((Zcn ns k*69621).fmod 2147483629).fmod 4).toNat 0
theorem Zo5(ns:List Int)(k:Int): 0<ZdS ns k∧ZdS ns k≤T40:=by
 unfold ZdS
 have a:=Int.fmod_nonneg_of_pos ((Zcn ns k*69621).fmod 2147483629) (show(0:Int)<4 by decide)
 have b:=Int.fmod_lt_of_pos ((Zcn ns k*69621).fmod 2147483629) (show(0:Int)<4 by decide)
 generalize ((Zcn ns k*69621).fmod 2147483629).fmod 4=i at a b
 have h9:=T9_eq
 have h40:=ZgE
 have:i=0∨i=1∨i=2∨i=3:=by omega
 obtain rfl | rfl | rfl | rfl:=this
 ·show 0<3∧3≤T40;omega
 ·show 0<9∧9≤T40;omega
 ·show 0<T9∧T9≤T40;omega
 ·show 0<T40∧T40≤T40;omega
noncomputable def Zb7(ns:List Int)(k:Int): Int:=(Zcn ns k*M9).fmod (2*ZdS ns k+1)-ZdS ns k
theorem Zqq(ns:List Int)(k:Int): -T40≤Zb7 ns k∧Zb7 ns k≤T40:=by
 obtain⟨a,b⟩:=Zo5 ns k
 have h1:=Int.fmod_nonneg_of_pos (Zcn ns k*M9) (show 0<2*ZdS ns k+1 by omega)
 have h2:=Int.fmod_lt_of_pos (Zcn ns k*M9) (show 0<2*ZdS ns k+1 by omega)
 unfold Zb7
 omega
theorem Zfa{k:Int}(hL:Lay ns)(h0:0≤k)(h9:k≤10000): ZdI [scr ns,.int k]=some (.int (Zb7 ns k)):=by
 apply Pk.eq
 unfold ZdI ZjZ
 have hb:=ZoV (ZsT hL h0 h9) Zvh
 obtain⟨r0,r1⟩:=Zo5 ns k
 have a:=Int.fmod_nonneg_of_pos ((Zcn ns k*69621).fmod 2147483629) (show(0:Int)<4 by decide)
 have b:=Int.fmod_lt_of_pos ((Zcn ns k*69621).fmod 2147483629) (show(0:Int)<4 by decide)
 walk_at "zz"
 refine ZM (Zo4 h0 h9) ?_
 walk_at "zz"
 refine ZxP ?_
 walk_at "zz"
 refine Zxz ?_
 walk_at "zz"
 refine Zdt (by decide) (by decide) ?_
 walk_at "zz"
 refine Zik (t:=.int (ZdS ns k)) (by omega) ?_ ?_
 ·unfold ZdS
  have:(((Zcn ns k*69621).fmod 2147483629).fmod 4).toNat<4:=by omega
  generalize (((Zcn ns k*69621).fmod 2147483629).fmod 4).toNat=i at this
  match i,this with
  | 0,_=>rfl
  | 1,_=>rfl
  | 2,_=>rfl
  | 3,_=>rfl
 walk_at "zz"
 refine ZxA ?_
 walk_at "zz"
 refine ZbK hb ?_
 walk_at "zz"
 refine ZpM (by decide) (by decide) ?_
 walk_at "zz"
 rfl
noncomputable def Zbw(a:Int): Int:=if a<0 then -a else a
theorem Zdd(a:Int): 0≤Zbw a:=by unfold Zbw;split <;> omega
noncomputable def Zdj(ns:List Int)(k:Int): Option Int:=
 if(Zbs ns k 42).fmod 6<2 then none else if(Zbs ns k 42).fmod 6<4 then some 0 else if(Zbs ns k 42).fmod 6=4 then some ((Zbs ns k 42).fdiv 6)else some (Zbw (Zb7 ns k))
theorem Zo6(ns:List Int)(k:Int){c:Int}(h:Zdj ns k=some c): 0≤c∧c≤T40:=by
 have h40:=ZgE
 unfold Zdj at h
 split at h
 ·cases h
 ·split at h
  ·cases h;omega
  ·split at h
   ·cases h
    obtain⟨p0,p1⟩:=Zb8 ns k (show(0:Int)<42 by decide)
    rw[Int.fdiv_eq_ediv_of_nonneg _ (by decide)]
    omega
   ·cases h
    have:=Zqq ns k
    have:=Zdd (Zb7 ns k)
    unfold Zbw at *
    split at * <;> omega
theorem ZoB{a b:Int}(h0:0≤b)(h1:b<2 ^ 30): Builtin.divisionGoesByPylong a b=false:=PyProof.noPylong_small (by omega)
theorem ZuL{k:Int}(hL:Lay ns)(h0:0≤k)(h9:k≤10000): Zhq [scr ns,.int k]=some (oT (Zdj ns k)):=by
 apply Pk.eq
 unfold Zhq Zko Zdj
 obtain⟨p0,p1⟩:=Zb8 ns k (show(0:Int)<42 by decide)
 walk_at "zz"
 refine ZM (Zb9 h0 h9 (by decide)) ?_
 walk_at "zz"
 refine⟨fun c=>?_,fun c=>?_⟩
 ·walk_at "zz"
  rw[if_pos (by simpa using c)];rfl
 rw[if_neg (by simpa using c)]
 walk_at "zz"
 refine⟨fun c=>?_,fun c=>?_⟩
 ·walk_at "zz"
  rw[if_pos (by simpa using c)];rfl
 rw[if_neg (by simpa using c)]
 walk_at "zz"
 refine⟨fun c=>?_,fun c=>?_⟩
 ·walk_at "zz"
  refine ZdR (by decide) (ZoB (by decide) (by decide)) ?_
  rw[if_pos (by simpa using c)];rfl
 rw[if_neg (by simpa using c)]
 walk_at "zz"
 refine ZM (Zfa hL h0 h9) ?_
 walk_at "zz"
 rfl
noncomputable def RestOk(q:Int×Int): Prop:=q.1=0∨(0<q.1∧0≤q.2∧q.2<q.1)
noncomputable def ZaR(m r:Int): Int×Int:=if m=0 then(0,r)else(m,r.fmod m)
theorem ZcN{m:Int}(h:0≤m)(r:Int): RestOk (ZaR m r):=by
 unfold RestOk ZaR
 split
 ·exact .inl rfl
 ·exact .inr ⟨by show 0<m;omega,Int.fmod_nonneg_of_pos _ (by omega),Int.fmod_lt_of_pos _ (by omega)⟩
theorem Ze4{m r:Int}: ZdG [.int m,.int r]=some (ZZ (ZaR m r)):=by
 apply Pk.eq
 unfold ZdG ZjI ZaR
 by_cases c:m=0
 ·walk_at "zz"
  rw[if_pos c];rfl
 ·walk_at "zz"
  rw[if_neg c];rfl
noncomputable def Zdn(ns:List Int)(k x:Int): Int×Int:=
 if(Zbs ns k 60).fmod 5<2 then(1,0)else if(Zbs ns k 60).fmod 5=2 then(0,x)else if(Zbs ns k 60).fmod 5=3 then ZaR ((Zbs ns k 60).fdiv 5+1) x else ZaR (Zbw (Zb7 ns k)) x
noncomputable def ZaE(q:Int×Int)(x:Int): Prop:=(q.1=0→x=q.2)∧(0<q.1→(x-q.2).emod q.1=0)
theorem Zmy(ns:List Int)(k:Int): 0≤(Zbs ns k 60).fdiv 5∧(Zbs ns k 60).fdiv 5<12:=by
 obtain⟨p0,p1⟩:=Zb8 ns k (show(0:Int)<60 by decide)
 rw[Int.fdiv_eq_ediv_of_nonneg _ (by decide)]
 omega
theorem ZuM(ns:List Int)(k x:Int): RestOk (Zdn ns k x):=by
 have:=Zmy ns k
 unfold Zdn
 split
 ·exact .inr ⟨by decide,by decide,by decide⟩
 ·split
  ·exact .inl rfl
  ·split
   ·exact ZcN (by omega) x
   ·exact ZcN (Zdd _) x
theorem ZvU{k x:Int}(hL:Lay ns)(h0:0≤k)(h9:k≤10000): Zhz [scr ns,.int k,.int x]=some (ZZ (Zdn ns k x)):=by
 apply Pk.eq
 unfold Zhz Zk2 Zdn
 obtain⟨p0,p1⟩:=Zb8 ns k (show(0:Int)<60 by decide)
 walk_at "zz"
 refine ZM (Zb9 h0 h9 (by decide)) ?_
 walk_at "zz"
 refine⟨fun c=>?_,fun c=>?_⟩
 ·walk_at "zz"
  rw[if_pos (by simpa using c)];rfl
 rw[if_neg (by simpa using c)]
 walk_at "zz"
 refine⟨fun c=>?_,fun c=>?_⟩
 ·walk_at "zz"
  rw[if_pos (by simpa using c)];rfl
 rw[if_neg (by simpa using c)]
 walk_at "zz"
 refine⟨fun c=>?_,fun c=>?_⟩
 ·walk_at "zz"
  refine ZdR (by decide) (ZoB (by decide) (by decide)) ?_
  walk_at "zz"
  refine ZM Ze4 ?_
  rw[if_pos (by simpa using c)]
 rw[if_neg (by simpa using c)]
 walk_at "zz"
 refine ZM (Zfa hL h0 h9) ?_
 walk_at "zz"
 exact ZM Ze4 rfl
noncomputable def ZaG(x:Nat→Int): Nat→Int:=cn 0 x
theorem Zw2(x:Nat→Int): cn (T.int 0) (fun i=>T.int (x i))=fun i=>T.int (ZaG x i):=by
 funext i;cases i <;> rfl
noncomputable def Zb5(ns:List Int)(k:Int)(n:Nat)(x:Nat→Int)(i j:Nat): Option Int:=if j=i then some 0 else(Zdj ns (k+i*(n+1:Nat)+j)).map fun c=>ZaG x i-ZaG x j+c
noncomputable def Zel(ns:List Int)(k:Int)(n:Nat)(x:Nat→Int)(t:Nat): Int×Int:=Zdn ns (k+(n+1:Nat)*(n+1:Nat)+t) (x t)
theorem ZsU(ns:List Int)(k:Int)(n:Nat)(x:Nat→Int)(i:Nat): Zb5 ns k n x i i=some 0:=by simp[Zb5]
theorem ZuN(ns:List Int)(k:Int)(n:Nat)(x:Nat→Int)(i:Nat): (fun j=>if j=i then T.int 0 else oT ((Zdj ns (k+i*(n+1:Nat)+j)).map fun c=>ZaG x i-ZaG x j+c))=fun j=>oT (Zb5 ns k n x i j):=by
 funext j
 unfold Zb5
 split <;> rfl
theorem ZpN{k:Int}(hL:Lay ns)(h0:0≤k)(h9:k≤1000)(hn:n≤9): Zf4 [scr ns,.int k,ZfI n x]=some (ZJ n (Zb5 ns k n x) (Zel ns k n x)):=by
 apply Pk.eq
 unfold Zf4 Zk4 ZfI
 have hq:((n+1:Nat):Int)*((n+1:Nat):Int)≤10*10:=Int.mul_le_mul (by omega) (by omega) (by omega) (by decide)
 have hq0:(0:Int)≤((n+1:Nat):Int)*((n+1:Nat):Int):=Int.mul_nonneg (by omega) (by omega)
 walk_at "zz"
 rw[Zw2]
 refine ZbQ (n:=n+1) (a:=fun i=>.int i) (P:=fun i σ=>σ 0=some (scr ns)∧σ 1=some (.int k)∧σ 2=some (.lst (tab n fun i=>.int (x i)))∧σ 3=some (.lst (tab (n+1) fun i=>.int (ZaG x i)))∧σ 4=some (.int (n+1:Nat))∧σ 5=some (.lst (tab i fun i=>Zan (n+1) (Zb5 ns k n x i)))) ?_ ⟨rfl,rfl,rfl,rfl,rfl,rfl⟩ ?_ ?_
 ·walk_at "zz"
  rfl
 ·rintro i σ hi ⟨e0,e1,e2,e3,e4,e5⟩
  walk_at "zz"
  refine ZbQ (n:=n+1) (a:=fun i=>.int i) (P:=fun j σ=>σ 0=some (scr ns)∧σ 1=some (.int k)∧σ 2=some (.lst (tab n fun i=>.int (x i)))∧σ 3=some (.lst (tab (n+1) fun i=>.int (ZaG x i)))∧σ 4=some (.int (n+1:Nat))∧σ 5=some (.lst (tab i fun i=>Zan (n+1) (Zb5 ns k n x i)))∧σ 6=some (.int i)∧σ 7=some (.lst (tab j fun j=>oT ((Zdj ns (k+i*(n+1:Nat)+j)).map fun c=>ZaG x i-ZaG x j+c)))) ?_ ⟨?_,?_,?_,?_,?_,?_,?_,?_⟩ ?_ ?_
  ·walk_at "zz"
   rfl
  all_goals first | walk_at "zr" | skip
  ·rintro j σ hj ⟨e0,e1,e2,e3,e4,e5,e6,e7⟩
   have hb1:(0:Int)≤i*((n+1:Nat):Int):=Int.mul_nonneg (by omega) (by omega)
   have hb2:(i:Int)*((n+1:Nat):Int)≤10*10:=Int.mul_le_mul (by omega) (by omega) (by omega) (by decide)
   walk_at "zz"
   refine Zdt (by omega) (by omega) ?_
   walk_at "zz"
   refine ZM (ZuL hL (by omega) (by omega)) ?_
   have key:∀w,w=oT ((Zdj ns (k+i*(n+1:Nat)+j)).map fun c=>ZaG x i-ZaG x j+c)→tab j (fun j=>oT ((Zdj ns (k+i*(n+1:Nat)+j)).map fun c=>ZaG x i-ZaG x j+c))++[w]=tab (j+1) fun j=>oT ((Zdj ns (k+i*(n+1:Nat)+j)).map fun c=>ZaG x i-ZaG x j+c):=fun w e=>by
    rw[e];exact Zcj
   cases hs:Zdj ns (k + ↑i * ↑(n+1) + ↑j)with
   | none=>
    simp only[ZbO,ZaF]
    walk_at "zz"
    rw[key _ (by rw[hs];rfl)]
    refine⟨?_,?_,?_,?_,?_,?_,?_,?_⟩ <;> walk_at "zr"
   | some c=>
    simp only[ZbO,ZaF]
    walk_at "zz"
    rw[key _ (by rw[hs];rfl)]
    refine⟨?_,?_,?_,?_,?_,?_,?_,?_⟩ <;> walk_at "zr"
  ·rintro σ ⟨e0,e1,e2,e3,e4,e5,e6,e7⟩
   walk_at "zz"
   rw[ZuN,show tab i (fun i=>Zan (n+1) (Zb5 ns k n x i))++[T.lst (tab (n+1) fun j=>oT (Zb5 ns k n x i j))]=tab (i+1) fun i=>Zan (n+1) (Zb5 ns k n x i)from Zcj (f:=fun i=>Zan (n+1) (Zb5 ns k n x i))]
   refine⟨?_,?_,?_,?_,?_,?_⟩ <;> walk_at "zr"
 ·rintro σ ⟨e0,e1,e2,e3,e4,e5⟩
  walk_at "zz"
  refine Zby (n:=n) (a:=fun i=>.int i) (b:=fun t=>ZZ (Zel ns k n x t)) (by omega) ?_ (fun t ht=>?_) ?_
  ·walk_at "zz"
   refine Znq n (by omega) (by omega) rfl
  ·walk_at "zz"
   refine Zdt (by omega) (by omega) ?_
   walk_at "zz"
   exact ZM (ZvU hL (by omega) (by omega)) ⟨Zgm,rfl⟩
  walk_at "zz"
  rfl
noncomputable def ZaP(n:Nat)(G:Nat→Nat→Option Int)(R:Nat→Int×Int)(x:Nat→Int): Prop:=(∀i j,i<n+1→j<n+1→∀b,G i j=some b→ZaG x i-ZaG x j≤b)∧∀t,t<n→ZaE (R t) (x t)
noncomputable def ZxQ(n:Nat)(G:Nat→Nat→Option Int)(R:Nat→Int×Int): Prop:=(∀i,i<n+1→G i i=some 0)∧∀t,t<n→RestOk (R t)
theorem ZoC(ns:List Int)(k:Int)(n:Nat)(x:Nat→Int): ZxQ n (Zb5 ns k n x) (Zel ns k n x):=⟨fun i _=>ZsU ns k n x i,fun t _=>ZuM ns _ _⟩
theorem ZtM(hn:n<10000)(e:Pk (g σ) fun t=>t=Z8 n G)(h:Q (Z8 n G)): Pk (Zam (ZaD g) (Z5 j) Zah (Zw Zcm (Zf (Za j) Zm)) σ) Q:=by
 refine Zby (n:=n) (a:=fun i=>Zan n (G i)) (b:=fun i=>Zan n (G i)) hn ?_ (fun i hi=>?_) h
 ·refine Zil (e.mono ?_)
  rintro _ rfl
  exact Sq.lst rfl
 ·unfold Zan
  walk_at "zz"
  rfl
theorem ZpO(hn:n≤100): ZdK [ZJ n G R]=some (ZJ n G R):=by
 apply Pk.eq
 unfold ZdK Zk6 ZJ ZaQ
 walk_at "zz"
 refine ZtM (n:=n+1) (G:=G) (by omega) ?_ ?_
 ·walk_at "zz"
  rfl
 walk_at "zz"
 rfl
noncomputable def leO(a b:Option Int): Prop:=∀y,b=some y→∃x,a=some x∧x≤y
theorem Zew: leO a none:=fun _ e=>by cases e
theorem leO_some{x:Int}: leO (some x) (some y)↔x≤y:=⟨fun h=>by obtain⟨z,e,q⟩:=h y rfl;cases e;exact q,fun h z e=>by cases e;exact⟨x,rfl,h⟩⟩
theorem Zip: ¬leO none (some y):=fun h=>by obtain⟨z,e,_⟩:=h y rfl;cases e
theorem ZrW{b:Option Int}: Zhr [oT a,oT b]=some (.bool (dec (leO a b))):=by
 apply Pk.eq
 unfold Zhr Zkr
 cases b with
 | none=>
  simp only[ZbO]
  walk_at "zz"
  rw[Za9 Zew]
 | some y=>
  cases a with
  | none=>
   simp only[ZbO,ZaF]
   walk_at "zz"
   rw[ZbR Zip]
  | some x=>
   simp only[ZaF]
   walk_at "zz"
   rw[ZlJ leO_some,Zhx]
noncomputable def RIn(p q:Int×Int): Prop:=if q.1=0 then p=q else p.1 % q.1=0∧(p.2-q.2) % q.1=0
theorem ZvV(h:0<q.1∧0≤q.2∧q.2<q.1)(x:Int): x.fmod q.1=q.2↔(x-q.2) % q.1=0:=by
 rw[Int.fmod_eq_emod_of_nonneg _ (by omega)]
 constructor
 ·intro e
  rw[←e,Int.sub_emod,Int.emod_emod,Int.sub_self]
  simp
 ·intro e
  have:x % q.1=q.2 % q.1:=Int.emod_eq_emod_iff_emod_sub_eq_zero.mpr e
  rw[this,Int.emod_eq_of_lt h.2.1 h.2.2]
theorem ZvW(h:RestOk q)(x:Int): (if q.1=0 then x=q.2 else x.fmod q.1=q.2)↔ZaE q x:=by
 unfold ZaE
 rcases h with h | h
 ·rw[if_pos h];simp[h]
 ·rw[if_neg (by omega),ZvV h]
  have h1:¬q.1=0:=by omega
  simp only[h1,false_implies,true_and,h.1,true_implies]
  rfl
theorem ZnY{x:Int}(h:RestOk q): Zf5 [ZZ q,.int x]=some (.bool (dec (ZaE q x))):=by
 apply Pk.eq
 unfold Zf5 Zk8 ZZ
 rw[←ZlJ (ZvW h x)]
 by_cases c:q.1=0
 ·walk_at "zz"
  rw[if_pos c,Zhx]
 ·walk_at "zz"
  rw[if_neg c,Zhx]
noncomputable def ZiG(n:Nat)(G:Nat→Nat→Option Int)(R:Nat→Int×Int)(G':Nat→Nat→Option Int)(R':Nat→Int×Int): Prop:=(∀i,i<n+1→∀j,j<n+1→leO (G i j) (G' i j))∧∀t,t<n→RIn (R t) (R' t)
noncomputable def Eu(m:Nat)(a b:Int): Prop:=0≤a∧0≤b∧∃k:Nat,a*b<2 ^ k∧m=2*k+if a<b then 1 else 0
theorem Eu.step{a b:Int}(h:Eu m a b)(hb:b≠0): ∃m',m'<m∧Eu m' b (a % b):=by
 obtain⟨h0,h1,k,h2,h3⟩:=h
 have hb':0<b:=by omega
 have r0:=Int.emod_nonneg a hb
 have r1:=Int.emod_lt_of_pos a hb'
 by_cases q:a<b
 ·rw[if_pos q]at h3
  have e:a % b=a:=Int.emod_eq_of_lt h0 q
  rw[e]
  exact⟨2*k,by omega,h1,h0,k,by rw[Int.mul_comm];exact h2,by rw[if_neg (by omega)];omega⟩
 ·rw[if_neg q]at h3
  have hd:=Int.emod_add_mul_ediv a b
  have hq:1≤a / b:=Int.le_ediv_of_mul_le hb' (by omega)
  have hm:b*1≤b*(a / b):=Int.mul_le_mul_of_nonneg_left hq h1
  have h2r:2*(a % b)<a:=by omega
  have hp:b*(2*(a % b))<b*a:=Int.mul_lt_mul_of_pos_left h2r hb'
  have hk:k≠0:=by
   rintro rfl
   have:0<a*b:=Int.mul_pos (by omega) hb'
   simp at h2
   omega
  obtain⟨k',rfl⟩:∃k',k=k'+1:=⟨k-1,by omega⟩
  refine⟨2*k',by omega,h1,r0,k',?_,by rw[if_neg (by omega)];omega⟩
  have e1:b*(2*(a % b))=2*(b*(a % b)):=by rw[←Int.mul_assoc,Int.mul_comm b 2,Int.mul_assoc]
  have e2:a*b=b*a:=Int.mul_comm _ _
  rw[Int.pow_succ]at h2
  omega
theorem Zh8{a b:Int}(ha:0≤a)(hb:0≤b)(ha2:a<2 ^ 200000)(hb2:b<2 ^ 200000): ∃m,m<1000000∧Eu m a b:=by
 refine⟨_,?_,ha,hb,400000,?_,rfl⟩
 ·split <;> omega
 ·have h1:a*b≤a*2 ^ 200000:=Int.mul_le_mul_of_nonneg_left (by omega) ha
  have h2:a*2 ^ 200000<2 ^ 200000*2 ^ 200000:=Int.mul_lt_mul_of_pos_right ha2 (Int.pow_pos (by decide))
  have h3:(2:Int) ^ 200000*2 ^ 200000=2 ^ 400000:=by rw[←Int.pow_add]
  omega
theorem Zgp{a b:Int}(hb:0<b): Int.gcd b (a % b)=Int.gcd a b:=by
 rw[Int.gcd_comm a b,Int.emod_def,Int.gcd_sub_mul_left_right]
theorem ZpP{a b:Int}: Int.gcd (Zbw a) (Zbw b)=Int.gcd a b:=by
 unfold Zbw Int.gcd
 split <;> split <;> simp
theorem Ziq{a:Int}(h:a.natAbs<2 ^ k): Zbw a<2 ^ k:=by
 have:((a.natAbs:Nat):Int)<2 ^ k:=by exact_mod_cast h
 unfold Zbw
 split <;> omega
theorem Zoe{a b:Int}(ha:a.natAbs<2 ^ 200000)(hb:b.natAbs<2 ^ 200000): Zge [.int a,.int b]=some (.int (Int.gcd a b)):=by
 apply Pk.eq
 unfold Zge ZlL
 walk_at "zz"
 obtain⟨m,hm,eu⟩:=Zh8 (Zdd a) (Zdd b) (Ziq ha) (Ziq hb)
 refine Zfd (fun m σ=>∃c d:Int,σ 0=some (.int c)∧σ 1=some (.int d)∧Eu m c d∧Int.gcd c d=Int.gcd a b) _ _ ?_ 1000000 (m:=m) ⟨Zbw a,Zbw b,by walk_at "zr",by walk_at "zr",eu,ZpP⟩ hm
 rintro m σ ⟨c,d,e0,e1,eu,eg⟩
 walk_at "zz"
 refine⟨fun h=>?_,fun h=>?_⟩
 ·have hd:d≠0:=by simpa using h
  have hd0:0≤d:=eu.2.1
  walk_at "zz"
  rw[Int.fmod_eq_emod_of_nonneg _ hd0]
  obtain⟨m',h1,h2⟩:=eu.step hd
  exact⟨m',h1,d,c % d,by walk_at "zr",by walk_at "zr",h2,by rw[Zgp (by omega)];exact eg⟩
 ·have hd:d=0:=by simpa using h
  subst hd
  walk_at "zz"
  rw[←eg,Int.gcd_zero_right]
  have:=eu.1
  congr 1
  omega
theorem Zfp(ns:List Int)(k:Int): (Zb7 ns k).natAbs<2 ^ 134:=by
 have h:=Zqq ns k
 have h2:=ZgE
 have:(2:Nat) ^ 134=21778071482940061661655974875633165533184:=by decide
 omega
theorem Zbq{a:Nat}(h:a<2 ^ i)(hij:i≤j): a<2 ^ j:=Nat.lt_of_lt_of_le h (Nat.pow_le_pow_right (by decide) hij)
noncomputable def SmG(k n:Nat)(G:Nat→Nat→Option Int): Prop:=∀i j,i<n+1→j<n+1→∀b,G i j=some b→b.natAbs<2 ^ k
noncomputable def SmR(k n:Nat)(R:Nat→Int×Int): Prop:=∀t,t<n→(R t).1.natAbs<2 ^ k∧(R t).2.natAbs<2 ^ k
theorem ZeY{m r:Int}(h0:0≤m)(hm:m.natAbs<2 ^ k)(hr:r.natAbs<2 ^ k): (ZaR m r).1.natAbs<2 ^ k∧(ZaR m r).2.natAbs<2 ^ k:=by
 unfold ZaR
 split
 ·exact⟨Nat.two_pow_pos k,hr⟩
 ·have h1:=Int.fmod_nonneg_of_pos r (show 0<m by omega)
  have h2:=Int.fmod_lt_of_pos r (show 0<m by omega)
  exact⟨hm,by show(r.fmod m).natAbs<_;omega⟩
theorem Zh9(a:Int): (Zbw a).natAbs=a.natAbs:=by unfold Zbw;split <;> omega
theorem Zsm{k x:Int}(hx:x.natAbs<2 ^ 134): (Zdn ns k x).1.natAbs<2 ^ 134∧(Zdn ns k x).2.natAbs<2 ^ 134:=by
 have h:=Zmy ns k
 have h2:=Zfp ns k
 have e:(2:Nat) ^ 134=21778071482940061661655974875633165533184:=by decide
 unfold Zdn
 split
 ·exact⟨by show(1:Nat)<_;omega,by show(0:Nat)<_;omega⟩
 ·split
  ·exact⟨by show(0:Nat)<_;omega,hx⟩
  ·split
   ·exact ZeY (by omega) (by omega) hx
   ·exact ZeY (Zdd _) (by rw[Zh9];exact h2) hx
theorem ZhO(hx:∀i,i<n→(x i).natAbs<2 ^ k)(i:Nat)(hi:i<n+1): (ZaG x i).natAbs<2 ^ k:=by
 cases i with
 | zero=>exact Nat.two_pow_pos k
 | succ i=>exact hx i (by omega)
theorem ZuO{k:Int}(hx:∀i,i<n→(x i).natAbs<2 ^ 134): SmG 136 n (Zb5 ns k n x):=by
 intro i j hi hj b h
 have e:(2:Nat) ^ 134=21778071482940061661655974875633165533184:=by decide
 have e2:(2:Nat) ^ 136=4*21778071482940061661655974875633165533184:=by decide
 have h40:=ZgE
 have h1:=ZhO hx i hi
 have h2:=ZhO hx j hj
 unfold Zb5 at h
 split at h
 ·cases h;exact Nat.two_pow_pos _
 ·obtain⟨c,h3,h4⟩:=Zz1.mp h
  have:=Zo6 ns _ h3
  subst h4
  omega
theorem Zo7{k:Int}(hx:∀i,i<n→(x i).natAbs<2 ^ 134): SmR 134 n (Zel ns k n x):=fun t ht=>Zsm (hx t ht)
theorem ZuP: RIn q q:=by
 unfold RIn
 split
 ·rfl
 ·simp
theorem ZoD{g:PG}{a:Nat→T}{f:PE}(e:β→T)(P:Nat→β→Prop)(hn:n<10000)(hg:Pl (g σ) fun ts=>ts=tab n a)(hf:∀i,i<n→Pk (f (ZW σ j (a i))) fun t=>∃y,t=e y∧P i y)(d:β)(h:∀y:Nat→β,(∀i,i<n→P i (y i))→Q (.lst (tab n fun i=>e (y i)))): Pk (Zam g (Z5 j) Zah f σ) Q:=by
 have hc:∃y:Nat→β,∀i,i<n→Pk (f (ZW σ j (a i))) (fun t=>t=e (y i))∧P i (y i):=by
  have hx:∀i,∃y:β,i<n→Pk (f (ZW σ j (a i))) (fun t=>t=e y)∧P i y:=fun i=>by
   by_cases q:i<n
   ·obtain⟨t,e1,y,e2,p⟩:=hf i q
    exact⟨y,fun _=>⟨⟨t,e1,e2⟩,p⟩⟩
   ·exact⟨d,fun h=>absurd h q⟩
  exact⟨fun i=>Classical.choose (hx i),fun i=>Classical.choose_spec (hx i)⟩
 obtain⟨y,hy⟩:=hc
 exact Zby hn hg (fun i hi=>(hy i hi).1) (h y fun i hi=>(hy i hi).2)
theorem ZhP(hn:n<10000)(e:Pk (g σ) fun t=>t=Z8 n G)(h:Q (Z8 n G)): Pk (Zam (ZaD g) (Z5 j) Zah (pFl (Zw Zcm (Zf (Za j) Zm))) σ) Q:=by
 refine Zby (n:=n) (a:=fun i=>Zan n (G i)) (b:=fun i=>Zan n (G i)) hn ?_ (fun i hi=>?_) h
 ·refine Zil (e.mono ?_)
  rintro _ rfl
  exact Sq.lst rfl
 ·unfold Zan
  walk_at "zz"
  rfl
noncomputable def ZbT(G:Nat→Nat→Option Int)(i j:Nat)(v:Option Int): Nat→Nat→Option Int:=fun a b=>if a=i∧b=j then v else G a b
theorem ZdT: T.lst (tab n fun a=>T.lst (tab n fun b=>if a=i∧b=j then oT v else oT (G a b)))=Z8 n (ZbT G i j v):=by
 unfold Z8 Zan ZbT
 congr 2
 funext a
 congr 2
 funext b
 split <;> rfl
theorem Zfq: ZbT G i j v i j=v:=by simp[ZbT]
theorem ZeA{a:Nat}(h:¬(a=i∧b=j)): ZbT G i j v a b=G a b:=by simp[ZbT,h]
theorem ZcI: leO a a:=fun y e=>⟨y,e,Int.le_refl y⟩
theorem Zcc{b c:Option Int}(h:leO a b)(k:leO b c): leO a c:=fun y e=>by
 obtain⟨x,e1,l1⟩:=k y e
 obtain⟨w,e2,l2⟩:=h x e1
 exact⟨w,e2,by omega⟩
theorem ZgN{k:Int}(h0:0≤k)(h1:k<n): ∃i:Nat,k=i∧i<n:=⟨k.toNat,by omega,by omega⟩
theorem Zof{a b:Int}(ha:a.natAbs<2 ^ 200000)(hb:b.natAbs<2 ^ 200000): Zgf [.int a,.int b]=some (.int (Int.gcd a b)):=by
 apply Pk.eq
 unfold Zgf ZlN
 walk_at "zz"
 obtain⟨m,hm,eu⟩:=Zh8 (Zdd a) (Zdd b) (Ziq ha) (Ziq hb)
 refine Zfd (fun m σ=>∃c d:Int,σ 2=some (.int c)∧σ 3=some (.int d)∧Eu m c d∧Int.gcd c d=Int.gcd a b) _ _ ?_ 1000000 (m:=m) ⟨Zbw a,Zbw b,by walk_at "zr",by walk_at "zr",eu,ZpP⟩ hm
 rintro m σ ⟨c,d,e0,e1,eu,eg⟩
 walk_at "zz"
 refine⟨fun h=>?_,fun h=>?_⟩
 ·have hd:d≠0:=by simpa using h
  have hd0:0≤d:=eu.2.1
  walk_at "zz"
  rw[Int.fmod_eq_emod_of_nonneg _ hd0]
  obtain⟨m',h1,h2⟩:=eu.step hd
  exact⟨m',h1,d,c % d,by walk_at "zr",by walk_at "zr",h2,by rw[Zgp (by omega)];exact eg⟩
 ·have hd:d=0:=by simpa using h
  subst hd
  walk_at "zz"
  rw[←eg,Int.gcd_zero_right]
  have:=eu.1
  congr 1
  omega
noncomputable def Bd(k:Nat)(x:Int): Prop:=x.natAbs<2 ^ k
theorem Bd.mono{x:Int}(h:Bd i x)(hij:i≤j): Bd j x:=Zbq h hij
theorem Zb3{x:Int}(h:Bd i x)(k:Bd j y)(hi:i≤1000000)(hj:j≤1000000): mulOk x y=true:=ZoV (Nat.le_trans (PyProof.Rows.intBits_le h) (Nat.le_trans hi (by decide))) (Nat.le_trans (PyProof.Rows.intBits_le k) (Nat.le_trans hj (by decide)))
theorem Bd.mul{x:Int}(h:Bd i x)(k:Bd j y): Bd (i+j) (x*y):=by
 unfold Bd at *
 rw[Int.natAbs_mul,Nat.pow_add]
 exact Nat.mul_lt_mul'' h k
theorem Bd.add{x:Int}(h:Bd i x)(k:Bd i y): Bd (i+1) (x+y):=by
 unfold Bd at *
 rw[Nat.pow_succ]
 omega
theorem Bd.sub{x:Int}(h:Bd i x)(k:Bd i y): Bd (i+1) (x-y):=by
 unfold Bd at *
 rw[Nat.pow_succ]
 omega
theorem ZeF{x:Int}(h:Bd i y)(hi:i≤9000): Builtin.divisionGoesByPylong x y=false:=by
 refine PyProof.noPylong_of_log2 ?_
 by_cases h0:y.natAbs=0
 ·rw[h0];decide +kernel
 ·exact Nat.lt_of_lt_of_le ((Nat.log2_lt h0).mpr h) hi
theorem Zc2{x:Int}(h:Bd i y)(h0:0≤x)(h1:x≤y): Bd i x:=by unfold Bd at *;omega
theorem ZfL(h:1≤i): Bd i 1:=Zbq (i:=1) (by decide) h
theorem Zc6: Bd i 0:=Nat.two_pow_pos i
theorem ZsV{a b:Int}(hb:0<b)(kb:Bd k b)(hk:k≤8000)(ha:0≤a)(hg:Int.gcd a b=1): Pk (ZhV [.int a,.int b]) fun t=>∃x:Int,t=.int x∧0≤x∧x<b∧∃q,a*x=1+b*q:=by
 unfold ZhV ZlQ
 walk_at "zz"
 rw[Int.fmod_eq_emod_of_nonneg _ (by omega)]
 have r0:=Int.emod_nonneg a (show b≠0 by omega)
 have r1:=Int.emod_lt_of_pos a hb
 have hlt:∀x:Int,0≤x→x≤b→x<2 ^ 200000:=fun x h0 h1=>by
  have h2:b.natAbs<2 ^ 200000:=Zbq kb (by omega)
  have h3:((b.natAbs:Nat):Int)<2 ^ 200000:=by exact_mod_cast h2
  omega
 obtain⟨m,hm,eu⟩:=Zh8 r0 (show 0≤b by omega) (hlt _ r0 (by omega)) (hlt b (by omega) (by omega))
 have hg0:Int.gcd (a % b) b=1:=by
  rw[Int.gcd_comm,Zgp hb];exact hg
 refine Zfd (fun m σ=>∃l r s t:Int,σ 1=some (.int b)∧σ 2=some (.int l)∧σ 3=some (.int r)∧σ 4=some (.int s)∧σ 5=some (.int t)∧Eu m l r∧Int.gcd l r=1∧l≤b∧r≤b∧(∃q,s*a=l+b*q)∧(∃q,t*a=r+b*q)∧(s.natAbs:Int)*r+(t.natAbs:Int)*l≤b∧(1≤l∨t=0)) _ _ ?_ 1000000 (m:=m) ⟨a % b,b,1,0,by walk_at "zr",by walk_at "zr",by walk_at "zr",by walk_at "zr",by walk_at "zr",eu,hg0,by omega,by omega,⟨a / b,?_⟩,⟨-1,by omega⟩,by simp,.inr rfl⟩ hm
 ·rintro m σ ⟨l,r,s,t,e1,e2,e3,e4,e5,eu,gl,lb,rb,⟨q1,h1⟩,⟨q2,h2⟩,hb1,hl⟩
  walk_at "zz"
  refine⟨fun h=>?_,fun h=>?_⟩
  ·have hr:r≠0:=by simpa using h
   have hr0:0≤r:=eu.2.1
   have hl0:0≤l:=eu.1
   have hrp:0<r:=by omega
   have kr:Bd k r:=Zc2 kb hr0 rb
   have kl:Bd k l:=Zc2 kb hl0 lb
   have hdiv0:0≤l / r:=Int.ediv_nonneg hl0 hr0
   have hdiv1:l / r≤l:=Int.ediv_le_self _ hl0
   have ks:(s.natAbs:Int)≤b:=by
    have:(s.natAbs:Int)*1≤(s.natAbs:Int)*r:=Int.mul_le_mul_of_nonneg_left (by omega) (by omega)
    have:0≤(t.natAbs:Int)*l:=Int.mul_nonneg (by omega) hl0
    omega
   have kt:(t.natAbs:Int)≤b:=by
    rcases hl with hl | hl
    ·have:(t.natAbs:Int)*1≤(t.natAbs:Int)*l:=Int.mul_le_mul_of_nonneg_left (by omega) (by omega)
     have:0≤(s.natAbs:Int)*r:=Int.mul_nonneg (by omega) hr0
     omega
    ·rw[hl];simp;omega
   have kt':Bd k t:=by unfold Bd at *;omega
   have kd:Bd k (l / r):=Zc2 kl hdiv0 hdiv1
   walk_at "zz"
   refine ZdR hr (ZeF kr (by omega)) ?_
   rw[Int.fdiv_eq_ediv_of_nonneg _ hr0]
   walk_at "zz"
   refine ZbK (Zb3 kd kr (by omega) (by omega)) ?_
   walk_at "zz"
   refine ZbK (Zb3 kd kt' (by omega) (by omega)) ?_
   walk_at "zz"
   have hover:l-l / r*r=l % r:=by
    have:=Int.emod_add_mul_ediv l r
    rw[Int.mul_comm r (l / r)]at this
    omega
   rw[hover]
   obtain⟨m',hm1,hm2⟩:=eu.step hr
   have o0:=Int.emod_nonneg l hr
   have o1:=Int.emod_lt_of_pos l hrp
   refine⟨m',hm1,r,l % r,t,s-l / r*t,by walk_at "zr",by walk_at "zr",by walk_at "zr",by walk_at "zr",by walk_at "zr",hm2,by rw[Zgp hrp];exact gl,rb,by omega,⟨q2,h2⟩,⟨q1-l / r*q2,?_⟩,?_,.inl (by omega)⟩
   ·rw[Int.sub_mul,h1,Int.mul_assoc,h2,Int.mul_add,Int.mul_sub,←hover]
    have e1:b*(l / r*q2)=l / r*(b*q2):=by rw[←Int.mul_assoc,Int.mul_comm b,Int.mul_assoc]
    rw[e1]
    omega
   ·have ht:((s-l / r*t).natAbs:Int)≤(s.natAbs:Int)+l / r*(t.natAbs:Int):=by
     have h3:(s-l / r*t).natAbs≤s.natAbs+(l / r*t).natAbs:=by omega
     have h4:(l / r*t).natAbs=(l / r).natAbs*t.natAbs:=Int.natAbs_mul ..
     have h5:(((l / r).natAbs*t.natAbs:Nat):Int)=l / r*(t.natAbs:Int):=by
      rw[Int.natCast_mul,Int.natAbs_of_nonneg hdiv0]
     rw[h4]at h3
     omega
    have h6:((s-l / r*t).natAbs:Int)*r≤((s.natAbs:Int)+l / r*(t.natAbs:Int))*r:=Int.mul_le_mul_of_nonneg_right ht hr0
    have h7:((s.natAbs:Int)+l / r*(t.natAbs:Int))*r=(s.natAbs:Int)*r+(t.natAbs:Int)*(l / r*r):=by
     rw[Int.add_mul,Int.mul_comm (l / r) (t.natAbs:Int),Int.mul_assoc]
    have h8:(t.natAbs:Int)*(l % r)+(t.natAbs:Int)*(l / r*r)=(t.natAbs:Int)*l:=by
     rw[←Int.mul_add,←hover]
     congr 1
     omega
    omega
  ·have hr:r=0:=by simpa using h
   subst hr
   rw[Int.gcd_zero_right]at gl
   have hl1:l=1:=by have:=eu.1;omega
   subst hl1
   walk_at "zz"
   rw[Int.fmod_eq_emod_of_nonneg _ (by omega)]
   refine⟨s % b,rfl,Int.emod_nonneg _ (by omega),Int.emod_lt_of_pos _ hb,q1-s / b*a,?_⟩
   have h3:=Int.emod_add_mul_ediv s b
   have h4:s % b=s-b*(s / b):=by omega
   rw[h4,Int.mul_sub,Int.mul_comm a s,h1,Int.mul_sub]
   have e1:a*(b*(s / b))=b*(s / b*a):=by rw[Int.mul_comm a,Int.mul_assoc]
   rw[e1]
   omega
 ·have h3:=Int.emod_add_mul_ediv a b
  rw[Int.one_mul]
  omega
theorem Zkg{m r:Int}(h:0≤m): Zfv [.int m,.int r]=some (ZZ (ZaR m r)):=by
 apply Pk.eq
 unfold Zfv Znb ZaR
 by_cases c:m=0
 ·walk_at "zz"
  rw[if_pos c];rfl
 ·walk_at "zz"
  rw[if_neg c];rfl
theorem Zbj(h:0≤q.1)(x:Int): ZaE q x↔q.1 ∣ x-q.2:=by
 unfold ZaE
 by_cases c:q.1=0
 ·rw[c]
  simp
  omega
 ·have:0<q.1:=by omega
  simp only[c,false_implies,true_and,this,true_implies]
  exact(Int.dvd_iff_emod_eq_zero).symm
theorem ZtN{m r:Int}(h:0≤m): 0≤(ZaR m r).1:=by unfold ZaR;split <;> simp[h]
theorem Zc9{m r:Int}(h:0≤m)(x:Int): ZaE (ZaR m r) x↔m ∣ x-r:=by
 rw[Zbj (ZtN h)]
 unfold ZaR
 split
 ·rename_i c;subst c;rfl
 ·show m ∣ x-r.fmod m↔_
  rw[Int.fmod_eq_emod_of_nonneg _ h]
  have h1:x-r % m=(x-r)+m*(r / m):=by have:=Int.emod_add_mul_ediv r m;omega
  rw[h1]
  constructor
  ·intro q
   have:=Int.dvd_sub q (Int.dvd_mul_right m (r / m))
   rwa [Int.add_sub_cancel]at this
  ·intro q
   exact Int.dvd_add q (Int.dvd_mul_right m (r / m))
theorem RestOk.nn(h:RestOk q): 0≤q.1:=by rcases h with h | h <;> omega
theorem RestOk.self(h:RestOk q): ZaE q q.2:=by rw[Zbj h.nn];simp
theorem Zf1(hp:RestOk p)(hq:RestOk q)(h:∀x,ZaE p x↔ZaE q x): p=q:=by
 have e1:∀x,p.1 ∣ x-p.2↔q.1 ∣ x-q.2:=fun x=>by rw[←Zbj hp.nn,←Zbj hq.nn];exact h x
 have a1:q.1 ∣ p.2-q.2:=(e1 p.2).mp (by simp)
 have a2:q.1 ∣ p.2+p.1-q.2:=(e1 (p.2+p.1)).mp (by rw[show p.2+p.1-p.2=p.1 by omega];exact Int.dvd_refl _)
 have b1:p.1 ∣ q.2-p.2:=(e1 q.2).mpr (by simp)
 have b2:p.1 ∣ q.2+q.1-p.2:=(e1 (q.2+q.1)).mpr (by rw[show q.2+q.1-q.2=q.1 by omega];exact Int.dvd_refl _)
 have c1:q.1 ∣ p.1:=by have:=Int.dvd_sub a2 a1;rwa [show p.2+p.1-q.2-(p.2-q.2)=p.1 by omega]at this
 have c2:p.1 ∣ q.1:=by have:=Int.dvd_sub b2 b1;rwa [show q.2+q.1-p.2-(q.2-p.2)=q.1 by omega]at this
 have em:p.1=q.1:=Int.dvd_antisymm hp.nn hq.nn c2 c1
 have er:p.2=q.2:=by
  rcases hp with hp | hp
  ·rw[hp]at em
   rw[←em]at a1
   have:=Int.zero_dvd.mp a1
   omega
  ·rcases hq with hq | hq
   ·omega
   ·rw[←em]at a1 hq
    obtain⟨k,hk⟩:=a1
    have:k=0:=by
     rcases Int.lt_trichotomy k 0 with h | h | h
     ·have:p.1*k≤p.1*(-1):=Int.mul_le_mul_of_nonneg_left (by omega) (by omega)
      omega
     ·exact h
     ·have:p.1*1≤p.1*k:=Int.mul_le_mul_of_nonneg_left (by omega) (by omega)
      omega
    subst this
    simp at hk
    omega
 exact Prod.ext em er
noncomputable def RBd(k:Nat)(q:Int×Int): Prop:=Bd k q.1∧Bd k q.2
theorem ZhZ{m r:Int}(h0:0≤m)(hm:Bd k m)(hr:Bd k r): RBd k (ZaR m r):=ZeY h0 hm hr
noncomputable def Zbz(p q:Int×Int): Int×Int:=ZaR (Int.gcd p.1 q.1) (p.2+q.2)
theorem Zia(p q:Int×Int): RestOk (Zbz p q):=ZcN (by omega) _
theorem Zkh(hk:k≤200000)(hp:Bd k p.1)(hq:Bd k q.1): Ze0 [ZZ p,ZZ q]=some (ZZ (Zbz p q)):=by
 apply Pk.eq
 unfold Ze0 Zkt ZZ Zbz
 walk_at "zz"
 refine ZM (Zof (Zbq hp hk) (Zbq hq hk)) ?_
 walk_at "zz"
 exact ZM (Zkg (by omega)) rfl
noncomputable def Zc0(p:Int×Int)(k:Int): Int×Int:=ZaR (p.1*Zbw k) (p.2*k)
theorem ZnJ{c:Int}(hk:k≤200000)(hp0:0≤p.1)(hp:RBd k p)(hc:Bd k c): ZfU [ZZ p,.int c]=some (ZZ (Zc0 p c)):=by
 apply Pk.eq
 unfold ZfU Zj4 ZZ Zc0
 have ha:Bd k (Zbw c):=by unfold Bd at *;rw[Zh9];exact hc
 walk_at "zz"
 refine ZbK (Zb3 hp.1 ha (by omega) (by omega)) ?_
 walk_at "zz"
 refine ZbK (Zb3 hp.2 hc (by omega) (by omega)) ?_
 walk_at "zz"
 exact ZM (Zkg (Int.mul_nonneg hp0 (Zdd c))) rfl
noncomputable def Zdx(p:Int×Int)(top:Int): Option Int:=if p.1=0 then(if p.2≤top then some p.2 else none)else some (top-(top-p.2) % p.1)
theorem ZrG{top:Int}(hp:0≤p.1): Zhj [ZZ p,.int top]=some (oT (Zdx p top)):=by
 apply Pk.eq
 unfold Zhj Zj7 ZZ Zdx
 by_cases c:p.1=0
 ·rw[if_pos c]
  by_cases d:p.2≤top
  ·walk_at "zz"
   rw[if_pos d];rfl
  ·walk_at "zz"
   rw[if_neg d];rfl
 ·rw[if_neg c]
  walk_at "zz"
  rw[Int.fmod_eq_emod_of_nonneg _ hp]
  rfl
noncomputable def oR: Option (Int×Int)→T
 | none=>.none
 | some q=>ZZ q
noncomputable def Met(p q:Int×Int)(o:Option (Int×Int)): Prop:=match o with
 | none=>∀x,¬(ZaE p x∧ZaE q x)
 | some r=>RestOk r∧(∀x,ZaE r x↔ZaE p x∧ZaE q x)
theorem Zog{a b:Option (Int×Int)}(ha:Met p q a)(hb:Met p q b): a=b:=by
 cases a with
 | none=>
  cases b with
  | none=>rfl
  | some r=>exact absurd ((hb.2 r.2).mp hb.1.self) (ha r.2)
 | some s=>
  cases b with
  | none=>exact absurd ((ha.2 s.2).mp ha.1.self) (hb s.2)
  | some r=>rw[Zf1 ha.1 hb.1 fun x=>(ha.2 x).trans (hb.2 x).symm]
theorem ZkP(hk:k≤8000)(op:RestOk p)(oq:RestOk q)(bp:RBd k p)(bq:RBd k q): Pk (Zf6 [ZZ p,ZZ q]) fun t=>∃o,t=oR o∧Met p q o∧∀r,o=some r→(r=p∨r=q∨(p.1≠0∧q.1≠0∧r.1=Int.lcm p.1 q.1)):=by
 unfold Zf6 Zla
 have ep:ZZ p=.tup [.int p.1,.int p.2]:=rfl
 have eq:ZZ q=.tup [.int q.1,.int q.2]:=rfl
 have np:=op.nn
 have nq:=oq.nn
 by_cases c1:p.1=0
 ·rw[ep]
  walk_at "zz"
  refine ZM (ZnY oq) ?_
  walk_at "zz"
  have hone:∀x,ZaE p x↔x=p.2:=fun x=>by rw[Zbj np,c1,Int.zero_dvd];omega
  refine⟨fun e=>?_,fun e=>?_⟩
  ·walk_at "zz"
   refine⟨some p,rfl,⟨op,fun x=>⟨fun h=>⟨h,?_⟩,fun h=>h.1⟩⟩,fun r e=>by cases e;exact .inl rfl⟩
   rw[(hone x).mp h];exact dec_iff.mp e
  ·walk_at "zz"
   refine⟨none,rfl,fun x h=>?_,by simp⟩
   have:=(hone x).mp h.1
   subst this
   have h2:=Za9 h.2
   rw[h2]at e
   cases e
 by_cases c2:q.1=0
 ·have hone:∀x,ZaE q x↔x=q.2:=fun x=>by rw[Zbj nq,c2,Int.zero_dvd];omega
  rw[ep,eq]
  walk_at "zz"
  rw[←ep]
  refine ZM (ZnY op) ?_
  walk_at "zz"
  refine⟨fun e=>?_,fun e=>?_⟩
  ·walk_at "zz"
   refine⟨some q,rfl,⟨oq,fun x=>⟨fun h=>⟨?_,h⟩,fun h=>h.2⟩⟩,fun r e=>by cases e;exact .inr (.inl rfl)⟩
   rw[(hone x).mp h];exact dec_iff.mp e
  ·walk_at "zz"
   refine⟨none,rfl,fun x h=>?_,by simp⟩
   have:=(hone x).mp h.2
   subst this
   have h2:=Za9 h.1
   rw[h2]at e
   cases e
 ·have pp:0<p.1:=by omega
  have pq:0<q.1:=by omega
  obtain⟨g,hg⟩:∃g:Nat,Int.gcd p.1 q.1=g:=⟨_,rfl⟩
  have hg0:0<(g:Int):=by
   have:Int.gcd p.1 q.1≠0:=fun h=>c1 (Int.gcd_eq_zero_iff.mp h).1
   omega
  have gp:(g:Int) ∣ p.1:=by rw[←hg];exact Int.gcd_dvd_left ..
  have gq:(g:Int) ∣ q.1:=by rw[←hg];exact Int.gcd_dvd_right ..
  obtain⟨a,ea⟩:=gp
  obtain⟨b,eb⟩:=gq
  have ha:0<a:=by
   rcases Int.lt_trichotomy a 0 with h | h | h
   ·have:=Int.mul_neg_of_pos_of_neg hg0 h;omega
   ·subst h;simp at ea;omega
   ·exact h
  have hb:0<b:=by
   rcases Int.lt_trichotomy b 0 with h | h | h
   ·have:=Int.mul_neg_of_pos_of_neg hg0 h;omega
   ·subst h;simp at eb;omega
   ·exact h
  have da:p.1 / g=a:=by rw[ea];exact Int.mul_ediv_cancel_left _ (by omega)
  have db:q.1 / g=b:=by rw[eb];exact Int.mul_ediv_cancel_left _ (by omega)
  have kg:Bd k (g:Int):=Zc2 bp.1 (by omega) (by
   rw[ea]
   have:(g:Int)*1≤g*a:=Int.mul_le_mul_of_nonneg_left (by omega) (by omega)
   omega)
  have kb:Bd k b:=Zc2 bq.1 (by omega) (by
   rw[eb]
   have:1*b≤g*b:=Int.mul_le_mul_of_nonneg_right (by omega) (by omega)
   omega)
  have cop:Int.gcd a b=1:=by
   have h1:=Int.gcd_mul_left (g:Int) a b
   rw[←ea,←eb,hg,Int.natAbs_natCast]at h1
   have h2:g*1=g*Int.gcd a b:=by omega
   exact(Nat.eq_of_mul_eq_mul_left (by omega) h2).symm
  rw[ep,eq]
  walk_at "zz"
  refine ZM (Zof (Zbq bp.1 (by omega)) (Zbq bq.1 (by omega))) ?_
  rw[hg]
  walk_at "zz"
  rw[Int.fmod_eq_emod_of_nonneg _ (by omega)]
  by_cases c3:(q.2-p.2) % (g:Int)=0
  ·obtain⟨d,ed⟩:=Int.dvd_of_emod_eq_zero c3
   have dd:(q.2-p.2) / g=d:=by rw[ed];exact Int.mul_ediv_cancel_left _ (by omega)
   have kd:Bd (k+1) d:=by
    have h1:Bd (k+1) (q.2-p.2):=Bd.sub bq.2 bp.2
    unfold Bd at *
    rw[ed,Int.natAbs_mul]at h1
    have:1*d.natAbs≤(g:Int).natAbs*d.natAbs:=Nat.mul_le_mul_right _ (by omega)
    omega
   walk_at "zz"
   refine ZdR (by omega) (ZeF kg (by omega)) ?_
   rw[Int.fdiv_eq_ediv_of_nonneg _ (by omega),db]
   walk_at "zz"
   refine ZdR (by omega) (ZeF kg (by omega)) ?_
   rw[Int.fdiv_eq_ediv_of_nonneg _ (by omega),dd]
   walk_at "zz"
   refine ZdR (by omega) (ZeF kg (by omega)) ?_
   rw[Int.fdiv_eq_ediv_of_nonneg _ (by omega),da]
   walk_at "zz"
   refine(ZsV hb kb hk (by omega) cop).mono ?_
   rintro _ ⟨y,rfl,y0,y1,z,hz⟩
   have ky:Bd k y:=Zc2 kb y0 (by omega)
   walk_at "zz"
   refine ZbK (Zb3 kd ky (by omega) (by omega)) ?_
   walk_at "zz"
   refine ZbK (Zb3 bp.1 kb (by omega) (by omega)) ?_
   walk_at "zz"
   refine ZbK (Zb3 bp.1 (Bd.mul kd ky) (by omega) (by omega)) ?_
   walk_at "zz"
   have hL:(p.1*b).natAbs=Int.lcm p.1 q.1:=by
    have h1:=Int.gcd_mul_lcm p.1 q.1
    rw[hg]at h1
    have h2:p.1.natAbs*q.1.natAbs=g*(p.1*b).natAbs:=by
     rw[Int.natAbs_mul]
     conv=>lhs;rw[show q.1.natAbs=g*b.natAbs by rw[eb,Int.natAbs_mul,Int.natAbs_natCast]]
     rw[←Nat.mul_assoc,Nat.mul_comm p.1.natAbs g,Nat.mul_assoc]
    have h3:g*Int.lcm p.1 q.1=g*(p.1*b).natAbs:=by omega
    exact(Nat.eq_of_mul_eq_mul_left (by omega) h3).symm
   have hpb:0<p.1*b:=Int.mul_pos pp hb
   refine ZM (Zkg (by omega)) ⟨some _,rfl,⟨ZcN (by omega) _,fun x=>?_⟩,fun r e=>?_⟩
   ·rw[Zc9 (by omega),Zbj np,Zbj nq]
    have hx0:p.1*(d*y)=(q.2-p.2)+q.1*(d*z):=by
     rw[ed,ea,eb]
     have:(g:Int)*a*(d*y)=g*d*(a*y):=by
      rw[Int.mul_assoc,Int.mul_assoc,Int.mul_left_comm a d y]
     rw[this,hz,Int.mul_add,Int.mul_one]
     congr 1
     rw[Int.mul_assoc,Int.mul_assoc,Int.mul_left_comm d b z]
    constructor
    ·intro h
     have h1:p.1 ∣ x-(p.2+p.1*(d*y)):=Int.dvd_trans (Int.dvd_mul_right _ _) h
     have h2:q.1 ∣ x-(p.2+p.1*(d*y)):=Int.dvd_trans ⟨a,by rw[ea,eb];rw[Int.mul_assoc,Int.mul_assoc,Int.mul_comm a b]⟩ h
     refine⟨?_,?_⟩
     ·have:=Int.dvd_add h1 (Int.dvd_mul_right p.1 (d*y))
      rwa [show x-(p.2+p.1*(d*y))+p.1*(d*y)=x-p.2 by omega]at this
     ·have:=Int.dvd_add h2 (Int.dvd_mul_right q.1 (d*z))
      rwa [show x-(p.2+p.1*(d*y))+q.1*(d*z)=x-q.2 by omega]at this
    ·rintro⟨h1,h2⟩
     have h3:p.1 ∣ x-(p.2+p.1*(d*y)):=by
      have:=Int.dvd_sub h1 (Int.dvd_mul_right p.1 (d*y))
      rwa [show x-p.2-p.1*(d*y)=x-(p.2+p.1*(d*y))by omega]at this
     have h4:q.1 ∣ x-(p.2+p.1*(d*y)):=by
      have:=Int.dvd_sub h2 (Int.dvd_mul_right q.1 (d*z))
      rwa [show x-q.2-q.1*(d*z)=x-(p.2+p.1*(d*y))by omega]at this
     have h5:=Int.lcm_dvd (Int.dvd_natAbs.mpr h3) (Int.dvd_natAbs.mpr h4)
     rw[←hL]at h5
     have h6:(((p.1*b).natAbs:Nat):Int) ∣ (((x-(p.2+p.1*(d*y))).natAbs:Nat):Int):=Int.natCast_dvd_natCast.mpr h5
     exact Int.natAbs_dvd.mp (Int.dvd_natAbs.mp h6)
   ·cases e
    refine .inr (.inr ⟨c1,c2,?_⟩)
    unfold ZaR
    rw[if_neg (by omega)]
    show p.1*b=_
    rw[←hL]
    omega
  ·walk_at "zz"
   refine⟨none,rfl,fun x h=>c3 ?_,by simp⟩
   rw[Zbj np,Zbj nq]at h
   have h1:(g:Int) ∣ x-p.2:=Int.dvd_trans ⟨a,ea⟩ h.1
   have h2:(g:Int) ∣ x-q.2:=Int.dvd_trans ⟨b,eb⟩ h.2
   have h3:=Int.dvd_sub h1 h2
   rw[show x-p.2-(x-q.2)=q.2-p.2 by omega]at h3
   exact Int.emod_eq_zero_of_dvd h3
theorem Zqr{a b:Int}(ha:Bd k a)(hb:Bd k b): Bd k ((Int.gcd a b:Nat):Int):=by
 unfold Bd at *
 rw[Int.natAbs_natCast]
 by_cases z:a=0
 ·rw[z,Int.gcd_zero_left];exact hb
 ·exact Nat.lt_of_le_of_lt (Nat.gcd_le_left _ (by omega)) ha
noncomputable def Zbp(a b:Option Int): Option Int:=if dec (leO a b)then a else b
noncomputable def addO: Option Int→Option Int→Option Int
 | some a,some b=>some (a+b)
 | _,_=>none
theorem addO_some{b:Option Int}{c:Int}: addO a b=some c↔∃x y,a=some x∧b=some y∧x+y=c:=by
 cases a <;> cases b <;> simp[addO]
theorem leO_total{b:Option Int}(h:¬leO a b): leO b a:=by
 cases a with
 | none=>exact Zew
 | some x=>
  cases b with
  | none=>exact absurd Zew h
  | some y=>rw[leO_some]at h ⊢;omega
theorem ZiH{b:Option Int}: leO (Zbp a b) a:=by
 unfold Zbp
 split
 ·exact ZcI
 ·rename_i h;exact leO_total fun q=>h (Za9 q)
theorem Zqs{b:Option Int}: leO (Zbp a b) b:=by
 unfold Zbp
 split
 ·rename_i h;exact dec_iff.mp h
 ·exact ZcI
theorem ZeB(a b:Option Int): Zbp a b=a∨Zbp a b=b:=by
 unfold Zbp;split <;> simp
theorem ZrX{b:Option Int}(h:leO a b)(k:leO b a): a=b:=by
 cases a with
 | none=>
  cases b with
  | none=>rfl
  | some y=>exact absurd h Zip
 | some x=>
  cases b with
  | none=>exact absurd k Zip
  | some y=>rw[leO_some]at h k;rw[show x=y by omega]
theorem ZgB{b:Option Int}(h:leO a b): Zbp a b=a:=by unfold Zbp;rw[Za9 h];rfl
theorem Zfb{b c d:Option Int}(h:leO a c)(k:leO b d): leO (addO a b) (addO c d):=by
 intro y e
 obtain⟨p,q,rfl,rfl,rfl⟩:=addO_some.mp e
 obtain⟨p',rfl,l1⟩:=h p rfl
 obtain⟨q',rfl,l2⟩:=k q rfl
 exact⟨p'+q',rfl,by omega⟩
theorem Zqt: addO a (some 0)=a:=by cases a <;> simp[addO]
theorem Zqu: addO (some 0) a=a:=by cases a <;> simp[addO]
theorem Zf9{b c:Option Int}: addO (addO a b) c=addO a (addO b c):=by cases a <;> cases b <;> cases c <;> simp[addO,Int.add_assoc]
theorem Zf2{b:Option Int}: Zd5 [oT a,oT b]=some (oT (addO a b)):=by
 apply Pk.eq
 unfold Zd5 Zlc
 cases a with
 | none=>
  rw[ZbO]
  walk_at "zz"
  rfl
 | some x=>
  cases b with
  | none=>
   rw[ZbO,ZaF]
   walk_at "zz"
   rfl
  | some y=>
   rw[ZaF,ZaF]
   walk_at "zz"
   rfl
theorem ZoE{b:Option Int}: Zgn [oT a,oT b]=some (oT (Zbp a b)):=by
 apply Pk.eq
 unfold Zgn Zmq Zbp
 walk_at "zz"
 refine ZM ZrW ?_
 walk_at "zz"
 refine⟨fun e=>?_,fun e=>?_⟩
 ·walk_at "zz"
  rw[e];rfl
 ·walk_at "zz"
  rw[e];rfl
noncomputable def ZbU(G:Nat→Nat→Option Int)(m:Nat): Nat→Nat→Option Int:=fun i j=>Zbp (G i j) (addO (G i m) (G m j))
theorem ZqU{a b:Nat→Option Int}{c:Option Int}(hn:n<10000): Zg4 [Zan n a,oT c,Zan n b]=some (Zan n fun j=>Zbp (a j) (addO c (b j))):=by
 apply Pk.eq
 unfold Zg4 Zi6 Zan
 walk_at "zz"
 refine Zmm (n:=n) (a:=fun j=>oT (a j)) (b:=fun j=>oT (b j)) (c:=fun j=>oT (Zbp (a j) (addO c (b j)))) hn ?_ (fun j hj=>?_) ?_
 ·walk_at "zz"
  rfl
 ·walk_at "zz"
  refine ZM Zf2 ?_
  walk_at "zz"
  exact ZM ZoE ⟨Zfn,rfl⟩
 rfl
theorem ZrY(hn:n<10000)(hm:m<n): Zhs [Z8 n G,.int m]=some (Z8 n (ZbU G m)):=by
 apply Pk.eq
 unfold Zhs Zkx Z8
 walk_at "zz"
 refine Zby (n:=n) (a:=fun i=>Zan n (G i)) (b:=fun i=>Zan n (ZbU G m i)) hn ?_ (fun i hi=>?_) ?_
 ·walk_at "zz"
  rfl
 ·have h:Zan n (G i)=.lst (tab n fun j=>oT (G i j)):=rfl
  rw[h]
  walk_at "zz"
  rw[←h]
  exact ZM (ZqU hn) rfl
 rfl
noncomputable def Neg(n:Nat)(G:Nat→Nat→Option Int): Prop:=∃i,i<n∧∃b,G i i=some b∧b<0
theorem ZuQ(hn:n≤1000)(hd:∀i,i<n→∃b,G i i=some b): Zg8 [Z8 n G]=some (.bool (dec (Neg n G))):=by
 apply Pk.eq
 unfold Zg8 Zjj Z8 Zan
 walk_at "zz"
 refine Zby (n:=n) (a:=fun i=>.int i) (b:=fun i=>.bool (dec (∃b,G i i=some b∧b<0))) (by omega) ?_ (fun i hi=>?_) ?_
 ·walk_at "zz"
  rfl
 ·walk_at "zz"
  obtain⟨b,e⟩:=hd i hi
  rw[e,ZaF]
  walk_at "zz"
  rw[Zhx]
  congr 1
  refine ZlJ ⟨fun h=>⟨b,rfl,h⟩,?_⟩
  rintro⟨c,e,h⟩
  cases e
  exact h
 walk_at "zz"
 rfl
noncomputable def clG(G:Nat→Nat→Option Int): Nat→Nat→Nat→Option Int
 | 0=>G
 | m+1=>ZbU (clG G m) m
theorem Zo8(h:∃b,G i i=some b): ∃b,ZbU G m i i=some b:=by
 obtain⟨b,e⟩:=h
 have:=ZiH (a:=G i i) (b:=addO (G i m) (G m i))
 rw[e]at this
 obtain⟨c,e2,_⟩:=this b rfl
 exact⟨c,by unfold ZbU;rw[e];exact e2⟩
theorem ZmU{n:Nat}{G:Nat→Nat→Option Int}(hd:∀i,i<n→∃b,G i i=some b): ∀m i,i<n→∃b,clG G m i i=some b
 | 0=>hd
 | m+1=>fun i hi=>Zo8 (ZmU hd m i hi)
theorem ZtO(h0:0<n)(hn:n≤1000)(hd:∀i,i<n→∃b,G i i=some b): Pk (Zgo [Z8 n G]) fun t=>(t=Z8 n (clG G n)∧∀m,m<n→¬Neg n (clG G (m+1)))∨(t=.none∧∃m,m<n∧Neg n (clG G (m+1))):=by
 unfold Zgo Zms
 have hg:Z8 n G=.lst (tab n fun i=>Zan n (G i)):=rfl
 walk_at "zz"
 refine ZvP (n:=n) (a:=fun i=>.int i) h0 ?_ (P:=fun i σ=>σ 1=some (Z8 n (clG G i))∧∀m,m<i→¬Neg n (clG G (m+1))) ⟨rfl,by omega⟩ ?_ ?_
 ·walk_at "zz"
  rw[hg]
  walk_at "zz"
  rfl
 ·rintro i σ hi ⟨e1,e2⟩
  walk_at "zz"
  refine ZM (ZrY (by omega) hi) ?_
  walk_at "zz"
  refine ZM (ZuQ hn fun a ha=>Zo8 (ZmU hd i a ha)) ?_
  walk_at "zz"
  refine⟨fun e=>?_,fun e=>?_⟩
  ·walk_at "zz"
   exact .inr ⟨rfl,i,hi,dec_iff.mp e⟩
  ·walk_at "zz"
   refine⟨by walk_at "zr",fun m hm=>?_⟩
   by_cases q:m=i
   ·subst q
    intro h
    have h2:dec (Neg n (ZbU (clG G m) m))=true:=Za9 h
    rw[h2]at e
    cases e
   ·exact e2 m (by omega)
 ·rintro σ ⟨e1,e2⟩
  walk_at "zz"
  exact .inl ⟨rfl,e2⟩
theorem ZgS{G:Nat→Nat→Option Int}: ∀m i j,leO (clG G m i j) (G i j)
 | 0=>fun _ _=>ZcI
 | m+1=>fun i j=>Zcc ZiH (ZgS m i j)
theorem ZeC(hd:∀i,i<n→G i i=some 0)(hn:∀k,k<m→¬Neg n (clG G (k+1))): ∀i,i<n→clG G m i i=some 0:=by
 intro i hi
 obtain⟨b,e⟩:=ZmU (fun i hi=>⟨0,hd i hi⟩) m i hi
 have h:=ZgS m i i (G:=G)
 rw[hd i hi,e]at h
 have h1:=leO_some.mp h
 have h2:¬b<0:=fun q=>by
  cases m with
  | zero=>have:=hd i hi;rw[show clG G 0 i i=G i i from rfl,this]at e;cases e;omega
  | succ m=>exact hn m (by omega) ⟨i,hi,b,e,q⟩
 rw[e,show b=0 by omega]
theorem Zng{n:Nat}{G:Nat→Nat→Option Int}(hd:∀i,i<n→G i i=some 0): ∀m,m≤n→(∀k,k<m→¬Neg n (clG G (k+1)))→∀k,k<m→∀i j,i<n→j<n→leO (clG G m i j) (addO (clG G m i k) (clG G m k j))
 | 0,_,_,k,hk=>by omega
 | m+1,hm,hn,k,hk=>by
  intro i j hi hj
  have z:=ZeC hd (fun k hk=>hn k (by omega):∀k,k<m→_)
  have ih:=Zng hd m (by omega) (fun k hk=>hn k (by omega))
  generalize hD:clG G m=D at z ih
  have hs:clG G (m+1)=ZbU D m:=by rw[←hD];rfl
  rw[hs]
  have zm:=z m (by omega)
  have cm:∀a,ZbU D m a m=D a m:=fun a=>by unfold ZbU;rw[zm,Zqt];exact ZgB ZcI
  have rm:∀b,ZbU D m m b=D m b:=fun b=>by unfold ZbU;rw[zm,Zqu];exact ZgB ZcI
  by_cases q:k=m
  ·subst q
   rw[cm,rm]
   exact Zqs
  ·have hk':k<m:=by omega
   have t1:=ih k hk' i j hi hj
   have t2:=ih k hk' i m hi (by omega)
   have t3:=ih k hk' m j (by omega) hj
   have t4:=ih k hk' m m (by omega) (by omega)
   rw[zm]at t4
   have dn:leO (ZbU D m i j) (addO (D i m) (D m j)):=Zqs
   have d0:leO (ZbU D m i j) (D i j):=ZiH
   rcases ZeB (D i k) (addO (D i m) (D m k))with e1 | e1 <;> rcases ZeB (D k j) (addO (D k m) (D m j))with e2 | e2
   ·rw[show ZbU D m i k=_ from e1,show ZbU D m k j=_ from e2]
    exact Zcc d0 t1
   ·rw[show ZbU D m i k=_ from e1,show ZbU D m k j=_ from e2,←Zf9]
    exact Zcc dn (Zfb t2 ZcI)
   ·rw[show ZbU D m i k=_ from e1,show ZbU D m k j=_ from e2,Zf9]
    exact Zcc dn (Zfb ZcI t3)
   ·rw[show ZbU D m i k=_ from e1,show ZbU D m k j=_ from e2,Zf9,←Zf9 (a:=D m k)]
    refine Zcc dn (Zfb ZcI ?_)
    have:=Zfb t4 (ZcI (a:=D m j))
    rwa [Zqu]at this
noncomputable def ZgT(n:Nat)(G:Nat→Nat→Option Int)(y:Nat→Int): Prop:=∀i j,i<n→j<n→∀b,G i j=some b→y i-y j≤b
theorem Zmz{n:Nat}{G:Nat→Nat→Option Int}{y:Nat→Int}(h:ZgT n G y): ∀m,m≤n→ZgT n (clG G m) y
 | 0,_=>h
 | m+1,hm=>by
  have ih:=Zmz h m (by omega)
  intro i j hi hj b e
  rcases ZeB (clG G m i j) (addO (clG G m i m) (clG G m m j))with e1 | e1
  ·rw[show clG G (m+1) i j=_ from e1]at e;exact ih i j hi hj b e
  ·rw[show clG G (m+1) i j=_ from e1]at e
   obtain⟨p,q,h1,h2,h3⟩:=addO_some.mp e
   have:=ih i m hi (by omega) p h1
   have:=ih m j (by omega) hj q h2
   omega
theorem ZtP{y:Nat→Int}(h:ZgT n G y): ¬Neg n G:=by
 rintro⟨i,hi,b,e,hb⟩
 have:=h i i hi hi b e
 omega
theorem Zoh(h:ZaP n G R x): ZgT (n+1) G (ZaG x):=fun i j hi hj b e=>h.1 i j hi hj b e
theorem Zl7{k:Int}: Ze1 [.int k]=some (.bool true):=by
 apply Pk.eq
 unfold Ze1 Zkz
 walk_at "zz"
 rfl
theorem ZvX(hn:n≤1000)(hd:∀i,i<n→G i i=some 0): ZhE [Z8 n G,.int n]=some (.bool true):=by
 apply Pk.eq
 unfold ZhE Zlf Z8 Zan
 walk_at "zz"
 refine ZbQ (n:=n) (a:=fun i=>.int i) (P:=fun i σ=>σ 0=some (Z8 n G)∧σ 1=some (.int n)) ?_ ⟨rfl,rfl⟩ ?_ ?_
 ·walk_at "zz"
  rfl
 ·rintro i σ hi ⟨e0,e1⟩
  unfold Z8 Zan at e0
  walk_at "zz"
  refine ZbQ (n:=n) (a:=fun j=>oT (G i j)) (P:=fun j σ=>σ 0=some (Z8 n G)∧σ 1=some (.int n)∧σ 2=some (.int i)) ?_ ⟨by walk_at "zr",by walk_at "zr",by walk_at "zr"⟩ ?_ ?_
  ·walk_at "zz"
   rfl
  ·rintro j σ hj ⟨f0,f1,f2⟩
   cases G i j with
   | none=>
    rw[ZbO]
    walk_at "zz"
    exact⟨by walk_at "zr",by walk_at "zr",by walk_at "zr"⟩
   | some b=>
    rw[ZaF]
    walk_at "zz"
    refine ZM Zl7 ?_
    walk_at "zz"
    exact⟨by walk_at "zr",by walk_at "zr",by walk_at "zr"⟩
  ·rintro σ ⟨f0,f1,f2⟩
   unfold Z8 Zan at f0
   walk_at "zz"
   rw[hd i hi,ZaF]
   walk_at "zz"
   exact⟨by walk_at "zr",by walk_at "zr"⟩
 ·rintro σ ⟨e0,e1⟩
  walk_at "zz"
  rfl
section
variable {Q:T→Prop}
theorem Zl8{p:PE}(h:Pk (p σ) fun t=>∃ts,t=.lst ts∧Q (.lst (ts.drop k))): Pk (Zdz p k σ) Q:=by
 obtain⟨_,e,ts,rfl,q⟩:=h
 exact⟨_,by simp only[Zdz,e,Option.bind_some],q⟩
end
noncomputable abbrev Sp:=Option Int×Option Int
noncomputable def spT(s:Sp): T:=.tup [oT s.1,oT s.2]
noncomputable def SBd(k:Nat)(s:Sp): Prop:=(∀x,s.1=some x→Bd k x)∧∀x,s.2=some x→Bd k x
theorem ZvY{x:Int}(h:Bd k x): Bd k (Zbw x):=by unfold Zbw;unfold Bd at *;split <;> omega
noncomputable def InS(s:Sp)(x:Int): Prop:=(∀l,s.1=some l→l≤x)∧∀h,s.2=some h→x≤h
theorem Zki{k:Int}(hi:i≤100000)(ha:∀x,a=some x→Bd i x)(hk:Bd i k): Ze2 [oT a,.int k]=some (oT (a.map fun x=>x*k)):=by
 apply Pk.eq
 unfold Ze2 ZkC
 cases a with
 | none=>
  simp only[ZbO,Option.map_none]
  walk_at "zz"
  rfl
 | some x=>
  simp only[ZaF,Option.map_some]
  walk_at "zz"
  refine ZbK (Zb3 (ha x rfl) hk (by omega) (by omega)) ?_
  rfl
noncomputable def Zcz(s:Sp)(k:Int): Sp:=if k=0 then(some 0,some 0)else if k<0 then(s.2.map fun x=>x*k,s.1.map fun x=>x*k)else(s.1.map fun x=>x*k,s.2.map fun x=>x*k)
theorem ZqV{s:Sp}{k:Int}(hi:i≤100000)(hs:SBd i s)(hk:Bd i k): Zg5 [spT s,.int k]=some (spT (Zcz s k)):=by
 apply Pk.eq
 unfold Zg5 Zi9 Zcz spT
 by_cases c:k=0
 ·walk_at "zz"
  rw[if_pos c]
  rfl
 ·rw[if_neg c]
  walk_at "zz"
  refine ZM (Zki hi hs.1 hk) ?_
  walk_at "zz"
  refine ZM (Zki hi hs.2 hk) ?_
  by_cases d:k<0
  ·walk_at "zz"
   rw[if_pos d]
  ·walk_at "zz"
   rw[if_neg d]
noncomputable def ZiQ(s u:Sp): Sp:=(addO s.1 u.1,addO s.2 u.2)
theorem Zq4{s u:Sp}: Zg9 [spT s,spT u]=some (spT (ZiQ s u)):=by
 apply Pk.eq
 unfold Zg9 Zjm spT
 walk_at "zz"
 refine ZM Zf2 ?_
 walk_at "zz"
 refine ZM Zf2 ?_
 walk_at "zz"
 rfl
noncomputable def ZbZ(c:Nat→Int)(S:Nat→Sp): Nat→Sp
 | 0=>(some (c 0),some (c 0))
 | j+1=>ZiQ (ZbZ c S j) (Zcz (S j) (c (j+1)))
theorem ZmA: (tab (n+1) f).drop 1=tab n fun i=>f (i+1):=by
 apply List.ext_getElem
 ·simp[tab]
 ·intro i h1 h2
  simp[tab]
theorem Zrj{S:Nat→Sp}(hn:n≤100)(hi:i≤100000)(bc:∀j,j<n+1→Bd i (c j))(bS:∀j,j<n→SBd i (S j)): Zhe [.lst (tab (n+1) fun j=>.int (c j)),.lst (tab n fun j=>spT (S j))]=some (spT (ZbZ c S n)):=by
 apply Pk.eq
 unfold Zhe ZjL
 walk_at "zz"
 refine Zez (n:=n) (a:=fun j=>.int (c (j+1))) (c:=fun j=>spT (S j)) (P:=fun j σ=>σ 2=some (spT (ZbZ c S j))) ?_ rfl ?_ ?_
 ·refine Zm8 ?_
  refine Zl8 ?_
  walk_at "zz"
  refine⟨_,rfl,?_⟩
  rw[ZmA]
  walk_at "zz"
  rfl
 ·rintro j σ hj e2
  walk_at "zz"
  refine ZM (ZqV hi (bS j hj) (bc (j+1) (by omega))) ?_
  walk_at "zz"
  refine ZM Zq4 ?_
  walk_at "zz"
  exact ZbJ
 ·rintro σ e2
  walk_at "zz"
  rfl
noncomputable def Zd1(c:Nat→Int)(R:Nat→Int×Int): Nat→Int×Int
 | 0=>(0,c 0)
 | j+1=>Zbz (Zd1 c R j) (Zc0 (R j) (c (j+1)))
noncomputable def Zb0(c:Nat→Int)(R:Nat→Int×Int): Nat→Int
 | 0=>0
 | j+1=>Int.gcd (Zb0 c R j) (c (j+1)*(R j).1)
noncomputable def Zca(c:Nat→Int)(R:Nat→Int×Int): Nat→Int
 | 0=>c 0
 | j+1=>Zca c R j+c (j+1)*(R j).2
theorem ZgC(c:Nat→Int)(R:Nat→Int×Int): ∀j,0≤Zb0 c R j
 | 0=>by show(0:Int)≤0;decide
 | j+1=>by show(0:Int)≤((Int.gcd _ _:Nat):Int);omega
theorem Zir{c:Nat→Int}{R:Nat→Int×Int}{n i:Nat}(bc:∀j,j<n+1→Bd i (c j))(bR:∀j,j<n→RBd i (R j)): ∀j,j≤n→Bd (i+i) (Zb0 c R j)
 | 0,_=>Zc6
 | j+1,h=>Zqr (Zir bc bR j (by omega)) ((bc (j+1) (by omega)).mul (bR j (by omega)).1)
theorem ZpQ{c:Nat→Int}{R:Nat→Int×Int}{n i:Nat}(bc:∀j,j<n+1→Bd i (c j))(bR:∀j,j<n→RBd i (R j)): ∀j,j≤n→Bd (i+i+j) (Zca c R j)
 | 0,_=>(bc 0 (by omega)).mono (by omega)
 | j+1,h=>(ZpQ bc bR j (by omega)).add (((bc (j+1) (by omega)).mul (bR j (by omega)).2).mono (by omega))
theorem ZrZ{m a b:Int}(h:0≤m)(hd:m ∣ a-b): ZaR m a=ZaR m b:=by
 refine Zf1 (ZcN h _) (ZcN h _) fun x=>?_
 rw[Zc9 h,Zc9 h]
 constructor
 ·intro q
  have:=Int.dvd_add q hd
  rwa [show x-a+(a-b)=x-b by omega]at this
 ·intro q
  have:=Int.dvd_sub q hd
  rwa [show x-b-(a-b)=x-a by omega]at this
theorem Zoi{m r:Int}(h:0≤m): m ∣ (ZaR m r).2-r:=by
 have:=(Zc9 (r:=r) h (ZaR m r).2).mp (ZcN h r).self
 exact this
theorem Zga{m r:Int}: (ZaR m r).1=m:=by
 unfold ZaR
 split
 ·rename_i h;exact h.symm
 ·rfl
theorem Zd8{c:Nat→Int}{R:Nat→Int×Int}{n:Nat}(ok:∀j,j<n→RestOk (R j)): ∀j,j≤n→Zd1 c R j=ZaR (Zb0 c R j) (Zca c R j)
 | 0,_=>rfl
 | j+1,h=>by
  have ih:=Zd8 (c:=c) ok j (by omega)
  have h0:=ZgC c R j
  have hr:=(ok j (by omega)).nn
  show Zbz (Zd1 c R j) (Zc0 (R j) (c (j+1)))=_
  rw[ih]
  unfold Zbz Zc0
  rw[Zga,Zga]
  have hab:0≤(R j).1*Zbw (c (j+1)):=Int.mul_nonneg hr (Zdd _)
  have eg:((Int.gcd (Zb0 c R j) ((R j).1*Zbw (c (j+1))):Nat):Int)=Zb0 c R (j+1):=by
   show _=((Int.gcd (Zb0 c R j) (c (j+1)*(R j).1):Nat):Int)
   congr 1
   unfold Int.gcd
   rw[Int.natAbs_mul,Int.natAbs_mul,Zh9,Nat.mul_comm]
  rw[eg]
  have h1:Zb0 c R (j+1) ∣ Zb0 c R j:=Int.gcd_dvd_left ..
  have h2:Zb0 c R (j+1) ∣ (R j).1*Zbw (c (j+1)):=by rw[←eg];exact Int.gcd_dvd_right ..
  refine ZrZ (ZgC _ _ _) ?_
  have a1:=Int.dvd_trans h1 (Zoi (r:=Zca c R j) h0)
  have a2:=Int.dvd_trans h2 (Zoi (r:=(R j).2*c (j+1)) hab)
  have:=Int.dvd_add a1 a2
  rw[show Zca c R (j+1)=Zca c R j+c (j+1)*(R j).2 from rfl,Int.mul_comm (c (j+1))]
  generalize (ZaR (Zb0 c R j) (Zca c R j)).2=u at *
  generalize (ZaR ((R j).1*Zbw (c (j+1))) ((R j).2*c (j+1))).2=v at *
  generalize (R j).2*c (j+1)=z at *
  rwa [show u-Zca c R j+(v-z)=u+v-(Zca c R j+z)by omega]at this
theorem ZtQ{s:Sp}{x k:Int}(h:InS s x): InS (Zcz s k) (k*x):=by
 unfold Zcz
 obtain⟨a,b⟩:=s
 by_cases c:k=0
 ·rw[if_pos c,c,Int.zero_mul]
  exact⟨fun l e=>by cases e;omega,fun l e=>by cases e;omega⟩
 ·rw[if_neg c]
  by_cases d:k<0
  ·rw[if_pos d]
   refine⟨fun l e=>?_,fun l e=>?_⟩
   ·cases b with
    | none=>cases e
    | some y=>
     cases e
     have:=h.2 y rfl
     show y*k≤k*x
     rw[Int.mul_comm]
     exact Int.mul_le_mul_of_nonpos_left (a:=k) (by omega) this
   ·cases a with
    | none=>cases e
    | some y=>
     cases e
     have:=h.1 y rfl
     show k*x≤y*k
     rw[Int.mul_comm y]
     exact Int.mul_le_mul_of_nonpos_left (a:=k) (by omega) this
  ·rw[if_neg d]
   refine⟨fun l e=>?_,fun l e=>?_⟩
   ·cases a with
    | none=>cases e
    | some y=>
     cases e
     have:=h.1 y rfl
     show y*k≤k*x
     rw[Int.mul_comm]
     exact Int.mul_le_mul_of_nonneg_left this (show 0≤k by omega)
   ·cases b with
    | none=>cases e
    | some y=>
     cases e
     have:=h.2 y rfl
     show k*x≤y*k
     rw[Int.mul_comm y]
     exact Int.mul_le_mul_of_nonneg_left this (show 0≤k by omega)
theorem ZuR{s u:Sp}{x:Int}(h:InS s x)(k:InS u y): InS (ZiQ s u) (x+y):=by
 refine⟨fun l e=>?_,fun l e=>?_⟩
 ·obtain⟨a,b,h1,h2,rfl⟩:=addO_some.mp e
  have:=h.1 a h1
  have:=k.1 b h2
  omega
 ·obtain⟨a,b,h1,h2,rfl⟩:=addO_some.mp e
  have:=h.2 a h1
  have:=k.2 b h2
  omega
noncomputable def ZQ(R:Nat→Int×Int): Nat→Int×Int:=cn (0,0) R
theorem Zns(R:Nat→Int×Int): cn (T.tup [.int 0,.int 0]) (fun i=>ZZ (R i))=fun i=>ZZ (ZQ R i):=by
 funext i;cases i <;> rfl
theorem ZnH(hn:n<9000): ZeU [ZaQ n R]=some (ZaQ (n+1) (ZQ R)):=by
 apply Pk.eq
 unfold ZeU ZjN ZaQ
 walk_at "zz"
 rw[Zns]
noncomputable def RB(M:Int)(k:Nat)(q:Int×Int): Prop:=RestOk q∧(q.1=0∨q.1 ∣ M)∧Bd k q.2
theorem RB.mono(h:RB M i q)(hij:i≤j): RB M j q:=⟨h.1,h.2.1,h.2.2.mono hij⟩
theorem RB.bd(hM:0<M)(bM:Bd k M)(h:RB M k q): RBd k q:=by
 refine⟨?_,h.2.2⟩
 rcases h.2.1 with e | e
 ·rw[e];exact Zc6
 ·exact Zc2 bM h.1.nn (Int.le_of_dvd hM e)
theorem Zdc(h:∀t,t<n→RB M k (R t)): ∀i,i<n+1→RB M k (ZQ R i)
 | 0,_=>⟨.inl rfl,.inl rfl,Zc6⟩
 | i+1,hi=>h i (by omega)
noncomputable def ZcO(n:Nat)(G:Nat→Nat→Option Int)(R:Nat→Int×Int)(i:Nat)(m:Nat)(x:Int): Prop:=ZaE (ZQ R i) x∧∀j,j<m→∀a b,G i j=some a→G j i=some b→a+b=0→ZaE (ZQ R j) (x-a)
noncomputable def Zc1(n:Nat)(G:Nat→Nat→Option Int)(R:Nat→Int×Int)(M:Int)(k:Nat)(i m:Nat)(o:Option (Int×Int)): Prop:=match o with
 | none=>∀x,¬ZcO n G R i m x
 | some q=>RB M k q∧∀x,ZaE q x↔ZcO n G R i m x
theorem ZnZ(h:RestOk q)(a x:Int): ZaE (Zbz q (0,a)) x↔ZaE q (x-a):=by
 unfold Zbz
 rw[Zc9 (by omega),Zbj h.nn]
 simp only[Int.gcd_zero_right]
 rw[Int.natAbs_of_nonneg h.nn,show x-(q.2+a)=x-a-q.2 by omega]
theorem Zq5(hn:n≤100)(hi:i<n+1)(hk:k≤7000)(hM:0<M)(bM:Bd k M)(bG:∀a b c,a<n+1→b<n+1→G a b=some c→Bd k c)(hR:∀t,t<n→RB M k (R t)): Pk (Zes [Z8 (n+1) G,ZaQ (n+1) (ZQ R),.int i]) fun t=>∃o,t=oR o∧Zc1 n G R M (k+1) i (n+1) o:=by
 unfold Zes Zjo
 have hF:=Zdc hR
 have bM1:Bd (k+1) M:=bM.mono (by omega)
 have hr:ZaQ (n+1) (ZQ R)=.lst (tab (n+1) fun i=>ZZ (ZQ R i)):=rfl
 rw[hr]
 walk_at "zz"
 refine Zez (n:=n+1) (a:=fun j=>.int j) (c:=fun j=>ZZ (ZQ R j)) (P:=fun m σ=>∃o,σ 0=some (Z8 (n+1) G)∧σ 1=some (.lst (tab (n+1) fun i=>ZZ (ZQ R i)))∧σ 2=some (.int i)∧σ 3=some (oR o)∧Zc1 n G R M (k+1) i m o) ?_ ⟨some (ZQ R i),by walk_at "zr",by walk_at "zr",by walk_at "zr",by walk_at "zr",(hF i hi).mono (by omega),fun x=>⟨fun h=>⟨h,by omega⟩,fun h=>h.1⟩⟩ ?_ ?_
 ·walk_at "zz"
  rfl
 ·rintro j σ hj ⟨o,e0,e1,e2,e3,ho⟩
  unfold Z8 Zan at e0
  cases o with
  | none=>
   have e3':σ 3=some .none:=e3
   clear e3
   walk_at "zz"
   refine⟨none,by walk_at "zr",by walk_at "zr",by walk_at "zr",by walk_at "zr",fun x h=>ho x ⟨h.1,fun j' hj'=>h.2 j' (by omega)⟩⟩
  | some q=>
   have e3':σ 3=some (.tup [.int q.1,.int q.2]):=e3
   clear e3
   walk_at "zz"
   refine ZM Zf2 ?_
   walk_at "zz"
   refine Zfu (ZgR (n:=0)) (.int (n:=0)) ?_
   walk_at "zz"
   have stay:(∀a b,G i j=some a→G j i=some b→¬a+b=0)→Zc1 n G R M (k+1) i (j+1) (some q):=fun h=>⟨ho.1,fun x=>(ho.2 x).trans ⟨fun hx=>⟨hx.1,fun j' hj' a b ha hb hab=>by
     by_cases q':j'=j
     ·subst q';exact absurd hab (h a b ha hb)
     ·exact hx.2 j' (by omega) a b ha hb hab⟩,fun hx=>⟨hx.1,fun j' hj'=>hx.2 j' (by omega)⟩⟩⟩
   refine⟨fun e=>?_,fun e=>?_⟩
   ·have e':=dec_iff.mp e
    rw[←ZaF,oT_inj]at e'
    obtain⟨a,b,ha,hb,hab⟩:=addO_some.mp e'
    walk_at "zz"
    rw[ha,ZaF]
    have hj2:=hF j hj
    have ba:=bG i j a hi hj ha
    refine ZM (Zkh (p:=ZQ R j) (q:=(0,a)) (k:=k) (by omega) (hj2.bd hM bM).1 Zc6) ?_
    have hpl:RB M (k+1) (Zbz (ZQ R j) (0,a)):=by
     refine⟨Zia _ _,?_,?_⟩
     ·unfold Zbz ZaR
      simp only[Int.gcd_zero_right]
      rw[Int.natAbs_of_nonneg hj2.1.nn]
      split
      ·exact .inl rfl
      ·exact hj2.2.1
     ·have hm:=(hj2.bd hM bM).1
      refine(ZhZ (k:=k+1) (by omega) ?_ (Bd.add hj2.2.2 ba)).2
      simp only[Int.gcd_zero_right]
      rw[Int.natAbs_of_nonneg hj2.1.nn]
      exact hm.mono (by omega)
    walk_at "zz"
    refine(ZkP (p:=q) (q:=Zbz (ZQ R j) (0,a)) (k:=k+1) (by omega) ho.1.1 hpl.1 (ho.1.bd hM bM1) (hpl.bd hM bM1)).mono ?_
    rintro _ ⟨o',rfl,mt,wh⟩
    refine⟨o',by walk_at "zr",by walk_at "zr",by walk_at "zr",by walk_at "zr",?_⟩
    have hset:∀x,(ZaE q x∧ZaE (Zbz (ZQ R j) (0,a)) x)↔ZcO n G R i (j+1) x:=fun x=>by
     rw[ho.2 x,ZnZ hj2.1]
     constructor
     ·rintro⟨h1,h2⟩
      refine⟨h1.1,fun j' hj' c d hc hd hcd=>?_⟩
      by_cases q':j'=j
      ·subst q';rw[ha]at hc;cases hc;exact h2
      ·exact h1.2 j' (by omega) c d hc hd hcd
     ·intro h
      exact⟨⟨h.1,fun j' hj'=>h.2 j' (by omega)⟩,h.2 j (by omega) a b ha hb hab⟩
    cases o' with
    | none=>exact fun x hx=>mt x ((hset x).mpr hx)
    | some r=>
     refine⟨⟨mt.1,?_,?_⟩,fun x=>(mt.2 x).trans (hset x)⟩
     ·rcases wh r rfl with h | h | ⟨h1,h2,h3⟩
      ·rw[h];exact ho.1.2.1
      ·rw[h];exact hpl.2.1
      ·right
       rw[h3]
       exact Int.coe_lcm_dvd (ho.1.2.1.resolve_left h1) (hpl.2.1.resolve_left h2)
     ·rcases wh r rfl with h | h | ⟨h1,h2,h3⟩
      ·rw[h];exact ho.1.2.2
      ·rw[h];exact hpl.2.2
      ·rcases mt.1 with z | z
       ·have:(Int.lcm q.1 (Zbz (ZQ R j) (0,a)).1)≠0:=Int.lcm_ne_zero h1 h2
        omega
       ·have hd:r.1 ∣ M:=by
         rw[h3]
         exact Int.coe_lcm_dvd (ho.1.2.1.resolve_left h1) (hpl.2.1.resolve_left h2)
        exact Zc2 bM1 z.2.1 (by have:=Int.le_of_dvd hM hd;omega)
   ·walk_at "zz"
    refine⟨some q,by walk_at "zr",by walk_at "zr",by walk_at "zr",by walk_at "zr",stay fun a b ha hb hab=>?_⟩
    have:dec (oT (addO (G i j) (G j i))=.int 0)=true:=Za9 (by rw[ha,hb];simp[addO,oT,hab])
    rw[this]at e
    cases e
 ·rintro σ ⟨o,e0,e1,e2,e3,ho⟩
  walk_at "zz"
  exact⟨o,rfl,ho⟩
theorem Zqv: Zct 1 1 1=some []:=by
 unfold Zct
 rw[if_pos (by decide +kernel)]
 rfl
theorem ZiR: Pln 1 (oR o):=by
 cases o with
 | none=>exact .none
 | some q=>exact Zqj
theorem oR_none: oR o=.none↔o=none:=by cases o <;> simp[oR,ZZ]
noncomputable def Hand(n:Nat)(G:Nat→Nat→Option Int)(R R':Nat→Int×Int)(M:Int)(k:Nat): Prop:=∀t,t<n→RB M k (R' t)∧∀x,ZaE (R' t) x↔ZcO n G R (t+1) (n+1) x
theorem Zrk(hn:n≤100)(hk:k≤7000)(hM:0<M)(bM:Bd k M)(bG:∀a b c,a<n+1→b<n+1→G a b=some c→Bd k c)(hR:∀t,t<n→RB M k (R t)): Pk (ZdH [ZJ n G R]) fun t=>(∃R',t=ZJ n G R'∧Hand n G R R' M (k+1))∨(t=.none∧∃i,i<n∧∀x,¬ZcO n G R (i+1) (n+1) x):=by
 unfold ZdH ZfS
 have ht:ZJ n G R=.tup [Z8 (n+1) G,ZaQ n R]:=rfl
 rw[ht]
 walk_at "zz"
 refine ZM (ZnH (by omega)) ?_
 have hr:ZaQ (n+1) (ZQ R)=.lst (tab (n+1) fun i=>ZZ (ZQ R i)):=rfl
 walk_at "zz"
 refine ZoD oR (fun t o=>Zc1 n G R M (k+1) (t+1) (n+1) o) (n:=n) (a:=fun i=>.int (i+1)) (by omega) ?_ (fun t ht=>?_) none (fun y hy=>?_)
 ·by_cases h0:n=0
  ·subst h0
   exact⟨[],Zfm (a:=1) (b:=1) rfl Zqv,rfl⟩
  ·rw[hr]
   walk_at "zz"
   refine Rn.two 1 n (by decide) (by omega) (by omega) (by omega) ?_
   refine Za7 fun i _=>?_
   congr 1
   omega
 ·walk_at "zz"
  refine(Zq5 (i:=t+1) hn (by omega) hk hM bM bG hR).mono ?_
  rintro _ ⟨o,rfl,ho⟩
  exact⟨o,rfl,ho⟩
 ·walk_at "zz"
  refine ZfD (.none (n:=0)) (Zed (n:=1) fun i _=>ZiR) ?_
  by_cases hc:∃i,i<n∧y i=none
  ·obtain⟨i,hi,ei⟩:=hc
   rw[Za9 (show T.none∈tab n fun i=>oR (y i)from List.mem_of_getElem? (i:=i) (by rw[Za8 hi,ei];rfl))]
   walk_at "zz"
   refine .inr ⟨rfl,i,hi,?_⟩
   have:=hy i hi
   rw[ei]at this
   exact this
  ·rw[ZbR (show ¬T.none∈tab n fun i=>oR (y i)from fun h=>by
    obtain⟨i,hi,e⟩:=ZcY h
    exact hc ⟨i,hi,oR_none.mp e.symm⟩)]
   walk_at "zz"
   have hs:∀i,i<n→y i=some ((y i).getD (1,0)):=fun i hi=>by
    cases e:y i with
    | none=>exact absurd ⟨i,hi,e⟩ hc
    | some q=>rfl
   refine .inl ⟨fun i=>(y i).getD (1,0),?_,fun t ht=>?_⟩
   ·unfold ZJ ZaQ
    congr 4
    refine Za7 fun i hi=>?_
    conv=>lhs;rw[hs i hi]
    rfl
   ·have:=hy t ht
    rw[hs t ht]at this
    exact this
theorem ZnC: ZdH [.none]=some .none:=by
 apply Pk.eq
 unfold ZdH ZfS
 walk_at "zz"
 rfl
noncomputable def ZbA(R:Nat→Int×Int)(i j:Nat): Int×Int:=Zbz (ZQ R i) (Zc0 (ZQ R j) (-1))
noncomputable def ZbV(b:Option Int)(q:Int×Int): Option Int:=match b with
 | some b=>Zdx q b
 | none=>if q.1=0 then some q.2 else none
noncomputable def ZaV(G:Nat→Nat→Option Int)(R:Nat→Int×Int): Nat→Nat→Option Int:=fun i j=>ZbV (G i j) (ZbA R i j)
noncomputable def Zdu(n:Nat)(G:Nat→Nat→Option Int)(R:Nat→Int×Int): Prop:=∃i j,i<n+1∧j<n+1∧∃b,G i j=some b∧ZaV G R i j=none
theorem ZqW{b:Option Int}(hq:0≤q.1): Zg6 [oT b,ZZ q]=some (oT (ZbV b q)):=by
 apply Pk.eq
 unfold Zg6 Zjc ZbV
 cases b with
 | none=>
  have ep:ZZ q=.tup [.int q.1,.int q.2]:=rfl
  rw[ZbO,ep]
  by_cases c:q.1=0
  ·walk_at "zz"
   simp[c,oT]
  ·walk_at "zz"
   simp[c,oT]
 | some b=>
  rw[ZaF]
  walk_at "zz"
  exact ZM (ZrG hq) rfl
theorem Zrl{b:Nat→Option Int}(hn:n≤100)(hi:i<n+1)(hk:k≤7000)(hM:0<M)(bM:Bd k M)(hR:∀t,t<n→RB M k (R t)): Pk (Zhf [Zan (n+1) b,ZZ (ZQ R i),ZaQ (n+1) (ZQ R)]) fun t=>(t=Zan (n+1) (fun j=>ZbV (b j) (ZbA R i j))∧∀j,j<n+1→∀c,b j=some c→ZbV (b j) (ZbA R i j)≠none)∨(t=.none∧∃j,j<n+1∧∃c,b j=some c∧ZbV (b j) (ZbA R i j)=none):=by
 unfold Zhf ZjR
 have hF:=Zdc hR
 have hb:Zan (n+1) b=.lst (tab (n+1) fun j=>oT (b j)):=rfl
 have hr:ZaQ (n+1) (ZQ R)=.lst (tab (n+1) fun i=>ZZ (ZQ R i)):=rfl
 rw[hb,hr]
 walk_at "zz"
 refine Zez (n:=n+1) (a:=fun j=>oT (b j)) (c:=fun j=>ZZ (ZQ R j)) (P:=fun m σ=>σ 1=some (ZZ (ZQ R i))∧σ 3=some (.lst (tab m fun j=>oT (ZbV (b j) (ZbA R i j))))∧∀j,j<m→∀c,b j=some c→ZbV (b j) (ZbA R i j)≠none) ?_ ⟨by walk_at "zr",by walk_at "zr",by omega⟩ ?_ ?_
 ·walk_at "zz"
  rfl
 ·rintro j σ hj ⟨e1,e3,st⟩
  have h1:=hF i hi
  have h2:=hF j hj
  have b1:=h1.bd hM bM
  have b2:=h2.bd hM bM
  have bt:Bd (k+1) (Zc0 (ZQ R j) (-1)).1:=by
   refine(ZhZ (k:=k+1) (Int.mul_nonneg h2.1.nn (Zdd _)) ?_ ?_).1
   ·have:=Bd.mul b2.1 (show Bd 1 (Zbw (-1))by unfold Bd;decide);exact this
   ·have:=Bd.mul b2.2 (show Bd 1 (-1)by unfold Bd;decide);exact this
  walk_at "zz"
  refine ZM (ZnJ (p:=ZQ R j) (c:=-1) (k:=k+1) (by omega) h2.1.nn ⟨b2.1.mono (by omega),b2.2.mono (by omega)⟩ (show Bd (k+1) (-1)from(show Bd 1 (-1)by unfold Bd;decide).mono (by omega))) ?_
  walk_at "zz"
  refine ZM (Zkh (k:=k+1) (by omega) (b1.1.mono (by omega)) bt) ?_
  walk_at "zz"
  refine ZM (ZqW (Zia _ _).nn) ?_
  have hd:Zbz (ZQ R i) (Zc0 (ZQ R j) (-1))=ZbA R i j:=rfl
  rw[hd]
  walk_at "zz"
  have app:∀w,w=oT (ZbV (b j) (ZbA R i j))→tab j (fun j=>oT (ZbV (b j) (ZbA R i j)))++[w]=tab (j+1) fun j=>oT (ZbV (b j) (ZbA R i j)):=fun w e=>by rw[e];exact Zcj
  cases hl:ZbV (b j) (ZbA R i j)with
  | none=>
   rw[ZbO]
   walk_at "zz"
   cases hbj:b j with
   | none=>
    rw[ZbO]
    walk_at "zz"
    rw[app _ (by rw[hl];rfl)]
    refine⟨by walk_at "zr",by walk_at "zr",fun j' hj' c hc=>?_⟩
    by_cases q:j'=j
    ·subst q;rw[hbj]at hc;cases hc
    ·exact st j' (by omega) c hc
   | some c=>
    rw[ZaF]
    walk_at "zz"
    exact .inr ⟨rfl,j,hj,c,hbj,hl⟩
  | some v=>
   rw[ZaF]
   walk_at "zz"
   rw[app _ (by rw[hl];rfl)]
   refine⟨by walk_at "zr",by walk_at "zr",fun j' hj' c hc=>?_⟩
   by_cases q:j'=j
   ·subst q;rw[hl];simp
   ·exact st j' (by omega) c hc
 ·rintro σ ⟨e1,e3,st⟩
  walk_at "zz"
  exact .inl ⟨rfl,st⟩
noncomputable def ZfM(n:Nat): Option (Nat→Option Int)→T
 | none=>.none
 | some b=>Zan n b
theorem ZvZ{o:Option (Nat→Option Int)}: Pln 1 (ZfM n o):=by
 cases o with
 | none=>exact .none
 | some q=>exact ZpE
theorem ZsW{g:PG}{a b:Nat→T}{f:PE}(e:β→T)(P:Nat→β→Prop)(hn:n<10000)(hg:Pl (g σ) fun ts=>ts=tab n fun i=>.tup [a i,b i])(hf:∀i,i<n→Pk (f (ZW (ZW σ j (a i)) k (b i))) fun t=>∃y,t=e y∧P i y)(d:β)(h:∀y:Nat→β,(∀i,i<n→P i (y i))→Q (.lst (tab n fun i=>e (y i)))): Pk (Zam g (Zcp j k) Zah f σ) Q:=by
 have hc:∃y:Nat→β,∀i,i<n→Pk (f (ZW (ZW σ j (a i)) k (b i))) (fun t=>t=e (y i))∧P i (y i):=by
  have hx:∀i,∃y:β,i<n→Pk (f (ZW (ZW σ j (a i)) k (b i))) (fun t=>t=e y)∧P i y:=fun i=>by
   by_cases q:i<n
   ·obtain⟨t,e1,y,e2,p⟩:=hf i q
    exact⟨y,fun _=>⟨⟨t,e1,e2⟩,p⟩⟩
   ·exact⟨d,fun h=>absurd h q⟩
  exact⟨fun i=>Classical.choose (hx i),fun i=>Classical.choose_spec (hx i)⟩
 obtain⟨y,hy⟩:=hc
 exact Zmm hn hg (fun i hi=>(hy i hi).1) (h y fun i hi=>(hy i hi).2)
theorem oRow_none{o:Option (Nat→Option Int)}: ZfM n o=.none↔o=none:=by cases o <;> simp[ZfM,Zan]
theorem ZsX(hn:n≤100)(hk:k≤7000)(hM:0<M)(bM:Bd k M)(hR:∀t,t<n→RB M k (R t)): Pk (Ze8 [ZJ n G R]) fun t=>(t=ZJ n (ZaV G R) R∧¬Zdu n G R)∨(t=.none∧Zdu n G R):=by
 unfold Ze8 ZhW
 have ht:ZJ n G R=.tup [.lst (tab (n+1) fun i=>Zan (n+1) (G i)),ZaQ n R]:=rfl
 rw[ht]
 walk_at "zz"
 refine ZM (ZnH (by omega)) ?_
 have hr:ZaQ (n+1) (ZQ R)=.lst (tab (n+1) fun i=>ZZ (ZQ R i)):=rfl
 walk_at "zz"
 refine ZsW (ZfM (n+1)) (fun i o=>match o with
  | none=>∃j,j<n+1∧∃c,G i j=some c∧ZaV G R i j=none
  | some b=>b=ZaV G R i∧∀j,j<n+1→∀c,G i j=some c→ZaV G R i j≠none) (n:=n+1) (a:=fun i=>Zan (n+1) (G i)) (b:=fun i=>ZZ (ZQ R i)) (by omega) ?_ (fun i hi=>?_) none (fun y hy=>?_)
 ·rw[hr]
  walk_at "zz"
  rfl
 ·walk_at "zz"
  refine(Zrl hn hi hk hM bM hR).mono ?_
  rintro t (⟨rfl,h⟩ | ⟨rfl,h⟩)
  ·exact⟨some (ZaV G R i),rfl,rfl,h⟩
  ·exact⟨none,rfl,h⟩
 ·walk_at "zz"
  refine ZfD (.none (n:=0)) (Zed (n:=1) fun i _=>ZvZ) ?_
  by_cases hc:∃i,i<n+1∧y i=none
  ·obtain⟨i,hi,ei⟩:=hc
   rw[Za9 (show T.none∈tab (n+1) fun i=>ZfM (n+1) (y i)from List.mem_of_getElem? (i:=i) (by rw[Za8 hi,ei];rfl))]
   walk_at "zz"
   have:=hy i hi
   rw[ei]at this
   obtain⟨j,hj,c,h1,h2⟩:=this
   exact .inr ⟨rfl,i,j,hi,hj,c,h1,h2⟩
  ·rw[ZbR (show ¬T.none∈tab (n+1) fun i=>ZfM (n+1) (y i)from fun h=>by
    obtain⟨i,hi,e⟩:=ZcY h
    exact hc ⟨i,hi,oRow_none.mp e.symm⟩)]
   walk_at "zz"
   have hs:∀i,i<n+1→y i=some (ZaV G R i)∧∀j,j<n+1→∀c,G i j=some c→ZaV G R i j≠none:=fun i hi=>by
    have:=hy i hi
    cases e:y i with
    | none=>exact absurd ⟨i,hi,e⟩ hc
    | some b=>rw[e]at this;exact⟨by rw[this.1],this.2⟩
   refine .inl ⟨?_,?_⟩
   ·unfold ZJ Z8
    congr 3
    refine Za7 fun i hi=>?_
    rw[(hs i hi).1]
    rfl
   ·rintro⟨i,j,hi,hj,c,h1,h2⟩
    exact(hs i hi).2 j hj c h1 h2
theorem ZnP: Ze8 [.none]=some .none:=by
 apply Pk.eq
 unfold Ze8 ZhW
 walk_at "zz"
 rfl
theorem ZtR: Zef [.none]=some .none:=by
 apply Pk.eq
 unfold Zef ZiE
 walk_at "zz"
 rfl
noncomputable def Zcb(n:Nat)(G:Nat→Nat→Option Int): Prop:=∃m,m<n∧Neg n (clG G (m+1))
theorem Zv0(hn:n≤100)(hd:∀i,i<n+1→G i i=some 0): Pk (Zef [ZJ n G R]) fun t=>(t=ZJ n (clG G (n+1)) R∧¬Zcb (n+1) G)∨(t=.none∧Zcb (n+1) G):=by
 unfold Zef ZiE
 have ht:ZJ n G R=.tup [Z8 (n+1) G,ZaQ n R]:=rfl
 rw[ht]
 walk_at "zz"
 refine(ZtO (n:=n+1) (by omega) (by omega) fun i hi=>⟨0,hd i hi⟩).mono ?_
 rintro t (⟨rfl,h⟩ | ⟨rfl,h⟩)
 ·have hg:Z8 (n+1) (clG G (n+1))=.lst (tab (n+1) fun i=>Zan (n+1) (clG G (n+1) i)):=rfl
  rw[hg]
  walk_at "zz"
  exact .inl ⟨rfl,fun⟨m,hm,q⟩=>h m hm q⟩
 ·walk_at "zz"
  exact .inr ⟨rfl,h⟩
noncomputable def BdG(n k:Nat)(G:Nat→Nat→Option Int): Prop:=∀a b c,a<n→b<n→G a b=some c→Bd k c
theorem Zem{n k:Nat}{G:Nat→Nat→Option Int}(h:BdG n k G): ∀m,m≤n→BdG n (k+m) (clG G m)
 | 0,_=>h
 | m+1,hm=>fun a b c ha hb e=>by
  have ih:=Zem h m (by omega)
  rcases ZeB (clG G m a b) (addO (clG G m a m) (clG G m m b))with e1 | e1
  ·rw[show clG G (m+1) a b=_ from e1]at e
   exact(ih a b c ha hb e).mono (by omega)
  ·rw[show clG G (m+1) a b=_ from e1]at e
   obtain⟨p,q,h1,h2,rfl⟩:=addO_some.mp e
   exact Bd.add (ih a m p ha (by omega) h1) (ih m b q (by omega) hb h2)
theorem Zoj(h:RestOk q): Zc0 q (-1)=ZaR q.1 (-q.2):=by
 unfold Zc0
 rw[show Zbw (-1)=1 from rfl,Int.mul_one,Int.mul_neg,Int.mul_one]
theorem ZlD{m r:Int}: (ZaR m r).1=m:=by
 unfold ZaR;split
 ·rename_i c;exact c.symm
 ·rfl
theorem Zgq(hi:RestOk (ZQ R i))(hj:RestOk (ZQ R j))(x:Int): ZaE (ZbA R i j) x↔((Int.gcd (ZQ R i).1 (ZQ R j).1:Nat):Int) ∣ x-((ZQ R i).2-(ZQ R j).2):=by
 unfold ZbA Zbz
 rw[Zc9 (by omega),Zoj hj,ZlD]
 have hr:=Zc9 hj.nn (r:=-(ZQ R j).2) (ZaR (ZQ R j).1 (-(ZQ R j).2)).2
 have hs:=(hr.mp (ZcN hj.nn _).self)
 generalize (ZaR (ZQ R j).1 (-(ZQ R j).2)).2=s at *
 have hg:((Int.gcd (ZQ R i).1 (ZQ R j).1:Nat):Int) ∣ s - -(ZQ R j).2:=Int.dvd_trans (Int.gcd_dvd_right ..) hs
 constructor
 ·intro h
  have:=Int.dvd_add h hg
  rwa [show x-((ZQ R i).2+s)+(s - -(ZQ R j).2)=x-((ZQ R i).2-(ZQ R j).2)by omega]at this
 ·intro h
  have:=Int.dvd_sub h hg
  rwa [show x-((ZQ R i).2-(ZQ R j).2)-(s - -(ZQ R j).2)=x-((ZQ R i).2+s)by omega]at this
theorem Zl9{b c:Int}(h0:RestOk q)(h:Zdx q b=some c): c≤b∧ZaE q c∧(q.1=0∨b-c<q.1):=by
 unfold Zdx at h
 split at h
 ·rename_i z
  split at h
  ·cases h
   exact⟨by assumption,h0.self,.inl z⟩
  ·cases h
 ·rename_i z
  cases h
  have hp:0<q.1:=by have:=h0.nn;omega
  have h1:=Int.emod_nonneg (b-q.2) z
  have h2:=Int.emod_lt_of_pos (b-q.2) hp
  refine⟨by omega,?_,.inr (by omega)⟩
  rw[Zbj h0.nn]
  have h3:=Int.emod_add_mul_ediv (b-q.2) q.1
  exact⟨(b-q.2) / q.1,by omega⟩
theorem ZlE{b x:Int}(h0:RestOk q)(hx:ZaE q x)(hb:x≤b): ∃c,Zdx q b=some c∧x≤c:=by
 unfold Zdx
 rw[Zbj h0.nn]at hx
 split
 ·rename_i z
  rw[z,Int.zero_dvd]at hx
  rw[if_pos (by omega)]
  exact⟨_,rfl,by omega⟩
 ·rename_i z
  have hp:0<q.1:=by have:=h0.nn;omega
  refine⟨_,rfl,?_⟩
  obtain⟨t,ht⟩:=hx
  have h3:=Int.emod_add_mul_ediv (b-q.2) q.1
  have h2:=Int.emod_lt_of_pos (b-q.2) hp
  have h4:t≤(b-q.2) / q.1:=Int.le_ediv_of_mul_le hp (by rw[Int.mul_comm];omega)
  have h5:q.1*t≤q.1*((b-q.2) / q.1):=Int.mul_le_mul_of_nonneg_left h4 (by omega)
  omega
theorem ZdO(R:Nat→Int×Int)(i j:Nat): RestOk (ZbA R i j):=Zia _ _
theorem Zv1(h:∀b,G i j=some b→ZaV G R i j≠none): leO (ZaV G R i j) (G i j):=by
 intro b e
 have hn:=h b e
 unfold ZaV at hn ⊢
 rw[e]at hn ⊢
 cases hc:ZbV (some b) (ZbA R i j)with
 | none=>exact absurd hc hn
 | some c=>exact⟨c,rfl,(Zl9 (ZdO R i j) hc).1⟩
theorem Znh(hM:0<M)(bM:Bd k M)(hG:BdG (n+1) k G)(hR:∀t,t<n→RB M k (R t)): BdG (n+1) (k+1) (ZaV G R):=by
 intro i j c hi hj e
 have h1:=Zdc hR i hi
 have h2:=Zdc hR j hj
 have hd1:(ZbA R i j).1=((Int.gcd (ZQ R i).1 (ZQ R j).1:Nat):Int):=by
  unfold ZbA Zbz
  rw[ZlD,Zoj h2.1,ZlD]
 have hb1:=(h1.bd hM bM).1
 have hb2:=(h2.bd hM bM).1
 have hm:Bd k (ZbA R i j).1:=by
  rw[hd1]
  by_cases z:(ZQ R i).1=0
  ·rw[z,Int.gcd_zero_left]
   unfold Bd at *
   simpa using hb2
  ·have:=Int.gcd_le_natAbs_left (b:=(ZQ R j).1) z
   unfold Bd at *
   simp only[Int.natAbs_natCast]
   omega
 unfold ZaV ZbV at e
 cases hg:G i j with
 | some b=>
  rw[hg]at e
  obtain⟨u1,u2,u3⟩:=Zl9 (ZdO R i j) e
  have hbb:=hG i j b hi hj hg
  rcases u3 with z | z
  ·have hx:=(Zgq h1.1 h2.1 c).mp u2
   rw[hd1]at z
   rw[z,Int.zero_dvd]at hx
   have:c=(ZQ R i).2-(ZQ R j).2:=by omega
   rw[this]
   exact Bd.sub h1.2.2 h2.2.2
  ·unfold Bd at *
   rw[Nat.pow_succ]
   omega
 | none=>
  rw[hg]at e
  simp only at e
  split at e
  ·rename_i z
   cases e
   have hx:=(Zgq h1.1 h2.1 (ZbA R i j).2).mp (ZdO R i j).self
   rw[hd1]at z
   rw[z,Int.zero_dvd]at hx
   have:(ZbA R i j).2=(ZQ R i).2-(ZQ R j).2:=by omega
   rw[this]
   exact Bd.sub h1.2.2 h2.2.2
  ·cases e
noncomputable def Zfg(n:Nat)(C:Nat→Nat→Option Int)(R:Nat→Int×Int): Prop:=∃i,i<n∧∀x,¬ZcO n C R (i+1) (n+1) x
theorem ZpR(h:Pk (Zad 1 ZiF ts) fun t=>Zgy t=true∧Q t): Pk (ZeE ts) Q:=by
 obtain⟨t,e,o,q⟩:=h
 exact⟨t,by simp only[ZeE,e,Option.bind_some,o,if_true],q⟩
theorem Zv2: Zgy (ZJ n G R)=true:=Zou fun _ _=>Zgm
theorem ZpS(hn:n≤100)(hk:k+n+1≤7000)(hM:0<M)(bM:Bd k M)(hd:∀i,i<n+1→G i i=some 0)(bG:BdG (n+1) k G)(hR:∀t,t<n→RB M k (R t)): Pk (ZeE [ZJ n G R]) fun t=>(∃R',t=ZJ n (clG G (n+1)) R'∧¬Zcb (n+1) G∧Hand n (clG G (n+1)) R R' M (k+n+2))∨(t=.none∧(Zcb (n+1) G∨(¬Zcb (n+1) G∧Zfg n (clG G (n+1)) R))):=by
 refine ZpR ?_
 unfold ZiF
 walk_at "zz"
 refine(Zv0 hn hd).mono ?_
 rintro t (⟨rfl,h⟩ | ⟨rfl,h⟩)
 ·walk_at "zz"
  refine(Zrk (k:=k+n+1) hn hk hM (bM.mono (by omega)) (Zem bG (n+1) (by omega)) (fun t ht=>(hR t ht).mono (by omega))).mono ?_
  rintro t (⟨R',rfl,h2⟩ | ⟨rfl,h2⟩)
  ·exact⟨Zv2,.inl ⟨R',rfl,h,h2⟩⟩
  ·exact⟨rfl,.inr ⟨rfl,.inr ⟨h,h2⟩⟩⟩
 ·walk_at "zz"
  exact ZM ZnC ⟨rfl,.inr ⟨rfl,.inl h⟩⟩
theorem Zh0: ZeE [.none]=some .none:=by
 apply Pk.eq
 refine ZpR ?_
 unfold ZiF
 walk_at "zz"
 refine ZM ZtR ?_
 walk_at "zz"
 exact ZM ZnC ⟨rfl,rfl⟩
theorem Zib(hR:∀i,i<n+1→RestOk (ZQ R i))(hd:∀i,i<n+1→G i i=some 0): ∀i,i<n+1→ZaV G R i i=some 0:=by
 intro i hi
 unfold ZaV ZbV
 rw[hd i hi]
 have h0:ZaE (ZbA R i i) 0:=(Zgq (hR i hi) (hR i hi) 0).mpr (by simp)
 obtain⟨c,e,hc⟩:=ZlE (ZdO R i i) h0 (Int.le_refl 0)
 have:=(Zl9 (ZdO R i i) e).1
 show Zdx (ZbA R i i) 0=some 0
 rw[e,show c=0 by omega]
structure Sharp(n:Nat)(G:Nat→Nat→Option Int)(R:Nat→Int×Int)(G2:Nat→Nat→Option Int)(R2:Nat→Int×Int)(M:Int)(k:Nat): Prop where
 go:∃R1,¬Zcb (n+1) G∧Hand n (clG G (n+1)) R R1 M k∧¬Zdu n (clG G (n+1)) R1∧¬Zcb (n+1) (ZaV (clG G (n+1)) R1)∧G2=clG (ZaV (clG G (n+1)) R1) (n+1)∧Hand n G2 R1 R2 M k
noncomputable def Zfc(n:Nat)(G:Nat→Nat→Option Int)(R:Nat→Int×Int)(M:Int)(k:Nat): Prop:=Zcb (n+1) G∨(¬Zcb (n+1) G∧Zfg n (clG G (n+1)) R)∨∃R1,¬Zcb (n+1) G∧Hand n (clG G (n+1)) R R1 M k∧(Zdu n (clG G (n+1)) R1∨(¬Zdu n (clG G (n+1)) R1∧(Zcb (n+1) (ZaV (clG G (n+1)) R1)∨(¬Zcb (n+1) (ZaV (clG G (n+1)) R1)∧Zfg n (clG (ZaV (clG G (n+1)) R1) (n+1)) R1))))
theorem Hand.mono(h:Hand n G R R' M i)(hij:i≤j): Hand n G R R' M j:=fun t ht=>⟨(h t ht).1.mono hij,(h t ht).2⟩
theorem ZuS(hn:n≤100)(hk:k+2*n+4≤7000)(hM:0<M)(bM:Bd k M)(hd:∀i,i<n+1→G i i=some 0)(bG:BdG (n+1) k G)(hR:∀t,t<n→RB M k (R t)): Pk (Zck [ZJ n G R]) fun t=>(∃G2 R2,t=ZJ n G2 R2∧Sharp n G R G2 R2 M (k+2*n+5))∨(t=.none∧Zfc n G R M (k+n+2)):=by
 unfold Zck Zio
 walk_at "zz"
 refine(ZpS hn (by omega) hM bM hd bG hR).mono ?_
 rintro t (⟨R1,rfl,nr,h1⟩ | ⟨rfl,h⟩)
 ·have hR1:∀t,t<n→RB M (k+n+2) (R1 t):=fun t ht=>(h1 t ht).1
  have hF1:=Zdc hR1
  have z1:=ZeC hd (m:=n+1) fun m hm q=>nr ⟨m,hm,q⟩
  walk_at "zz"
  refine(ZsX hn (by omega) hM (bM.mono (by omega)) hR1).mono ?_
  rintro t (⟨rfl,nl⟩ | ⟨rfl,fl⟩)
  ·walk_at "zz"
   have bG1:BdG (n+1) (k+n+3) (ZaV (clG G (n+1)) R1):=Znh hM (bM.mono (by omega)) (fun a b c ha hb e=>(Zem bG (n+1) (by omega) a b c ha hb e).mono (by omega)) hR1
   refine(ZpS (k:=k+n+3) hn (by omega) hM (bM.mono (by omega)) (Zib (fun i hi=>(hF1 i hi).1) z1) bG1 (fun t ht=>(hR1 t ht).mono (by omega))).mono ?_
   rintro t (⟨R2,rfl,nr2,h2⟩ | ⟨rfl,h2⟩)
   ·exact .inl ⟨_,R2,rfl,⟨R1,nr,h1.mono (by omega),nl,nr2,rfl,h2.mono (by omega)⟩⟩
   ·exact .inr ⟨rfl,.inr (.inr ⟨R1,nr,h1,.inr ⟨nl,h2⟩⟩)⟩
  ·walk_at "zz"
   exact ZM Zh0 (.inr ⟨rfl,.inr (.inr ⟨R1,nr,h1,.inl fl⟩)⟩)
 ·walk_at "zz"
  refine ZM ZnP ?_
  walk_at "zz"
  refine ZM Zh0 (.inr ⟨rfl,?_⟩)
  rcases h with h | h
  ·exact .inl h
  ·exact .inr (.inl h)
theorem ZsY: Zck [.none]=some .none:=by
 apply Pk.eq
 unfold Zck Zio
 walk_at "zz"
 refine ZM Zh0 ?_
 walk_at "zz"
 refine ZM ZnP ?_
 walk_at "zz"
 exact ZM Zh0 rfl
theorem Zgb(h:ZaP n G R x): ZaP n (clG G (n+1)) R x:=⟨fun i j hi hj b e=>Zmz (Zoh h) (n+1) (by omega) i j hi hj b e,h.2⟩
theorem Zn0(h:ZaP n G R x): ¬Zcb (n+1) G:=fun⟨m,hm,q⟩=>ZtP (Zmz (Zoh h) (m+1) (by omega)) q
theorem Zma(h:ZaP n G R x): ∀i,i<n+1→ZaE (ZQ R i) (ZaG x i)
 | 0,_=>⟨fun _=>rfl,fun q=>absurd q (show ¬(0:Int)<0 by decide)⟩
 | i+1,hi=>h.2 i (by omega)
theorem ZoF(h:ZaP n G R x)(ht:t<n): ZcO n G R (t+1) (n+1) (x t):=by
 refine⟨h.2 t ht,fun j hj a b ha hb hab=>?_⟩
 have h1:=h.1 (t+1) j (by omega) hj a ha
 have h2:=h.1 j (t+1) hj (by omega) b hb
 have h3:ZaG x (t+1)=x t:=rfl
 rw[h3]at h1 h2
 rw[show x t-a=ZaG x j by omega]
 exact Zma h j hj
theorem ZkQ(h:ZaP n G R x)(q:Hand n G R R' M k): ZaP n G R' x:=⟨h.1,fun t ht=>((q t ht).2 _).mpr (ZoF h ht)⟩
theorem Zo9(hR:∀i,i<n+1→RestOk (ZQ R i))(h:ZaP n G R x)(hi:i<n+1)(hj:j<n+1): ZaE (ZbA R i j) (ZaG x i-ZaG x j):=by
 rw[Zgq (hR i hi) (hR j hj)]
 have h1:=(Zbj (hR i hi).nn _).mp (Zma h i hi)
 have h2:=(Zbj (hR j hj).nn _).mp (Zma h j hj)
 have h3:=Int.dvd_sub (Int.dvd_trans (Int.gcd_dvd_left (b:=(ZQ R j).1) ..) h1) (Int.dvd_trans (Int.gcd_dvd_right (a:=(ZQ R i).1) ..) h2)
 rwa [show ZaG x i-(ZQ R i).2-(ZaG x j-(ZQ R j).2)=ZaG x i-ZaG x j-((ZQ R i).2-(ZQ R j).2)by omega]at h3
theorem ZsZ(hR:∀i,i<n+1→RestOk (ZQ R i))(h:ZaP n G R x): ¬Zdu n G R:=by
 rintro⟨i,j,hi,hj,b,e,hn⟩
 obtain⟨c,e2,_⟩:=ZlE (ZdO R i j) (Zo9 hR h hi hj) (h.1 i j hi hj b e)
 unfold ZaV ZbV at hn
 rw[e]at hn
 simp only at hn
 rw[e2]at hn
 cases hn
theorem Zpa(hR:∀i,i<n+1→RestOk (ZQ R i))(h:ZaP n G R x): ZaP n (ZaV G R) R x:=by
 refine⟨fun i j hi hj b e=>?_,h.2⟩
 have hd:=Zo9 hR h hi hj
 unfold ZaV ZbV at e
 cases hg:G i j with
 | some c=>
  rw[hg]at e
  simp only at e
  obtain⟨d,e2,hle⟩:=ZlE (ZdO R i j) hd (h.1 i j hi hj c hg)
  rw[e2]at e
  cases e
  exact hle
 | none=>
  rw[hg]at e
  simp only at e
  split at e
  ·rename_i z
   cases e
   rw[Zbj (ZdO R i j).nn,z,Int.zero_dvd]at hd
   omega
  ·cases e
theorem Zs0(h:ZaP n G R x)(s:Sharp n G R G2 R2 M k): ZaP n G2 R2 x:=by
 obtain⟨R1,h1,h2,h3,h4,rfl,h6⟩:=s.go
 have l1:=ZkQ (Zgb h) h2
 have hF:=Zdc fun t ht=>(h2 t ht).1
 exact ZkQ (Zgb (Zpa (fun i hi=>(hF i hi).1) l1)) h6
theorem Zsn(h:ZaP n G R x): ¬Zfc n G R M k:=by
 have hf:∀{G:Nat→Nat→Option Int} {R:Nat→Int×Int},ZaP n G R x→¬Zfg n G R:=fun h ⟨i,hi,q⟩=>q _ (ZoF h hi)
 rintro(q | ⟨_,q⟩ | ⟨R1,_,h2,q⟩)
 ·exact Zn0 h q
 ·exact hf (Zgb h) q
 ·have l1:=ZkQ (Zgb h) h2
  have hF:=Zdc fun t ht=>(h2 t ht).1
  have l2:=Zpa (fun i hi=>(hF i hi).1) l1
  rcases q with q | ⟨_,q | ⟨_,q⟩⟩
  ·exact ZsZ (fun i hi=>(hF i hi).1) l1 q
  ·exact Zn0 l2 q
  ·exact hf (Zgb l2) q
theorem Zok(hk:k≤8000)(op:RestOk p)(oq:RestOk q)(bp:RBd k p)(bq:RBd k q): Pk (Zgg [ZZ p,ZZ q]) fun t=>∃o,t=oR o∧Met p q o:=by
 unfold Zgg ZlU
 have ep:ZZ p=.tup [.int p.1,.int p.2]:=rfl
 have eq:ZZ q=.tup [.int q.1,.int q.2]:=rfl
 have np:=op.nn
 have nq:=oq.nn
 rw[ep,eq]
 walk_at "zz"
 have hlt:∀x:Int,0≤x→Bd k x→x<2 ^ 200000:=fun x h0 h1=>by
  have h2:x.natAbs<2 ^ 200000:=Zbq h1 (by omega)
  have h3:((x.natAbs:Nat):Int)<2 ^ 200000:=by exact_mod_cast h2
  omega
 obtain⟨m,hm,eu⟩:=Zh8 np nq (hlt _ np bp.1) (hlt _ nq bq.1)
 refine Zfd (fun m σ=>∃l r s t:Int,σ 0=some (.tup [.int p.1,.int p.2])∧σ 1=some (.tup [.int q.1,.int q.2])∧σ 2=some (.int l)∧σ 3=some (.int r)∧σ 4=some (.int s)∧σ 5=some (.int t)∧Eu m l r∧Int.gcd l r=Int.gcd p.1 q.1∧Bd k l∧Bd k r∧(∃z,s*p.1=l+q.1*z)∧(∃z,t*p.1=r+q.1*z)∧Bd (k+1) s∧Bd (k+1) t∧(s.natAbs:Int)*r+(t.natAbs:Int)*l≤q.1∧(1≤l∨t=0)) _ _ ?_ 1000000 (m:=m) ⟨p.1,q.1,1,0,by walk_at "zr",by walk_at "zr",by walk_at "zr",by walk_at "zr",by walk_at "zr",by walk_at "zr",eu,rfl,bp.1,bq.1,⟨0,by omega⟩,⟨-1,by omega⟩,ZfL (by omega),Zc6,by simp,.inr rfl⟩ hm
 rintro m σ ⟨l,r,s,t,e0,e1,e2,e3,e4,e5,eu,gl,kl,kr,⟨z1,h1⟩,⟨z2,h2⟩,ks,kt,hb1,hl⟩
 walk_at "zz"
 refine⟨fun h=>?_,fun h=>?_⟩
 ·have hr:r≠0:=by simpa using h
  have hr0:0≤r:=eu.2.1
  have hl0:0≤l:=eu.1
  have hrp:0<r:=by omega
  have hdiv0:0≤l / r:=Int.ediv_nonneg hl0 hr0
  have hdiv1:l / r≤l:=Int.ediv_le_self _ hl0
  have kd:Bd k (l / r):=Zc2 kl hdiv0 hdiv1
  walk_at "zz"
  refine ZdR hr (ZeF kr (by omega)) ?_
  rw[Int.fdiv_eq_ediv_of_nonneg _ hr0]
  walk_at "zz"
  refine ZbK (Zb3 kd kr (by omega) (by omega)) ?_
  walk_at "zz"
  refine ZbK (Zb3 kd kt (by omega) (by omega)) ?_
  walk_at "zz"
  have hover:l-l / r*r=l % r:=by
   have:=Int.emod_add_mul_ediv l r
   rw[Int.mul_comm r (l / r)]at this
   omega
  rw[hover]
  obtain⟨m',hm1,hm2⟩:=eu.step hr
  have o0:=Int.emod_nonneg l hr
  have o1:=Int.emod_lt_of_pos l hrp
  have ht:((s-l / r*t).natAbs:Int)≤(s.natAbs:Int)+l / r*(t.natAbs:Int):=by
   have h3:(s-l / r*t).natAbs≤s.natAbs+(l / r*t).natAbs:=by omega
   have h4:(l / r*t).natAbs=(l / r).natAbs*t.natAbs:=Int.natAbs_mul ..
   have h5:(((l / r).natAbs*t.natAbs:Nat):Int)=l / r*(t.natAbs:Int):=by
    rw[Int.natCast_mul,Int.natAbs_of_nonneg hdiv0]
   rw[h4]at h3
   omega
  have h6:((s-l / r*t).natAbs:Int)*r≤((s.natAbs:Int)+l / r*(t.natAbs:Int))*r:=Int.mul_le_mul_of_nonneg_right ht hr0
  have h7:((s.natAbs:Int)+l / r*(t.natAbs:Int))*r=(s.natAbs:Int)*r+(t.natAbs:Int)*(l / r*r):=by
   rw[Int.add_mul,Int.mul_comm (l / r) (t.natAbs:Int),Int.mul_assoc]
  have h8:(t.natAbs:Int)*(l % r)+(t.natAbs:Int)*(l / r*r)=(t.natAbs:Int)*l:=by
   rw[←Int.mul_add,←hover]
   congr 1
   omega
  have h9:(t.natAbs:Int)*(l % r)+((s-l / r*t).natAbs:Int)*r≤q.1:=by omega
  have hpos:0≤(t.natAbs:Int)*(l % r):=Int.mul_nonneg (by omega) o0
  have kn:Bd (k+1) (s-l / r*t):=by
   have h10:((s-l / r*t).natAbs:Int)*1≤((s-l / r*t).natAbs:Int)*r:=Int.mul_le_mul_of_nonneg_left (by omega) (by omega)
   have h11:((s-l / r*t).natAbs:Int)≤q.1:=by omega
   have h12:=bq.1
   unfold Bd at *
   rw[Nat.pow_succ]
   omega
  refine⟨m',hm1,r,l % r,t,s-l / r*t,by walk_at "zr",by walk_at "zr",by walk_at "zr",by walk_at "zr",by walk_at "zr",by walk_at "zr",hm2,by rw[Zgp hrp];exact gl,kr,Zc2 kr o0 (by omega),⟨z2,h2⟩,⟨z1-l / r*z2,?_⟩,kt,kn,h9,.inl (by omega)⟩
  rw[Int.sub_mul,h1,Int.mul_assoc,h2,Int.mul_add,Int.mul_sub,←hover]
  have e1:q.1*(l / r*z2)=l / r*(q.1*z2):=by rw[←Int.mul_assoc,Int.mul_comm q.1,Int.mul_assoc]
  rw[e1]
  omega
 ·have hr:r=0:=by simpa using h
  subst hr
  rw[Int.gcd_zero_right]at gl
  have hl0:=eu.1
  have hlg:l=(Int.gcd p.1 q.1:Nat):=by omega
  walk_at "zz"
  by_cases c:l=0
  ·have hz:p.1=0∧q.1=0:=Int.gcd_eq_zero_iff.mp (by omega)
   have hp1:∀x,ZaE p x↔x=p.2:=fun x=>by rw[Zbj np,hz.1,Int.zero_dvd];omega
   have hq1:∀x,ZaE q x↔x=q.2:=fun x=>by rw[Zbj nq,hz.2,Int.zero_dvd];omega
   walk_at "zz"
   by_cases d:q.2-p.2=0
   ·walk_at "zz"
    refine⟨some p,rfl,op,fun x=>?_⟩
    rw[hp1,hq1]
    omega
   ·walk_at "zz"
    refine⟨none,rfl,fun x hx=>?_⟩
    rw[hp1,hq1]at hx
    omega
  ·have hlp:0<l:=by omega
   obtain⟨a,ea⟩:l ∣ p.1:=by rw[hlg];exact Int.gcd_dvd_left ..
   obtain⟨b,eb⟩:l ∣ q.1:=by rw[hlg];exact Int.gcd_dvd_right ..
   walk_at "zz"
   rw[Int.fmod_eq_emod_of_nonneg _ (by omega)]
   by_cases c3:(q.2-p.2) % l=0
   ·obtain⟨d,ed⟩:=Int.dvd_of_emod_eq_zero c3
    have da:p.1 / l=a:=by rw[ea];exact Int.mul_ediv_cancel_left _ (by omega)
    have dd:(q.2-p.2) / l=d:=by rw[ed];exact Int.mul_ediv_cancel_left _ (by omega)
    have ha0:0≤a:=by rw[←da];exact Int.ediv_nonneg np (by omega)
    have ka:Bd k a:=Zc2 bp.1 ha0 (by rw[←da];exact Int.ediv_le_self _ np)
    have kdd:Bd (k+1) d:=by
     have h1:Bd (k+1) (q.2-p.2):=Bd.sub bq.2 bp.2
     unfold Bd at *
     rw[ed,Int.natAbs_mul]at h1
     have:1*d.natAbs≤l.natAbs*d.natAbs:=Nat.mul_le_mul_right _ (by omega)
     omega
    walk_at "zz"
    refine ZdR (by omega) (ZeF kl (by omega)) ?_
    rw[Int.fdiv_eq_ediv_of_nonneg _ (by omega),da]
    walk_at "zz"
    refine ZbK (Zb3 ka bq.1 (by omega) (by omega)) ?_
    walk_at "zz"
    refine ZbK (Zb3 bp.1 ks (by omega) (by omega)) ?_
    walk_at "zz"
    refine ZdR (by omega) (ZeF kl (by omega)) ?_
    rw[Int.fdiv_eq_ediv_of_nonneg _ (by omega),dd]
    walk_at "zz"
    refine ZbK (Zb3 (Bd.mul bp.1 ks) kdd (by omega) (by omega)) ?_
    walk_at "zz"
    have hm0:0≤a*q.1:=Int.mul_nonneg ha0 nq
    refine ZM Ze4 ⟨some _,rfl,ZcN hm0 _,fun x=>?_⟩
    rw[Zc9 hm0,Zbj np,Zbj nq]
    have hx0:p.1*s*d=(q.2-p.2)+q.1*(z1*d):=by
     rw[Int.mul_comm p.1 s,h1,Int.add_mul,ed,Int.mul_assoc]
    have hpm:p.1 ∣ a*q.1:=⟨b,by rw[ea,eb];rw[Int.mul_left_comm,Int.mul_assoc]⟩
    have hqm:q.1 ∣ a*q.1:=Int.dvd_mul_left _ _
    constructor
    ·intro hx
     have g1:=Int.dvd_trans hpm hx
     have g2:=Int.dvd_trans hqm hx
     refine⟨?_,?_⟩
     ·have:=Int.dvd_add g1 (show p.1 ∣ p.1*s*d from⟨s*d,by rw[Int.mul_assoc]⟩)
      rwa [show x-(p.2+p.1*s*d)+p.1*s*d=x-p.2 by omega]at this
     ·have:=Int.dvd_add g2 (Int.dvd_mul_right q.1 (z1*d))
      rwa [show x-(p.2+p.1*s*d)+q.1*(z1*d)=x-q.2 by omega]at this
    ·rintro⟨g1,g2⟩
     have g3:p.1 ∣ x-(p.2+p.1*s*d):=by
      have:=Int.dvd_sub g1 (show p.1 ∣ p.1*s*d from⟨s*d,by rw[Int.mul_assoc]⟩)
      rwa [show x-p.2-p.1*s*d=x-(p.2+p.1*s*d)by omega]at this
     have g4:q.1 ∣ x-(p.2+p.1*s*d):=by
      have:=Int.dvd_sub g2 (Int.dvd_mul_right q.1 (z1*d))
      rwa [show x-q.2-q.1*(z1*d)=x-(p.2+p.1*s*d)by omega]at this
     have g5:=Int.coe_lcm_dvd g3 g4
     have g6:(a*q.1).natAbs=Int.lcm p.1 q.1:=by
      have k1:=Int.gcd_mul_lcm p.1 q.1
      have k2:(l.natAbs)*(a*q.1).natAbs=p.1.natAbs*q.1.natAbs:=by
       rw[Int.natAbs_mul,←Nat.mul_assoc]
       congr 1
       rw[←Int.natAbs_mul,←ea]
      have k3:Int.gcd p.1 q.1=l.natAbs:=by omega
      rw[k3]at k1
      exact Nat.eq_of_mul_eq_mul_left (show 0<l.natAbs by omega) (by omega)
     rw[←g6]at g5
     exact Int.natAbs_dvd.mp g5
   ·walk_at "zz"
    refine⟨none,rfl,fun x hx=>c3 ?_⟩
    rw[Zbj np,Zbj nq]at hx
    have g1:l ∣ x-p.2:=Int.dvd_trans ⟨a,ea⟩ hx.1
    have g2:l ∣ x-q.2:=Int.dvd_trans ⟨b,eb⟩ hx.2
    have g3:=Int.dvd_sub g1 g2
    rw[show x-p.2-(x-q.2)=q.2-p.2 by omega]at g3
    exact Int.emod_eq_zero_of_dvd g3
theorem Zqw(hk:k≤8000)(op:RestOk p)(oq:RestOk q)(bp:RBd k p)(bq:RBd k q)(h:Met p q o): ∀r,o=some r→(r=p∨r=q∨(p.1≠0∧q.1≠0∧r.1=Int.lcm p.1 q.1)):=by
 obtain⟨t,_,o',rfl,h',wh⟩:=ZkP hk op oq bp bq
 rw[Zog h h']
 exact wh
theorem ZtS(q:Int×Int)(h:0≤q.1)(a:Int): ZaR q.1 (q.2+a)=Zbz q (0,a):=by
 unfold Zbz
 simp only[Int.gcd_zero_right]
 rw[Int.natAbs_of_nonneg h]
theorem Zmb(ho:Zc1 n G R M k i j o)(h:∀a b x,G i j=some a→G j i=some b→a+b=0→ZcO n G R i j x→ZaE (ZQ R j) (x-a)): Zc1 n G R M k i (j+1) o:=by
 have hs:∀x,ZcO n G R i j x↔ZcO n G R i (j+1) x:=fun x=>⟨fun hx=>⟨hx.1,fun j' hj' a b ha hb hab=>by
     by_cases q':j'=j
     ·subst q';exact h a b x ha hb hab hx
     ·exact hx.2 j' (by omega) a b ha hb hab⟩,fun hx=>⟨hx.1,fun j' hj'=>hx.2 j' (by omega)⟩⟩
 cases o with
 | none=>exact fun x hx=>ho x ((hs x).mpr hx)
 | some q=>exact⟨ho.1,fun x=>(ho.2 x).trans (hs x)⟩
theorem ZpT{a:Int}(hM:0<M)(bM:Bd k M)(h:RB M k q)(ba:Bd k a): RB M (k+1) (Zbz q (0,a)):=by
 refine⟨Zia _ _,?_,?_⟩
 ·unfold Zbz ZaR
  simp only[Int.gcd_zero_right]
  rw[Int.natAbs_of_nonneg h.1.nn]
  split
  ·exact .inl rfl
  ·exact h.2.1
 ·have hm:=(h.bd hM bM).1
  refine(ZhZ (k:=k+1) (by omega) ?_ (Bd.add h.2.2 ba)).2
  simp only[Int.gcd_zero_right]
  rw[Int.natAbs_of_nonneg h.1.nn]
  exact hm.mono (by omega)
theorem ZtT{o':Option (Int×Int)}{a b:Int}(hk:k≤7000)(hM:0<M)(bM:Bd k M)(ha:G i j=some a)(hb:G j i=some b)(hab:a+b=0)(ba:Bd k a)(hj2:RB M k (ZQ R j))(ho:Zc1 n G R M (k+1) i j (some q))(mt:Met q (Zbz (ZQ R j) (0,a)) o'): Zc1 n G R M (k+1) i (j+1) o':=by
 have bM1:Bd (k+1) M:=bM.mono (by omega)
 have hpl:=ZpT hM bM hj2 ba
 have wh:=Zqw (k:=k+1) (by omega) ho.1.1 hpl.1 (ho.1.bd hM bM1) (hpl.bd hM bM1) mt
 have hset:∀x,(ZaE q x∧ZaE (Zbz (ZQ R j) (0,a)) x)↔ZcO n G R i (j+1) x:=fun x=>by
  rw[ho.2 x,ZnZ hj2.1]
  constructor
  ·rintro⟨h1,h2⟩
   refine⟨h1.1,fun j' hj' c d hc hd hcd=>?_⟩
   by_cases q':j'=j
   ·subst q';rw[ha]at hc;cases hc;exact h2
   ·exact h1.2 j' (by omega) c d hc hd hcd
  ·intro h
   exact⟨⟨h.1,fun j' hj'=>h.2 j' (by omega)⟩,h.2 j (by omega) a b ha hb hab⟩
 cases o' with
 | none=>exact fun x hx=>mt x ((hset x).mpr hx)
 | some r=>
  refine⟨⟨mt.1,?_,?_⟩,fun x=>(mt.2 x).trans (hset x)⟩
  ·rcases wh r rfl with h | h | ⟨h1,h2,h3⟩
   ·rw[h];exact ho.1.2.1
   ·rw[h];exact hpl.2.1
   ·right
    rw[h3]
    exact Int.coe_lcm_dvd (ho.1.2.1.resolve_left h1) (hpl.2.1.resolve_left h2)
  ·rcases wh r rfl with h | h | ⟨h1,h2,h3⟩
   ·rw[h];exact ho.1.2.2
   ·rw[h];exact hpl.2.2
   ·rcases mt.1 with z | z
    ·have:(Int.lcm q.1 (Zbz (ZQ R j) (0,a)).1)≠0:=Int.lcm_ne_zero h1 h2
     omega
    ·have hd:r.1 ∣ M:=by
      rw[h3]
      exact Int.coe_lcm_dvd (ho.1.2.1.resolve_left h1) (hpl.2.1.resolve_left h2)
     exact Zc2 bM1 z.2.1 (by have:=Int.le_of_dvd hM hd;omega)
theorem Zv3{p:PE}(h:Pk (p σ) fun t=>∃ts,t=.lst ts∧Q (.lst (ts.drop k))): Pk (Zdz p k σ) Q:=by
 obtain⟨t,e,ts,rfl,q⟩:=h
 exact⟨_,by simp only[Zdz,e,Option.bind_some],q⟩
theorem ZtU: (tab (n+1) f).drop 1=tab n fun i=>f (i+1):=by
 apply List.ext_getElem?
 intro i
 rw[List.getElem?_drop]
 by_cases h:i<n
 ·rw[Za8 h,Nat.add_comm 1 i,Za8 (by omega)]
 ·rw[List.getElem?_eq_none (by rw[Zap];omega),List.getElem?_eq_none (by rw[Zap];omega)]
theorem ZnK(hn:n≤100)(hk:k≤7000)(hM:0<M)(bM:Bd k M)(bG:∀a b c,a<n+1→b<n+1→G a b=some c→Bd k c)(hR:∀t,t<n→RB M k (R t)): Pk (ZfV [Z8 (n+1) G,ZaQ n R]) fun t=>(∃R',t=ZaQ n R'∧Hand n G R R' M (k+1))∨(t=.none∧Zfg n G R):=by
 unfold ZfV Zj9
 have hF:=Zdc hR
 have bM1:Bd (k+1) M:=bM.mono (by omega)
 have hr:ZaQ n R=.lst (tab n fun i=>ZZ (R i)):=rfl
 rw[hr]
 walk_at "zz"
 rw[Zns]
 walk_at "zz"
 refine ZbQ (n:=n) (a:=fun i=>.int ((i+1:Nat):Int)) (P:=fun m σ=>∃F:Nat→Option (Int×Int),σ 0=some (Z8 (n+1) G)∧σ 2=some (.lst (tab (n+1) fun i=>ZZ (ZQ R i)))∧σ 3=some (.lst (tab (n+1) fun i=>oR (F i)))∧F 0=some (0,0)∧(∀a,a<m→Zc1 n G R M (k+1) (a+1) (n+1) (F (a+1)))∧∀a,m≤a→a<n→F (a+1)=some (R a)) ?_ ⟨fun i=>some (ZQ R i),by walk_at "zr",by walk_at "zr",by walk_at "zr",rfl,by omega,fun _ _ _=>rfl⟩ ?_ ?_
 ·by_cases h0:n=0
  ·subst h0
   exact⟨[],Zfm (a:=1) (b:=1) rfl Zqv,rfl⟩
  ·walk_at "zz"
   refine Rn.two 1 n (by decide) (by omega) (by omega) (by omega) ?_
   refine Za7 fun i _=>?_
   congr 1
   omega
 ·rintro i σ hi ⟨F,e0,e2,e3,z0,h1,h2⟩
  have hself:(fun a=>oR (F a))=fun a=>oR (if a=i+1 then F (i+1)else F a):=funext fun a=>by split <;> simp_all
  rw[hself]at e3
  refine ZbQ (n:=n+1) (a:=fun j=>.int j) (P:=fun j σ=>∃o,σ 0=some (Z8 (n+1) G)∧σ 2=some (.lst (tab (n+1) fun i=>ZZ (ZQ R i)))∧σ 3=some (.lst (tab (n+1) fun a=>oR (if a=i+1 then o else F a)))∧σ 4=some (.int ((i+1:Nat):Int))∧Zc1 n G R M (k+1) (i+1) j o) ?_ ⟨F (i+1),by walk_at "zr",by walk_at "zr",by walk_at "zr",by walk_at "zr",?_⟩ ?_ ?_
  ·walk_at "zz"
   rfl
  ·rw[h2 i (by omega) hi]
   exact⟨(hF (i+1) (by omega)).mono (by omega),fun x=>⟨fun h=>⟨h,by omega⟩,fun h=>h.1⟩⟩
  ·rintro j σ hj ⟨o,f0,f2,f3,f4,ho⟩
   unfold Z8 Zan at f0
   walk_at "zz"
   have fin:∀σ':TL,σ' 0=σ 0→σ' 2=σ 2→σ' 3=σ 3→σ' 4=σ 4→Zc1 n G R M (k+1) (i+1) (j+1) o→∃o,σ' 0=some (Z8 (n+1) G)∧σ' 2=some (.lst (tab (n+1) fun i=>ZZ (ZQ R i)))∧σ' 3=some (.lst (tab (n+1) fun a=>oR (if a=i+1 then o else F a)))∧σ' 4=some (.int ((i+1:Nat):Int))∧Zc1 n G R M (k+1) (i+1) (j+1) o:=fun σ' g0 g2 g3 g4 h=>⟨o,g0.trans f0,g2.trans f2,g3.trans f3,g4.trans f4,h⟩
   refine⟨fun c=>?_,fun c=>⟨fun h=>(nomatch h),fun _=>?_⟩⟩
   ·have cne:i+1≠j:=fun q=>of_decide_eq_true c (by omega)
    cases hg:G (i+1) j with
    | none=>
     rw[ZbO]
     walk_at "zz"
     exact fin _ rfl rfl rfl rfl (Zmb ho fun a b x ha=>by rw[hg]at ha;cases ha)
    | some a=>
     rw[ZaF]
     walk_at "zz"
     refine Zfu (ZgR (n:=0)) (.int (n:=0)) ?_
     walk_at "zz"
     refine⟨fun e=>?_,fun e=>?_⟩
     ·have e':=dec_iff.mp e
      rw[←ZaF,oT_inj]at e'
      cases o with
      | none=>
       walk_at "zz"
       rw[if_pos rfl,show oR none=T.none from rfl]
       walk_at "zz"
       exact fin _ rfl rfl rfl rfl fun x hx=>ho x ⟨hx.1,fun j' hj'=>hx.2 j' (by omega)⟩
      | some q=>
       walk_at "zz"
       rw[if_pos rfl,show oR (some q)=T.tup [.int q.1,.int q.2]from rfl]
       walk_at "zz"
       rw[if_pos rfl]
       have hj2:=hF j hj
       have ba:=bG (i+1) j a (by omega) hj hg
       have hpl:=ZpT hM bM hj2 ba
       have eq:ZZ (ZQ R j)=.tup [.int (ZQ R j).1,.int (ZQ R j).2]:=rfl
       rw[eq]
       walk_at "zz"
       rw[eq]
       walk_at "zz"
       refine ZM Ze4 ?_
       rw[ZtS _ hj2.1.nn]
       walk_at "zz"
       refine(Zok (p:=q) (q:=Zbz (ZQ R j) (0,a)) (k:=k+1) (by omega) ho.1.1 hpl.1 (ho.1.bd hM bM1) (hpl.bd hM bM1)).mono ?_
       rintro _ ⟨o',rfl,mt⟩
       refine⟨by cases o' <;> rfl,?_⟩
       walk_at "zz"
       refine⟨o',by walk_at "zr",by walk_at "zr",?_,by walk_at "zr",ZtT hk hM bM hg e' (by omega) ba hj2 ho mt⟩
       refine(show _=_ from ZbJ).trans ?_
       congr 2
       refine Za7 fun a _=>?_
       split <;> rfl
     ·walk_at "zz"
      refine fin _ rfl rfl rfl rfl (Zmb ho fun a' b x ha hb hab hx=>?_)
      rw[hg]at ha
      cases ha
      have:dec (oT (G j (i+1))=.int (-a))=true:=Za9 (by rw[hb,ZaF];congr 1;omega)
      rw[this]at e
      cases e
   ·walk_at "zz"
    refine fin _ rfl rfl rfl rfl (Zmb ho fun a b x ha hb hab hx=>?_)
    have cj:i+1=j:=by
     have:=of_decide_eq_false c
     omega
    subst cj
    rw[ha]at hb
    cases hb
    rw[show x-a=x by omega]
    exact hx.1
  ·rintro σ ⟨o,f0,f2,f3,f4,ho⟩
   refine⟨fun a=>if a=i+1 then o else F a,f0,f2,f3,by simp[z0],fun a ha=>?_,fun a ha hb=>?_⟩
   ·by_cases q:a=i
    ·subst q;simpa using ho
    ·simpa [q]using h1 a (by omega)
   ·simpa [show a≠i by omega]using h2 a (by omega) hb
 ·rintro σ ⟨F,e0,e2,e3,z0,h1,-⟩
  walk_at "zz"
  refine ZfD (.none (n:=0)) (Zed (n:=1) fun i _=>ZiR) ?_
  by_cases hc:∃i,i<n∧F (i+1)=none
  ·obtain⟨i,hi,ei⟩:=hc
   rw[Za9 (show T.none∈tab (n+1) fun i=>oR (F i)from List.mem_of_getElem? (i:=i+1) (by rw[Za8 (by omega),ei];rfl))]
   walk_at "zz"
   refine .inr ⟨rfl,i,hi,?_⟩
   have:=h1 i hi
   rw[ei]at this
   exact this
  ·rw[ZbR (show ¬T.none∈tab (n+1) fun i=>oR (F i)from fun h=>by
    obtain⟨i,hi,e⟩:=ZcY h
    have e':=oR_none.mp e.symm
    cases i with
    | zero=>rw[z0]at e';cases e'
    | succ i=>exact hc ⟨i,by omega,e'⟩)]
   walk_at "zz"
   refine Zv3 ?_
   walk_at "zz"
   refine⟨_,rfl,?_⟩
   rw[ZtU]
   have hs:∀i,i<n→F (i+1)=some ((F (i+1)).getD (1,0)):=fun i hi=>by
    cases e:F (i+1)with
    | none=>exact absurd ⟨i,hi,e⟩ hc
    | some q=>rfl
   refine .inl ⟨fun i=>(F (i+1)).getD (1,0),?_,fun t ht=>?_⟩
   ·unfold ZaQ
    congr 1
    refine Za7 fun i hi=>?_
    conv=>lhs;rw[hs i hi]
    rfl
   ·have:=h1 t ht
    rw[hs t ht]at this
    exact this
theorem Zv4(hi:RestOk (ZQ R i))(hj:RestOk (ZQ R j)): ZbA R i j=ZaR (Int.gcd (ZQ R i).1 (ZQ R j).1:Nat) ((ZQ R i).2-(ZQ R j).2):=
 Zf1 (ZdO R i j) (ZcN (by omega) _) fun x=>(Zgq hi hj x).trans (Zc9 (by omega) x).symm
theorem Zv5(hi:RestOk (ZQ R i))(hj:RestOk (ZQ R j)): ZaV G R i j=if((Int.gcd (ZQ R i).1 (ZQ R j).1:Nat):Int)=0 then(match G i j with | none=>some ((ZQ R i).2-(ZQ R j).2) | some b=>if(ZQ R i).2-(ZQ R j).2≤b then some ((ZQ R i).2-(ZQ R j).2)else none)else(match G i j with | none=>none | some b=>some (b-(b-((ZQ R i).2-(ZQ R j).2)) % (Int.gcd (ZQ R i).1 (ZQ R j).1:Nat))):=by
 unfold ZaV
 rw[Zv4 hi hj]
 generalize ((Int.gcd (ZQ R i).1 (ZQ R j).1:Nat):Int)=m at *
 generalize (ZQ R i).2-(ZQ R j).2=r
 unfold ZaR
 by_cases c:m=0
 ·rw[if_pos c,if_pos c]
  cases G i j with
  | none=>simp[ZbV]
  | some b=>simp[ZbV,Zdx]
 ·rw[if_neg c,if_neg c]
  cases G i j with
  | none=>simp[ZbV,c]
  | some b=>
   have:(b-r.fmod m) % m=(b-r) % m:=by
    have h1:m ∣ (b-r.fmod m)-(b-r):=by
     have:=Int.mul_fdiv_add_fmod r m
     exact⟨r.fdiv m,by omega⟩
    exact Int.emod_eq_emod_iff_emod_sub_eq_zero.mpr (Int.emod_eq_zero_of_dvd h1)
   simp[ZbV,Zdx,c,this]
noncomputable def ZfE(n:Nat)(G:Nat→Nat→Option Int)(R:Nat→Int×Int)(F:Nat→Nat→Option Int)(i j:Nat): Prop:=∀a b,a<n+1→b<n+1→((a<i∨(a=i∧b<j))→F a b=ZaV G R a b∧∀c,G a b=some c→ZaV G R a b≠none)∧(¬(a<i∨(a=i∧b<j))→F a b=G a b)
theorem Zol(h:ZfE n G R F i j)(e:G i j=ZaV G R i j): ZfE n G R F i (j+1):=fun a b ha hb=>by
 obtain⟨h1,h2⟩:=h a b ha hb
 refine⟨fun q=>?_,fun q=>h2 (by omega)⟩
 by_cases q':a=i∧b=j
 ·obtain⟨rfl,rfl⟩:=q'
  rw[h2 (by omega)]
  exact⟨e,fun c hc=>by rw[←e,hc];simp⟩
 ·exact h1 (by omega)
theorem Zmc{v:Int}(h:ZfE n G R F i j)(e:ZaV G R i j=some v): ZfE n G R (ZbT F i j (some v)) i (j+1):=fun a b ha hb=>by
 obtain⟨h1,h2⟩:=h a b ha hb
 by_cases q':a=i∧b=j
 ·obtain⟨rfl,rfl⟩:=q'
  rw[Zfq]
  exact⟨fun _=>⟨e.symm,fun c _=>by rw[e];simp⟩,fun q=>by omega⟩
 ·rw[ZeA q']
  exact⟨fun q=>h1 (by omega),fun q=>h2 (by omega)⟩
theorem Zrm(hn:n≤100)(hk:k≤7000)(hM:0<M)(bM:Bd k M)(hR:∀t,t<n→RB M k (R t))(hd:∀i,i<n+1→G i i=some 0): Pk (Zhg [Z8 (n+1) G,ZaQ n R]) fun t=>(t=Z8 (n+1) (ZaV G R)∧¬Zdu n G R)∨(t=.none∧Zdu n G R):=by
 unfold Zhg ZjU
 have hF:=Zdc hR
 have hlz:=Zib (fun i hi=>(hF i hi).1) hd
 have hr:ZaQ n R=.lst (tab n fun i=>ZZ (R i)):=rfl
 rw[hr]
 walk_at "zz"
 rw[Zns]
 refine ZhP (n:=n+1) (G:=G) (by omega) ?_ ?_
 ·walk_at "zz"
  rfl
 walk_at "zz"
 refine ZbQ (n:=n+1) (a:=fun i=>.int i) (P:=fun i σ=>∃F,σ 0=some (Z8 (n+1) G)∧σ 2=some (.lst (tab (n+1) fun i=>ZZ (ZQ R i)))∧σ 3=some (Z8 (n+1) F)∧ZfE n G R F i 0) ?_ ⟨G,by walk_at "zr",by walk_at "zr",by walk_at "zr",fun a b _ _=>⟨fun q=>by omega,fun _=>rfl⟩⟩ ?_ ?_
 ·walk_at "zz"
  rfl
 ·rintro i σ hi ⟨F,e0,e2,e3,lt⟩
  refine ZbQ (n:=n+1) (a:=fun i=>.int i) (P:=fun j σ=>∃F,σ 0=some (Z8 (n+1) G)∧σ 2=some (.lst (tab (n+1) fun i=>ZZ (ZQ R i)))∧σ 3=some (Z8 (n+1) F)∧σ 4=some (.int i)∧ZfE n G R F i j) ?_ ⟨F,by walk_at "zr",by walk_at "zr",by walk_at "zr",by walk_at "zr",lt⟩ ?_ ?_
  ·walk_at "zz"
   rfl
  ·rintro j σ hj ⟨F,e0,e2,e3,e4,lt⟩
   have hi1:=hF i hi
   have hj1:=hF j hj
   have lw:=Zv5 (G:=G) hi1.1 hj1.1
   have f0:σ 0=some (.lst (tab (n+1) fun i=>.lst (tab (n+1) fun j=>oT (G i j)))):=e0
   have f3:σ 3=some (.lst (tab (n+1) fun i=>.lst (tab (n+1) fun j=>oT (F i j)))):=e3
   have eqi:ZZ (ZQ R i)=.tup [.int (ZQ R i).1,.int (ZQ R i).2]:=rfl
   have eqj:ZZ (ZQ R j)=.tup [.int (ZQ R j).1,.int (ZQ R j).2]:=rfl
   clear e0 e3
   walk_at "zz"
   rw[eqi]
   walk_at "zz"
   rw[eqj]
   walk_at "zz"
   refine ZM (Zoe (Zbq (hi1.bd hM bM).1 (by omega)) (Zbq (hj1.bd hM bM).1 (by omega))) ?_
   walk_at "zz"
   rw[eqi]
   walk_at "zz"
   rw[eqj]
   walk_at "zz"
   have hm0:(0:Int)≤((Int.gcd (ZQ R i).1 (ZQ R j).1:Nat):Int):=by omega
   generalize ((Int.gcd (ZQ R i).1 (ZQ R j).1:Nat):Int)=m at *
   generalize (ZQ R i).2-(ZQ R j).2=r at *
   refine⟨fun c=>?_,fun c=>⟨fun h=>(nomatch h),fun _=>?_⟩⟩
   ·have cne:(i:Int)≠j:=of_decide_eq_true c
    by_cases cm:m=0
    ·rw[if_pos cm]at lw
     walk_at "zz"
     cases hg:G i j with
     | none=>
      rw[hg]at lw
      rw[ZbO]
      walk_at "zz"
      rw[←ZaF (c:=r),ZdT]
      exact⟨_,by walk_at "zr",by walk_at "zr",by walk_at "zr",by walk_at "zr",Zmc lt lw⟩
     | some b=>
      rw[hg]at lw
      rw[ZaF]
      walk_at "zz"
      by_cases cb:b<r
      ·walk_at "zz"
       refine .inr ⟨rfl,i,j,hi,hj,b,hg,?_⟩
       rw[lw]
       exact if_neg (by omega)
      ·walk_at "zz"
       rw[←ZaF (c:=r),ZdT]
       exact⟨_,by walk_at "zr",by walk_at "zr",by walk_at "zr",by walk_at "zr",Zmc lt (by rw[lw];exact if_pos (by omega))⟩
    ·rw[if_neg cm]at lw
     walk_at "zz"
     cases hg:G i j with
     | none=>
      rw[hg]at lw
      rw[ZbO]
      walk_at "zz"
      exact⟨F,by walk_at "zr",by walk_at "zr",by walk_at "zr",by walk_at "zr",Zol lt (by rw[hg,lw])⟩
     | some b=>
      rw[hg]at lw
      rw[ZaF]
      walk_at "zz"
      rw[Int.fmod_eq_emod_of_nonneg _ hm0]
      walk_at "zz"
      rw[←ZaF (c:=b-(b-r) % m),ZdT]
      exact⟨_,by walk_at "zr",by walk_at "zr",by walk_at "zr",by walk_at "zr",Zmc lt lw⟩
   ·have ceq:i=j:=by
     have:=of_decide_eq_false c
     omega
    walk_at "zz"
    subst ceq
    exact⟨F,by walk_at "zr",by walk_at "zr",by walk_at "zr",by walk_at "zr",Zol lt (by rw[hd _ hi,hlz _ hi])⟩
  ·rintro σ ⟨F,e0,e2,e3,e4,lt⟩
   exact⟨F,e0,e2,e3,fun a b ha hb=>⟨fun q=>(lt a b ha hb).1 (by omega),fun q=>(lt a b ha hb).2 (by omega)⟩⟩
 ·rintro σ ⟨F,e0,e2,e3,lt⟩
  walk_at "zz"
  refine .inl ⟨?_,?_⟩
  ·unfold Z8 Zan
   congr 1
   refine Za7 fun a ha=>?_
   congr 1
   refine Za7 fun b hb=>?_
   rw[((lt a b ha hb).1 (by omega)).1]
  ·rintro⟨a,b,ha,hb,c,hc,e⟩
   exact((lt a b ha hb).1 (by omega)).2 c hc e
noncomputable def Zb1(G:Nat→Nat→Option Int): Nat→List Nat→Nat→Option Int
 | i,[],j=>G i j
 | i,k::l,j=>addO (G i k) (Zb1 G k l j)
theorem ZcX(G:Nat→Nat→Option Int): ∀(i:Nat) (l1:List Nat) (k:Nat) (l2:List Nat) (j:Nat),Zb1 G i (l1++k::l2) j=addO (Zb1 G i l1 k) (Zb1 G k l2 j)
 | i,[],k,l2,j=>rfl
 | i,a::l1,k,l2,j=>by
  show addO (G i a) (Zb1 G a (l1++k::l2) j)=addO (addO (G i a) (Zb1 G a l1 k)) (Zb1 G k l2 j)
  rw[ZcX G a l1 k l2 j,Zf9]
theorem Zpb{n:Nat}{G C:Nat→Nat→Option Int}(hle:∀i j,i<n→j<n→leO (C i j) (G i j))(tri:∀k i j,k<n→i<n→j<n→leO (C i j) (addO (C i k) (C k j))): ∀(l:List Nat) (i j:Nat),(∀a∈l,a<n)→i<n→j<n→leO (C i j) (Zb1 G i l j)
 | [],i,j,_,hi,hj=>hle i j hi hj
 | k::l,i,j,hl,hi,hj=>by
  have hk:=hl k Zz5
  exact Zcc (tri k i j hk hi hj) (Zfb (hle i k hi hk) (Zpb hle tri l k j (fun a m=>hl a (Zz2 _ m)) hk hj))
theorem ZgO{n:Nat}{G:Nat→Nat→Option Int}: ∀(m:Nat),m≤n→∀i j c,clG G m i j=some c→∃l:List Nat,(∀a∈l,a<n)∧Zb1 G i l j=some c
 | 0,_,i,j,c,h=>⟨[],by simp,h⟩
 | m+1,hm,i,j,c,h=>by
  rcases ZeB (clG G m i j) (addO (clG G m i m) (clG G m m j))with e | e
  ·rw[show clG G (m+1) i j=_ from e]at h
   exact ZgO (n:=n) m (by omega) i j c h
  ·rw[show clG G (m+1) i j=_ from e]at h
   obtain⟨p,q,h1,h2,h3⟩:=addO_some.mp h
   obtain⟨l1,a1,b1⟩:=ZgO (n:=n) m (by omega) i m p h1
   obtain⟨l2,a2,b2⟩:=ZgO (n:=n) m (by omega) m j q h2
   refine⟨l1++m::l2,fun a ha=>?_,by rw[ZcX,b1,b2];simp[addO,h3]⟩
   rcases Zz8.mp ha with ha | ha
   ·exact a1 a ha
   ·rcases Zz7.mp ha with rfl | ha
    ·omega
    ·exact a2 a ha
theorem Zmd: ∀(n:Nat) (l:List Nat),l.Nodup→(∀a∈l,a<n)→l.length≤n
 | 0,l,_,h=>by
  cases l with
  | nil=>simp
  | cons a l=>exact absurd (h a Zz5) (by omega)
 | n+1,l,hn,h=>by
  have h1:=Zmd n (l.erase n) (hn.erase n) fun a ha=>by
   have ha':=List.mem_of_mem_erase ha
   have:=h a ha'
   have hne:a≠n:=fun q=>by
    subst q
    exact(List.Nodup.not_mem_erase hn) ha
   omega
  have h2:=List.length_erase_of_mem (a:=n) (l:=l)
  by_cases q:n∈l
  ·have:=h2 q;have:0<l.length:=List.length_pos_of_mem q;omega
  ·rw[List.erase_of_not_mem q]at h1;omega
theorem Zme: ∀(l:List Nat),¬l.Nodup→∃k l1 l2 l3,l=l1++k::(l2++k::l3)
 | [],h=>absurd List.nodup_nil h
 | a::l,h=>by
  by_cases q:a∈l
  ·obtain⟨l2,l3,e⟩:=List.append_of_mem q
   exact⟨a,[],l2,l3,by rw[e];rfl⟩
  ·have:¬l.Nodup:=fun n=>h (List.nodup_cons.mpr ⟨q,n⟩)
   obtain⟨k,l1,l2,l3,e⟩:=Zme l this
   exact⟨k,a::l1,l2,l3,by rw[e];rfl⟩
theorem Zv6(pos:∀k l s,k<n→(∀a∈l,a<n)→Zb1 G k l k=some s→0≤s)(hi:i<n)(hj:j<n): ∀(L:Nat) (l:List Nat) (s:Int),l.length=L→(∀a∈l,a<n)→Zb1 G i l j=some s→∃l' s',l'.length+1≤n∧(∀a∈l',a<n)∧Zb1 G i l' j=some s'∧s'≤s:=by
 intro L
 induction L using Nat.strongRecOn with
 | _ L ih=>
  intro l s hL hl h
  by_cases q:i∈l
  ·obtain⟨l1,l2,e⟩:=List.append_of_mem q
   subst e
   rw[ZcX]at h
   obtain⟨p,r,h1,h2,h3⟩:=addO_some.mp h
   have hp:=pos i l1 p hi (fun a ha=>hl a (Zz4 _ ha)) h1
   obtain⟨l',s',k1,k2,k3,k4⟩:=ih l2.length (by rw[←hL];simp;omega) l2 r rfl (fun a ha=>hl a (Zz3 _ (Zz2 _ ha))) h2
   exact⟨l',s',k1,k2,k3,by omega⟩
  ·by_cases nd:l.Nodup
   ·have:=Zmd n (i::l) (List.nodup_cons.mpr ⟨q,nd⟩) (fun a ha=>by
     rcases Zz7.mp ha with rfl | ha
     ·exact hi
     ·exact hl a ha)
    exact⟨l,s,by simpa using this,hl,h,by omega⟩
   ·obtain⟨k,l1,l2,l3,e⟩:=Zme l nd
    subst e
    rw[ZcX]at h
    obtain⟨p,r,h1,h2,h3⟩:=addO_some.mp h
    rw[ZcX]at h2
    obtain⟨p2,r2,h4,h5,h6⟩:=addO_some.mp h2
    have hk:k<n:=hl k (by simp)
    have hp:=pos k l2 p2 hk (fun a ha=>hl a (by simp[ha])) h4
    have h7:Zb1 G i (l1++k::l3) j=some (p+r2):=by rw[ZcX,h1,h5];rfl
    obtain⟨l',s',k1,k2,k3,k4⟩:=ih (l1++k::l3).length (by rw[←hL];simp;omega) (l1++k::l3) (p+r2) rfl (fun a ha=>hl a (by simp at ha ⊢;rcases ha with h | h | h <;> simp[h])) h7
    exact⟨l',s',k1,k2,k3,by omega⟩
theorem Zs1: ∀(L:Nat) (i:Nat) (l:List Nat) (s:Int),l.length=L→i<n→(∀a∈l,a<n)→Zb1 G i l i=some s→s<0→∃i' l' s',l'.length+1≤n∧i'<n∧(∀a∈l',a<n)∧Zb1 G i' l' i'=some s'∧s'<0:=by
 intro L
 induction L using Nat.strongRecOn with
 | _ L ih=>
  intro i l s hL hi hl h hs
  by_cases q:i∈l
  ·obtain⟨l1,l2,e⟩:=List.append_of_mem q
   subst e
   rw[ZcX]at h
   obtain⟨p,r,h1,h2,h3⟩:=addO_some.mp h
   by_cases hp:p<0
   ·exact ih l1.length (by rw[←hL];simp) i l1 p rfl hi (fun a ha=>hl a (Zz4 _ ha)) h1 hp
   ·exact ih l2.length (by rw[←hL];simp;omega) i l2 r rfl hi (fun a ha=>hl a (Zz3 _ (Zz2 _ ha))) h2 (by omega)
  ·by_cases nd:l.Nodup
   ·have:=Zmd n (i::l) (List.nodup_cons.mpr ⟨q,nd⟩) (fun a ha=>by
     rcases Zz7.mp ha with rfl | ha
     ·exact hi
     ·exact hl a ha)
    exact⟨i,l,s,by simpa using this,hi,hl,h,hs⟩
   ·obtain⟨k,l1,l2,l3,e⟩:=Zme l nd
    subst e
    rw[ZcX]at h
    obtain⟨p,r,h1,h2,h3⟩:=addO_some.mp h
    rw[ZcX]at h2
    obtain⟨p2,r2,h4,h5,h6⟩:=addO_some.mp h2
    have hk:k<n:=hl k (by simp)
    by_cases hp:p2<0
    ·exact ih l2.length (by rw[←hL];simp;omega) k l2 p2 rfl hk (fun a ha=>hl a (by simp[ha])) h4 hp
    ·have h7:Zb1 G i (l1++k::l3) i=some (p+r2):=by rw[ZcX,h1,h5];rfl
     exact ih (l1++k::l3).length (by rw[←hL];simp;omega) i (l1++k::l3) (p+r2) rfl hi (fun a ha=>hl a (by simp at ha ⊢;rcases ha with h | h | h <;> simp[h])) h7 (by omega)
noncomputable def ZeQ(n r:Nat)(G D:Nat→Nat→Option Int): Prop:=(∀i j,i<n→j<n→∀c,D i j=some c→∃l:List Nat,(∀a∈l,a<n)∧Zb1 G i l j=some c)∧∀(l:List Nat) i j,l.length+1≤r→(∀a∈l,a<n)→i<n→j<n→leO (D i j) (Zb1 G i l j)
theorem ZuT: ZeQ n 1 G G:=⟨fun i j _ _ c h=>⟨[],by simp,h⟩,fun l i j h _ _ _=>by
 have:l=[]:=List.length_eq_zero_iff.mp (by omega)
 subst this
 exact ZcI⟩
noncomputable def ZqJ(n:Nat)(D D':Nat→Nat→Option Int): Prop:=∀i j,i<n→j<n→leO (D' i j) (D i j)∧(∀k,k<n→leO (D' i j) (addO (D i k) (D k j)))∧(D' i j=D i j∨∃k,k<n∧D' i j=addO (D i k) (D k j))
theorem Zs2{D D':Nat→Nat→Option Int}(h:ZeQ n r G D)(t:ZqJ n D D'): ZeQ n (2*r) G D':=by
 refine⟨fun i j hi hj c e=>?_,fun l i j hl ha hi hj=>?_⟩
 ·obtain⟨_,_,e1 | ⟨k,hk,e1⟩⟩:=t i j hi hj
  ·rw[e1]at e;exact h.1 i j hi hj c e
  ·rw[e1]at e
   obtain⟨p,q,h1,h2,h3⟩:=addO_some.mp e
   obtain⟨l1,a1,b1⟩:=h.1 i k hi hk p h1
   obtain⟨l2,a2,b2⟩:=h.1 k j hk hj q h2
   refine⟨l1++k::l2,fun a ha=>?_,by rw[ZcX,b1,b2];simp[addO,h3]⟩
   rcases Zz8.mp ha with ha | ha
   ·exact a1 a ha
   ·rcases Zz7.mp ha with rfl | ha
    ·exact hk
    ·exact a2 a ha
 ·obtain⟨t1,t2,_⟩:=t i j hi hj
  by_cases q:l.length+1≤r
  ·exact Zcc t1 (h.2 l i j q ha hi hj)
  ·have hr:1≤r:=by omega
   have hlt:r-1<l.length:=by omega
   obtain⟨k,l1,l2,e,hl1⟩:∃k l1 l2,l=l1++k::l2∧l1.length=r-1:=⟨l[r-1],l.take (r-1),l.drop r,by
    have e1:=(List.take_append_drop (r-1) l).symm
    rw[List.drop_eq_getElem_cons hlt,show r-1+1=r by omega]at e1
    exact e1,by simp;omega⟩
   subst e
   have hk:k<n:=ha k (by simp)
   rw[ZcX]
   refine Zcc (t2 k hk) (Zfb (h.2 l1 i k (by omega) (fun a m=>ha a (Zz4 _ m)) hi hk) (h.2 l2 k j ?_ (fun a m=>ha a (Zz3 _ (Zz2 _ m))) hk hj))
   simp at hl
   omega
theorem Zs3{D:Nat→Nat→Option Int}(hd:∀i,i<n→G i i=some 0)(hr:n≤r)(b:ZeQ n r G D)(nn:∀m,m<n→¬Neg n (clG G (m+1))): ∀i j,i<n→j<n→D i j=clG G n i j:=by
 intro i j hi hj
 have low:=Zpb (n:=n) (G:=G) (C:=clG G n) (fun i j _ _=>ZgS n i j) (fun k i j hk hi hj=>Zng hd n (by omega) nn k hk i j hi hj)
 have zero:=ZeC hd (m:=n) nn
 have pos:∀k l s,k<n→(∀a∈l,a<n)→Zb1 G k l k=some s→0≤s:=fun k l s hk hl e=>by
  have:=low l k k hl hk hk
  rw[zero k hk,e]at this
  exact leO_some.mp this
 refine ZrX ?_ ?_
 ·intro c e
  obtain⟨l,h1,h2⟩:=ZgO n (Zz10 n) i j c e
  obtain⟨l',s',k1,k2,k3,k4⟩:=Zv6 pos hi hj _ l c rfl h1 h2
  have:=b.2 l' i j (by omega) k2 hi hj
  rw[k3]at this
  obtain⟨x,e1,e2⟩:=this s' rfl
  exact⟨x,e1,by omega⟩
 ·intro c e
  obtain⟨l,h1,h2⟩:=b.1 i j hi hj c e
  have:=low l i j h1 hi hj
  rw[h2]at this
  exact this c rfl
theorem ZtV{D:Nat→Nat→Option Int}(hr:n≤r)(b:ZeQ n r G D)(hm:m<n)(ng:Neg n (clG G (m+1))): Neg n D:=by
 obtain⟨i,hi,c,e,hc⟩:=ng
 obtain⟨l,h1,h2⟩:=ZgO (n:=n) (m+1) (by omega) i i c e
 obtain⟨i',l',s',k1,k2,k3,k4,k5⟩:=Zs1 _ i l c rfl hi h1 h2 hc
 have:=b.2 l' i' i' (by omega) k3 k2 k2
 rw[k4]at this
 obtain⟨x,e1,e2⟩:=this s' rfl
 exact⟨i',k2,x,e1,by omega⟩
noncomputable def ZdE(n:Nat)(D F:Nat→Nat→Option Int)(done:Nat→Nat→Nat→Prop): Prop:=∀a b,a<n→b<n→leO (F a b) (D a b)∧(F a b=D a b∨∃k,k<n∧F a b=addO (D a k) (D k b))∧∀k,k<n→done a b k→leO (F a b) (addO (D a k) (D k b))
theorem Zmf{D:Nat→Nat→Option Int}(h:ZdE n D F done)(hd:∀a b c,c<n→done' a b c→done a b c∨(a=i∧b=j∧c=k))(hl:leO (F i j) (addO (D i k) (D k j))): ZdE n D F done':=fun a b ha hb=>by
 obtain⟨h1,h2,h3⟩:=h a b ha hb
 refine⟨h1,h2,fun c hc q=>?_⟩
 rcases hd a b c hc q with q | ⟨rfl,rfl,rfl⟩
 ·exact h3 c hc q
 ·exact hl
theorem ZuU{D:Nat→Nat→Option Int}(h:ZdE n D F done)(hi:i<n)(hj:j<n)(hk:k<n)(hd:∀a b c,c<n→done' a b c→done a b c∨(a=i∧b=j∧c=k))(hl:leO (addO (D i k) (D k j)) (F i j)): ZdE n D (ZbT F i j (addO (D i k) (D k j))) done':=fun a b ha hb=>by
 by_cases q:a=i∧b=j
 ·obtain⟨rfl,rfl⟩:=q
  obtain⟨h1,h2,h3⟩:=h a b ha hb
  rw[Zfq]
  refine⟨Zcc hl h1,.inr ⟨k,hk,rfl⟩,fun c hc q=>?_⟩
  rcases hd a b c hc q with q | ⟨_,_,rfl⟩
  ·exact Zcc hl (h3 c hc q)
  ·exact ZcI
 ·rw[ZeA q]
  obtain⟨h1,h2,h3⟩:=h a b ha hb
  refine⟨h1,h2,fun c hc q'=>?_⟩
  rcases hd a b c hc q' with q' | ⟨rfl,rfl,_⟩
  ·exact h3 c hc q'
  ·exact absurd ⟨rfl,rfl⟩ q
theorem Zgj{D:Nat→Nat→Option Int}(h:ZdE n D F done)(hd:∀a b c,a<n→b<n→c<n→done' a b c→done a b c): ZdE n D F done':=fun a b ha hb=>by
 obtain⟨h1,h2,h3⟩:=h a b ha hb
 exact⟨h1,h2,fun c hc q=>h3 c hc (hd a b c ha hb hc q)⟩
theorem Zs4{D:Nat→Nat→Option Int}(h:ZdE n D F fun _ _ _=>True): ZqJ n D F:=fun a b ha hb=>by
 obtain⟨h1,h2,h3⟩:=h a b ha hb
 exact⟨h1,fun k hk=>h3 k hk trivial,h2⟩
theorem ZrH(h0:0<n)(hn:n≤100)(hd:∀i,i<n→G i i=some 0): Pk (ZeR [Z8 n G]) fun t=>∃r D,n≤r∧ZeQ n r G D∧((t=Z8 n D∧¬Neg n D)∨(t=.none∧Neg n D)):=by
 unfold ZeR Zi0
 have hg:Z8 n G=.lst (tab n fun i=>Zan n (G i)):=rfl
 walk_at "zz"
 rw[hg]
 walk_at "zz"
 refine ZhP (n:=n) (G:=G) (by omega) ?_ ?_
 ·walk_at "zz"
  rfl
 walk_at "zz"
 refine Zfd (fun m σ=>∃(r:Nat) (D:Nat→Nat→Option Int),σ 1=some (.int n)∧σ 2=some (Z8 n D)∧σ 3=some (.int r)∧ZeQ n r G D∧1≤r∧r≤2*n∧m=2*n-r) _ _ ?_ 1000000 (m:=2*n-1) ⟨1,G,by walk_at "zr",by walk_at "zr",by walk_at "zr",ZuT,by omega,by omega,rfl⟩ (by omega)
 rintro m σ ⟨r,D,e1,e2,e3,bs,r1,r2,rfl⟩
 have hdD:∀i,i<n→∃b,D i i=some b:=fun i hi=>by
  have:=bs.2 [] i i (by simpa using r1) (by simp) hi hi
  rw[show Zb1 G i [] i=some 0 from hd i hi]at this
  obtain⟨x,e,_⟩:=this 0 rfl
  exact⟨x,e⟩
 walk_at "zz"
 refine⟨fun c=>?_,fun c=>?_⟩
 ·have hrn:r<n:=by simpa using c
  walk_at "zz"
  refine ZhP (n:=n) (G:=D) (by omega) ?_ ?_
  ·walk_at "zz"
   rfl
  walk_at "zz"
  refine ZbQ (n:=n) (a:=fun i=>.int i) (P:=fun i σ=>∃F,σ 1=some (.int n)∧σ 2=some (Z8 n F)∧σ 3=some (.int r)∧σ 4=some (Z8 n D)∧ZdE n D F fun a _ _=>a<i) ?_ ⟨D,by walk_at "zr",by walk_at "zr",by walk_at "zr",by walk_at "zr",fun a b _ _=>⟨ZcI,.inl rfl,fun k _ q=>by omega⟩⟩ ?_ ?_
  ·walk_at "zz"
   rfl
  ·rintro i σ hi ⟨F0,f1,f2,f3,f4,pt⟩
   refine ZbQ (n:=n) (a:=fun i=>.int i) (P:=fun j σ=>∃F,σ 1=some (.int n)∧σ 2=some (Z8 n F)∧σ 3=some (.int r)∧σ 4=some (Z8 n D)∧σ 5=some (.int i)∧ZdE n D F fun a b _=>a<i∨(a=i∧b<j)) ?_ ⟨F0,by walk_at "zr",by walk_at "zr",by walk_at "zr",by walk_at "zr",by walk_at "zr",Zgj pt fun a b c _ _ _ q=>by omega⟩ ?_ ?_
   ·walk_at "zz"
    rfl
   ·rintro j σ hj ⟨F1,f1,f2,f3,f4,f5,pt⟩
    refine ZbQ (n:=n) (a:=fun i=>.int i) (P:=fun k σ=>∃F,σ 1=some (.int n)∧σ 2=some (Z8 n F)∧σ 3=some (.int r)∧σ 4=some (Z8 n D)∧σ 5=some (.int i)∧σ 6=some (.int j)∧ZdE n D F fun a b c=>a<i∨(a=i∧(b<j∨(b=j∧c<k)))) ?_ ⟨F1,by walk_at "zr",by walk_at "zr",by walk_at "zr",by walk_at "zr",by walk_at "zr",by walk_at "zr",Zgj pt fun a b c _ _ _ q=>by omega⟩ ?_ ?_
    ·walk_at "zz"
     rfl
    ·rintro k σ hk ⟨F,f1,f2,f3,f4,f5,f6,pt⟩
     have hdn:∀a b c,c<n→(a<i∨(a=i∧(b<j∨(b=j∧c<k+1))))→(a<i∨(a=i∧(b<j∨(b=j∧c<k))))∨(a=i∧b=j∧c=k):=fun a b c _ q=>by omega
     have f2':=f2
     unfold Z8 Zan at f2 f4
     walk_at "zz"
     cases hik:D i k with
     | none=>
      rw[ZbO]
      walk_at "zz"
      exact⟨F,by walk_at "zr",by walk_at "zr",by walk_at "zr",by walk_at "zr",by walk_at "zr",by walk_at "zr",Zmf pt hdn (by rw[hik];exact Zew)⟩
     | some p=>
      rw[ZaF]
      walk_at "zz"
      cases hkj:D k j with
      | none=>
       rw[ZbO]
       walk_at "zz"
       exact⟨F,by walk_at "zr",by walk_at "zr",by walk_at "zr",by walk_at "zr",by walk_at "zr",by walk_at "zr",Zmf pt hdn (by rw[hik,hkj];exact Zew)⟩
      | some q=>
       rw[ZaF]
       walk_at "zz"
       rw[hik,hkj,ZaF,ZaF]
       have hs:addO (D i k) (D k j)=some (p+q):=by rw[hik,hkj];rfl
       have hset:=ZuU pt hi hj hk hdn
       have hkeep:=Zmf pt hdn
       rw[hs]at hset hkeep
       clear f2'
       walk_at "zz"
       cases hij:F i j with
       | none=>
        rw[ZbO]
        walk_at "zz"
        rw[←ZaF (c:=p+q),ZdT]
        exact⟨_,by walk_at "zr",by walk_at "zr",by walk_at "zr",by walk_at "zr",by walk_at "zr",by walk_at "zr",hset (by rw[hij];exact Zew)⟩
       | some g=>
        rw[ZaF]
        walk_at "zz"
        rw[hij,ZaF]
        walk_at "zz"
        by_cases hlt:p+q<g
        ·walk_at "zz"
         rw[←ZaF (c:=p+q),ZdT]
         exact⟨_,by walk_at "zr",by walk_at "zr",by walk_at "zr",by walk_at "zr",by walk_at "zr",by walk_at "zr",hset (by rw[hij];exact leO_some.mpr (by omega))⟩
        ·walk_at "zz"
         exact⟨F,by walk_at "zr",by walk_at "zr",by walk_at "zr",by walk_at "zr",by walk_at "zr",by walk_at "zr",hkeep (by rw[hij];exact leO_some.mpr (by omega))⟩
    ·rintro σ ⟨F,f1,f2,f3,f4,f5,f6,pt⟩
     exact⟨F,f1,f2,f3,f4,f5,Zgj pt fun a b c _ _ hc q=>by omega⟩
   ·rintro σ ⟨F,f1,f2,f3,f4,f5,pt⟩
    exact⟨F,f1,f2,f3,f4,Zgj pt fun a b c _ hb _ q=>by omega⟩
  ·rintro σ ⟨F,f1,f2,f3,f4,pt⟩
   walk_at "zz"
   refine ZpM (by decide) (by decide) ?_
   walk_at "zz"
   exact⟨2*n-2*r,by omega,2*r,F,by walk_at "zr",by walk_at "zr",by rw[show((2*r:Nat):Int)=2*(r:Int)by omega];walk_at "zr",Zs2 bs (Zs4 (Zgj pt fun a b c ha _ _ _=>ha)),by omega,by omega,rfl⟩
 ·have hrn:n≤r:=by simp at c;omega
  refine Ziy ?_
  refine ZbQ (n:=n) (a:=fun i=>.int i) (P:=fun i σ=>σ 2=some (Z8 n D)∧∀a,a<i→∀b,D a a=some b→0≤b) ?_ ⟨e2,by omega⟩ ?_ ?_
  ·walk_at "zz"
   rfl
  ·rintro i σ hi ⟨f2,f3⟩
   unfold Z8 Zan at f2
   obtain⟨b,eb⟩:=hdD i hi
   walk_at "zz"
   rw[eb,ZaF]
   walk_at "zz"
   by_cases hb:b<0
   ·walk_at "zz"
    exact⟨r,D,hrn,bs,.inr ⟨rfl,i,hi,b,eb,hb⟩⟩
   ·walk_at "zz"
    refine⟨by walk_at "zr",fun a ha c hc=>?_⟩
    by_cases q:a=i
    ·subst q;rw[eb]at hc;cases hc;omega
    ·exact f3 a (by omega) c hc
  ·rintro σ ⟨f2,f3⟩
   walk_at "zz"
   refine⟨r,D,hrn,bs,.inl ⟨rfl,?_⟩⟩
   rintro⟨i,hi,b,eb,hb⟩
   have:=f3 i hi b eb
   omega
theorem ZpU(hn:n≤99)(hd:∀i,i<n+1→G i i=some 0): Pk (ZeR [Z8 (n+1) G]) fun t=>(t=Z8 (n+1) (clG G (n+1))∧¬Zcb (n+1) G)∨(t=.none∧Zcb (n+1) G):=by
 refine(ZrH (by omega) (by omega) hd).mono ?_
 rintro t ⟨r,D,hr,bs,h⟩
 by_cases hc:Zcb (n+1) G
 ·obtain⟨m,hm,ng⟩:=hc
  have ng2:=ZtV hr bs hm ng
  rcases h with⟨_,h⟩ | ⟨h,_⟩
  ·exact absurd ng2 h
  ·exact .inr ⟨h,m,hm,ng⟩
 ·have nn:∀m,m<n+1→¬Neg (n+1) (clG G (m+1)):=fun m hm q=>hc ⟨m,hm,q⟩
  have same:=Zs3 hd hr bs nn
  have hz:=ZeC hd nn
  rcases h with⟨h,_⟩ | ⟨_,i,hi,b,e,hb⟩
  ·refine .inl ⟨?_,hc⟩
   rw[h]
   unfold Z8 Zan
   congr 1
   refine Za7 fun i hi=>?_
   congr 1
   refine Za7 fun j hj=>?_
   rw[same i j hi hj]
  ·rw[same i i hi hi,hz i hi]at e
   cases e
   omega
theorem Zr0(hn:n≤99)(hk:k+2*n+4≤7000)(hM:0<M)(bM:Bd k M)(hd:∀i,i<n+1→G i i=some 0)(bG:BdG (n+1) k G)(hR:∀t,t<n→RB M k (R t)): Pk (Zcu [ZJ n G R]) fun t=>(∃G2 R2,t=ZJ n G2 R2∧Sharp n G R G2 R2 M (k+2*n+5))∨(t=.none∧Zfc n G R M (k+n+2)):=by
 unfold Zcu Zht
 have ht:ZJ n G R=.tup [Z8 (n+1) G,ZaQ n R]:=rfl
 have hg:∀G,Z8 (n+1) G=.lst (tab (n+1) fun i=>Zan (n+1) (G i)):=fun _=>rfl
 have hr:∀R,ZaQ n R=.lst (tab n fun i=>ZZ (R i)):=fun _=>rfl
 rw[ht]
 walk_at "zz"
 refine(ZpU hn hd).mono ?_
 rintro t (⟨rfl,nr⟩ | ⟨rfl,h⟩)
 ·rw[hg (clG G (n+1))]
  walk_at "zz"
  rw[←hg (clG G (n+1))]
  refine(ZnK (k:=k+n+1) (by omega) (by omega) hM (bM.mono (by omega)) (Zem bG (n+1) (by omega)) (fun t ht=>(hR t ht).mono (by omega))).mono ?_
  rintro t (⟨R1,rfl,h1⟩ | ⟨rfl,h⟩)
  ·have hR1:∀t,t<n→RB M (k+n+2) (R1 t):=fun t ht=>(h1 t ht).1
   have hF1:=Zdc hR1
   have z1:=ZeC hd (m:=n+1) fun m hm q=>nr ⟨m,hm,q⟩
   rw[hr R1]
   walk_at "zz"
   rw[←hr R1]
   refine(Zrm (k:=k+n+2) (by omega) (by omega) hM (bM.mono (by omega)) hR1 z1).mono ?_
   rintro t (⟨rfl,nl⟩ | ⟨rfl,fl⟩)
   ·have bG1:BdG (n+1) (k+n+3) (ZaV (clG G (n+1)) R1):=Znh hM (bM.mono (by omega)) (fun a b c ha hb e=>(Zem bG (n+1) (by omega) a b c ha hb e).mono (by omega)) hR1
    have z2:=Zib (fun i hi=>(hF1 i hi).1) z1
    rw[hg (ZaV (clG G (n+1)) R1)]
    walk_at "zz"
    rw[←hg (ZaV (clG G (n+1)) R1)]
    refine(ZpU hn z2).mono ?_
    rintro t (⟨rfl,nr2⟩ | ⟨rfl,h2⟩)
    ·rw[hg (clG (ZaV (clG G (n+1)) R1) (n+1))]
     walk_at "zz"
     rw[←hg (clG (ZaV (clG G (n+1)) R1) (n+1))]
     refine(ZnK (k:=k+n+3+n+1) (by omega) (by omega) hM (bM.mono (by omega)) (fun a b c ha hb e=>Zem bG1 (n+1) (by omega) a b c ha hb e) (fun t ht=>(hR1 t ht).mono (by omega))).mono ?_
     rintro t (⟨R2,rfl,h2⟩ | ⟨rfl,h2⟩)
     ·rw[hr R2]
      walk_at "zz"
      exact .inl ⟨_,R2,rfl,⟨R1,nr,h1.mono (by omega),nl,nr2,rfl,h2.mono (by omega)⟩⟩
     ·walk_at "zz"
      exact .inr ⟨rfl,.inr (.inr ⟨R1,nr,h1,.inr ⟨nl,.inr ⟨nr2,h2⟩⟩⟩)⟩
    ·walk_at "zz"
     exact .inr ⟨rfl,.inr (.inr ⟨R1,nr,h1,.inr ⟨nl,.inl h2⟩⟩)⟩
   ·walk_at "zz"
    exact .inr ⟨rfl,.inr (.inr ⟨R1,nr,h1,.inl fl⟩)⟩
  ·walk_at "zz"
   exact .inr ⟨rfl,.inr (.inl ⟨nr,h⟩)⟩
 ·walk_at "zz"
  exact .inr ⟨rfl,.inl h⟩
theorem Zrn: Zcu [.none]=some .none:=by
 apply Pk.eq
 unfold Zcu Zht
 walk_at "zz"
 rfl
noncomputable def SameG(n:Nat)(A B:Nat→Nat→Option Int): Prop:=∀i j,i<n→j<n→A i j=B i j
theorem Zis{n:Nat}{A B:Nat→Nat→Option Int}(h:SameG n A B): ∀m,m≤n→SameG n (clG A m) (clG B m)
 | 0,_=>h
 | m+1,hm=>fun i j hi hj=>by
  have ih:=Zis h m (by omega)
  show Zbp (clG A m i j) (addO (clG A m i m) (clG A m m j))=Zbp (clG B m i j) (addO (clG B m i m) (clG B m m j))
  rw[ih i j hi hj,ih i m hi (by omega),ih m j (by omega) hj]
theorem ZtW(h:SameG n A B)(r:Zcb n A): Zcb n B:=by
 obtain⟨m,hm,i,hi,b,e,hb⟩:=r
 exact⟨m,hm,i,hi,b,by rw[←Zis h (m+1) (by omega) i i hi hi];exact e,hb⟩
noncomputable def SameR(n:Nat)(R S:Nat→Int×Int): Prop:=∀t,t<n→R t=S t
theorem Zh1(h:SameR n R S): ∀i,i<n+1→ZQ R i=ZQ S i
 | 0,_=>rfl
 | i+1,hi=>h i (by omega)
theorem ZmB(h:SameG (n+1) A B)(hr:SameR n R S): SameG (n+1) (ZaV A R) (ZaV B S):=fun i j hi hj=>by
 unfold ZaV ZbA
 rw[h i j hi hj,Zh1 hr i hi,Zh1 hr j hj]
theorem Zr1(h:SameG (n+1) A B)(hr:SameR n R S)(q:Zdu n A R): Zdu n B S:=by
 obtain⟨i,j,hi,hj,b,e,l⟩:=q
 exact⟨i,j,hi,hj,b,by rw[←h i j hi hj];exact e,by rw[←ZmB h hr i j hi hj];exact l⟩
theorem Zkj(h:SameG (n+1) A B)(hr:SameR n R S)(hi:i<n+1){x:Int}(q:ZcO n A R i (n+1) x): ZcO n B S i (n+1) x:=by
 refine⟨by rw[←Zh1 hr i hi];exact q.1,fun j hj a b ha hb hab=>?_⟩
 rw[←Zh1 hr j hj]
 exact q.2 j hj a b (by rw[h i j hi hj];exact ha) (by rw[h j i hj hi];exact hb) hab
theorem SameG.symm(h:SameG n A B): SameG n B A:=fun i j hi hj=>(h i j hi hj).symm
theorem SameR.symm{A B:Nat→Int×Int}(h:SameR n A B): SameR n B A:=fun i hi=>(h i hi).symm
theorem Zmg{S':Nat→Int×Int}(h:SameG (n+1) A B)(hr:SameR n R S)(a:Hand n A R R' M k)(b:Hand n B S S' M' k'): SameR n R' S':=fun t ht=>
 Zf1 (a t ht).1.1 (b t ht).1.1 fun x=>((a t ht).2 x).trans (Iff.trans ⟨Zkj h hr (by omega),Zkj h.symm hr.symm (by omega)⟩ ((b t ht).2 x).symm)
theorem ZoG(h:SameG (n+1) A B)(hr:SameR n R S)(a:Hand n A R R' M k): ¬Zfg n B S:=by
 rintro⟨i,hi,q⟩
 exact q _ (Zkj h hr (by omega) (((a i hi).2 _).mp (a i hi).1.1.self))
theorem Ze5: SameG n A A:=fun _ _ _ _=>rfl
theorem ZlF{A:Nat→Int×Int}: SameR n A A:=fun _ _=>rfl
theorem ZtX(h:SameG (n+1) A B)(hr:SameR n R S): ZJ n A R=ZJ n B S:=by
 unfold ZJ Z8 ZaQ Zan
 have e1:(tab (n+1) fun i=>T.lst (tab (n+1) fun j=>oT (A i j)))=tab (n+1) fun i=>T.lst (tab (n+1) fun j=>oT (B i j)):=Za7 fun i hi=>by
  congr 1
  exact Za7 fun j hj=>by rw[h i j hi hj]
 have e2:(tab n fun i=>ZZ (R i))=tab n fun i=>ZZ (S i):=Za7 fun i hi=>by rw[hr i hi]
 rw[e1,e2]
theorem Zs5{G2':Nat→Nat→Option Int}{R2':Nat→Int×Int}(a:Sharp n G R G2 R2 M k)(b:Sharp n G R G2' R2' M' k'): ZJ n G2 R2=ZJ n G2' R2':=by
 obtain⟨R1,a1,a2,a3,a4,rfl,a6⟩:=a.go
 obtain⟨S1,b1,b2,b3,b4,rfl,b6⟩:=b.go
 have r1:=Zmg Ze5 ZlF a2 b2
 have g2:=Zis (ZmB (A:=clG G (n+1)) Ze5 r1) (n+1) (by omega)
 exact ZtX g2 (Zmg g2 r1 a6 b6)
theorem ZoH(a:Sharp n G R G2 R2 M k)(b:Zfc n G R M' k'): False:=by
 obtain⟨R1,a1,a2,a3,a4,rfl,a6⟩:=a.go
 rcases b with b | ⟨_,b⟩ | ⟨S1,b1,b2,b⟩
 ·exact a1 b
 ·exact ZoG Ze5 ZlF a2 b
 ·have r1:=Zmg Ze5 ZlF a2 b2
  have g1:=ZmB (A:=clG G (n+1)) Ze5 r1
  rcases b with b | ⟨_,b | ⟨_,b⟩⟩
  ·exact a3 (Zr1 Ze5 r1.symm b)
  ·exact a4 (ZtW g1.symm b)
  ·exact ZoG (Zis g1 (n+1) (by omega)) r1 a6 b
theorem Zs6{t u:T}(h:(∃G2 R2,t=ZJ n G2 R2∧Sharp n G R G2 R2 M (k+2*n+5))∨(t=.none∧Zfc n G R M (k+n+2)))(h':(∃G2 R2,u=ZJ n G2 R2∧Sharp n G R G2 R2 M (k+2*n+5))∨(u=.none∧Zfc n G R M (k+n+2))): t=u:=by
 rcases h with⟨A,B,rfl,h⟩ | ⟨rfl,h⟩
 ·rcases h' with⟨C,D,rfl,h'⟩ | ⟨rfl,h'⟩
  ·exact Zs5 h h'
  ·exact absurd h' fun q=>ZoH h q
 ·rcases h' with⟨C,D,rfl,h'⟩ | ⟨rfl,h'⟩
  ·exact absurd h fun q=>ZoH h' q
  ·rfl
theorem Zs7(hn:n≤100)(hd:∀i,i<n+1→G i i=some 0)(ok:∀t,t<n→RestOk (R t)): Zhu [ZJ n G R,.int n]=some (.bool true):=by
 apply Pk.eq
 unfold Zhu ZkI ZJ ZaQ
 walk_at "zz"
 rw[show(n:Int)+1=((n+1:Nat):Int)by omega]
 refine ZM (ZvX (by omega) hd) ?_
 walk_at "zz"
 refine ZbQ (n:=n) (a:=fun i=>ZZ (R i)) (P:=fun _ _=>True) ?_ trivial ?_ ?_
 ·walk_at "zz"
  rfl
 ·rintro t σ ht _
  have ho:=ok t ht
  unfold ZZ
  walk_at "zz"
  refine ZM Zl7 ?_
  walk_at "zz"
  refine ZM Zl7 ?_
  walk_at "zz"
  have h0:=ho.nn
  walk_at "zz"
  rcases ho with h | h
  ·walk_at "zz"
   trivial
  ·walk_at "zz"
   trivial
 ·rintro σ _
  walk_at "zz"
  rfl
theorem Zs8(hd:∀i,i<n+1→G i i=some 0)(s:Sharp n G R G2 R2 M k): (∀i,i<n+1→G2 i i=some 0)∧∀k,k<n+1→∀i j,i<n+1→j<n+1→leO (G2 i j) (addO (G2 i k) (G2 k j)):=by
 obtain⟨R1,h1,h2,h3,h4,rfl,h6⟩:=s.go
 have hF:=Zdc fun t ht=>(h2 t ht).1
 have z1:=ZeC hd (m:=n+1) fun m hm q=>h1 ⟨m,hm,q⟩
 have z2:=Zib (fun i hi=>(hF i hi).1) z1
 exact⟨ZeC z2 fun m hm q=>h4 ⟨m,hm,q⟩,Zng z2 (n+1) (by omega) fun m hm q=>h4 ⟨m,hm,q⟩⟩
noncomputable def Zc3(R:Nat→Int×Int): Nat→Int
 | 0=>1
 | t+1=>Zc3 R t*(if(R t).1=0 then 1 else(R t).1)
theorem Zh2{n:Nat}{R:Nat→Int×Int}(h:∀t,t<n→RestOk (R t)): ∀m,m≤n→0<Zc3 R m
 | 0,_=>by show(0:Int)<1;decide
 | m+1,hm=>by
  have ih:=Zh2 h m (by omega)
  have:=(h m (by omega)).nn
  unfold Zc3
  refine Int.mul_pos ih ?_
  split
  ·decide
  ·omega
theorem Zh3{R:Nat→Int×Int}: ∀m t,t<m→(R t).1=0∨(R t).1 ∣ Zc3 R m
 | m+1,t,ht=>by
  by_cases z:(R t).1=0
  ·exact .inl z
  ·right
   unfold Zc3
   by_cases q:t=m
   ·subst q
    rw[if_neg z]
    exact Int.dvd_mul_left _ _
   ·exact Int.dvd_trans ((Zh3 m t (by omega)).resolve_left z) (Int.dvd_mul_right _ _)
theorem Zic{n k:Nat}{R:Nat→Int×Int}(hk:1≤k)(h:∀t,t<n→Bd k (R t).1): ∀m,m≤n→Bd (k*m+1) (Zc3 R m)
 | 0,_=>by rw[Nat.mul_zero];exact ZfL (by omega)
 | m+1,hm=>by
  have ih:=Zic hk h m (by omega)
  unfold Zc3
  have h2:Bd k (if(R m).1=0 then 1 else(R m).1):=by
   split
   ·exact ZfL hk
   ·exact h m (by omega)
  have:=Bd.mul ih h2
  rw[Nat.mul_succ]
  exact this.mono (by omega)
theorem ZtY{k:Int}{B:Nat}(hL:Lay ns)(h0:0≤k)(h9:k≤1000)(hn:n≤9)(hB2:134≤B)(hR:∀t,t<n→RestOk (R t))(sR:SmR B n R)(sG:SmG B n G): Pk (Zhh [scr ns,.int k,ZJ n G R]) fun t=>∃G' R',t=ZJ n G' R'∧(∀i,i<n+1→G' i i=G i i)∧(∀t,t<n→RestOk (R' t))∧SmG (B+1) n G'∧SmR (B+1) n R':=by
 unfold Zhh Zj2
 have ht:ZJ n G R=.tup [.lst (tab (n+1) fun i=>Zan (n+1) (G i)),.lst (tab n fun i=>ZZ (R i))]:=rfl
 have e134:(2:Nat) ^ 134=21778071482940061661655974875633165533184:=by decide
 have hpB:(2:Nat) ^ 134≤2 ^ B:=Nat.pow_le_pow_right (by decide) hB2
 have hpB1:(2:Nat) ^ (B+1)=2 ^ B*2:=Nat.pow_succ ..
 have sG1:SmG (B+1) n G:=fun i j hi hj b h=>Zbq (sG i j hi hj b h) (by omega)
 have sR1:SmR (B+1) n R:=fun t ht=>⟨Zbq (sR t ht).1 (by omega),Zbq (sR t ht).2 (by omega)⟩
 rw[ht]
 walk_at "zz"
 refine ZhP (n:=n+1) (G:=G) (by omega) ?_ ?_
 ·walk_at "zz"
  rfl
 unfold Z8 Zan
 walk_at "zz"
 obtain⟨p0,p1⟩:=Zb8 ns k (show(0:Int)<((n+1:Nat):Int)by omega)
 obtain⟨i,ei,hi⟩:=ZgN p0 p1
 obtain⟨p2,p3⟩:=Zb8 ns (k+1) (show(0:Int)<((n+1:Nat):Int)by omega)
 obtain⟨j,ej,hj⟩:=ZgN p2 p3
 obtain⟨w0,w1⟩:=Zb8 ns (k+2) (show(0:Int)<5 by decide)
 obtain⟨u0,u1⟩:=Zb8 ns (k+3) (show(0:Int)<4 by decide)
 obtain⟨u2,u3⟩:=Zb8 ns (k+3) (show(0:Int)<3 by decide)
 refine ZM (Zb9 h0 (by omega) (by omega)) ?_
 rw[ei]
 walk_at "zz"
 refine ZM (Zb9 (by omega) (by omega) (by omega)) ?_
 rw[ej]
 walk_at "zz"
 refine ZM (Zb9 (by omega) (by omega) (by omega)) ?_
 walk_at "zz"
 generalize Zbs ns (k+2) 5=w at w0 w1
 by_cases hw:w<3∧i≠j
 ·have hij:(i:Int)≠(j:Int):=by omega
  have hw3:=hw.1
  have fin:∀v,(∀b,v=some b→b.natAbs<2 ^ (B+1))→(∀a,a<n+1→ZbT G i j v a a=G a a)∧SmG (B+1) n (ZbT G i j v):=fun v hv=>by
   refine⟨fun a ha=>by rw[ZeA (by omega)],fun a b ha hb c hc=>?_⟩
   by_cases q:a=i∧b=j
   ·obtain⟨rfl,rfl⟩:=q;rw[Zfq]at hc;exact hv c hc
   ·rw[ZeA q]at hc;exact sG1 a b ha hb c hc
  cases hg:G i j with
  | none=>
   walk_at "zz"
   rw[hg,ZbO]
   walk_at "zz"
   refine ZM (Zfa hL (by omega) (by omega)) ?_
   walk_at "zz"
   rw[←ZaF (c:=Zb7 ns (k+3)),ZdT]
   walk_at "zz"
   have:=Zfp ns (k+3)
   obtain⟨f1,f2⟩:=fin (some (Zb7 ns (k+3))) (fun b e=>by cases e;omega)
   exact⟨ZbT G i j (some (Zb7 ns (k+3))),R,rfl,f1,hR,f2,sR1⟩
  | some g=>
   walk_at "zz"
   rw[hg,ZaF]
   walk_at "zz"
   rw[hg,ZaF]
   walk_at "zz"
   refine ZM (Zb9 (by omega) (by omega) (by omega)) ?_
   walk_at "zz"
   rw[←ZaF (c:=g-1-Zbs ns (k+3) 4),ZdT]
   walk_at "zz"
   have:=sG i j (by omega) (by omega) g hg
   obtain⟨f1,f2⟩:=fin (some (g-1-Zbs ns (k+3) 4)) (fun b e=>by cases e;omega)
   exact⟨ZbT G i j _,R,rfl,f1,hR,f2,sR1⟩
 ·have hcase:(¬w<3)∨(w<3∧(i:Int)=(j:Int)):=by
   by_cases q:w<3
   ·exact .inr ⟨q,by
     have:i=j:=Classical.byContradiction fun h=>hw ⟨q,h⟩
     rw[this]⟩
   ·exact .inl q
  clear hw
  rcases hcase with hw | ⟨hw,hij⟩
  all_goals
   by_cases hn0:n=0
   ·subst hn0
    walk_at "zz"
    exact⟨G,R,rfl,fun _ _=>rfl,hR,sG1,sR1⟩
   ·have hnp:(0:Int)<(n:Int):=by omega
    walk_at "zz"
    obtain⟨q0,q1⟩:=Zb8 ns k hnp
    obtain⟨t,et,ht⟩:=ZgN q0 q1
    refine ZM (Zb9 h0 (by omega) hnp) ?_
    rw[et]
    walk_at "zz"
    have hp:ZZ (R t)=.tup [.int (R t).1,.int (R t).2]:=rfl
    rw[hp]
    walk_at "zz"
    obtain⟨m0,m1⟩:0≤w.fmod 2∧w.fmod 2<2:=⟨Int.fmod_nonneg_of_pos _ (by decide),Int.fmod_lt_of_pos _ (by decide)⟩
    refine Zdt (by omega) (by omega) ?_
    walk_at "zz"
    refine ZM (Zb9 (by omega) (by omega) (by omega)) ?_
    walk_at "zz"
    refine ZM Ze4 ?_
    walk_at "zz"
    have hRt:=hR t ht
    have hm0:0≤(R t).1:=by rcases hRt with h | h <;> omega
    have sRt:=sR t ht
    obtain⟨c,hc,hc1⟩:∃c,(R t).1*(1+w.fmod 2)=c∧0≤c∧c≤(R t).1*2:=⟨_,rfl,Int.mul_nonneg hm0 (by omega),Int.mul_le_mul_of_nonneg_left (by omega) hm0⟩
    rw[hc]
    generalize hpp:ZaR c ((R t).2+Zbs ns (k+3) 3)=pp
    have p1:RestOk pp:=by rw[←hpp];exact ZcN hc1.1 _
    have p2:pp.1.natAbs<2 ^ (B+1)∧pp.2.natAbs<2 ^ (B+1):=by rw[←hpp];exact ZeY hc1.1 (by omega) (by omega)
    refine⟨G,fun s=>if s=t then pp else R s,?_,fun _ _=>rfl,fun s hs=>?_,sG1,fun s hs=>?_⟩
    ·unfold ZJ Z8 Zan ZaQ
     congr 5
     funext s
     show(if s=t then ZZ pp else ZZ (R s))=ZZ (if s=t then pp else R s)
     split <;> rfl
    ·show RestOk (if s=t then pp else R s)
     split
     ·exact p1
     ·exact hR s hs
    ·show(if s=t then pp else R s).1.natAbs<_∧(if s=t then pp else R s).2.natAbs<_
     split
     ·exact p2
     ·exact sR1 s hs
theorem ZrI: Zd6 [.none,.none]=some (.bool true):=by
 apply Pk.eq
 unfold Zd6 ZhG
 walk_at "zz"
 rfl
theorem ZrJ(hn:n≤100)(hd:∀i,i<n+1→G i i=some 0)(ok:∀t,t<n→RestOk (R t)): Zd6 [ZJ n G R,ZJ n G R]=some (.bool true):=by
 apply Pk.eq
 unfold Zd6 ZhG
 have ht:ZJ n G R=.tup [Z8 (n+1) G,.lst (tab n fun i=>ZZ (R i))]:=rfl
 rw[ht]
 walk_at "zz"
 rw[←ht]
 refine ZM (Zs7 hn hd ok) ?_
 walk_at "zz"
 refine Zfu Zh4 Zh4 ?_
 rw[Za9 rfl]
inductive Dp: Nat→T→Prop where
 | none {n:Nat}:Dp n .none
 | int {n:Nat} {i:Int}:Dp n (.int i)
 | tup {n:Nat} {ts:List T}:(∀t∈ts,Dp n t)→ts.length≤10000→Dp (n+1) (.tup ts)
 | lst {n:Nat} {ts:List T}:(∀t∈ts,Dp n t)→ts.length≤10000→Dp (n+1) (.lst ts)
theorem Dp.mono{t:T}(h:Dp n t): ∀{m:Nat},n≤m→Dp m t:=by
 induction h with
 | none=>intro m _;exact .none
 | int=>intro m _;exact .int
 | tup hs hl ih=>
  intro m hm
  cases m with
  | zero=>omega
  | succ m=>exact .tup (fun t a=>ih t a (by omega)) hl
 | lst hs hl ih=>
  intro m hm
  cases m with
  | zero=>omega
  | succ m=>exact .lst (fun t a=>ih t a (by omega)) hl
theorem ZpV{F:List T→Option T}(hg:ZaD g σ=some ts)(hl:ts.length≤10000)(h:∀t∈ts,F [t]=some t)(q:Q (.lst ts)): Pk (Zam (ZaD g) (Z5 j) Zah (Zw F (Zf (Za j) Zm)) σ) Q:=by
 refine⟨.lst ts,?_,q⟩
 have:=Zot (σ:=σ) (j:=j) (f:=Zw F (Zf (Za j) Zm)) (h:=fun t=>t) (ts:=ts) fun t m=>by
  simp only[Zw,Zf,Za,Zm,ZbJ,Option.bind_some,Option.map_some]
  exact h t m
 simp only[Zam,hg,Option.bind_some,this]
 rw[if_pos (by rw[Zbg];omega)]
 simp
theorem ZuV{t:T}(h:Dp n t): Zev (n+1) [t]=some t:=by
 induction h with
 | none=>rfl
 | int=>rfl
 | @tup n ts hs hl ih=>
  apply Pk.eq
  show Pk (Zad 1 (Zfo (Zev (n+1))) [.tup ts]) _
  unfold Zfo
  walk_at "zz"
  refine ZpV (ts:=ts) rfl hl ih ?_
  walk_at "zz"
  rfl
 | @lst n ts hs hl ih=>
  apply Pk.eq
  show Pk (Zad 1 (Zfo (Zev (n+1))) [.lst ts]) _
  unfold Zfo
  walk_at "zz"
  exact ZpV (ts:=ts) rfl hl ih rfl
theorem ZuW{t:T}(h:Dp 8 t): ZmS [t]=some t:=ZuV h
theorem ZxB: Dp n (oT a):=by cases a;exact .none;exact .int
theorem ZxC: ∃l,ZcB (ZfH 0 (.int 7)) [0,0] (ZJ n G R)=some (.tup [.lst l,ZaQ n R])∧l.length=n+1:=by
 refine⟨((tab (n+1) fun i=>T.lst (tab (n+1) fun j=>oT (G i j))).set 0 (.lst ((tab (n+1) fun j=>oT (G 0 j)).set 0 (.int 7)))),?_,by rw[List.length_set,Zap]⟩
 unfold ZJ Z8 Zan
 simp only[ZcB,List.length_cons,List.length_nil,Zap,ZdW (show(0:Int)≤0 by decide) (show(0:Int)<((0+1+1:Nat):Int)by decide),ZdW (show(0:Int)≤0 by decide) (show(0:Int)<((n+1:Nat):Int)by omega),Option.bind_some,Int.toNat_zero,List.getElem?_cons_zero,Za8 (show 0<n+1 by omega),ZfH]
 rw[if_pos ⟨by omega,by omega⟩]
 rfl
theorem ZxD{l:List T}{r:T}(hl:l.length≤1000): ZcB (Zer w) [0] (.tup [.lst l,r])=some (.tup [.lst (l++[w]),r]):=by
 simp only[ZcB,List.length_cons,List.length_nil,ZdW (show(0:Int)≤0 by decide) (show(0:Int)<((0+1+1:Nat):Int)by decide),Option.bind_some,Zer,show(0:Int).toNat=0 from rfl,List.getElem?_cons_zero]
 rw[if_pos (by rw[Zbg];omega)]
 rfl
theorem ZxE{g:T}(hn:n≤100): ∃u,ZcB (Zer w) [1] (.tup [g,ZaQ n R])=some u:=by
 refine⟨.tup [g,.lst ((tab n fun i=>ZZ (R i))++[w])],?_⟩
 unfold ZaQ
 simp only[ZcB,List.length_cons,List.length_nil,ZdW (show(0:Int)≤1 by decide) (show(1:Int)<((0+1+1:Nat):Int)by decide),Option.bind_some,Zer,Zap,show(1:Int).toNat=1 from rfl,List.getElem?_cons_succ,List.getElem?_cons_zero]
 rw[if_pos (by rw[Zbg];omega)]
 rfl
section
variable {σ:TL} {Q:T→Prop}
theorem ZqK{p e:PE}(h:Pk (p σ) fun t=>∃ts,t=.lst ts∧Pk (e σ) fun u=>∃a:Nat,u=.int a∧Q (.lst (ts.take a))): Pk (Zdw p Zeb (Zec e) σ) Q:=by
 obtain⟨_,e1,ts,rfl,_,e2,a,rfl,q⟩:=h
 refine⟨_,?_,q⟩
 simp only[Zdw,e1,Zeb,Zec,e2,Option.bind_some,Zu7 ts rfl]
theorem ZxF{p e:PE}(h:Pk (p σ) fun t=>∃ts,t=.lst ts∧Pk (e σ) fun u=>∃a:Nat,u=.int a∧Q (.lst (ts.drop a))): Pk (Zdw p (Zec e) Zeb σ) Q:=by
 obtain⟨_,e1,ts,rfl,_,e2,a,rfl,q⟩:=h
 refine⟨_,?_,q⟩
 simp only[Zdw,e1,Zeb,Zec,e2,Option.bind_some,Zor ts rfl]
theorem ZcP{a b:List T}(hl:a.length+b.length≤10000)(h:Q (.lst (a++b))): Pk (ZX (.lst a) (.lst b)) Q:=by
 refine⟨_,?_,h⟩
 simp only[ZX]
 rw[if_pos (by rw[Zbg,List.length_append];omega)]
theorem Zfr{a:T}(hn:n≤1000)(h:Q (.lst (tab n fun _=>a))): Pk (Zaz (.lst [a]) (.int n)) Q:=by
 have e:∀n,Zg0 [a] n=tab n fun _=>a:=fun n=>by
  induction n with
  | zero=>rfl
  | succ n ih=>show Zg0 [a] n++[a]=_;rw[ih];exact Zcj (f:=fun _=>a)
 refine⟨_,?_,h⟩
 simp only[Zaz,List.length_cons,List.length_nil,Int.toNat_natCast,e]
 rw[if_pos ⟨by rw[Zbg];omega,by omega,by omega⟩]
end
theorem Zv7{l:List T}{x:Nat}(h:x<l.length): l.take x++[w]++l.drop (x+1)=l.set x w:=by
 rw[List.set_eq_take_append_cons_drop,if_pos h]
 simp
theorem Zro(hn:n≤900): ZfT [.int i,.int n]=some (Zan (n+1) fun j=>if j=i then some 0 else none):=by
 apply Pk.eq
 unfold ZfT ZjX
 walk_at "zz"
 refine Zby (n:=n+1) (a:=fun j=>.int j) (b:=fun j=>oT (if j=i then some 0 else none)) (by omega) ?_ (fun j hj=>?_) rfl
 ·walk_at "zz"
  exact Znq (n+1) (by omega) (by omega) rfl
 ·by_cases c:j=i
  ·have hc:(i:Int)=(j:Int):=by omega
   walk_at "zz"
   rw[if_pos c]
   rfl
  ·have hc:(i:Int)≠(j:Int):=by omega
   walk_at "zz"
   rw[if_neg c]
   rfl
theorem ZoI(hw:w=oT v): T.lst (tab n fun a=>T.lst (tab n fun b=>if a=i∧b=j then w else oT (G a b)))=T.lst (tab n fun a=>T.lst (tab n fun b=>oT (ZbT G i j v a b))):=by
 subst hw
 exact ZdT
theorem Zdq{a b:PS}{R:T→Prop}{N:TL→Prop}(M:TL→Prop)(h1:Psk (a σ) R M)(h2:∀σ,M σ→Psk (b σ) R N): Psk (Zt a b σ) R N:=by
 obtain⟨o,s,e,p,q⟩:=h1
 exact Ziy ⟨o,s,e,p,fun h=>h2 s (q h)⟩
noncomputable def ZaN(n:Nat)(G:Nat→Nat→Option Int): Nat→Nat→Option Int:=fun i j=>if i<n+1∧j<n+1 then G i j else if j=i then some 0 else none
noncomputable def Za6(n:Nat)(R:Nat→Int×Int): Nat→Int×Int:=fun t=>if t<n then R t else(1,0)
theorem Zv8{a:Nat}(h:a≤4): Zct a a 1=some []:=by
 have:a=0∨a=1∨a=2∨a=3∨a=4:=by omega
 obtain rfl | rfl | rfl | rfl | rfl:=this <;> (unfold Zct;rw[if_pos (by decide +kernel)];rfl)
theorem ZmC{g:PEs}{a:Nat}{L:List T→Prop}(ha:a≤4)(hm:m≤100)(e:g σ=some [.int a,.int (a+m)])(h:L (tab m fun i=>.int ((a+i:Nat):Int))): Pl (ZaB g σ) L:=by
 cases m with
 | zero=>
  have e2:Zct (a:Int) ((a:Int)+((0:Nat):Int)) 1=some []:=by simpa using Zv8 ha
  exact⟨[],Zfm e e2,h⟩
 | succ m=>
  refine⟨_,Zfm e (by have:=ZmH (a:=a) (n:=m+1) (by omega) (by omega);simpa using this),?_⟩
  rw[show(tab (m+1) fun i=>T.int ((a:Int)+i))=tab (m+1) fun i=>.int ((a+i:Nat):Int)from Za7 fun i _=>by congr 1]
  exact h
theorem ZuX(hi:i<n+1): (tab (n+1+m) fun j=>if j<n+1 then oT (G i j)else T.none)=tab (n+m+1) fun j=>oT (ZaN n G i j):=by
 rw[show n+1+m=n+m+1 by omega]
 refine Za7 fun j hj=>?_
 unfold ZaN
 by_cases c:j<n+1
 ·rw[if_pos c,if_pos ⟨hi,c⟩]
 ·rw[if_neg c,if_neg (by omega),if_neg (by omega)]
  rfl
theorem Zs9{b:Nat→Option Int}: T.flatIn (.lst (tab n fun j=>oT (b j)))=true:=Zhy fun _ _=>Zfn
theorem Zta: (T.lst (tab (n+m) fun i=>if i<n then T.tup [.int (R i).1,.int (R i).2]else T.tup [.int 1,.int 0]))=ZaQ (n+m) (Za6 n R):=by
 unfold ZaQ Za6
 congr 1
 refine Za7 fun i _=>?_
 by_cases c:i<n
 ·rw[if_pos c,if_pos c];rfl
 ·rw[if_neg c,if_neg c];rfl
noncomputable def ZdA(q:Nat→Nat)(G':Nat→Nat→Option Int)(i:Nat)(Γ:Nat→Nat→Option Int): Nat→Nat→Nat→Option Int
 | 0=>Γ
 | j+1=>ZbT (ZdA q G' i Γ j) (q i) (q j) (Zbp (ZdA q G' i Γ j (q i) (q j)) (G' i j))
noncomputable def Zci(q:Nat→Nat)(G':Nat→Nat→Option Int)(k:Nat)(Γ:Nat→Nat→Option Int): Nat→Nat→Nat→Option Int
 | 0=>Γ
 | i+1=>ZdA q G' i (Zci q G' k Γ i) k
theorem Zso{a:Nat}(ha:a<N)(hb:b<N): ZhI [Z8 N Γ,.int a,.int b,oT v]=some (Z8 N (ZbT Γ a b (Zbp (Γ a b) v))):=by
 apply Pk.eq
 unfold ZhI Zlm
 refine ZpH rfl ?_
 unfold Z8 Zan
 walk_at "zz"
 refine ZM ZoE ?_
 refine⟨Zfn,?_⟩
 walk_at "zz"
 refine⟨_,ZbJ,?_⟩
 exact ZdT
theorem ZqS{q:Nat→Nat}(hN:N≤100)(hk:k≤100)(hq:∀i,i<k→q i<N): Zg3 [Z8 N Γ,.lst (tab k fun i=>.int (q i)),Z8 k G']=some (Z8 N (Zci q G' k Γ k)):=by
 apply Pk.eq
 unfold Zg3 Zi3
 have dp:Dp 8 (Z8 N Γ):=by
  refine Dp.mono (n:=2) (.lst (fun t m=>?_) (by rw[Zap];omega)) (by decide)
  obtain⟨i,hi,rfl⟩:=ZcY m
  refine .lst (fun t m=>?_) (by rw[Zap];omega)
  obtain⟨j,hj,rfl⟩:=ZcY m
  exact ZxB
 have eg:Z8 k G'=.lst (tab k fun i=>.lst (tab k fun j=>oT (G' i j))):=rfl
 rw[eg]
 walk_at "zz"
 refine ZM (ZuW dp) ?_
 walk_at "zz"
 refine Zez (n:=k) (a:=fun i=>.int (q i)) (c:=fun i=>.lst (tab k fun j=>oT (G' i j))) (P:=fun i σ=>σ 1=some (.lst (tab k fun i=>.int (q i)))∧σ 3=some (Z8 N (Zci q G' k Γ i))) ?_ ⟨by walk_at "zr",by walk_at "zr"⟩ ?_ ?_
 ·walk_at "zz"
  rfl
 ·rintro i σ hi ⟨e1,e3⟩
  refine Zez (n:=k) (a:=fun j=>.int (q j)) (c:=fun j=>oT (G' i j)) (P:=fun j σ=>σ 1=some (.lst (tab k fun i=>.int (q i)))∧σ 4=some (.int (q i))∧σ 3=some (Z8 N (ZdA q G' i (Zci q G' k Γ i) j))) ?_ ⟨by walk_at "zr",by walk_at "zr",by walk_at "zr"⟩ ?_ ?_
  ·walk_at "zz"
   rfl
  ·rintro j σ hj ⟨e1,e4,e3⟩
   refine Zqm (t:=Z8 N (ZdA q G' i (Zci q G' k Γ i) j)) (by walk_at "zr") ?_
   walk_at "zz"
   refine ZM (Zso (hq i hi) (hq j hj)) ?_
   exact⟨by walk_at "zr",by walk_at "zr",ZbJ⟩
  ·rintro σ ⟨e1,e4,e3⟩
   exact⟨e1,e3⟩
 ·rintro σ ⟨e1,e3⟩
  walk_at "zz"
  rfl
noncomputable def Zai(n:Nat)(c:Nat→Int): T:=.lst (tab (n+1) fun i=>.int (c i))
theorem Zr2{k:Int}(hn:n≤1000)(hb:b≤100000)(bc:∀i,i<n+1→Bd b (c i))(bk:Bd b k): Zhv [Zai n c,.int k]=some (Zai n fun i=>c i*k):=by
 apply Pk.eq
 unfold Zhv ZkL Zai
 walk_at "zz"
 refine Zby (n:=n+1) (a:=fun i=>.int (c i)) (b:=fun i=>.int (c i*k)) (by omega) ?_ (fun i hi=>?_) rfl
 ·walk_at "zz"
  rfl
 ·walk_at "zz"
  exact ZbK (Zb3 (bc i hi) bk (by omega) (by omega)) rfl
noncomputable def S40(G:Nat→Nat→Option Int)(i:Nat): Sp:=((G 0 (i+1)).map fun y=>y*(-1),G (i+1) 0)
theorem Zq6(hn:n≤90)(hb:b≤100000)(hb1:1≤b)(bG:∀i j,i<n+1→j<n+1→∀y,G i j=some y→Bd b y): Zhb [ZJ n G R]=some (.lst (tab n fun i=>spT (S40 G i))):=by
 apply Pk.eq
 unfold Zhb Zju
 have ht:ZJ n G R=.tup [.lst (tab (n+1) fun i=>.lst (tab (n+1) fun j=>oT (G i j))),.lst (tab n fun i=>ZZ (R i))]:=rfl
 rw[ht]
 walk_at "zz"
 refine Zby (n:=n) (a:=fun i=>.int ((1+i:Nat):Int)) (b:=fun i=>spT (S40 G i)) (by omega) ?_ (fun i hi=>?_) rfl
 ·refine ZmC (a:=1) (m:=n) (by omega) (by omega) ?_ rfl
  simp only[Zf,Zj,Zm,Zw,Za,ZW,Option.bind_some,if_true,Zaq,Zap]
  congr 3
  congr 1
  omega
 ·have h1:1+i<n+1:=by omega
  have h0:0<n+1:=by omega
  walk_at "zz"
  refine ZM (Zki hb (fun y e=>bG 0 (1+i) h0 h1 y e) (show Bd b (-1)by unfold Bd;have:=ZfL hb1;unfold Bd at this;simpa using this)) ?_
  walk_at "zz"
  unfold spT S40
  rw[show 1+i=i+1 by omega]
  rfl
theorem Zn1{σ:TL}{j:Nat}{cnd:PB}{P:T→Bool}: ∀{ts:List T},(∀t∈ts,cnd (ZW σ j t)=some (P t))→Zcq (Z5 j) cnd (Za j) σ ts=some (ts.filter P)
 | [],_=>rfl
 | t::ts,h=>by
  have ih:=Zn1 fun t m=>h t (Zz2 _ m)
  have h0:=h t Zz5
  simp only[Zcq,Z5,Option.bind_some,h0,Za,ZbJ,ih,Option.map_some,List.filter_cons]
  cases P t <;> rfl
theorem Zmh{g:PG}{cnd:PB}{P:T→Bool}(hl:ts.length≤10000)(hg:Pl (g σ) fun us=>us=ts)(hc:∀t∈ts,Pb (cnd (ZW σ j t)) fun b=>b=P t)(h:Q (.lst (ts.filter P))): Pk (Zam g (Z5 j) cnd (Za j) σ) Q:=by
 obtain⟨us,e,rfl⟩:=hg
 refine⟨_,?_,h⟩
 have:=Zn1 (σ:=σ) (j:=j) (cnd:=cnd) (P:=P) (ts:=us) fun t m=>by
  obtain⟨b,e1,rfl⟩:=hc t m
  exact e1
 simp only[Zam,e,Option.bind_some,this,Option.map_some]
 rw[if_pos (by rw[Zbg];omega)]
noncomputable def xsI(n:Nat)(c:Nat→Int): List Int:=tab n fun i=>c (i+1)
noncomputable def nzI(n:Nat)(c:Nat→Int): List Int:=(xsI n c).filter fun x=>decide (x≠0)
noncomputable def Df(n:Nat)(c:Nat→Int): Prop:=PM.Zdm (nzI n c)=[-1,1]
theorem Zid(ks:List Int): Zdl (ks.map T.int)=some ks:=by
 induction ks with
 | nil=>rfl
 | cons k ks ih=>simp[Zdl,ih]
theorem Zsp{a b:List Int}(h:a.map T.int=b.map T.int): a=b:=by
 have:=congrArg Zdl h
 rw[Zid,Zid]at this
 simpa using this
theorem ZmV(ks:List Int): Pln 1 (.lst (ks.map T.int)):=.lst fun t m=>by
 obtain⟨k,_,rfl⟩:=Zz11.mp m
 exact .int
theorem tab_map{α:Type}{f:Nat→α}{g:α→β}: (tab n f).map g=tab n fun i=>g (f i):=by simp[tab]
theorem ZqX(hn:n≤60): Zg7 [Zai n c]=some (.bool (dec (Df n c))):=by
 apply Pk.eq
 unfold Zg7 Zjf Zai
 walk_at "zz"
 refine Zmh (ts:=(xsI n c).map T.int) (P:=fun t=>match t with | .int x=>decide (x≠0) | _=>false) (by simp[xsI,Zap];omega) ?_ (fun t m=>?_) ?_
 ·refine Zil ?_
  refine Zl8 ?_
  walk_at "zz"
  refine⟨_,rfl,?_⟩
  rw[ZmA]
  refine Sq.lst ?_
  unfold xsI
  rw[tab_map]
 ·obtain⟨x,_,rfl⟩:=Zz11.mp m
  walk_at "zz"
  rfl
 have ef:((xsI n c).map T.int).filter (fun t=>match t with | .int x=>decide (x≠0) | _=>false)=(nzI n c).map T.int:=by
  unfold nzI
  rw[List.filter_map]
  rfl
 rw[ef]
 have hl:(nzI n c).length≤n:=by
  unfold nzI
  refine Nat.le_trans (List.length_filter_le _ _) ?_
  simp[xsI,Zap]
 walk_at "zz"
 refine⟨.lst ((PM.Zdm (nzI n c)).map T.int),?_,?_⟩
 ·simp only[Zim,Zid,Option.bind_some,List.length_map]
  rw[if_pos (by omega)]
 walk_at "zz"
 refine Zfu (n:=1) (m:=1) (ZmV _) (ZmV [-1,1]) ?_
 by_cases h:Df n c
 ·rw[Za9 h,Za9]
  show T.lst ((PM.Zdm (nzI n c)).map T.int)=_
  rw[show PM.Zdm (nzI n c)=[-1,1]from h]
  rfl
 ·rw[ZbR h,ZbR]
  intro q
  refine h (Zsp ?_)
  simpa using q
noncomputable def Zax(c:Nat→Int): Nat→List Nat
 | 0=>[]
 | n+1=>Zax c n++(if 0<c (n+1)then [n+1]else [])
noncomputable def ZaA(c:Nat→Int): Nat→List Nat
 | 0=>[]
 | n+1=>ZaA c n++(if c (n+1)<0 then [n+1]else [])
theorem ups_mem{c:Nat→Int}: ∀{n i:Nat},i∈Zax c n↔1≤i∧i≤n∧0<c i
 | 0,i=>by simp[Zax];omega
 | n+1,i=>by
  simp only[Zax,List.mem_append,ups_mem (n:=n)]
  by_cases h:0<c (n+1)
  ·simp only[h,if_true,List.mem_singleton]
   constructor
   ·rintro(⟨a,b,d⟩ | rfl)
    ·exact⟨a,by omega,d⟩
    ·exact⟨by omega,by omega,h⟩
   ·rintro⟨a,b,d⟩
    by_cases q:i=n+1
    ·exact .inr q
    ·exact .inl ⟨a,by omega,d⟩
  ·simp only[h,if_false,List.not_mem_nil,or_false]
   constructor
   ·rintro⟨a,b,d⟩;exact⟨a,by omega,d⟩
   ·rintro⟨a,b,d⟩
    have:i≠n+1:=fun q=>h (q▸d)
    exact⟨a,by omega,d⟩
theorem dns_mem{c:Nat→Int}: ∀{n i:Nat},i∈ZaA c n↔1≤i∧i≤n∧c i<0
 | 0,i=>by simp[ZaA];omega
 | n+1,i=>by
  simp only[ZaA,List.mem_append,dns_mem (n:=n)]
  by_cases h:c (n+1)<0
  ·simp only[h,if_true,List.mem_singleton]
   constructor
   ·rintro(⟨a,b,d⟩ | rfl)
    ·exact⟨a,by omega,d⟩
    ·exact⟨by omega,by omega,h⟩
   ·rintro⟨a,b,d⟩
    by_cases q:i=n+1
    ·exact .inr q
    ·exact .inl ⟨a,by omega,d⟩
  ·simp only[h,if_false,List.not_mem_nil,or_false]
   constructor
   ·rintro⟨a,b,d⟩;exact⟨a,by omega,d⟩
   ·rintro⟨a,b,d⟩
    have:i≠n+1:=fun q=>h (q▸d)
    exact⟨a,by omega,d⟩
theorem ZpW{c:Nat→Int}: ∀n,(Zax c n).length≤n
 | 0=>Nat.le_refl 0
 | n+1=>by
  have:=ZpW (c:=c) n
  simp only[Zax,List.length_append]
  split <;> simp <;> omega
theorem ZpX{c:Nat→Int}: ∀n,(ZaA c n).length≤n
 | 0=>Nat.le_refl 0
 | n+1=>by
  have:=ZpX (c:=c) n
  simp only[ZaA,List.length_append]
  split <;> simp <;> omega
theorem Zpc{c:Nat→Int}: ∀n,(Zax c n).map c=(xsI n c).filter fun x=>decide (0<x)
 | 0=>rfl
 | n+1=>by
  have e:xsI (n+1) c=xsI n c++[c (n+1)]:=(Zcj (n:=n) (f:=fun i=>c (i+1))).symm
  rw[e,List.filter_append,←Zpc n]
  simp only[Zax,List.map_append]
  by_cases h:0<c (n+1) <;> simp[h]
theorem Zpd{c:Nat→Int}: ∀n,(ZaA c n).map c=(xsI n c).filter fun x=>decide (x<0)
 | 0=>rfl
 | n+1=>by
  have e:xsI (n+1) c=xsI n c++[c (n+1)]:=(Zcj (n:=n) (f:=fun i=>c (i+1))).symm
  rw[e,List.filter_append,←Zpd n]
  simp only[ZaA,List.map_append]
  by_cases h:c (n+1)<0 <;> simp[h]
theorem df_iff: Df n c↔(Zax c n).map c=[1]∧(ZaA c n).map c=[-1]:=by
 rw[Zpc,Zpd]
 have hp:(nzI n c).Perm ((xsI n c).filter (fun x=>decide (0<x))++(xsI n c).filter (fun x=>decide (x<0))):=by
  unfold nzI
  generalize xsI n c=xs
  induction xs with
  | nil=>exact List.Perm.refl _
  | cons x xs ih=>
   by_cases h1:0<x
   ·have:x≠0:=by omega
    have h2:¬x<0:=by omega
    simp only[List.filter_cons,h1,h2,this,decide_true,decide_false,ne_eq,not_false_eq_true,if_true,Bool.false_eq_true,if_false,List.cons_append]
    exact List.Perm.cons _ ih
   ·by_cases h2:x<0
    ·have:x≠0:=by omega
     simp only[List.filter_cons,h1,h2,this,decide_true,decide_false,ne_eq,not_false_eq_true,if_true,Bool.false_eq_true,if_false]
     exact(List.Perm.cons _ ih).trans List.perm_middle.symm
    ·have:x=0:=by omega
     subst this
     simpa using ih
 constructor
 ·intro h
  have hq:(nzI n c).Perm [-1,1]:=by
   have:=List.mergeSort_perm (nzI n c) fun a b=>decide (a≤b)
   rw[show(nzI n c).mergeSort (fun a b=>decide (a≤b))=[-1,1]from h]at this
   exact this.symm
  have hf:∀q:Int→Bool,(∀x,q x=true→x≠0)→(xsI n c).filter q=(nzI n c).filter q:=fun q hq=>by
   unfold nzI
   rw[List.filter_filter]
   refine List.filter_congr fun x _=>?_
   cases e:q x with
   | false=>simp
   | true=>simp[hq x e]
  rw[hf _ (fun x h=>by simp at h;omega),hf _ (fun x h=>by simp at h;omega)]
  have p1:=hq.filter fun x=>decide (0<x)
  have p2:=hq.filter fun x=>decide (x<0)
  exact⟨List.perm_singleton.mp (by simpa using p1),List.perm_singleton.mp (by simpa using p2)⟩
 ·rintro⟨h1,h2⟩
  rw[h1,h2]at hp
  unfold Df
  refine(PM.Zo0 ?_ ?_).symm
  ·exact(hp.trans (List.Perm.swap (-1) 1 [])).symm
  ·simp
theorem Zpe{p q r:PE}(h:Pk (p σ) fun t=>∃ks:List Int,t=.lst (ks.map T.int)∧Pk (q σ) fun u=>∃k,u=.int k∧Pk (r σ) fun v=>v=.int 1∧k∈ks.drop 1∧Q (.int ((1+(ks.drop 1).idxOf k:Nat):Int))): Pk (ZgJ p q r σ) Q:=by
 obtain⟨_,e1,ks,rfl,_,e2,k,rfl,_,e3,rfl,hm,h⟩:=h
 refine⟨_,?_,h⟩
 simp only[ZgJ,e1,e2,e3,Option.bind_some,Zid]
 rw[if_pos ⟨trivial,hm⟩]
theorem Zit: (tab (n+1) c).drop 1=xsI n c:=by
 unfold xsI
 apply List.ext_getElem
 ·simp[tab]
 ·intro i h1 h2
  simp[tab]
theorem Zqx{k:Int}(h:l.map c=[k]): ∃u,l=[u]∧c u=k:=by
 cases l with
 | nil=>simp at h
 | cons a l=>
  cases l with
  | nil=>exact⟨a,rfl,by simpa using h⟩
  | cons b l=>simp at h
theorem ZqL(hi:i<n): (xsI n c)[i]?=some (c (i+1)):=Za8 (f:=fun i=>c (i+1)) hi
theorem Zqy{u:Nat}{k:Int}(h1:1≤u)(h2:u≤n)(hu:c u=k)(ho:∀i,1≤i→i≤n→c i=k→i=u): 1+(xsI n c).idxOf k=u∧k∈xsI n c:=by
 have hm:k∈xsI n c:=List.mem_of_getElem? (i:=u-1) (by rw[ZqL (by omega),show u-1+1=u by omega,hu])
 have hl:(xsI n c).idxOf k<(xsI n c).length:=List.idxOf_lt_length_iff.mpr hm
 have hn:(xsI n c).length=n:=Zap
 have hk:=List.getElem_idxOf hl
 have hx:(xsI n c)[(xsI n c).idxOf k]?=some k:=by rw[List.getElem?_eq_getElem hl,hk]
 rw[ZqL (by omega)]at hx
 have:=ho ((xsI n c).idxOf k+1) (by omega) (by omega) (by simpa using hx)
 exact⟨by omega,hm⟩
theorem Zgk(h:Df n c): ∃u d,Zax c n=[u]∧ZaA c n=[d]∧c u=1∧c d = -1∧u<n+1∧d<n+1∧1≤u∧1≤d∧1+(xsI n c).idxOf 1=u∧1+(xsI n c).idxOf (-1)=d∧1∈xsI n c∧-1∈xsI n c:=by
 obtain⟨h1,h2⟩:=df_iff.mp h
 obtain⟨u,eu,hu⟩:=Zqx h1
 obtain⟨d,ed,hd⟩:=Zqx h2
 have mu:=ups_mem.mp (show u∈Zax c n by rw[eu];simp)
 have md:=dns_mem.mp (show d∈ZaA c n by rw[ed];simp)
 have a1:=Zqy mu.1 mu.2.1 hu fun i q1 q2 q3=>by
  have:i∈Zax c n:=ups_mem.mpr ⟨q1,q2,by omega⟩
  rw[eu]at this
  simpa using this
 have a2:=Zqy md.1 md.2.1 hd fun i q1 q2 q3=>by
  have:i∈ZaA c n:=dns_mem.mpr ⟨q1,q2,by omega⟩
  rw[ed]at this
  simpa using this
 exact⟨u,d,eu,ed,hu,hd,by omega,by omega,mu.1,md.1,a1.1,a2.1,a1.2,a2.2⟩
noncomputable def grt(n:Nat)(G:Nat→Nat→Option Int)(c:Nat→Int): Option Int:=if dec (Df n c)then addO (G (1+(xsI n c).idxOf 1) (1+(xsI n c).idxOf (-1))) (some (c 0))else(ZbZ c (S40 G) n).2
noncomputable def GB(b n:Nat)(G:Nat→Nat→Option Int): Prop:=∀i j,i<n+1→j<n+1→∀y,G i j=some y→Bd b y
theorem Zqz(hG:GB b n G): ∀i,i<n→SBd b (S40 G i):=fun i hi=>⟨fun x e=>by
 obtain⟨y,e1,e2⟩:=Zz1.mp e
 have:=hG 0 (i+1) (by omega) (by omega) y e1
 subst e2
 unfold Bd at *
 omega,fun x e=>hG (i+1) 0 (by omega) (by omega) x e⟩
theorem Zsq(hn:n≤60)(hb:b≤100000)(hb1:1≤b)(hG:GB b n G)(bc:∀i,i<n+1→Bd b (c i)): ZhJ [ZJ n G R,Zai n c]=some (oT (grt n G c)):=by
 apply Pk.eq
 unfold ZhJ Zlp grt
 have ht:ZJ n G R=.tup [.lst (tab (n+1) fun i=>.lst (tab (n+1) fun j=>oT (G i j))),.lst (tab n fun i=>ZZ (R i))]:=rfl
 have hs:Zai n c=.lst ((tab (n+1) c).map T.int):=by unfold Zai;rw[tab_map]
 walk_at "zz"
 refine ZM (ZqX hn) ?_
 by_cases h:Df n c
 ·obtain⟨u,d,_,_,_,_,hu,hd,_,_,eu,ed,mu,md⟩:=Zgk h
  rw[Za9 h]
  rw[ht]
  walk_at "zz"
  refine Zpe ?_
  walk_at "zz"
  refine⟨tab (n+1) c,hs,?_⟩
  walk_at "zz"
  refine⟨1,rfl,?_⟩
  walk_at "zz"
  refine⟨rfl,by rw[Zit];exact mu,?_⟩
  rw[Zit,eu]
  walk_at "zz"
  refine Zpe ?_
  walk_at "zz"
  refine⟨tab (n+1) c,hs,?_⟩
  walk_at "zz"
  refine⟨-1,rfl,?_⟩
  walk_at "zz"
  refine⟨rfl,by rw[Zit];exact md,?_⟩
  rw[Zit,ed]
  unfold Zai
  walk_at "zz"
  exact ZM (Zf2 (b:=some (c (Int.toNat 0)))) rfl
 ·rw[ZbR h]
  walk_at "zz"
  refine ZM (Zq6 (by omega) hb hb1 hG) ?_
  walk_at "zz"
  refine ZM (Zrj (by omega) hb bc (Zqz hG)) ?_
  unfold spT
  walk_at "zz"
  rfl
noncomputable def Zny(c:Nat→Int): T→Bool
 | .int i=>decide (0<c i.toNat)
 | _=>false
noncomputable def Znz(c:Nat→Int): T→Bool
 | .int i=>decide (c i.toNat<0)
 | _=>false
theorem Zpf{c:Nat→Int}: ∀n,((tab n fun i=>T.int ((1+i:Nat):Int)).filter (Zny c))=(Zax c n).map fun i=>T.int (i:Nat)
 | 0=>rfl
 | n+1=>by
  rw[←Zcj (n:=n) (f:=fun i=>T.int ((1+i:Nat):Int)),List.filter_append,Zpf n]
  simp only[Zax,List.map_append]
  congr 1
  rw[show 1+n=n+1 by omega]
  by_cases h:0<c (n+1) <;> simp[Zny,h]
theorem Zpg{c:Nat→Int}: ∀n,((tab n fun i=>T.int ((1+i:Nat):Int)).filter (Znz c))=(ZaA c n).map fun i=>T.int (i:Nat)
 | 0=>rfl
 | n+1=>by
  rw[←Zcj (n:=n) (f:=fun i=>T.int ((1+i:Nat):Int)),List.filter_append,Zpg n]
  simp only[ZaA,List.map_append]
  congr 1
  rw[show 1+n=n+1 by omega]
  by_cases h:c (n+1)<0 <;> simp[Znz,h]
theorem Zph{f:PE}{us:List Nat}{h:Nat→T}(hl:us.length≤1000)(hg:Pk (g σ) fun t=>t=.lst (us.map fun i=>T.int (i:Nat)))(hf:∀i∈us,Pk (f (ZW σ j (.int (i:Nat)))) fun t=>t=h i)(q:Q (.lst (us.map h))): Pk (Zam (ZaD g) (Z5 j) Zah f σ) Q:=by
 obtain⟨_,e,rfl⟩:=hg
 refine⟨_,?_,q⟩
 have hc:Zcq (Z5 j) Zah f σ (us.map fun i=>T.int (i:Nat))=some (us.map h):=by
  have key:∀l:List Nat,(∀i∈l,i∈us)→Zcq (Z5 j) Zah f σ (l.map fun i=>T.int (i:Nat))=some (l.map h):=by
   intro l
   induction l with
   | nil=>intro _;rfl
   | cons a l ih=>
    intro hm
    obtain⟨_,e1,rfl⟩:=hf a (hm a Zz5)
    simp only[List.map_cons,Zcq,Z5,Option.bind_some,Zah,if_true,e1,ih fun i m=>hm i (Zz2 _ m),Option.map_some]
  exact key us fun i m=>m
 simp only[Zam,ZaD,e,Option.bind_some,hc,Option.map_some,List.length_map]
 rw[if_pos (by rw[Zbg];omega)]
theorem ZpY{b:PS}{us:List Nat}{R:T→Prop}{N:TL→Prop}(hg:Pk (g σ) fun t=>t=.lst (us.map fun i=>T.int (i:Nat)))(P:List Nat→TL→Prop)(h0:P [] σ)(h1:∀pre i σ,i∈us→P pre σ→Psk (b (ZW σ j (.int (i:Nat)))) R (P (pre++[i])))(h2:∀σ,P us σ→N σ): Psk (ZaI (ZaD g) (Z5 j) b σ) R N:=by
 refine ZvD (ts:=us.map fun i=>T.int (i:Nat)) (P:=fun k σ=>P (us.take k) σ) ?_ (by simpa using h0) (fun k t σ hk hP=>?_) (fun σ h=>h2 σ (by simpa using h))
 ·obtain⟨_,e,rfl⟩:=hg
  exact⟨_,by simp only[ZaD,e,Option.bind_some],rfl⟩
 ·rw[List.getElem?_map]at hk
  obtain⟨i,ei,rfl⟩:=Zz1.mp hk
  rw[List.take_add_one,ei]
  exact h1 _ i σ (List.mem_of_getElem? ei) hP
noncomputable def sU(G:Nat→Nat→Option Int)(c:Nat→Int)(l:List Nat): Int:=(l.map fun i=>c i*(G i 0).getD 0).sum
noncomputable def sD(G:Nat→Nat→Option Int)(c:Nat→Int)(l:List Nat): Int:=(l.map fun i=>c i*(G 0 i).getD 0).sum
noncomputable def Zc7(G:Nat→Nat→Option Int)(c:Nat→Int)(n:Nat): Prop:=(∃i∈Zax c n,G i 0=none)∨∃i∈ZaA c n,G 0 i=none
theorem ZpZ: sU G c (l++[i])=sU G c l+c i*(G i 0).getD 0:=by simp[sU]
theorem Zp0: sD G c (l++[i])=sD G c l+c i*(G 0 i).getD 0:=by simp[sD]
theorem tot{G:Nat→Nat→Option Int}{c:Nat→Int}: ∀n,(Zc7 G c n→(ZbZ c (S40 G) n).2=none)∧(¬Zc7 G c n→(ZbZ c (S40 G) n).2=some (c 0+sU G c (Zax c n)-sD G c (ZaA c n)))
 | 0=>⟨fun h=>(by rcases h with⟨i,m,_⟩ | ⟨i,m,_⟩ <;> cases m),fun _=>by simp[ZbZ,sU,sD,Zax,ZaA]⟩
 | n+1=>by
  obtain⟨ih1,ih2⟩:=tot (G:=G) (c:=c) n
  have step:(ZbZ c (S40 G) (n+1)).2=addO (ZbZ c (S40 G) n).2 (Zcz (S40 G n) (c (n+1))).2:=rfl
  rw[step]
  have mono:Zc7 G c n→Zc7 G c (n+1):=fun h=>h.imp (fun⟨i,m,e⟩=>⟨i,by simp only[Zax,List.mem_append];exact .inl m,e⟩) fun⟨i,m,e⟩=>⟨i,by simp only[ZaA,List.mem_append];exact .inl m,e⟩
  rcases Int.lt_trichotomy (c (n+1)) 0 with h | h | h
  ·have h0:¬0<c (n+1):=by omega
   have hz:¬c (n+1)=0:=by omega
   have eu:Zax c (n+1)=Zax c n:=by simp[Zax,h0]
   have ed:ZaA c (n+1)=ZaA c n++[n+1]:=by simp[ZaA,h]
   have et:(Zcz (S40 G n) (c (n+1))).2=(G 0 (n+1)).map fun y=>y*(-1)*c (n+1):=by
    unfold Zcz S40
    rw[if_neg hz,if_pos h]
    cases G 0 (n+1) <;> rfl
   rw[et]
   cases hg:G 0 (n+1)with
   | none=>
    refine⟨fun _=>?_,fun q=>absurd (.inr ⟨n+1,by rw[ed];simp,hg⟩) q⟩
    cases (ZbZ c (S40 G) n).2 <;> rfl
   | some y=>
    have hl:Zc7 G c (n+1)→Zc7 G c n:=by
     rintro(⟨i,m,e⟩ | ⟨i,m,e⟩)
     ·rw[eu]at m;exact .inl ⟨i,m,e⟩
     ·rw[ed]at m
      rcases Zz8.mp m with m | m
      ·exact .inr ⟨i,m,e⟩
      ·rw[List.mem_singleton.mp m,hg]at e;cases e
    refine⟨fun q=>by rw[ih1 (hl q)];rfl,fun q=>?_⟩
    rw[ih2 fun r=>q (mono r),eu,ed,Zp0,hg]
    simp only[addO,Option.map_some,Option.getD_some]
    congr 1
    have:y*(-1)*c (n+1) = -(c (n+1)*y):=by rw[Int.mul_neg,Int.mul_one,Int.neg_mul,Int.mul_comm]
    omega
  ·have h0:¬0<c (n+1):=by omega
   have h1:¬c (n+1)<0:=by omega
   have eu:Zax c (n+1)=Zax c n:=by simp[Zax,h0]
   have ed:ZaA c (n+1)=ZaA c n:=by simp[ZaA,h1]
   have et:(Zcz (S40 G n) (c (n+1))).2=some 0:=by unfold Zcz;rw[if_pos h]
   have el:Zc7 G c (n+1)↔Zc7 G c n:=by unfold Zc7;rw[eu,ed]
   rw[et,Zqt,el,eu,ed]
   exact⟨ih1,ih2⟩
  ·have h1:¬c (n+1)<0:=by omega
   have hz:¬c (n+1)=0:=by omega
   have eu:Zax c (n+1)=Zax c n++[n+1]:=by simp[Zax,h]
   have ed:ZaA c (n+1)=ZaA c n:=by simp[ZaA,h1]
   have et:(Zcz (S40 G n) (c (n+1))).2=(G (n+1) 0).map fun y=>y*c (n+1):=by
    unfold Zcz S40
    rw[if_neg hz,if_neg h1]
   rw[et]
   cases hg:G (n+1) 0 with
   | none=>
    refine⟨fun _=>?_,fun q=>absurd (.inl ⟨n+1,by rw[eu];simp,hg⟩) q⟩
    cases (ZbZ c (S40 G) n).2 <;> rfl
   | some y=>
    have hl:Zc7 G c (n+1)→Zc7 G c n:=by
     rintro(⟨i,m,e⟩ | ⟨i,m,e⟩)
     ·rw[eu]at m
      rcases Zz8.mp m with m | m
      ·exact .inl ⟨i,m,e⟩
      ·rw[List.mem_singleton.mp m,hg]at e;cases e
     ·rw[ed]at m;exact .inr ⟨i,m,e⟩
    refine⟨fun q=>by rw[ih1 (hl q)];rfl,fun q=>?_⟩
    rw[ih2 fun r=>q (mono r),eu,ed,ZpZ,hg]
    simp only[addO,Option.map_some,Option.getD_some]
    congr 1
    have:y*c (n+1)=c (n+1)*y:=Int.mul_comm _ _
    omega
theorem Zrp{N:TL→Prop}(hn:n≤60)(hb:b≤100000)(hG:GB b n G)(bc:∀i,i<n+1→Bd b (c i))(e0:σ 0=some (.tup [.lst (tab (n+1) fun i=>.lst (tab (n+1) fun j=>oT (G i j))),.lst (tab n fun i=>ZZ (R i))]))(e1:σ 1=some (.lst (tab (n+1) fun i=>.int (c i))))(e2:σ 2=some (.lst ((Zax c n).map fun i=>T.int (i:Nat))))(e3:σ 3=some (.lst ((ZaA c n).map fun i=>T.int (i:Nat)))): Psk ((Zt (ZF 4 (Zd ZX (Zam (ZaD (Za 2)) (Z5 104) Zah (Zd Zq (Zd Zq (Zd Zq (Za 0) (Zj 0)) (Za 104)) (Zj 0))) (Zam (ZaD (Za 3)) (Z5 106) Zah (Zd Zq (Zd Zq (Zd Zq (Za 0) (Zj 0)) (Zj 0)) (Za 106))))) (Zt (Z2 (ZH (Zd qIn (Z0) (Za 4))) (ZI (Z0)) Z4) (Zt (ZF 5 (Zd Zq (Za 1) (Zj 0))) (Zt (ZaI (ZaD (Za 2)) (Z5 6) (ZF 5 (Zd ZX (Za 5) (Zd Zaz (Zd Zq (Za 1) (Za 6)) (Zd Zq (Zd Zq (Zd Zq (Za 0) (Zj 0)) (Za 6)) (Zj 0)))))) (Zt (ZaI (ZaD (Za 3)) (Z5 6) (ZF 5 (Zd Za5 (Za 5) (Zd Zaz (Zd Zq (Za 1) (Za 6)) (Zd Zq (Zd Zq (Zd Zq (Za 0) (Zj 0)) (Zj 0)) (Za 6)))))) (ZI (Za 5))))))) σ) (fun t=>t=oT (ZbZ c (S40 G) n).2) N:=by
 have lu:=ZpW (c:=c) n
 have ld:=ZpX (c:=c) n
 have hu:∀i∈Zax c n,i<n+1:=fun i m=>by have:=ups_mem.mp m;omega
 have hd:∀i∈ZaA c n,i<n+1:=fun i m=>by have:=dns_mem.mp m;omega
 have h0:0<n+1:=by omega
 walk_at "zz"
 refine Zph (us:=Zax c n) (h:=fun i=>oT (G i 0)) (by omega) ?_ (fun i m=>?_) ?_
 ·walk_at "zz"
  rfl
 ·have:=hu i m
  walk_at "zz"
  rfl
 refine Zph (us:=ZaA c n) (h:=fun i=>oT (G 0 i)) (by omega) ?_ (fun i m=>?_) ?_
 ·walk_at "zz"
  rfl
 ·have:=hd i m
  walk_at "zz"
  rfl
 refine ZcP (by simp;omega) ?_
 walk_at "zz"
 refine ZfD (n:=0) (m:=1) .none (.lst fun t m=>?_) ?_
 ·rcases Zz8.mp m with m | m
  ·obtain⟨i,_,rfl⟩:=Zz11.mp m;exact ZgR
  ·obtain⟨i,_,rfl⟩:=Zz11.mp m;exact ZgR
 by_cases hl:Zc7 G c n
 ·have hm:T.none∈(Zax c n).map (fun i=>oT (G i 0))++(ZaA c n).map fun i=>oT (G 0 i):=by
   rcases hl with⟨i,m,e⟩ | ⟨i,m,e⟩
   ·exact Zz4 _ (Zz11.mpr ⟨i,m,by rw[e];rfl⟩)
   ·exact Zz3 _ (Zz11.mpr ⟨i,m,by rw[e];rfl⟩)
  rw[Za9 hm]
  walk_at "zz"
  rw[(tot n).1 hl]
  rfl
 ·have hm:¬T.none∈(Zax c n).map (fun i=>oT (G i 0))++(ZaA c n).map fun i=>oT (G 0 i):=fun m=>hl (by
   rcases Zz8.mp m with m | m
   ·obtain⟨i,m,e⟩:=Zz11.mp m
    exact .inl ⟨i,m,oT_inj.mp (by rw[e];rfl)⟩
   ·obtain⟨i,m,e⟩:=Zz11.mp m
    exact .inr ⟨i,m,oT_inj.mp (by rw[e];rfl)⟩)
  have gu:∀i∈Zax c n,∃y,G i 0=some y:=fun i m=>by
   cases e:G i 0 with
   | none=>exact absurd (.inl ⟨i,m,e⟩) hl
   | some y=>exact⟨y,rfl⟩
  have gd:∀i∈ZaA c n,∃y,G 0 i=some y:=fun i m=>by
   cases e:G 0 i with
   | none=>exact absurd (.inr ⟨i,m,e⟩) hl
   | some y=>exact⟨y,rfl⟩
  rw[ZbR hm]
  walk_at "zz"
  refine ZpY (us:=Zax c n) (P:=fun pre σ'=>σ' 0=some (.tup [.lst (tab (n+1) fun i=>.lst (tab (n+1) fun j=>oT (G i j))),.lst (tab n fun i=>ZZ (R i))])∧σ' 1=some (.lst (tab (n+1) fun i=>.int (c i)))∧σ' 3=some (.lst ((ZaA c n).map fun i=>T.int (i:Nat)))∧σ' 5=some (.int (c 0+sU G c pre))) ?_ ⟨by walk_at "zr",by walk_at "zr",by walk_at "zr",by simp[sU,ZW]⟩ ?_ ?_
  ·walk_at "zz"
   rfl
  ·rintro pre i σ' m ⟨f0,f1,f3,f5⟩
   have hi:=hu i m
   obtain⟨y,ey⟩:=gu i m
   have by_:Bd b y:=hG i 0 hi h0 y ey
   walk_at "zz"
   rw[show(Int.toNat 0)=0 from rfl,ey,ZaF]
   refine ZbK (Zb3 (bc i hi) by_ (by omega) (by omega)) ?_
   walk_at "zz"
   refine⟨by walk_at "zr",by walk_at "zr",by walk_at "zr",?_⟩
   rw[ZbJ,ZpZ,ey]
   simp only[Option.getD_some]
   congr 2
   omega
  rintro σ1 ⟨f0,f1,f3,f5⟩
  walk_at "zz"
  refine ZpY (us:=ZaA c n) (P:=fun pre σ'=>σ' 0=some (.tup [.lst (tab (n+1) fun i=>.lst (tab (n+1) fun j=>oT (G i j))),.lst (tab n fun i=>ZZ (R i))])∧σ' 1=some (.lst (tab (n+1) fun i=>.int (c i)))∧σ' 5=some (.int (c 0+sU G c (Zax c n)-sD G c pre))) ?_ ⟨by walk_at "zr",by walk_at "zr",by simpa [sD]using f5⟩ ?_ ?_
  ·walk_at "zz"
   rfl
  ·rintro pre i σ' m ⟨g0,g1,g5⟩
   have hi:=hd i m
   obtain⟨y,ey⟩:=gd i m
   have by_:Bd b y:=hG 0 i h0 hi y ey
   walk_at "zz"
   rw[show(Int.toNat 0)=0 from rfl,ey,ZaF]
   refine ZbK (Zb3 (bc i hi) by_ (by omega) (by omega)) ?_
   walk_at "zz"
   refine⟨by walk_at "zr",by walk_at "zr",?_⟩
   rw[ZbJ,Zp0,ey]
   simp only[Option.getD_some]
   congr 2
   omega
  rintro σ2 ⟨g0,g1,g5⟩
  walk_at "zz"
  rw[(tot n).2 hl]
  rfl
theorem Zr3{N:TL→Prop}(hn:n≤60)(hb:b≤100000)(hG:GB b n G)(bc:∀i,i<n+1→Bd b (c i))(e0:σ 0=some (.tup [.lst (tab (n+1) fun i=>.lst (tab (n+1) fun j=>oT (G i j))),.lst (tab n fun i=>ZZ (R i))]))(e1:σ 1=some (.lst (tab (n+1) fun i=>.int (c i))))(e2:σ 2=some (.lst ((Zax c n).map fun i=>T.int (i:Nat))))(e3:σ 3=some (.lst ((ZaA c n).map fun i=>T.int (i:Nat)))): Psk ((Zt (Z2 (ZaK (ZH (Zd qEq (Zw Zaq (Zf (Za 2) Zm)) (Zj 1))) (ZaK (ZH (Zd qEq (Zw Zaq (Zf (Za 3) Zm)) (Zj 1))) (ZaK (ZH (Zd qEq (Zd Zq (Za 1) (Zd Zq (Za 2) (Zj 0))) (Zj 1))) (ZaK (ZH (Zd qEq (Zd Zq (Za 1) (Zd Zq (Za 3) (Zj 0))) (pUn Zdp (Zj 1)))) Zah)))) (Zt (Z2 (ZH (Zd qIs (Zd Zq (Zd Zq (Zd Zq (Za 0) (Zj 0)) (Zd Zq (Za 2) (Zj 0))) (Zd Zq (Za 3) (Zj 0))) (Z0))) (ZI (Z0)) Z4) (ZI (Zd ZX (Zd Zq (Zd Zq (Zd Zq (Za 0) (Zj 0)) (Zd Zq (Za 2) (Zj 0))) (Zd Zq (Za 3) (Zj 0))) (Zd Zq (Za 1) (Zj 0))))) Z4) (Zt (ZF 4 (Zd ZX (Zam (ZaD (Za 2)) (Z5 104) Zah (Zd Zq (Zd Zq (Zd Zq (Za 0) (Zj 0)) (Za 104)) (Zj 0))) (Zam (ZaD (Za 3)) (Z5 106) Zah (Zd Zq (Zd Zq (Zd Zq (Za 0) (Zj 0)) (Zj 0)) (Za 106))))) (Zt (Z2 (ZH (Zd qIn (Z0) (Za 4))) (ZI (Z0)) Z4) (Zt (ZF 5 (Zd Zq (Za 1) (Zj 0))) (Zt (ZaI (ZaD (Za 2)) (Z5 6) (ZF 5 (Zd ZX (Za 5) (Zd Zaz (Zd Zq (Za 1) (Za 6)) (Zd Zq (Zd Zq (Zd Zq (Za 0) (Zj 0)) (Za 6)) (Zj 0)))))) (Zt (ZaI (ZaD (Za 3)) (Z5 6) (ZF 5 (Zd Za5 (Za 5) (Zd Zaz (Zd Zq (Za 1) (Za 6)) (Zd Zq (Zd Zq (Zd Zq (Za 0) (Zj 0)) (Zj 0)) (Za 6)))))) (ZI (Za 5)))))))) σ) (fun t=>t=oT (grt n G c)) N:=by
 by_cases h:Df n c
 ·obtain⟨u,d,eu,ed,hcu,hcd,hu,hd,_,_,iu,id_,_,_⟩:=Zgk h
  have hg:grt n G c=addO (G u d) (some (c 0)):=by unfold grt;rw[Za9 h,iu,id_];rfl
  rw[hg]
  rw[eu]at e2
  rw[ed]at e3
  simp only[List.map_cons,List.map_nil]at e2 e3
  walk_at "zz"
  cases hx:G u d with
  | none=>
   rw[ZbO]
   walk_at "zz"
   rfl
  | some y=>
   rw[ZaF]
   walk_at "zz"
   rw[hx,ZaF]
   walk_at "zz"
   rfl
 ·have hg:grt n G c=(ZbZ c (S40 G) n).2:=by unfold grt;rw[ZbR h];rfl
  rw[hg]
  refine Zdq (fun σ'=>σ'=σ) ?_ ?_
  ·by_cases l1:(Zax c n).length=1
   ·obtain⟨u,eu⟩:=List.length_eq_one_iff.mp l1
    have hu:u<n+1:=by have:=ups_mem.mp (show u∈Zax c n by rw[eu];simp);omega
    by_cases l2:(ZaA c n).length=1
    ·obtain⟨d,ed⟩:=List.length_eq_one_iff.mp l2
     have hd:d<n+1:=by have:=dns_mem.mp (show d∈ZaA c n by rw[ed];simp);omega
     have hno:¬(c u=1∧c d = -1):=fun q=>h (df_iff.mpr ⟨by rw[eu];simp[q.1],by rw[ed];simp[q.2]⟩)
     rw[eu]at e2
     rw[ed]at e3
     simp only[List.map_cons,List.map_nil]at e2 e3
     by_cases q1:c u=1
     ·have q2:c d≠-1:=fun q=>hno ⟨q1,q⟩
      walk_at "zz"
      rfl
     ·walk_at "zz"
      rfl
    ·rw[eu]at e2
     simp only[List.map_cons,List.map_nil]at e2
     have l3:((((ZaA c n).map fun i=>T.int (i:Nat)).length:Nat):Int)≠1:=by rw[List.length_map];omega
     walk_at "zz"
     rfl
   ·have l3:((((Zax c n).map fun i=>T.int (i:Nat)).length:Nat):Int)≠1:=by rw[List.length_map];omega
    walk_at "zz"
    rfl
  ·rintro _ rfl
   exact Zrp hn hb hG bc e0 e1 e2 e3
theorem Zq7(hn:n≤60)(hb:b≤100000)(hG:GB b n G)(bc:∀i,i<n+1→Bd b (c i)): Zha [ZJ n G R,Zai n c]=some (oT (grt n G c)):=by
 apply Pk.eq
 unfold Zha Zjr
 have ht:ZJ n G R=.tup [.lst (tab (n+1) fun i=>.lst (tab (n+1) fun j=>oT (G i j))),.lst (tab n fun i=>ZZ (R i))]:=rfl
 rw[ht]
 unfold Zai
 refine Zm6 rfl ?_
 have rg:∀{σ:TL} {j:Nat},σ 1=some (.lst (tab (n+1) fun i=>.int (c i)))→Pl (ZaB (Zf (Zj 1) (Zf (Zw Zaq (Zf (Za 1) Zm)) Zm)) σ) fun us=>us=tab n fun i=>T.int ((1+i:Nat):Int):=fun {σ} {j} e=>by
  refine ZmC (a:=1) (m:=n) (by omega) (by omega) ?_ rfl
  simp only[Zf,Zj,Zm,Zw,Za,e,Option.bind_some,Zaq,Zap]
  congr 3
  congr 1
  omega
 refine Zdq (fun σ'=>σ' 0=some (.tup [.lst (tab (n+1) fun i=>.lst (tab (n+1) fun j=>oT (G i j))),.lst (tab n fun i=>ZZ (R i))])∧σ' 1=some (.lst (tab (n+1) fun i=>.int (c i)))∧σ' 2=some (.lst ((Zax c n).map fun i=>T.int (i:Nat)))) ?_ ?_
 ·refine Zm4 ?_
  refine Zmh (ts:=tab n fun i=>T.int ((1+i:Nat):Int)) (P:=Zny c) (by rw[Zap];omega) (rg (j:=0) rfl) (fun t m=>?_) ?_
  ·obtain⟨i,hi,rfl⟩:=ZcY m
   have h1:1+i<n+1:=by omega
   walk_at "zz"
   show decide (0<c (1+i))=decide (0<c ((1+i:Nat):Int).toNat)
   rw[Int.toNat_natCast]
  ·rw[Zpf]
   exact⟨rfl,rfl,ZbJ⟩
 rintro σ1 ⟨f0,f1,f2⟩
 refine Zdq (fun σ'=>σ' 0=some (.tup [.lst (tab (n+1) fun i=>.lst (tab (n+1) fun j=>oT (G i j))),.lst (tab n fun i=>ZZ (R i))])∧σ' 1=some (.lst (tab (n+1) fun i=>.int (c i)))∧σ' 2=some (.lst ((Zax c n).map fun i=>T.int (i:Nat)))∧σ' 3=some (.lst ((ZaA c n).map fun i=>T.int (i:Nat)))) ?_ ?_
 ·refine Zm4 ?_
  refine Zmh (ts:=tab n fun i=>T.int ((1+i:Nat):Int)) (P:=Znz c) (by rw[Zap];omega) (rg (j:=0) f1) (fun t m=>?_) ?_
  ·obtain⟨i,hi,rfl⟩:=ZcY m
   have h1:1+i<n+1:=by omega
   walk_at "zz"
   show decide (c (1+i)<0)=decide (c ((1+i:Nat):Int).toNat<0)
   rw[Int.toNat_natCast]
  ·rw[Zpg]
   exact⟨by walk_at "zr",by walk_at "zr",by walk_at "zr",ZbJ⟩
 rintro σ2 ⟨g0,g1,g2,g3⟩
 exact Zr3 hn hb hG bc g0 g1 g2 g3
theorem Zp1{b n:Nat}{c:Nat→Int}{S:Nat→Sp}(bc:∀i,i<n+1→Bd b (c i))(bS:∀i,i<n→SBd b (S i)): ∀j,j≤n→∀y,(ZbZ c S j).2=some y→Bd (b+b+j+1) y
 | 0,_,y,e=>by cases e;exact(bc 0 (by omega)).mono (by omega)
 | j+1,h,y,e=>by
  obtain⟨p,q,h1,h2,rfl⟩:=addO_some.mp (show addO (ZbZ c S j).2 (Zcz (S j) (c (j+1))).2=some y from e)
  have ih:=Zp1 bc bS j (by omega) p h1
  have hq:Bd (b+b) q:=by
   unfold Zcz at h2
   split at h2
   ·cases h2;exact Zc6
   ·split at h2
    ·obtain⟨z,e1,rfl⟩:=Zz1.mp h2
     exact((bS j (by omega)).1 z e1).mul (bc (j+1) (by omega))
    ·obtain⟨z,e1,rfl⟩:=Zz1.mp h2
     exact((bS j (by omega)).2 z e1).mul (bc (j+1) (by omega))
  exact(ih.add (hq.mono (by omega))).mono (by omega)
noncomputable def ZaH(c:Nat→Int)(x:Nat→Int): Nat→Int
 | 0=>c 0
 | j+1=>ZaH c x j+c (j+1)*x j
theorem Zp2{c x:Nat→Int}: ∀n,c 0+(tab n fun i=>c (i+1)*x i).sum=ZaH c x n
 | 0=>by simp[tab,ZaH]
 | n+1=>by
  rw[←Zcj (n:=n) (f:=fun i=>c (i+1)*x i),List.sum_append]
  have:=Zp2 (c:=c) (x:=x) n
  simp only[List.sum_cons,List.sum_nil,ZaH]
  omega
theorem ZqA{c x:Nat→Int}{S:Nat→Sp}{n:Nat}(h:∀i,i<n→InS (S i) (x i)): ∀j,j≤n→InS (ZbZ c S j) (ZaH c x j)
 | 0,_=>⟨fun l e=>by cases e;exact Int.le_refl _,fun l e=>by cases e;exact Int.le_refl _⟩
 | j+1,hj=>ZuR (ZqA h j (by omega)) (ZtQ (h j (by omega)))
noncomputable def sV(c x:Nat→Int)(l:List Nat): Int:=(l.map fun i=>c i*x (i-1)).sum
theorem ZoJ{c x:Nat→Int}: ∀n,ZaH c x n=c 0+sV c x (Zax c n)+sV c x (ZaA c n)
 | 0=>by simp[ZaH,sV,Zax,ZaA]
 | n+1=>by
  have ih:=ZoJ (c:=c) (x:=x) n
  have sn:∀l,sV c x (l++[n+1])=sV c x l+c (n+1)*x n:=fun l=>by simp[sV]
  simp only[ZaH,Zax,ZaA,ih]
  rcases Int.lt_trichotomy (c (n+1)) 0 with h | h | h
  ·rw[if_neg (by omega),if_pos h,List.append_nil,sn]
   omega
  ·rw[if_neg (by omega),if_neg (by omega),List.append_nil,List.append_nil,h]
   omega
  ·rw[if_pos h,if_neg (by omega),List.append_nil,sn]
   omega
theorem Zw3(h:ZaP n G R x)(e:grt n G c=some y): ZaH c x n≤y:=by
 unfold grt at e
 by_cases hd:Df n c
 ·rw[Za9 hd]at e
  obtain⟨u,d,eu,ed,hcu,hcd,hu,hdn,hu1,hd1,iu,id_,_,_⟩:=Zgk hd
  rw[iu,id_]at e
  obtain⟨p,q,h1,h2,rfl⟩:=addO_some.mp (show addO (G u d) (some (c 0))=some y from e)
  cases h2
  have hb:=h.1 u d hu hdn p h1
  rw[ZoJ,eu,ed]
  have f:∀i,1≤i→ZaG x i=x (i-1):=fun i hi=>by
   cases i with
   | zero=>omega
   | succ i=>rfl
  rw[f u hu1,f d hd1]at hb
  simp only[sV,List.map_cons,List.map_nil,List.sum_cons,List.sum_nil,hcu,hcd]
  omega
 ·rw[ZbR hd]at e
  refine(ZqA (S:=S40 G) (n:=n) (fun i hi=>⟨fun l el=>?_,fun r er=>?_⟩) n (Zz10 n)).2 y e
  ·obtain⟨z,e1,rfl⟩:=Zz1.mp el
   have:=h.1 0 (i+1) (by omega) (by omega) z e1
   have f0:ZaG x 0=0:=rfl
   have f1:ZaG x (i+1)=x i:=rfl
   show z*(-1)≤x i
   omega
  ·have:=h.1 (i+1) 0 (by omega) (by omega) r er
   have f0:ZaG x 0=0:=rfl
   have f1:ZaG x (i+1)=x i:=rfl
   omega
theorem ZuY(hn:n≤60)(hb:b≤100000)(bc:∀i,i<n+1→Bd b (c i))(bx:∀i,i<n→Bd b (x i)): Zhw [Zai n c,ZfI n x]=some (.int (ZaH c x n)):=by
 apply Pk.eq
 unfold Zhw ZkO Zai ZfI
 have h0:0<n+1:=by omega
 walk_at "zz"
 refine Zby (n:=n) (a:=fun i=>.int i) (b:=fun i=>.int (c (i+1)*x i)) (by omega) ?_ (fun i hi=>?_) ?_
 ·walk_at "zz"
  rfl
 ·walk_at "zz"
  rw[show((i:Int)+1).toNat=i+1 by omega]
  exact ZbK (Zb3 (bc (i+1) (by omega)) (bx i hi) (by omega) (by omega)) rfl
 walk_at "zz"
 refine⟨.int (tab n fun i=>c (i+1)*x i).sum,by simp only[ZiY,Zun,Option.map_some],?_⟩
 walk_at "zz"
 rw[show(Int.toNat 0)=0 from rfl,Zp2]
noncomputable def SumB(n:Nat)(c:Nat→Int)(K:Int): Prop:=Bd 140 (c 0)∧∀i,1≤i→i<n+1→-K≤c i∧c i≤K
theorem SumB.bd(h:SumB n c K)(hK:K≤4000000000): ∀i,i<n+1→Bd 140 (c i):=fun i hi=>by
 by_cases q:i=0
 ·subst q;exact h.1
 ·have:=h.2 i (by omega) hi
  exact Zbq (i:=33) (by omega) (by decide)
theorem SumB.mono(h:SumB n c K)(hK:K≤K'): SumB n c K':=⟨h.1,fun i h1 h2=>by have:=h.2 i h1 h2;omega⟩
theorem Ziu{x:Nat}{v k:Int}{N:TL→Prop}(e:σ x=some (.lst (tab (n+1) fun i=>.int (c i))))(h0:1≤k)(h1:k<(n+1:Nat))(bc:SumB n c K)(hK:K≤K')(v0:-K'≤v)(v1:v≤K')(h:∀c',SumB n c' K'→N (ZW σ x (.lst (tab (n+1) fun i=>.int (c' i))))): PutP σ x (.int v) (.int k) N:=by
 refine ZhS (n:=n+1) (f:=fun i=>.int (c i)) e (by omega) h1 ?_
 have:=h (fun i=>if i=k.toNat then v else c i) ⟨by show Bd 140 (if 0=k.toNat then v else c 0);rw[if_neg (by omega)];exact bc.1,fun i hi1 hi2=>by
  by_cases q:i=k.toNat
  ·simp only[q,if_true];exact⟨v0,v1⟩
  ·simp only[q,if_false];have:=bc.2 i hi1 hi2;omega⟩
 rw[show(tab (n+1) fun i=>if i=k.toNat then T.int v else T.int (c i))=tab (n+1) fun i=>T.int (if i=k.toNat then v else c i)from Za7 fun i _=>by split <;> rfl]
 exact this
noncomputable def unC(i:Nat): Nat→Int:=fun k=>if 0<i∧k=i then 1 else 0
theorem ZlG(hn:n≤900): Zeu [.int i,.int n]=some (Zai n (unC i)):=by
 apply Pk.eq
 unfold Zeu Zl5 Zai
 walk_at "zz"
 refine Zby (n:=n+1) (a:=fun k=>.int (k:Nat)) (b:=fun k=>.int (unC i k)) (by omega) ?_ (fun k hk=>?_) rfl
 ·walk_at "zz"
  exact Znq (n+1) (by omega) (by omega) rfl
 ·walk_at "zz"
  by_cases h:0<i
  ·refine⟨fun _=>?_,fun c=>absurd c (by simp;omega)⟩
   walk_at "zz"
   by_cases q:k=i
   ·refine⟨fun _=>?_,fun c=>absurd c (by simp[q])⟩
    walk_at "zz"
    show _=T.int (unC i k)
    unfold unC
    rw[if_pos ⟨h,q⟩]
   ·refine⟨fun c=>absurd c (by simp;omega),fun _=>?_⟩
    walk_at "zz"
    show _=T.int (unC i k)
    unfold unC
    rw[if_neg (fun c=>q c.2)]
  ·refine⟨fun c=>absurd c (by simp;omega),fun _=>⟨fun c=>absurd c (by decide),fun _=>?_⟩⟩
   walk_at "zz"
   show _=T.int (unC i k)
   unfold unC
   rw[if_neg (fun c=>h c.1)]
theorem Zsr(hn:n≤900): ZhK [Zai n c,Zai n d]=some (Zai n fun k=>c k+d k):=by
 apply Pk.eq
 unfold ZhK Zls Zai
 walk_at "zz"
 refine Zmm (n:=n+1) (a:=fun i=>.int (c i)) (b:=fun i=>.int (d i)) (c:=fun i=>.int (c i+d i)) (by omega) ?_ (fun i hi=>?_) rfl
 ·walk_at "zz"
  rfl
 ·walk_at "zz"
  rfl
theorem Zss(hn:n≤900)(hb1:1≤b)(hb:b≤100000)(bd:∀i,i<n+1→Bd b (d i)): ZhL [Zai n c,Zai n d]=some (Zai n fun k=>c k-d k):=by
 apply Pk.eq
 unfold ZhL Zlv
 walk_at "zz"
 refine ZM (Zr2 (by omega) hb bd (show Bd b (-1)by unfold Bd;have:=ZfL hb1;unfold Bd at this;simpa using this)) ?_
 walk_at "zz"
 refine ZM (Zsr hn) ?_
 walk_at "zz"
 have:(fun k=>c k+d k * -1)=fun k=>c k-d k:=by funext k;omega
 rw[this]
noncomputable def ZcA(C:Nat→Nat→Int): Nat→Nat→Int
 | 0=>fun _=>0
 | i+1=>C i
noncomputable def dC(C:Nat→Nat→Int)(i j:Nat): Nat→Int:=fun k=>ZcA C i k-ZcA C j k
noncomputable def rcG(n:Nat)(G:Nat→Nat→Option Int)(C:Nat→Nat→Int)(i j:Nat): Option Int:=grt n G (dC C i j)
noncomputable def rcR(n:Nat)(R:Nat→Int×Int)(C:Nat→Nat→Int)(i:Nat): Int×Int:=Zd1 (C i) R n
noncomputable def Zav(n m:Nat)(C:Nat→Nat→Int): T:=.lst (tab m fun i=>Zai n (C i))
noncomputable def CB(b n m:Nat)(C:Nat→Nat→Int): Prop:=∀i,i<m→∀k,k<n+1→Bd b (C i k)
theorem CB.full(h:CB b n m C): ∀i,i<m+1→∀k,k<n+1→Bd b (ZcA C i k)
 | 0,_,_,_=>Zc6
 | i+1,hi,k,hk=>h i (by omega) k hk
theorem CB.dif(h:CB b n m C)(hi:i<m+1)(hj:j<m+1): ∀k,k<n+1→Bd (b+1) (dC C i j k):=fun k hk=>by
 have h1:=h.full i hi k hk
 have h2:=h.full j hj k hk
 unfold Bd dC at *
 rw[Nat.pow_succ]
 omega
theorem unC_0: unC 0=fun _=>0:=by funext k;unfold unC;rw[if_neg (by omega)]
theorem Zv9(hG:GB b n G)(bc:∀i,i<n+1→Bd b (c i)): ∀y,grt n G c=some y→Bd (b+b+n+1) y:=fun y e=>by
 unfold grt at e
 by_cases h:Df n c
 ·rw[Za9 h]at e
  obtain⟨u,d,_,_,_,_,hu,hd,_,_,iu,id_,_,_⟩:=Zgk h
  rw[iu,id_]at e
  obtain⟨p,q,h1,h2,rfl⟩:=addO_some.mp (show addO (G u d) (some (c 0))=some y from e)
  cases h2
  exact((hG u d hu hd p h1).add (bc 0 (by omega))).mono (by omega)
 ·rw[ZbR h]at e
  exact(Zp1 bc (Zqz hG) n (Zz10 n) y e).mono (by omega)
theorem Zw4{B:Nat}(hG:GB b n G)(hC:CB b n m C)(hB:b+b+n+3≤B): SmG B m (rcG n G C):=fun i j hi hj y e=>(Zv9 (b:=b+1) (fun u v hu hv z e=>(hG u v hu hv z e).mono (by omega)) (hC.dif hi hj) y e).mono (by omega)
theorem ZqM(ok:∀t,t<n→RestOk (R t)): ∀t,t<m→RestOk (rcR n R C t):=fun t _=>by
 unfold rcR
 rw[Zd8 ok n (Zz10 n)]
 exact ZcN (ZgC _ _ _) _
theorem Zw5{B:Nat}(ok:∀t,t<n→RestOk (R t))(hR:∀t,t<n→RBd b (R t))(hC:CB b n m C)(hB:b+b+n≤B): SmR B m (rcR n R C):=fun t ht=>by
 unfold rcR
 rw[Zd8 ok n (Zz10 n)]
 exact ZhZ (ZgC _ _ _) ((Zir (fun k hk=>hC t ht k hk) hR n (Zz10 n)).mono (by omega)) ((ZpQ (fun k hk=>hC t ht k hk) hR n (Zz10 n)).mono (by omega))
theorem ZxG(h:∀k,c k=0): ∀n,Zax c n=[]
 | n=>List.eq_nil_iff_forall_not_mem.mpr fun i hi=>by have:=(ups_mem.mp hi).2.2;rw[h]at this;omega
theorem ZqN(h:∀k,c k=0): grt n G c=some 0:=by
 unfold grt
 have hd:¬Df n c:=fun q=>by have:=(df_iff.mp q).1;rw[ZxG h]at this;cases this
 rw[ZbR hd]
 have:∀j,ZbZ c (S40 G) j=(some 0,some 0):=fun j=>by
  induction j with
  | zero=>show(some (c 0),some (c 0))=_;rw[h]
  | succ j ih=>
   show ZiQ (ZbZ c (S40 G) j) (Zcz (S40 G j) (c (j+1)))=_
   rw[ih,h]
   rfl
 show(ZbZ c (S40 G) n).2=some 0
 rw[this]
theorem ZxR: ∀i,i<m+1→rcG n G C i i=some 0:=fun i _=>ZqN fun k=>by unfold dC;omega
theorem Zp3{c d x:Nat→Int}: ∀n,ZaH (fun k=>c k-d k) x n=ZaH c x n-ZaH d x n
 | 0=>rfl
 | n+1=>by
  simp only[ZaH,Zp3 n,Int.sub_mul]
  omega
theorem Zpi{x:Nat→Int}: ∀n,ZaH (fun _=>0) x n=0
 | 0=>rfl
 | n+1=>by simp only[ZaH,Zpi n,Int.zero_mul];omega
theorem Zpj: ∀i,ZaH (ZcA C i) x n=ZaG (fun t=>ZaH (C t) x n) i
 | 0=>Zpi n
 | i+1=>rfl
theorem Zp4{c:Nat→Int}{R:Nat→Int×Int}{x:Nat→Int}{n:Nat}(ok:∀t,t<n→RestOk (R t))(h:∀t,t<n→ZaE (R t) (x t)): ∀j,j≤n→Zb0 c R j ∣ ZaH c x j-Zca c R j
 | 0,_=>by show(0:Int) ∣ c 0-c 0;rw[Int.sub_self];exact Int.dvd_zero _
 | j+1,hj=>by
  have h1:Zb0 c R (j+1) ∣ Zb0 c R j:=Int.gcd_dvd_left ..
  have h2:Zb0 c R (j+1) ∣ c (j+1)*(R j).1:=Int.gcd_dvd_right ..
  obtain⟨z,hz⟩:=(Zbj (ok j (by omega)).nn (x j)).mp (h j (by omega))
  have h3:=Int.dvd_add (Int.dvd_trans h1 (Zp4 ok h j (by omega))) (Int.dvd_trans h2 (Int.dvd_mul_right _ z))
  rw[show ZaH c x (j+1)=ZaH c x j+c (j+1)*x j from rfl,show Zca c R (j+1)=Zca c R j+c (j+1)*(R j).2 from rfl,show x j=(R j).2+(R j).1*z by omega,Int.mul_add,←Int.mul_assoc]
  generalize c (j+1)*(R j).1*z=u at *
  generalize c (j+1)*(R j).2=v at *
  rwa [show ZaH c x j+(v+u)-(Zca c R j+v)=ZaH c x j-Zca c R j+u by omega]
theorem Zp5(ok:∀t,t<n→RestOk (R t))(h:ZaP n G R x): ZaP m (rcG n G C) (rcR n R C) fun t=>ZaH (C t) x n:=by
 refine⟨fun i j hi hj b e=>?_,fun t ht=>?_⟩
 ·rw[←Zpj,←Zpj,←Zp3]
  exact Zw3 h e
 ·unfold rcR
  rw[Zd8 ok n (Zz10 n)]
  exact(Zc9 (ZgC _ _ _) _).mpr (Zp4 ok h.2 n (Zz10 n))
theorem ZoK{kk:Int}{w at_ m lo:Int}{N:TL→Prop}(hk0:0≤kk)(hk9:kk≤1000)(hm:0<m)(hn:n≤9)(hK:K≤K')(hlo:-K'≤-lo)(hhi:m-1-lo≤K')(e0:σ 0=some (scr ns))(e1:σ 1=some (.int kk))(e2:σ 2=some (.int n))(e4:σ 4=some (.int w))(e5:σ 5=some (.int (1+at_)))(e3:σ 3=some (.lst (tab (n+1) fun i=>.int (c i))))(bc:SumB n c K)(h:∀σ' c',σ' 0=some (scr ns)→σ' 1=some (.int kk)→σ' 2=some (.int n)→σ' 4=some (.int w)→σ' 5=some (.int (1+at_))→σ' 3=some (.lst (tab (n+1) fun i=>.int (c' i)))→SumB n c' K'→N σ')(pm plo:PE)(epm:∀σ,pm σ=some (.int m))(eplo:∀σ,plo σ=some (.int lo)): Psk (ZaI (ZaB (Zf (Za 2) Zm)) (Z5 7) (Zbm 3 [] (Zd Za5 (Zw ZbB (Zf (Za 0) (Zf (Zd ZX (Zd ZX (Za 1) (Zj 1)) (Za 7)) (Zf pm Zm)))) plo) ZaS (Zd ZX (Za 7) (Zj 1))) σ) Q N:=by
 refine ZbQ (n:=n) (a:=fun i=>.int i) (P:=fun _ σ'=>σ' 0=some (scr ns)∧σ' 1=some (.int kk)∧σ' 2=some (.int n)∧σ' 4=some (.int w)∧σ' 5=some (.int (1+at_))∧∃c',σ' 3=some (.lst (tab (n+1) fun i=>.int (c' i)))∧SumB n c' K') ?_ ⟨e0,e1,e2,e4,e5,c,e3,bc.mono hK⟩ ?_ ?_
 ·walk_at "zz"
  rfl
 ·rintro i σ' hi ⟨f0,f1,f2,f4,f5,c',f3,bc'⟩
  obtain⟨k0,k1⟩:=Zb8 ns (kk+1+(i:Int)) hm
  walk_at "zz"
  refine⟨_,epm _,?_⟩
  walk_at "zz"
  refine ZM (Zb9 (by omega) (by omega) hm) ?_
  refine⟨_,eplo _,?_⟩
  walk_at "zz"
  refine Ziu (n:=n) (c:=c') (K:=K') (K':=K') (by walk_at "zr") (by omega) (by omega) bc' (Int.le_refl _) (by omega) (by omega) fun c2 bc2=>?_
  exact⟨by walk_at "zr",by walk_at "zr",by walk_at "zr",by walk_at "zr",by walk_at "zr",c2,ZbJ,bc2⟩
 ·rintro σ' ⟨f0,f1,f2,f4,f5,c',f3,bc'⟩
  exact h σ' c' f0 f1 f2 f4 f5 f3 bc'
theorem ZxH{kk:Int}(hk0:0≤kk)(hk9:kk≤1000)(hL:Lay ns)(hn:n≤9): Pk (ZhY [scr ns,.int kk,.int n]) fun t=>∃c,t=Zai n c∧SumB n c 1000000000:=by
 unfold ZhY Zl3
 have bn:Bd 140 (Zb7 ns kk):=Zbq (Zfp ns kk) (by decide)
 obtain⟨p0,p1⟩:=Zb8 ns kk (show(0:Int)<6 by decide)
 refine Zm6 rfl ?_
 refine Zdq (fun σ'=>σ' 0=some (scr ns)∧σ' 1=some (.int kk)∧σ' 2=some (.int n)∧∃c,σ' 3=some (.lst (tab (n+1) fun i=>.int (c i)))∧SumB n c 0) ?_ ?_
 ·walk_at "zz"
  refine ZM (Zfa hL (by omega) (by omega)) ?_
  walk_at "zz"
  refine Zfr (by omega) ?_
  refine ZpC (by omega) ?_
  rw[show cn (T.int (Zb7 ns kk)) (fun _=>T.int 0)=fun i=>T.int (cn (Zb7 ns kk) (fun _=>0) i)from by funext i;cases i <;> rfl]
  refine⟨Zhy fun _ _=>rfl,?_⟩
  refine⟨rfl,rfl,rfl,_,ZbJ,bn,fun i h1 h2=>?_⟩
  cases i with
  | zero=>omega
  | succ i=>exact⟨Int.le_refl 0,Int.le_refl 0⟩
 rintro σ1 ⟨e0,e1,e2,c,e3,bc⟩
 walk_at "zz"
 refine ZM (Zb9 (by omega) (by omega) (by decide)) ?_
 by_cases hz:Zbs ns kk 6=0∨n=0
 ·rcases hz with hz | hz
  ·walk_at "zz"
   exact⟨c,rfl,bc.mono (by decide)⟩
  ·by_cases q:Zbs ns kk 6=0
   ·walk_at "zz"
    exact⟨c,rfl,bc.mono (by decide)⟩
   ·have:(n:Int)=0:=by omega
    walk_at "zz"
    exact⟨c,rfl,bc.mono (by decide)⟩
 have hz1:Zbs ns kk 6≠0:=fun q=>hz (.inl q)
 have hn0:(n:Int)≠0:=fun q=>hz (.inr (by omega))
 obtain⟨a0,a1⟩:=Zb8 ns (kk+1) (show(0:Int)<n by omega)
 walk_at "zz"
 refine ZM (Zb9 (by omega) (by omega) (by omega)) ?_
 refine Zm7 ?_
 generalize Zbs ns kk 6=w at *
 generalize Zbs ns (kk+1) n=at_ at *
 let M:Int→TL→Prop:=fun K σ'=>σ' 0=some (scr ns)∧σ' 1=some (.int kk)∧σ' 2=some (.int n)∧σ' 4=some (.int w)∧σ' 5=some (.int (1+at_))∧∃c,σ' 3=some (.lst (tab (n+1) fun i=>.int (c i)))∧SumB n c K
 refine Zdq (M 6) ?_ ?_
 ·walk_at "zz"
  refine⟨fun q=>?_,fun q=>?_⟩
  ·obtain⟨k0,k1⟩:=Zb8 ns (kk+2) (show(0:Int)<13 by decide)
   walk_at "zz"
   refine ZM (Zb9 (by omega) (by omega) (by decide)) ?_
   walk_at "zz"
   refine Ziu (n:=n) (c:=c) (K:=0) (K':=6) (by walk_at "zr") (by omega) (by omega) bc (by decide) (by omega) (by omega) fun c' bc'=>?_
   exact⟨by walk_at "zr",by walk_at "zr",by walk_at "zr",by walk_at "zr",by walk_at "zr",c',ZbJ,bc'⟩
  ·walk_at "zz"
   exact⟨by walk_at "zr",by walk_at "zr",by walk_at "zr",by walk_at "zr",by walk_at "zr",c,by walk_at "zr",bc.mono (by decide)⟩
 clear bc e3 c
 rintro σ2 ⟨f0,f1,f2,f4,f5,c1,f3,bc1⟩
 refine Zdq (M 7) ?_ ?_
 ·have go:Psk ((Zt (ZF 6 (Zd ZX (Zj 1) (Zw ZbB (Zf (Za 0) (Zf (Zd ZX (Za 1) (Zj 2)) (Zf (Za 2) Zm)))))) (Zt (Zbm 3 [] (Zj 1) ZaS (Za 5)) (Zbm 3 [] (Zd Za5 (Zd Zq (Za 3) (Za 6)) (Zj 1)) ZaS (Za 6)))) σ2) (fun t=>∃c,t=Zai n c∧SumB n c 1000000000) (M 7):=by
   obtain⟨k0,k1⟩:=Zb8 ns (kk+2) (show(0:Int)<n by omega)
   walk_at "zz"
   refine ZM (Zb9 (by omega) (by omega) (by omega)) ?_
   generalize Zbs ns (kk+2) n=to_ at *
   walk_at "zz"
   refine Ziu (n:=n) (c:=c1) (K:=6) (K':=6) (by walk_at "zr") (by omega) (by omega) bc1 (by decide) (by decide) (by decide) fun c' bc'=>?_
   have hto:=bc'.2 (1+to_).toNat (by omega) (by omega)
   walk_at "zz"
   refine Ziu (n:=n) (c:=c') (K:=6) (K':=7) (by walk_at "zr") (by omega) (by omega) bc' (by decide) (by omega) (by omega) fun c2 bc2=>?_
   exact⟨by walk_at "zr",by walk_at "zr",by walk_at "zr",by walk_at "zr",by walk_at "zr",c2,ZbJ,bc2⟩
  have no:M 7 σ2:=⟨f0,f1,f2,f4,f5,c1,f3,bc1.mono (by decide)⟩
  by_cases q2:w=2
  ·refine Zm5 ?_
   refine⟨true,?_,fun _=>go,fun e=>by cases e⟩
   simp[bOr,ZH,Zd,Za,f4,Zj,qEq,Zij,ZbW,q2]
  ·by_cases q3:w=3
   ·refine Zm5 ?_
    refine⟨true,?_,fun _=>go,fun e=>by cases e⟩
    simp[bOr,ZH,Zd,Za,f4,Zj,qEq,Zij,ZbW,q3]
   ·walk_at "zz"
    exact no
 clear bc1 f3 c1
 clear f0 f1 f2 f4 f5
 rintro σ3 ⟨f0,f1,f2,f4,f5,c1,f3,bc1⟩
 refine Zdq (M 7) ?_ ?_
 ·walk_at "zz"
  refine⟨fun q=>?_,fun q=>?_⟩
  ·exact ZoK hk0 hk9 (m:=7) (lo:=3) (K:=7) (K':=7) (by decide) hn (by decide) (by decide) (by decide) f0 f1 f2 f4 f5 f3 bc1 (fun σ' c' g0 g1 g2 g4 g5 g3 bc'=>⟨g0,g1,g2,g4,g5,c',g3,bc'⟩) _ _ (fun _=>rfl) (fun _=>rfl)
  ·walk_at "zz"
   exact⟨f0,f1,f2,f4,f5,c1,f3,bc1⟩
 clear bc1 f3 c1
 clear f0 f1 f2 f4 f5
 rintro σ4 ⟨f0,f1,f2,f4,f5,c1,f3,bc1⟩
 refine Zdq (M 1000000000) ?_ ?_
 ·walk_at "zz"
  refine⟨fun q=>?_,fun q=>?_⟩
  ·exact ZoK hk0 hk9 (m:=2000000001) (lo:=1000000000) (K:=7) (K':=1000000000) (by decide) hn (by decide) (by decide) (by decide) f0 f1 f2 f4 f5 f3 bc1 (fun σ' c' g0 g1 g2 g4 g5 g3 bc'=>⟨g0,g1,g2,g4,g5,c',g3,bc'⟩) _ _ (fun _=>rfl) (fun _=>rfl)
  ·walk_at "zz"
   exact⟨f0,f1,f2,f4,f5,c1,f3,bc1.mono (by decide)⟩
 rintro σ5 ⟨g0,g1,g2,g4,g5,c2,g3,bc2⟩
 walk_at "zz"
 exact⟨c2,rfl,bc2⟩
theorem Zpk: ∀{n:Nat},(∀i,1≤i→i≤n→¬0<c i)→Zax c n=[]
 | n,h=>List.eq_nil_iff_forall_not_mem.mpr fun i hi=>h i (ups_mem.mp hi).1 (ups_mem.mp hi).2.1 (ups_mem.mp hi).2.2
theorem Zpl: ∀{n:Nat},(∀i,1≤i→i≤n→¬c i<0)→ZaA c n=[]
 | n,h=>List.eq_nil_iff_forall_not_mem.mpr fun i hi=>h i (dns_mem.mp hi).1 (dns_mem.mp hi).2.1 (dns_mem.mp hi).2.2
theorem Zp6{c:Nat→Int}{a:Nat}: ∀{n:Nat},(∀i,1≤i→i≤n→(0<c i↔i=a))→1≤a→a≤n→Zax c n=[a]
 | 0,_,h1,h2=>by omega
 | n+1,h,h1,h2=>by
  have hn:=h (n+1) (by omega) (by omega)
  show Zax c n++(if 0<c (n+1)then [n+1]else [])=[a]
  by_cases q:n+1=a
  ·rw[if_pos (hn.mpr q),Zpk (fun i g1 g2 g=>by have:=(h i g1 (by omega)).mp g;omega),q];rfl
  ·rw[if_neg (fun g=>q (hn.mp g)),Zp6 (fun i g1 g2=>h i g1 (by omega)) h1 (by omega)];rfl
theorem Zp7{c:Nat→Int}{a:Nat}: ∀{n:Nat},(∀i,1≤i→i≤n→(c i<0↔i=a))→1≤a→a≤n→ZaA c n=[a]
 | 0,_,h1,h2=>by omega
 | n+1,h,h1,h2=>by
  have hn:=h (n+1) (by omega) (by omega)
  show ZaA c n++(if c (n+1)<0 then [n+1]else [])=[a]
  by_cases q:n+1=a
  ·rw[if_pos (hn.mpr q),Zpl (fun i g1 g2 g=>by have:=(h i g1 (by omega)).mp g;omega),q];rfl
  ·rw[if_neg (fun g=>q (hn.mp g)),Zp7 (fun i g1 g2=>h i g1 (by omega)) h1 (by omega)];rfl
theorem Zfx{a:Nat}(h:1≤a): unC a a=1:=by unfold unC;rw[if_pos ⟨by omega,rfl⟩]
theorem Zeg{a:Nat}(h:k≠a): unC a k=0:=by unfold unC;rw[if_neg (fun q=>h q.2)]
theorem ZqB{a:Nat}(ha:a<n+1)(hb:b<n+1)(hd:∀i,i<n+1→G i i=some 0): grt n G (fun k=>unC a k-unC b k)=G a b:=by
 by_cases hab:a=b
 ·subst hab
  rw[ZqN (fun k=>by omega),hd a ha]
 have c0:(fun k=>unC a k-unC b k) 0=0:=by
  show unC a 0-unC b 0=0
  unfold unC
  rw[if_neg (by omega),if_neg (by omega)];rfl
 generalize hc:(fun k=>unC a k-unC b k)=c at *
 have hk:∀k,c k=unC a k-unC b k:=fun k=>by rw[←hc]
 have hu:∀k,(unC a k=1∧1≤a∧k=a)∨(unC a k=0∧(a=0∨k≠a)):=fun k=>by
  unfold unC
  split
  ·rename_i q;exact .inl ⟨rfl,q.1,q.2⟩
  ·rename_i q;exact .inr ⟨rfl,by omega⟩
 have hv:∀k,(unC b k=1∧1≤b∧k=b)∨(unC b k=0∧(b=0∨k≠b)):=fun k=>by
  unfold unC
  split
  ·rename_i q;exact .inl ⟨rfl,q.1,q.2⟩
  ·rename_i q;exact .inr ⟨rfl,by omega⟩
 have up:1≤a→Zax c n=[a]:=fun h1=>Zp6 (fun i g1 g2=>by rw[hk];have:=hu i;have:=hv i;omega) h1 (by omega)
 have up0:a=0→Zax c n=[]:=fun h1=>Zpk fun i g1 g2=>by rw[hk];have:=hu i;have:=hv i;omega
 have dn:1≤b→ZaA c n=[b]:=fun h1=>Zp7 (fun i g1 g2=>by rw[hk];have:=hu i;have:=hv i;omega) h1 (by omega)
 have dn0:b=0→ZaA c n=[]:=fun h1=>Zpl fun i g1 g2=>by rw[hk];have:=hu i;have:=hv i;omega
 unfold grt
 by_cases h:1≤a∧1≤b
 ·have ca:c a=1:=by rw[hk,Zfx h.1,Zeg (by omega)];rfl
  have cb:c b = -1:=by rw[hk,Zfx h.2,Zeg (by omega)];rfl
  have hD:Df n c:=df_iff.mpr ⟨by rw[up h.1,List.map_cons,ca];rfl,by rw[dn h.2,List.map_cons,cb];rfl⟩
  rw[Za9 hD]
  obtain⟨u,d,e1,e2,_,_,_,_,_,_,i1,i2,_,_⟩:=Zgk hD
  rw[up h.1]at e1
  rw[dn h.2]at e2
  cases e1;cases e2
  show addO (G (1+(xsI n c).idxOf 1) (1+(xsI n c).idxOf (-1))) (some (c 0))=_
  rw[i1,i2,c0]
  cases G a b with
  | none=>rfl
  | some y=>show some (y+0)=some y;rw[Int.add_zero]
 ·have hD:¬Df n c:=fun q=>by
   obtain⟨h1,h2⟩:=df_iff.mp q
   by_cases g:1≤a
   ·rw[dn0 (by omega)]at h2;cases h2
   ·rw[up0 (by omega)]at h1;cases h1
  rw[ZbR hD]
  show(ZbZ c (S40 G) n).2=_
  obtain⟨t1,t2⟩:=tot (G:=G) (c:=c) n
  by_cases g:1≤a
  ·have hb0:b=0:=by omega
   have ca:c a=1:=by rw[hk,Zfx g,Zeg (by omega)];rfl
   subst hb0
   cases e:G a 0 with
   | none=>exact t1 (.inl ⟨a,by rw[up g];exact Zz9.mpr rfl,e⟩)
   | some y=>
    rw[t2 (fun q=>by
     rcases q with⟨i,hi,q⟩ | ⟨i,hi,q⟩
     ·rw[up g]at hi;rw[List.mem_singleton.mp hi,e]at q;cases q
     ·rw[dn0 rfl]at hi;cases hi),up g,dn0 rfl,c0]
    simp[sU,sD,ca,e]
  ·have ha0:a=0:=by omega
   have hb1:1≤b:=by omega
   have cb:c b = -1:=by rw[hk,Zfx hb1,Zeg (by omega)];rfl
   subst ha0
   cases e:G 0 b with
   | none=>exact t1 (.inr ⟨b,by rw[dn hb1];exact Zz9.mpr rfl,e⟩)
   | some y=>
    rw[t2 (fun q=>by
     rcases q with⟨i,hi,q⟩ | ⟨i,hi,q⟩
     ·rw[up0 rfl]at hi;cases hi
     ·rw[dn hb1]at hi;rw[List.mem_singleton.mp hi,e]at q;cases q),up0 rfl,dn hb1,c0]
    simp[sU,sD,cb,e]
theorem Zni{a:Nat}{R:Nat→Int×Int}(h1:1≤a)(nn:0≤(R (a-1)).1): ∀j,Zb0 (unC a) R j=(if a≤j then(R (a-1)).1 else 0)∧Zca (unC a) R j=if a≤j then(R (a-1)).2 else 0
 | 0=>by
  rw[if_neg (by omega),if_neg (by omega)]
  exact⟨rfl,Zeg (by omega)⟩
 | j+1=>by
  obtain⟨i1,i2⟩:=Zni h1 nn j
  show((Int.gcd (Zb0 (unC a) R j) (unC a (j+1)*(R j).1):Nat):Int)=_∧Zca (unC a) R j+unC a (j+1)*(R j).2=_
  rw[i1,i2]
  by_cases q:j+1=a
  ·subst q
   rw[Zfx h1,if_neg (by omega),if_pos (by omega),if_neg (by omega),if_pos (by omega),Nat.add_sub_cancel]
   rw[Nat.add_sub_cancel]at nn
   constructor
   ·rw[Int.one_mul,Int.gcd_zero_left];omega
   ·omega
  ·rw[Zeg q,Int.zero_mul,Int.zero_mul,Int.gcd_zero_right]
   by_cases g:a≤j
   ·rw[if_pos g,if_pos (by omega),if_pos g,if_pos (by omega)]
    exact⟨by omega,by omega⟩
   ·rw[if_neg g,if_neg (by omega),if_neg g,if_neg (by omega)]
    exact⟨rfl,rfl⟩
theorem Zp8{a:Nat}(ok:∀t,t<n→RestOk (R t))(h1:1≤a)(h2:a≤n): Zd1 (unC a) R n=R (a-1):=by
 have oa:=ok (a-1) (by omega)
 rw[Zd8 ok n (Zz10 n),(Zni h1 oa.nn n).1,(Zni h1 oa.nn n).2,if_pos h2,if_pos h2]
 exact Zf1 (ZcN oa.nn _) oa fun x=>by rw[Zc9 oa.nn,Zbj oa.nn]
noncomputable def fO(o:Nat→Nat): Nat→Nat
 | 0=>0
 | t+1=>o t
noncomputable def trG(G:Nat→Nat→Option Int)(o:Nat→Nat)(i j:Nat): Option Int:=G (fO o i) (fO o j)
noncomputable def trR(R:Nat→Int×Int)(o:Nat→Nat)(t:Nat): Int×Int:=R (o t-1)
noncomputable def Ord(n m:Nat)(o:Nat→Nat): Prop:=∀t,t<m→1≤o t∧o t≤n
theorem Ord.lt{o:Nat→Nat}(h:Ord n m o): ∀i,i<m+1→fO o i<n+1
 | 0,_=>by show 0<n+1;omega
 | t+1,ht=>by have:=h t (by omega);show o t<n+1;omega
theorem Zp9{o:Nat→Nat}: ∀i,ZcA (fun t=>unC (o t)) i=unC (fO o i)
 | 0=>unC_0.symm
 | t+1=>rfl
theorem ZxI{o:Nat→Nat}(hd:∀i,i<n+1→G i i=some 0)(ho:Ord n m o): ∀i j,i<m+1→j<m+1→rcG n G (fun t=>unC (o t)) i j=trG G o i j:=fun i j hi hj=>by
 unfold rcG dC trG
 rw[Zp9,Zp9]
 exact ZqB (ho.lt i hi) (ho.lt j hj) hd
theorem Zw6{o:Nat→Nat}(ok:∀t,t<n→RestOk (R t))(ho:Ord n m o): ∀t,t<m→rcR n R (fun t=>unC (o t)) t=trR R o t:=fun t ht=>Zp8 ok (ho t ht).1 (ho t ht).2
theorem Zst(hn:n≤900): ZhM [Zai n c,Zai n d]=some (Zai n fun k=>c k-d k):=by
 apply Pk.eq
 unfold ZhM Zly Zai
 walk_at "zz"
 refine Zby (n:=n+1) (a:=fun i=>.int i) (b:=fun i=>.int (c i-d i)) (by omega) ?_ (fun i hi=>?_) rfl
 ·walk_at "zz"
  rfl
 ·walk_at "zz"
  rfl
theorem Znj(hp:RestOk p)(hq:RestOk q)(h:∀x,ZaE p x→ZaE q x): RIn p q:=by
 have e:∀x,p.1 ∣ x-p.2→q.1 ∣ x-q.2:=fun x hx=>(Zbj hq.nn x).mp (h x ((Zbj hp.nn x).mpr hx))
 have a1:q.1 ∣ p.2-q.2:=e p.2 (by simp)
 have a2:q.1 ∣ p.2+p.1-q.2:=e (p.2+p.1) (by rw[show p.2+p.1-p.2=p.1 by omega];exact Int.dvd_refl _)
 have c1:q.1 ∣ p.1:=by have:=Int.dvd_sub a2 a1;rwa [show p.2+p.1-q.2-(p.2-q.2)=p.1 by omega]at this
 unfold RIn
 split
 ·rename_i z
  rw[z,Int.zero_dvd]at a1 c1
  exact Prod.ext (by rw[c1,z]) (by omega)
 ·exact⟨Int.emod_eq_zero_of_dvd c1,Int.emod_eq_zero_of_dvd a1⟩
theorem Zr4(hR:∀t,t<n→RestOk (R t))(s:Sharp n G R G2 R2 M k): ZiG n G2 R2 G R:=by
 obtain⟨R1,h1,h2,h3,h4,rfl,h6⟩:=s.go
 refine⟨fun i hi j hj=>?_,fun t ht=>?_⟩
 ·refine Zcc (ZgS (n+1) i j) (Zcc (Zv1 fun b e q=>h3 ⟨i,j,hi,hj,b,e,q⟩) (ZgS (n+1) i j))
 ·refine Znj (h6 t ht).1.1 (hR t ht) fun x hx=>?_
  have a:=((h6 t ht).2 x).mp hx
  have b:=((h2 t ht).2 x).mp a.1
  exact b.1
theorem Znk{a:Nat}{x:Nat→Int}(h1:1≤a): ∀n,ZaH (unC a) x n=if a≤n then x (a-1)else 0
 | 0=>by rw[if_neg (by omega)];exact Zeg (by omega)
 | n+1=>by
  show ZaH (unC a) x n+unC a (n+1)*x n=_
  rw[Znk h1 n]
  by_cases q:n+1=a
  ·subst q
   rw[Zfx h1,if_neg (by omega),if_pos (by omega),Nat.add_sub_cancel];omega
  ·rw[Zeg q,Int.zero_mul]
   by_cases g:a≤n
   ·rw[if_pos g,if_pos (by omega)];omega
   ·rw[if_neg g,if_neg (by omega)];rfl
theorem Zwa: Pln 2 (Zav n m C):=.lst fun t h=>by
 obtain⟨i,hi,rfl⟩:=ZcY h
 have:=ZmV (tab (n+1) (C i))
 rw[tab_map]at this
 exact this
theorem ZtZ(hn:n≤100)(h:D=.none∨∃G R,D=ZJ n G R): ∃t,ZeX [D]=some t:=by
 have key:Pk (ZeX [D]) fun _=>True:=by
  unfold ZeX Zkb
  refine ZpH rfl ?_
  rcases h with rfl | ⟨G,R,rfl⟩
  ·walk_at "zz"
   exact⟨_,rfl,trivial⟩
  ·have hne:∀{Q:T→Prop},Q (.bool true)→Pk (Zb4 (ZJ n G R) .none) Q:=fun h=>⟨_,rfl,h⟩
   walk_at "zz"
   refine hne ?_
   refine Zn7 ?_
   refine Zqh rfl ?_
   obtain⟨l,hg,hl⟩:=ZxC (n:=n) (G:=G) (R:=R)
   obtain⟨u,hu⟩:=ZxE (n:=n) (g:=.lst (l++[.lst [.int 7]])) (w:=.tup [.int 7,.int 7]) (R:=R) hn
   have ha:=ZxD (l:=l) (w:=.lst [.int 7]) (r:=ZaQ n R) (by omega)
   have w1:ZaW (Zf (Zj 7) Zm)=fun _=>some (.lst [.int 7]):=rfl
   have w2:ZaC (Zf (Zj 7) (Zf (Zj 7) Zm))=fun _=>some (.tup [.int 7,.int 7]):=rfl
   have e:(fun i=>[ZJ n G R][i]?:TL) 0=some (ZJ n G R):=rfl
   refine⟨none,ZW (ZW (ZW (fun i=>[ZJ n G R][i]?) 0 (.tup [.lst l,ZaQ n R])) 0 (.tup [.lst (l++[.lst [.int 7]]),ZaQ n R])) 0 u,?_,by simp,fun _=>⟨u,ZbJ,trivial⟩⟩
   simp only[Zt,Zbm,ZcW,ZaS,Zcy,Zj,Option.bind_some,e,List.nil_append,List.cons_append,hg,Option.map_some,ZhR,w1,w2,ZbJ,ha,hu]
 obtain⟨t,e,_⟩:=key
 exact⟨t,e⟩
noncomputable def DueOk(m:Nat)(D:T): Prop:=D=.none∨∃G R,D=ZJ m G R∧(∀i,i<m+1→G i i=some 0)∧∀t,t<m→RestOk (R t)
theorem DueOk.same(hm:m≤100)(h:DueOk m D): Zd6 [D,D]=some (.bool true):=by
 rcases h with rfl | ⟨G,R,rfl,hd,ok⟩
 ·exact ZrI
 ·exact ZrJ hm hd ok
theorem DueOk.sh(h:DueOk m D): D=.none∨∃G R,D=ZJ m G R:=by
 rcases h with rfl | ⟨G,R,rfl,_,_⟩
 ·exact .inl rfl
 ·exact .inr ⟨G,R,rfl⟩
theorem Zn2{S:T}: ZcH [.none,S]=some .none:=by
 apply Pk.eq
 unfold ZcH Zh7
 walk_at "zz"
 rfl
theorem Zjg{S:T}: ZcD [.none,S]=some .none:=by
 apply Pk.eq
 unfold ZcD Zho
 walk_at "zz"
 rfl
theorem Ztb{K:Nat}(hM:0<M)(bM:Bd K M)(bG:BdG (n+1) k G)(hk:k+n+1≤K)(s:Sharp n G R G2 R2 M K): BdG (n+1) (K+n+2) G2∧∀t,t<n→RBd K (R2 t):=by
 obtain⟨R1,_,h1,_,_,rfl,h2⟩:=s.go
 refine⟨?_,fun t ht=>(h2 t ht).1.bd hM bM⟩
 have b1:BdG (n+1) K (clG G (n+1)):=fun a b c ha hb e=>(Zem bG (n+1) (Zz10 _) a b c ha hb e).mono (by omega)
 have b2:=Znh hM bM b1 fun t ht=>(h1 t ht).1
 exact fun a b c ha hb e=>(Zem b2 (n+1) (Zz10 _) a b c ha hb e).mono (by omega)
theorem ZlH{y:Nat→Int}(h:ZaP n G R x)(e:∀t,t<n→y t=x t): ZaP n G R y:=by
 have f:∀i,i<n+1→ZaG y i=ZaG x i:=fun i hi=>by
  cases i with
  | zero=>rfl
  | succ i=>exact e i (by omega)
 exact⟨fun i j hi hj b q=>by rw[f i hi,f j hj];exact h.1 i j hi hj b q,fun t ht=>by rw[e t ht];exact h.2 t ht⟩
theorem ZuZ{a:Nat}(h:a≤n): (tab n f).take a=tab a f:=by
 unfold tab
 rw[←List.map_take,List.take_range,Nat.min_eq_left h]
noncomputable def ZdF(N:Nat)(R:Nat→Int×Int)(p:Nat→Nat)(R':Nat→Int×Int)(L:Nat)(ρ:Nat→Option (Int×Int)): Prop:=(∀t,t<N→(∀j,j<L→p j≠t)→ρ t=some (R t))∧∀j,j<L→Met (R (p j)) (R' j) (ρ (p j))
theorem Zsu{p:Nat→Nat}{a b:Nat→Option (Int×Int)}(ha:ZdF N R p R' L a)(hb:ZdF N R p R' L b): ∀t,t<N→a t=b t:=fun t ht=>by
 by_cases c:∃j,j<L∧p j=t
 ·obtain⟨j,hj,rfl⟩:=c
  exact Zog (ha.2 j hj) (hb.2 j hj)
 ·have hn:∀j,j<L→p j≠t:=fun j hj e=>c ⟨j,hj,e⟩
  rw[ha.1 t ht hn,hb.1 t ht hn]
theorem ZoL{p:Nat→Nat}(hp:∀i,i<L+1→p i<N)(inj:∀i j,i<L+1→j<L+1→p i=p j→i=j)(h:ZdF N R p R' L ρ)(hm:Met (R (p L)) (R' L) o): ZdF N R p R' (L+1) (fun t=>if t=p L then o else ρ t):=by
 refine⟨fun t ht hn=>?_,fun j hj=>?_⟩
 ·have:t≠p L:=fun e=>hn L (by omega) e.symm
  simp only[this,if_false]
  exact h.1 t ht fun j hj=>hn j (by omega)
 ·by_cases c:j=L
  ·subst c
   simp only[if_true]
   exact hm
  ·have:p j≠p L:=fun e=>c (inj j L hj (by omega) e)
   simp only[this,if_false]
   exact h.2 j (by omega)
theorem Zqa: (oR o).flat=true:=by cases o <;> rfl
theorem ZqC: (tab N fun t=>if t=k then oR o else oR (ρ t))=tab N fun t=>oR (if t=k then o else ρ t):=Za7 fun t _=>by
 by_cases c:t=k
 ·rw[if_pos c,if_pos c]
 ·rw[if_neg c,if_neg c]
noncomputable def ZgU(N:Nat)(G:Nat→Nat→Option Int)(ρ:Nat→Option (Int×Int))(t:T): Prop:=(t=.none∧∃i,i<N∧ρ i=none)∨(t=ZJ N G (fun i=>(ρ i).getD (1,0))∧∀i,i<N→ρ i≠none)
theorem Zr5{a b:Nat→Option (Int×Int)}{t u:T}(h:∀i,i<N→a i=b i)(ha:ZgU N G a t)(hb:ZgU N G b u): t=u:=by
 rcases ha with⟨rfl,i,hi,e⟩ | ⟨rfl,ha⟩
 ·rcases hb with⟨rfl,_⟩ | ⟨rfl,hb⟩
  ·rfl
  ·exact absurd ((h i hi).symm.trans e) (hb i hi)
 ·rcases hb with⟨rfl,i,hi,e⟩ | ⟨rfl,hb⟩
  ·exact absurd ((h i hi).trans e) (ha i hi)
  ·exact toldT_inj.mpr ⟨fun _ _ _ _=>rfl,fun i hi=>by rw[h i hi]⟩
noncomputable def qOf(p:Nat→Nat): Nat→Nat
 | 0=>0
 | i+1=>p i+1
theorem ZxS(p:Nat→Nat): cn (T.int 0) (fun i=>T.int ((p i:Int)+1))=fun i=>T.int (qOf p i:Nat):=by
 funext i
 cases i with
 | zero=>rfl
 | succ i=>show T.int ((p i:Int)+1)=T.int ((p i+1:Nat):Int);congr 1
theorem Zpm(h:∀i,i<N→ρ i≠none): T.tup [Z8 (N+1) G,.lst (tab N fun t=>oR (ρ t))]=ZJ N G (fun i=>(ρ i).getD (1,0)):=by
 unfold ZJ ZaQ
 congr 4
 refine Za7 fun i hi=>?_
 show oR (ρ i)=ZZ ((ρ i).getD (1,0))
 cases e:ρ i with
 | none=>exact absurd e (h i hi)
 | some q=>rfl
theorem Ztc{p:Nat→Nat}(hN:N≤90)(hL:L≤90)(hb:b≤8000)(hp:∀i,i<L→p i<N)(inj:∀i j,i<L→j<L→p i=p j→i=j)(ok:∀t,t<N→RestOk (R t))(ok':∀t,t<L→RestOk (R' t))(bR:∀t,t<N→RBd b (R t))(bR':∀t,t<L→RBd b (R' t)): Pk (Ze9 [ZJ N Γ R,.lst (tab L fun i=>.int ((p i:Int)+1)),ZJ L G' R']) fun t=>∃ρ,ZdF N R p R' L ρ∧ZgU N (Zci (qOf p) G' (L+1) Γ (L+1)) ρ t:=by
 unfold Ze9 Zl0
 have ht:∀{n:Nat} {G:Nat→Nat→Option Int} {R:Nat→Int×Int},ZJ n G R=.tup [Z8 (n+1) G,.lst (tab n fun i=>ZZ (R i))]:=rfl
 rw[ht,ht]
 walk_at "zz"
 refine Zez (n:=L) (a:=fun i=>.int ((p i:Int)+1)) (c:=fun i=>ZZ (R' i)) (P:=fun i σ=>∃ρ,σ 0=some (.tup [Z8 (N+1) Γ,.lst (tab N fun i=>ZZ (R i))])∧σ 1=some (.lst (tab L fun i=>.int ((p i:Int)+1)))∧σ 2=some (.tup [Z8 (L+1) G',.lst (tab L fun i=>ZZ (R' i))])∧σ 3=some (.lst (tab N fun t=>oR (ρ t)))∧ZdF N R p R' i ρ) ?_ ⟨fun t=>some (R t),by walk_at "zr",by walk_at "zr",by walk_at "zr",by walk_at "zr",fun t _ _=>rfl,fun j hj=>by omega⟩ ?_ ?_
 ·walk_at "zz"
  rfl
 ·rintro i σ hi ⟨ρ,e0,e1,e2,e3,hl⟩
  have hpi:=hp i hi
  have hidx:((p i:Int)+1-1).toNat=p i:=by omega
  have hr:ρ (p i)=some (R (p i)):=hl.1 (p i) hpi fun j hj e=>by have:=inj j i (by omega) hi e;omega
  walk_at "zz"
  rw[hidx,hr]
  refine(ZkP (k:=b) hb (ok _ hpi) (ok' i hi) (bR _ hpi) (bR' i hi)).mono ?_
  rintro _ ⟨o,rfl,hm,_⟩
  refine⟨Zqa,?_⟩
  walk_at "zz"
  refine ZhS (n:=N) (f:=fun t=>oR (ρ t)) (by walk_at "zr") (by omega) (by omega) ?_
  rw[hidx,ZqC]
  exact⟨_,by walk_at "zr",by walk_at "zr",by walk_at "zr",by walk_at "zr",ZoL (fun j hj=>hp j (by omega)) (fun i' j' h1 h2=>inj i' j' (by omega) (by omega)) hl hm⟩
 ·rintro σ ⟨ρ,e0,e1,e2,e3,hl⟩
  have hq:∀i,i<L+1→qOf p i<N+1:=fun i hi=>by
   cases i with
   | zero=>exact Nat.succ_pos N
   | succ i=>show p i+1<N+1;have:=hp i (by omega);omega
  walk_at "zz"
  refine ZfD (.none (n:=0)) (Zed (n:=1) fun i _=>ZiR) ?_
  by_cases hc:∃i,i<N∧ρ i=none
  ·obtain⟨i,hi,ei⟩:=hc
   rw[Za9 (show T.none∈tab N fun i=>oR (ρ i)from List.mem_of_getElem? (i:=i) (by rw[Za8 hi,ei];rfl))]
   walk_at "zz"
   exact⟨ρ,hl,.inl ⟨rfl,i,hi,ei⟩⟩
  ·rw[ZbR (show ¬T.none∈tab N fun i=>oR (ρ i)from fun h=>by
    obtain⟨i,hi,e⟩:=ZcY h
    exact hc ⟨i,hi,oR_none.mp e.symm⟩)]
   have hne:∀i,i<N→ρ i≠none:=fun i hi e=>hc ⟨i,hi,e⟩
   walk_at "zz"
   rw[ZxS]
   refine ZM (ZqS (by omega) (by omega) hq) ?_
   walk_at "zz"
   exact⟨ρ,hl,.inr ⟨Zpm hne,hne⟩⟩
theorem ZoM{a:Nat}(h:v=Γ a b): ZbT Γ a b v=Γ:=by
 funext i j
 by_cases c:i=a∧j=b
 ·obtain⟨rfl,rfl⟩:=c
  rw[Zfq,h]
 ·rw[ZeA c]
theorem Zw7{b:Option Int}: Zbp none b=b:=by
 unfold Zbp
 by_cases c:leO none b
 ·rw[Za9 c]
  cases b with
  | none=>rfl
  | some y=>exact absurd c Zip
 ·rw[ZbR c];rfl
theorem Zwb{x:Int}(h:y<x): Zbp (some x) (some y)=some y:=by
 unfold Zbp
 rw[ZbR (by rw[leO_some];omega)]
 rfl
noncomputable def gT(N:Nat)(Γ:Nat→Nat→Option Int): T:=.lst (tab N fun a=>.lst (tab N fun b=>oT (Γ a b)))
theorem Zwc{b:Option Int}(ha:∀y,a=some y→Bd k y)(hb:∀y,b=some y→Bd k y): ∀y,Zbp a b=some y→Bd k y:=fun y e=>by
 rcases ZeB a b with q | q
 ·exact ha y (q▸e)
 ·exact hb y (q▸e)
theorem ZqD{n b:Nat}{c x:Nat→Int}(bc:∀i,i<n+1→Bd b (c i))(bx:∀i,i<n→Bd b (x i)): ∀j,j≤n→Bd (b+b+j) (ZaH c x j)
 | 0,_=>(bc 0 (by omega)).mono (by omega)
 | j+1,hj=>by
  have h1:=ZqD bc bx j (by omega)
  have h2:=((bc (j+1) (by omega)).mul (bx j (by omega))).mono (show b+b≤b+b+j by omega)
  exact h1.add h2
noncomputable def Tm(n K:Nat)(M:Int)(P:(Nat→Int)→Prop)(I:(Nat→Nat→Option Int)→(Nat→Int×Int)→Prop)(D:T): Prop:=(D=.none∧∀x,¬P x)∨∃G R,D=ZJ n G R∧(∀i,i<n+1→G i i=some 0)∧(∀t,t<n→RB M K (R t))∧GB K n G∧(∀x,P x→ZaP n G R x)∧I G R
theorem ZmW(hn:n≤20)(hk:k+2*n+4≤7000)(hM:0<M)(bM:Bd k M)(hd:∀i,i<n+1→G i i=some 0)(bG:GB k n G)(hR:∀t,t<n→RB M k (R t)): ∃D,Zck [ZJ n G R]=some D∧Zcu [ZJ n G R]=some D∧Tm n (k+3*n+7) M (ZaP n G R) (fun G2 R2=>ZiG n G2 R2 G R) D:=by
 have bG2:BdG (n+1) k G:=fun a b c ha hb e=>bG a b ha hb c e
 obtain⟨D,et,hD⟩:=ZuS (k:=k) (by omega) (by omega) hM bM hd bG2 hR
 obtain⟨u,eu,hu⟩:=Zr0 (k:=k) (by omega) (by omega) hM bM hd bG2 hR
 have:=Zs6 hD hu
 subst this
 refine⟨D,et,eu,?_⟩
 rcases hD with⟨G2,R2,rfl,s⟩ | ⟨rfl,f⟩
 ·obtain⟨z1,z2⟩:=Ztb hM (bM.mono (by omega)) bG2 (by omega) s
  obtain⟨_,_,_,_,_,_,h6⟩:=s.go
  exact .inr ⟨G2,R2,rfl,(Zs8 hd s).1,fun t ht=>(h6 t ht).1.mono (by omega),fun i j hi hj b e=>(z1 i j b hi hj e).mono (by omega),fun x li=>Zs0 li s,Zr4 (fun t ht=>(hR t ht).1) s⟩
 ·exact .inl ⟨rfl,fun x li=>absurd f (Zsn li)⟩
theorem Zr6(hn:n≤100)(hi:1≤i)(hi2:i≤9000)(bc:∀j,j<n+1→Bd i (c j))(bR:∀j,j<n→RBd i (R j))(ok:∀j,j<n→RestOk (R j)): ZhF [Zai n c,.lst (tab n fun j=>ZZ (R j))]=some (ZZ (Zd1 c R n)):=by
 apply Pk.eq
 unfold ZhF Zli Zai
 walk_at "zz"
 refine Zez (n:=n) (a:=fun j=>.int (c (j+1))) (c:=fun j=>ZZ (R j)) (P:=fun j σ=>σ 2=some (ZZ (Zd1 c R j))) ?_ rfl ?_ ?_
 ·refine Zm8 ?_
  refine Zl8 ?_
  walk_at "zz"
  refine⟨_,rfl,?_⟩
  rw[ZmA]
  walk_at "zz"
  rfl
 ·rintro j σ hj e2
  have hr:=(ok j hj).nn
  have bt:Bd (i+i) (Zc0 (R j) (c (j+1))).1:=by
   unfold Zc0
   rw[Zga]
   exact(bR j hj).1.mul (ZvY (bc (j+1) (by omega)))
  have bv:Bd (i+i) (Zd1 c R j).1:=by
   rw[Zd8 ok j (by omega),Zga]
   exact Zir bc bR j (by omega)
  walk_at "zz"
  refine ZM (ZnJ (k:=i) (by omega) hr (bR j hj) (bc (j+1) (by omega))) ?_
  walk_at "zz"
  refine ZM (Zkh (k:=i+i) (by omega) bv bt) ?_
  walk_at "zz"
  exact ZbJ
 ·rintro σ e2
  walk_at "zz"
  rfl
theorem ZqY(hn:n≤100)(hb:b≤9000)(bc:∀j,j<n+1→Bd b (c j))(bR:∀j,j<n→RBd b (R j))(ok:∀j,j<n→RestOk (R j)): Zhc [Zai n c,.lst (tab n fun j=>ZZ (R j))]=some (ZZ (Zd1 c R n)):=by
 apply Pk.eq
 unfold Zhc Zjx Zai
 rw[Zd8 ok n (Zz10 n)]
 walk_at "zz"
 refine ZbQ (n:=n) (a:=fun i=>.int i) (P:=fun j σ=>σ 0=some (.lst (tab (n+1) fun i=>.int (c i)))∧σ 1=some (.lst (tab n fun j=>ZZ (R j)))∧σ 2=some (.int (Zb0 c R j))∧σ 3=some (.int (Zca c R j))) ?_ ⟨by walk_at "zr",by walk_at "zr",by walk_at "zr",by walk_at "zr"⟩ ?_ ?_
 ·walk_at "zz"
  rfl
 ·rintro j σ hj ⟨e0,e1,e2,e3⟩
  have bj:=bR j hj
  have cj:=bc (j+1) (by omega)
  have h1:j+1<n+1:=by omega
  have e1':ZW (ZW (ZW σ 4 (.int (j:Nat))) 2 (.int (Zb0 c R (j+1)))) 3 (.int (Zca c R (j+1))) 1=some (.lst (tab n fun j=>ZZ (R j))):=e1
  unfold ZZ at e1
  have e':((j:Int)+1).toNat=j+1:=by omega
  walk_at "zz"
  rw[e']
  refine ZbK (Zb3 cj bj.1 (by omega) (by omega)) ?_
  walk_at "zz"
  refine ZM (Zoe ((Zir bc bR j (by omega)).mono (by omega)) ((cj.mul bj.1).mono (by omega))) ?_
  walk_at "zz"
  rw[e']
  refine ZbK (Zb3 cj bj.2 (by omega) (by omega)) ?_
  walk_at "zz"
  exact⟨by walk_at "zr",e1',by walk_at "zr",by walk_at "zr"⟩
 ·rintro σ ⟨e0,e1,e2,e3⟩
  walk_at "zz"
  exact ZM Ze4 rfl
theorem Zpn{c:Nat→Int}{R:Nat→Int×Int}{n i m:Nat}(bc:∀j,j<n+1→Bd i (c j))(bm:∀j,j<n→Bd m (R j).1): ∀j,j≤n→Bd (i+m) (Zb0 c R j)
 | 0,_=>Zc6
 | j+1,h=>Zqr (Zpn bc bm j (by omega)) ((bc (j+1) (by omega)).mul (bm j (by omega)))
theorem Zw8{a b:Int}(ha:Bd i a)(hb:Bd j b): Bd (i+j) ((Int.lcm a b:Nat):Int):=by
 unfold Bd at *
 by_cases h:a=0∨b=0
 ·rcases h with e | e <;> subst e
  ·rw[Int.lcm_zero_left];exact Nat.pow_pos (by decide)
  ·rw[Int.lcm_zero_right];exact Nat.pow_pos (by decide)
 ·have:Int.lcm a b≤a.natAbs*b.natAbs:=Nat.le_of_dvd (Nat.mul_pos (by omega) (by omega)) (Nat.lcm_dvd_mul _ _)
  rw[Int.natAbs_natCast,Nat.pow_add]
  exact Nat.lt_of_le_of_lt this (Nat.mul_lt_mul'' ha hb)
noncomputable def Tf(n:Nat)(P:(Nat→Int)→Prop)(I:(Nat→Nat→Option Int)→(Nat→Int×Int)→Prop)(D:T): Prop:=(D=.none∧∀x,¬P x)∨∃G R,D=ZJ n G R∧(∀i,i<n+1→G i i=some 0)∧(∀t,t<n→RestOk (R t))∧(∀x,P x→ZaP n G R x)∧I G R
theorem Tm.tf{K:Nat}(h:Tm n K M P I D): Tf n P I D:=by
 rcases h with h | ⟨G,R,rfl,h1,h2,h3,h4,h5⟩
 ·exact .inl h
 ·exact .inr ⟨G,R,rfl,h1,fun t ht=>(h2 t ht).1,h4,h5⟩
theorem Tf.due(h:Tf n P I D): DueOk n D:=by
 rcases h with⟨rfl,_⟩ | ⟨G,R,rfl,h1,h2,h3,h4⟩
 ·exact .inl rfl
 ·exact .inr ⟨G,R,rfl,h1,h2⟩
theorem ZgD{x:Int}(op:RestOk p)(oq:RestOk q)(h:RIn p q)(hx:ZaE p x): ZaE q x:=by
 unfold RIn at h
 split at h
 ·rw[←h];exact hx
 ·refine(Zbj oq.nn x).mpr ?_
  have a:=(Zbj op.nn x).mp hx
  have b:=Int.dvd_trans (Int.dvd_of_emod_eq_zero h.1) a
  have:=Int.dvd_add b (Int.dvd_of_emod_eq_zero h.2)
  rwa [show x-p.2+(p.2-q.2)=x-q.2 by omega]at this
theorem ZqE(hM:0<M)(bM:Bd m M)(h:RB M k q): Bd m q.1:=by
 rcases h.2.1 with e | e
 ·rw[e];exact Zc6
 ·have:=Nat.le_of_dvd (by omega) (Int.natAbs_dvd_natAbs.mpr e)
  unfold Bd at *
  omega
theorem Zw9(h:∀i,i<n+1→G i i=some 0): ∀i,i<n+m+1→ZaN n G i i=some 0:=fun i hi=>by
 unfold ZaN
 by_cases c:i<n+1
 ·rw[if_pos ⟨c,c⟩,h i c]
 ·rw[if_neg (by omega),if_pos rfl]
theorem Zwd(h:∀t,t<n→RestOk (R t))(t:Nat): RestOk (Za6 n R t):=by
 unfold Za6
 by_cases c:t<n
 ·rw[if_pos c];exact h t c
 ·rw[if_neg c];exact .inr ⟨by decide,by decide,by decide⟩
theorem Zwe(hb:1≤b)(h:∀t,t<n→RBd b (R t))(t:Nat): RBd b (Za6 n R t):=by
 unfold Za6
 by_cases c:t<n
 ·rw[if_pos c];exact h t c
 ·rw[if_neg c];exact⟨ZfL hb,Zc6⟩
theorem Zt0{y:Nat→Int}(h:ZaP n G R x)(hy:∀i,i<n→y i=x i): ZaP (n+m) (ZaN n G) (Za6 n R) y:=by
 have hf:∀i,i<n+1→ZaG y i=ZaG x i:=fun i hi=>by
  cases i with
  | zero=>rfl
  | succ i=>exact hy i (by omega)
 refine⟨fun i j hi hj b e=>?_,fun t ht=>?_⟩
 ·unfold ZaN at e
  split at e
  ·rename_i c
   rw[hf i c.1,hf j c.2]
   exact h.1 i j c.1 c.2 b e
  ·split at e
   ·rename_i c
    cases e
    rw[c]
    omega
   ·cases e
 ·unfold Za6
  by_cases c:t<n
  ·rw[if_pos c,hy t c];exact h.2 t c
  ·rw[if_neg c]
   exact⟨fun q=>absurd q (by decide),fun _=>Int.emod_one _⟩
theorem Zpo{q:Nat→Nat}{G':Nat→Nat→Option Int}{i k:Nat}(Iv:(Nat→Nat→Option Int)→Prop)(h:∀Δ j,j<k→Iv Δ→Iv (ZbT Δ (q i) (q j) (Zbp (Δ (q i) (q j)) (G' i j)))){Γ:Nat→Nat→Option Int}(h0:Iv Γ): ∀j,j≤k→Iv (ZdA q G' i Γ j)
 | 0,_=>h0
 | j+1,hj=>h _ j (by omega) (Zpo Iv h h0 j (by omega))
theorem Zgr{q:Nat→Nat}{G':Nat→Nat→Option Int}{k:Nat}(Iv:(Nat→Nat→Option Int)→Prop)(h:∀Δ i j,i<k→j<k→Iv Δ→Iv (ZbT Δ (q i) (q j) (Zbp (Δ (q i) (q j)) (G' i j)))){Γ:Nat→Nat→Option Int}(h0:Iv Γ): ∀i,i≤k→Iv (Zci q G' k Γ i)
 | 0,_=>h0
 | i+1,hi=>Zpo Iv (fun Δ j hj hΔ=>h Δ i j (by omega) hj hΔ) (Zgr Iv h h0 i (by omega)) k (Zz10 k)
theorem Zwf{p:Nat→Nat}(inj:∀i j,i<L→j<L→p i=p j→i=j): ∀i j,i<L+1→j<L+1→qOf p i=qOf p j→i=j
 | 0,0,_,_,_=>rfl
 | 0,j+1,_,_,h=>by simp only[qOf]at h;omega
 | i+1,0,_,_,h=>by simp only[qOf]at h;omega
 | i+1,j+1,hi,hj,h=>by
  simp only[qOf]at h
  rw[inj i j (by omega) (by omega) (by omega)]
theorem Zwg: Zbp (some 0) (some 0)=some 0:=ZgB ZcI
theorem Zwh{p:Nat→Nat}(inj:∀i j,i<L→j<L→p i=p j→i=j)(hp:∀i,i<L→p i<N)(h:∀i,i<N+1→Γ i i=some 0)(h':∀i,i<L+1→G' i i=some 0): ∀i,i<N+1→Zci (qOf p) G' (L+1) Γ (L+1) i i=some 0:=by
 refine Zgr (fun Δ=>∀i,i<N+1→Δ i i=some 0) (fun Δ i j hi hj hΔ a ha=>?_) h (L+1) (Zz10 _)
 by_cases c:a=qOf p i∧a=qOf p j
 ·have hij:=Zwf inj i j hi hj (c.1.symm.trans c.2)
  subst hij
  obtain⟨rfl,_⟩:=c
  rw[Zfq,hΔ _ ha,h' i hi,Zwg]
 ·rw[ZeA c];exact hΔ a ha
theorem Ztd{p:Nat→Nat}{y z:Nat→Int}(hz:∀i,i<L→z i=y (p i))(h:ZaP N Γ R y)(h':ZaP L G' R' z): ∀i j,i<N+1→j<N+1→∀b,Zci (qOf p) G' (L+1) Γ (L+1) i j=some b→ZaG y i-ZaG y j≤b:=by
 have hf:∀i,i<L+1→ZaG y (qOf p i)=ZaG z i:=fun i hi=>by
  cases i with
  | zero=>rfl
  | succ i=>exact(hz i (by omega)).symm
 refine Zgr (fun Δ=>∀i j,i<N+1→j<N+1→∀b,Δ i j=some b→ZaG y i-ZaG y j≤b) (fun Δ i j hi hj hΔ a b ha hb c e=>?_) h.1 (L+1) (Zz10 _)
 by_cases d:a=qOf p i∧b=qOf p j
 ·obtain⟨rfl,rfl⟩:=d
  rw[Zfq]at e
  rcases ZeB (Δ (qOf p i) (qOf p j)) (G' i j)with q | q
  ·rw[q]at e;exact hΔ _ _ ha hb c e
  ·rw[q]at e
   rw[hf i hi,hf j hj]
   exact h'.1 i j hi hj c e
 ·rw[ZeA d]at e;exact hΔ a b ha hb c e
theorem Zpp{p:Nat→Nat}{y z:Nat→Int}(h:ZdF N R p R' L ρ)(hz:∀i,i<L→z i=y (p i))(hp:∀i,i<L→p i<N)(hy:∀t,t<N→ZaE (R t) (y t))(hz':∀t,t<L→ZaE (R' t) (z t)): ∀t,t<N→∃r,ρ t=some r∧ZaE r (y t):=fun t ht=>by
 by_cases c:∃j,j<L∧p j=t
 ·obtain⟨j,hj,rfl⟩:=c
  have hm:=h.2 j hj
  have hb:ZaE (R (p j)) (y (p j))∧ZaE (R' j) (y (p j)):=⟨hy _ ht,hz j hj▸hz' j hj⟩
  cases e:ρ (p j)with
  | none=>rw[e]at hm;exact absurd hb (hm _)
  | some r=>rw[e]at hm;exact⟨r,rfl,(hm.2 _).mpr hb⟩
 ·exact⟨R t,h.1 t ht fun j hj e=>c ⟨j,hj,e⟩,hy t ht⟩
theorem Zrq(hn:n≤60)(hm:m≤60)(hb:b≤9000)(hb1:1≤b)(hG:GB b n G)(hC:CB b n m C)(hi:i<m+1): Zhm [ZJ n G R,Zai n (ZcA C i),.lst (tab (m+1) fun j=>Zai n (ZcA C j))]=some (Zan (m+1) fun j=>rcG n G C i j):=by
 apply Pk.eq
 unfold Zhm Zke Zan
 walk_at "zz"
 refine Zby (n:=m+1) (a:=fun j=>Zai n (ZcA C j)) (b:=fun j=>oT (rcG n G C i j)) (by omega) ?_ (fun j hj=>?_) rfl
 ·walk_at "zz"
  rfl
 ·walk_at "zz"
  refine ZM (Zss (b:=b) (by omega) hb1 (by omega) (hC.full j hj)) ?_
  walk_at "zz"
  exact ZM (Zsq (b:=b+1) (c:=dC C i j) hn (by omega) (by omega) (fun a b ha hb y e=>(hG a b ha hb y e).mono (by omega)) (hC.dif hi hj)) rfl
theorem Zte(hn:n≤60)(hm:m≤60)(hb:b≤9000)(hb1:1≤b)(hG:GB b n G)(hR:∀t,t<n→RBd b (R t))(ok:∀t,t<n→RestOk (R t))(hC:CB b n m C)(h:Pk (Zck [ZJ m (rcG n G C) (rcR n R C)]) Q): Pk (ZcH [ZJ n G R,Zav n m C]) Q:=by
 obtain⟨t,et,qt⟩:=h
 refine⟨t,?_,qt⟩
 apply Pk.eq
 unfold ZcH Zh7
 have ht:ZJ n G R=.tup [.lst (tab (n+1) fun i=>.lst (tab (n+1) fun j=>oT (G i j))),.lst (tab n fun i=>ZZ (R i))]:=rfl
 have hc:cn (Zai n (unC 0)) (fun i=>Zai n (C i))=fun i=>Zai n (ZcA C i):=by
  funext i
  cases i with
  | zero=>rw[unC_0];rfl
  | succ i=>rfl
 have hs:Zav n m C=.lst (tab m fun i=>Zai n (C i)):=rfl
 rw[ht,hs]
 walk_at "zz"
 refine ZM (ZlG (i:=0) (n:=n) (by omega)) ?_
 walk_at "zz"
 rw[hc]
 refine Zby (n:=m+1) (a:=fun j=>Zai n (ZcA C j)) (b:=fun i=>Zan (m+1) fun j=>rcG n G C i j) (by omega) ?_ (fun j hj=>?_) ?_
 ·walk_at "zz"
  rfl
 ·walk_at "zz"
  rw[←ht]
  exact ZM (Zrq (b:=b) hn hm hb hb1 hG hC hj) rfl
 walk_at "zz"
 refine Zby (n:=m) (a:=fun j=>Zai n (C j)) (b:=fun i=>ZZ (rcR n R C i)) (by omega) ?_ (fun j hj=>?_) ?_
 ·walk_at "zz"
  rfl
 ·walk_at "zz"
  exact ZM (Zr6 (i:=b) (by omega) hb1 hb (fun k hk=>hC j hj k hk) hR ok) rfl
 walk_at "zz"
 exact ZM et rfl
theorem Zrr(hn:n≤60)(hm:m≤60)(hb:b≤9000)(hb1:1≤b)(hG:GB b n G)(hR:∀t,t<n→RBd b (R t))(ok:∀t,t<n→RestOk (R t))(hC:CB b n m C)(h:Pk (Zcu [ZJ m (rcG n G C) (rcR n R C)]) Q): Pk (ZcD [ZJ n G R,Zav n m C]) Q:=by
 obtain⟨t,et,qt⟩:=h
 refine⟨t,?_,qt⟩
 apply Pk.eq
 unfold ZcD Zho
 have ht:ZJ n G R=.tup [.lst (tab (n+1) fun i=>.lst (tab (n+1) fun j=>oT (G i j))),.lst (tab n fun i=>ZZ (R i))]:=rfl
 have hc:cn (Zai n fun _=>0) (fun i=>Zai n (C i))=fun i=>Zai n (ZcA C i):=by
  funext i
  cases i with
  | zero=>rfl
  | succ i=>rfl
 have hs:Zav n m C=.lst (tab m fun i=>Zai n (C i)):=rfl
 rw[ht,hs]
 walk_at "zz"
 rw[show(n:Int)+1=((n+1:Nat):Int)by omega]
 refine Zfr (by omega) ?_
 walk_at "zz"
 rw[show(T.lst (tab (n+1) fun _=>T.int 0))=Zai n fun _=>0 from rfl,hc]
 refine ZbQ (n:=m+1) (a:=fun i=>Zai n (ZcA C i)) (P:=fun i σ=>σ 0=some (ZJ n G R)∧σ 1=some (.lst (tab m fun i=>Zai n (C i)))∧σ 2=some (.lst (tab (m+1) fun i=>Zai n (ZcA C i)))∧σ 3=some (.lst (tab i fun i=>Zan (m+1) (rcG n G C i)))) ?_ ⟨by walk_at "zr",by walk_at "zr",by walk_at "zr",by walk_at "zr"⟩ ?_ ?_
 ·walk_at "zz"
  rfl
 ·rintro i σ hi ⟨e0,e1,e2,e3⟩
  walk_at "zz"
  refine Zby (n:=m+1) (a:=fun j=>Zai n (ZcA C j)) (b:=fun j=>oT (rcG n G C i j)) (by omega) ?_ (fun j hj=>?_) ?_
  ·walk_at "zz"
   rfl
  ·walk_at "zz"
   refine ZM (Zst (by omega)) ?_
   walk_at "zz"
   refine ZM (Zq7 (b:=b+1) (c:=dC C i j) hn (by omega) (fun a b ha hb y e=>(hG a b ha hb y e).mono (by omega)) (hC.dif hi hj)) ?_
   exact⟨Zfn,rfl⟩
  walk_at "zz"
  rw[show tab i (fun i=>Zan (m+1) (rcG n G C i))++[T.lst (tab (m+1) fun j=>oT (rcG n G C i j))]=tab (i+1) fun i=>Zan (m+1) (rcG n G C i)from Zcj (f:=fun i=>Zan (m+1) (rcG n G C i))]
  exact⟨by walk_at "zr",by walk_at "zr",by walk_at "zr",by walk_at "zr"⟩
 ·rintro σ ⟨e0,e1,e2,e3⟩
  rw[ht]at e0
  walk_at "zz"
  refine Zby (n:=m) (a:=fun j=>Zai n (C j)) (b:=fun i=>ZZ (rcR n R C i)) (by omega) ?_ (fun j hj=>?_) ?_
  ·walk_at "zz"
   rfl
  ·walk_at "zz"
   exact ZM (ZqY (b:=b) (by omega) hb (fun k hk=>hC j hj k hk) hR ok) rfl
  walk_at "zz"
  exact ZM et rfl
theorem Zt1{g:PEs}{a:Nat}{L:List T→Prop}(h0:0<m)(hm:a+m≤1000)(e:g σ=some [.int a,.int (a+m)])(h:L (tab m fun i=>.int ((a+i:Nat):Int))): Pl (ZaB g σ) L:=by
 refine⟨_,Zfm e (by have:=ZmH (a:=a) (n:=m) (by omega) (by omega);simpa using this),?_⟩
 rw[show(tab m fun i=>T.int ((a:Int)+i))=tab m fun i=>.int ((a+i:Nat):Int)from Za7 fun i _=>by congr 1]
 exact h
theorem Zsv(hn:n≤20)(hm0:0<m)(hm:m≤100): Zgh [ZJ n G R,.int m]=some (ZJ (n+m) (ZaN n G) (Za6 n R)):=by
 apply Pk.eq
 unfold Zgh ZlX
 have ht:∀{n:Nat} {G:Nat→Nat→Option Int} {R:Nat→Int×Int},ZJ n G R=.tup [.lst (tab (n+1) fun i=>.lst (tab (n+1) fun j=>oT (G i j))),.lst (tab n fun i=>.tup [.int (R i).1,.int (R i).2])]:=rfl
 rw[ht]
 walk_at "zz"
 refine Zby (n:=n+1) (a:=fun i=>.lst (tab (n+1) fun j=>oT (G i j))) (b:=fun i=>.lst (tab (n+m+1) fun j=>oT (ZaN n G i j))) (by omega) ?_ (fun i hi=>?_) ?_
 ·walk_at "zz"
  rfl
 ·walk_at "zz"
  refine Zfr (by omega) ?_
  refine Zml (by omega) ?_
  rw[ZuX hi]
  exact⟨Zs9,rfl⟩
 walk_at "zz"
 refine Zby (n:=m) (a:=fun i=>.int ((n+1+i:Nat):Int)) (b:=fun i=>.lst (tab (n+m+1) fun j=>oT (ZaN n G (n+1+i) j))) (by omega) ?_ (fun i hi=>?_) ?_
 ·refine Zt1 (a:=n+1) (m:=m) hm0 (by omega) ?_ rfl
  simp only[Zf,Zd,Za,Zj,Zm,ZW,Option.bind_some]
  simp[ZX]
  omega
 ·walk_at "zz"
  refine ZM (show ZfT [.int ((n+1+i:Nat):Int),.int ((n:Int)+m)]=some (Zan (n+m+1) fun j=>if j=n+1+i then some 0 else none)from Zro (by omega)) ?_
  show T.lst _=T.lst _
  congr 1
  refine Za7 fun j hj=>?_
  unfold ZaN
  rw[if_neg (by omega)]
 walk_at "zz"
 refine Zml (by omega) ?_
 walk_at "zz"
 refine Zfr (by omega) ?_
 refine Zml (by omega) ?_
 rw[Zta]
 refine⟨Zhy fun _ _=>Zgm,?_⟩
 walk_at "zz"
 rw[show(ZJ (n+m) (ZaN n G) (Za6 n R))=.tup [.lst (tab (n+m+1) fun i=>.lst (tab (n+m+1) fun j=>oT (ZaN n G i j))),ZaQ (n+m) (Za6 n R)]from rfl,show n+1+m=n+m+1 by omega]
 congr 3
 refine Za7 fun i hi=>?_
 by_cases c:i<n+1
 ·rw[if_pos c]
 ·rw[if_neg c,show n+1+(i-(n+1))=i by omega]
theorem ZkR(hm:m≤90)(hn:n≤900): Ze3 [.int m,.int n]=some (Zav n m fun t=>unC (t+1)):=by
 apply Pk.eq
 unfold Ze3 ZlA
 walk_at "zz"
 refine Zby (n:=m) (a:=fun i=>.int ((1+i:Nat):Int)) (b:=fun t=>Zai n (unC (t+1))) (by omega) ?_ (fun i hi=>?_) rfl
 ·refine ZmC (a:=1) (m:=m) (by omega) (by omega) ?_ rfl
  show some [T.int 1,T.int ((m:Int)+1)]=_
  rw[show(m:Int)+1=((1:Nat):Int)+m by omega]
  rfl
 ·walk_at "zz"
  rw[Nat.add_comm 1 i]
  exact ZM (ZlG (i:=i+1) (n:=n) hn) rfl
theorem Zpq{K:Nat}(hn:n≤20)(hm:m≤20)(hb1:1≤b)(hb:b≤9000)(hK:K+2*m+4≤7000)(hG:GB b n G)(hR:∀t,t<n→RBd b (R t))(ok:∀t,t<n→RestOk (R t))(hC:CB b n m C)(hM:0<M)(bM:Bd K M)(bG:GB K m (rcG n G C))(hR':∀t,t<m→RB M K (rcR n R C t)): ∃D,ZcH [ZJ n G R,Zav n m C]=some D∧ZcD [ZJ n G R,Zav n m C]=some D∧Tm m (K+3*m+7) M (fun v=>∃x,ZaP n G R x∧∀t,t<m→v t=ZaH (C t) x n) (fun G2 R2=>ZiG m G2 R2 (rcG n G C) (rcR n R C)) D:=by
 obtain⟨D,et,eu,hD⟩:=ZmW (k:=K) hm hK hM bM (ZxR (G:=G) (C:=C)) bG hR'
 refine⟨D,Pk.eq (Zte (b:=b) (by omega) (by omega) hb hb1 hG hR ok hC (ZM et rfl)),Pk.eq (Zrr (b:=b) (by omega) (by omega) hb hb1 hG hR ok hC (ZM eu rfl)),?_⟩
 rcases hD with⟨rfl,no⟩ | ⟨G2,R2,rfl,h1,h2,h3,h4,h5⟩
 ·exact .inl ⟨rfl,fun v h=>by
   obtain⟨x,li,e⟩:=h
   exact no v (ZlH (Zp5 (m:=m) (C:=C) ok li) e)⟩
 ·exact .inr ⟨G2,R2,rfl,h1,h2,h3,fun v h=>by
   obtain⟨x,li,e⟩:=h
   exact h4 v (ZlH (Zp5 (m:=m) (C:=C) ok li) e),h5⟩
theorem Zu0{x:Nat}(hx:x<n)(hn:n≤1000): ZgA [.lst (tab n f),.int ((x:Int)+1),w]=some (.lst (tab n fun i=>if i=x then w else f i)):=by
 apply Pk.eq
 unfold ZgA ZmT
 have hlen:(tab n f).length=n:=Zap
 walk_at "zz"
 refine ZqK ?_
 walk_at "zz"
 refine⟨_,rfl,?_⟩
 walk_at "zz"
 refine⟨x,by congr 1;omega,?_⟩
 walk_at "zz"
 refine ZcP (by simp[hlen];omega) ?_
 refine ZxF ?_
 walk_at "zz"
 refine⟨_,rfl,?_⟩
 walk_at "zz"
 refine⟨x+1,rfl,?_⟩
 refine ZcP (by simp[hlen];omega) ?_
 rw[Zv7 (by omega),Zfl]
theorem Tm.sub{K K':Nat}{P':(Nat→Int)→Prop}{I':(Nat→Nat→Option Int)→(Nat→Int×Int)→Prop}(h:Tm n K M P I D)(hK:K≤K')(hP:∀x,P' x→P x)(hI:∀G R,(∀t,t<n→RestOk (R t))→I G R→I' G R): Tm n K' M P' I' D:=by
 rcases h with⟨rfl,no⟩ | ⟨G,R,rfl,h1,h2,h3,h4,h5⟩
 ·exact .inl ⟨rfl,fun x p=>no x (hP x p)⟩
 ·exact .inr ⟨G,R,rfl,h1,fun t ht=>(h2 t ht).mono hK,fun i j hi hj y e=>(h3 i j hi hj y e).mono hK,fun x p=>h4 x (hP x p),hI G R (fun t ht=>(h2 t ht).1) h5⟩
theorem RB.bd2(hM:0<M)(bM:Bd m M)(hm:m≤k)(h:RB M k q): RBd k q:=⟨(ZqE hM bM h).mono hm,h.2.2⟩
theorem Zwi(hn:n≤4)(hd:∀i,i<n+1→G i i=some 0)(ok:∀t,t<n→RestOk (R t))(sG:SmG 137 n G)(sR:SmR 137 n R): ∃D,Zck [ZJ n G R]=some D∧Zcu [ZJ n G R]=some D∧∃M,0<M∧Bd 560 M∧Tm n 580 M (ZaP n G R) (fun G2 R2=>ZiG n G2 R2 G R) D:=by
 have hp:=Zh2 ok n (Zz10 n)
 have hb:Bd 560 (Zc3 R n):=(Zic (k:=137) (by decide) (fun t ht=>(sR t ht).1) n (Zz10 n)).mono (by omega)
 obtain⟨D,e1,e2,h⟩:=ZmW (k:=560) (by omega) (by omega) hp hb hd (fun i j hi hj y e=>(show Bd 137 y from sG i j hi hj y e).mono (by decide)) (fun t ht=>⟨ok t ht,Zh3 n t ht,(show Bd 137 _ from(sR t ht).2).mono (by decide)⟩)
 exact⟨D,e1,e2,_,hp,hb,h.sub (by omega) (fun _ p=>p) (fun _ _ _ i=>i)⟩
noncomputable def Zbn(n:Nat)(C:Nat→Nat→Int): Nat→Nat→Int:=fun t=>if t<n then unC (t+1)else C (t-n)
theorem Zpr(hi:i<n+1): ZcA (Zbn n C) i=unC i:=by
 cases i with
 | zero=>rw[unC_0];rfl
 | succ i=>show(if i<n then unC (i+1)else _)=_;rw[if_pos (by omega)]
theorem ZxJ(hd:∀i,i<n+1→G i i=some 0)(hi:i<n+1)(hj:j<n+1): rcG n G (Zbn n C) i j=G i j:=by
 unfold rcG
 rw[show dC (Zbn n C) i j=fun k=>unC i k-unC j k by unfold dC;rw[Zpr hi,Zpr hj]]
 exact ZqB hi hj hd
theorem ZqO(ok:∀t,t<n→RestOk (R t))(ht:t<n): rcR n R (Zbn n C) t=R t:=by
 unfold rcR Zbn
 rw[if_pos ht,Zp8 ok (by omega) (by omega),Nat.add_sub_cancel]
theorem Zxa: rcR n R (Zbn n C) (n+t)=rcR n R C t:=by
 unfold rcR Zbn
 rw[if_neg (by omega),Nat.add_sub_cancel_left]
theorem Zwj(ht:t<n): ZaH (Zbn n C t) x n=x t:=by
 unfold Zbn
 rw[if_pos ht,Znk (by omega),if_pos (by omega),Nat.add_sub_cancel]
theorem Zu1: ZaH (Zbn n C (n+t)) x n=ZaH (C t) x n:=by
 unfold Zbn
 rw[if_neg (by omega),Nat.add_sub_cancel_left]
theorem bd_un: Bd 1 (unC i k):=by
 unfold unC Bd
 split <;> decide
theorem Zxb(hC:CB 140 n r C): CB 580 n (n+r) (Zbn n C):=fun i hi k hk=>by
 unfold Zbn
 split
 ·exact bd_un.mono (by decide)
 ·exact(hC (i-n) (by omega) k hk).mono (by decide)
theorem Zu2(hn:n≤4)(hr:r≤4)(hM:0<M)(bM:Bd 560 M)(hd:∀i,i<n+1→G i i=some 0)(hG:GB 580 n G)(hR:∀t,t<n→RB M 580 (R t))(hC:CB 140 n r C): ∃D,ZcH [ZJ n G R,Zav n (n+r) (Zbn n C)]=some D∧ZcD [ZJ n G R,Zav n (n+r) (Zbn n C)]=some D∧∃M',0<M'∧Bd 3400 M'∧Tm (n+r) 3440 M' (fun v=>∃x,ZaP n G R x∧(∀t,t<n→v t=x t)∧∀t,t<r→v (n+t)=ZaH (C t) x n) (fun G2 R2=>(∀i,i<n+1→∀j,j<n+1→leO (G2 i j) (G i j))∧∀t,t<n→RIn (R2 t) (R t)) D:=by
 have ok:∀t,t<n→RestOk (R t):=fun t ht=>(hR t ht).1
 have bR:∀t,t<n→RBd 580 (R t):=fun t ht=>(hR t ht).bd2 hM bM (by decide)
 have ok2:∀t,t<r→RestOk (rcR n R C t):=ZqM ok
 have hp:=Zh2 ok2 r (Zz10 r)
 have bm:∀t,t<r→Bd 700 (rcR n R C t).1:=fun t ht=>by
  unfold rcR
  rw[Zd8 ok n (Zz10 n),Zga]
  exact Zpn (i:=140) (m:=560) (hC t ht) (fun j hj=>ZqE hM bM (hR j hj)) n (Zz10 n)
 have hb:=Zic (k:=700) (by decide) bm r (Zz10 r)
 have hM':0<M*Zc3 (rcR n R C) r:=Int.mul_pos hM hp
 have bM':Bd 3400 (M*Zc3 (rcR n R C) r):=(bM.mul hb).mono (by omega)
 have cb:=Zxb hC
 obtain⟨D,e1,e2,h⟩:=Zpq (b:=580) (K:=3400) (M:=M*Zc3 (rcR n R C) r) (by omega) (by omega) (by decide) (by decide) (by omega) hG bR ok cb hM' bM' (fun i j hi hj y e=>(show Bd 1200 y from Zw4 (B:=1200) hG cb (by omega) i j hi hj y e).mono (by decide)) (fun t ht=>⟨ZqM (m:=n+r) ok t ht,by
  by_cases c:t<n
  ·rw[ZqO ok c]
   exact(hR t c).2.1.imp id fun d=>Int.dvd_trans d (Int.dvd_mul_right _ _)
  ·obtain⟨u,rfl⟩:∃u,t=n+u:=⟨t-n,by omega⟩
   rw[Zxa]
   exact(Zh3 r u (by omega)).imp id fun d=>Int.dvd_trans d (Int.dvd_mul_left _ _),(show Bd 1200 _ from(Zw5 (B:=1200) ok bR cb (by omega) t ht).2).mono (by decide)⟩)
 refine⟨D,e1,e2,_,hM',bM',h.sub (by omega) ?_ ?_⟩
 ·rintro v ⟨x,li,a,b⟩
  refine⟨x,li,fun t ht=>?_⟩
  by_cases c:t<n
  ·rw[Zwj c];exact a t c
  ·obtain⟨u,rfl⟩:∃u,t=n+u:=⟨t-n,by omega⟩
   rw[Zu1];exact b u (by omega)
 ·rintro G2 R2 _ ⟨a,b⟩
  exact⟨fun i hi j hj=>by have:=a i (by omega) j (by omega);rw[ZxJ hd hi hj]at this;exact this,fun t ht=>by have:=b t (by omega);rw[ZqO ok ht]at this;exact this⟩
theorem RB.up(h:RB M k q)(hd:M ∣ M')(hk:k≤k'): RB M' k' q:=⟨h.1,h.2.1.imp id fun d=>Int.dvd_trans d hd,h.2.2.mono hk⟩
theorem Zxc{r:Int×Int}(hp:RB M 3440 p)(hq:RB M' 3440 q)(bp:RBd 3440 p)(bq:Bd 300 q.1)(bq2:Bd 300 q.2)(h:Met p q (some r)): RB (M*M') 4060 r:=by
 have b1:=bp.1
 rcases Zqw (k:=3440) (by decide) hp.1 hq.1 bp ⟨bq.mono (by decide),bq2.mono (by decide)⟩ h r rfl with rfl | rfl | ⟨z1,z2,e⟩
 ·exact hp.up (Int.dvd_mul_right _ _) (by decide)
 ·exact hq.up (Int.dvd_mul_left _ _) (by decide)
 ·refine⟨h.1,.inr ?_,?_⟩
  ·rw[e]
   have d1:p.1 ∣ M:=hp.2.1.resolve_left z1
   have d2:q.1 ∣ M':=hq.2.1.resolve_left z2
   exact Int.coe_lcm_dvd (Int.dvd_trans d1 (Int.dvd_mul_right _ _)) (Int.dvd_trans d2 (Int.dvd_mul_left _ _))
  ·have b2:Bd 4060 r.1:=by rw[e];exact(Zw8 b1 bq).mono (by decide)
   have n0:r.1≠0:=by rw[e];intro h;exact(Int.lcm_ne_zero z1 z2) (by omega)
   rcases h.1 with q | ⟨_,q2,q3⟩
   ·exact absurd q n0
   ·unfold Bd at *;omega
theorem Zwk(hk:1≤k)(h:∀t,t<m→RB M k (R t))(t:Nat): RB M k (Za6 m R t):=by
 unfold Za6
 split
 ·exact h t (by assumption)
 ·exact⟨.inr ⟨by decide,by decide,by decide⟩,.inr (Int.one_dvd _),Zc6⟩
theorem wide_GB(h:GB k m G): GB k N (ZaN m G):=fun i j hi hj y e=>by
 unfold ZaN at e
 split at e
 ·rename_i c;exact h i j c.1 c.2 y e
 ·split at e
  ·cases e;exact Zc6
  ·cases e
noncomputable def Znt(n r m:Nat)(G:Nat→Nat→Option Int)(R:Nat→Int×Int)(G':Nat→Nat→Option Int)(R':Nat→Int×Int)(D:T): Prop:=∃ρ,ZdF (m+1) (Za6 m R) (fun i=>n+i) R' (r+1) ρ∧ZgU (m+1) (Zci (qOf fun i=>n+i) G' (r+1+1) (ZaN m G) (r+1+1)) ρ D
theorem Zxd(hm:m=n+r)(hn:n≤4)(hr:r≤4)(hM:0<M)(bM:Bd 3400 M)(hd:∀i,i<m+1→G i i=some 0)(hG:GB 3440 m G)(hR:∀t,t<m→RB M 3440 (R t))(hd':∀i,i<r+1+1→G' i i=some 0)(ok':∀t,t<r+1→RestOk (R' t))(sG':SmG 300 (r+1) G')(sR':SmR 300 (r+1) R'): ∃D,Ze9 [ZJ (m+1) (ZaN m G) (Za6 m R),.lst (tab (r+1) fun i=>.int (((n+i:Nat):Int)+1)),ZJ (r+1) G' R']=some D∧Znt n r m G R G' R' D∧∃M',0<M'∧Bd 4950 M'∧Tm (m+1) 4060 M' (fun y=>ZaP m G R y∧ZaP (r+1) G' R' fun i=>y (n+i)) (fun G3 R3=>(∀i,i<m+1→∀j,j<m+1→leO (G3 i j) (G i j))∧∀t,t<m→RIn (R3 t) (R t)) D:=by
 have hp:∀i,i<r+1→n+i<m+1:=fun i hi=>by omega
 have inj:∀i j,i<r+1→j<r+1→n+i=n+j→i=j:=fun i j _ _ h=>by omega
 have bR':∀t,t<r+1→RBd 3440 (R' t):=fun t ht=>⟨(show Bd 300 _ from(sR' t ht).1).mono (by decide),(show Bd 300 _ from(sR' t ht).2).mono (by decide)⟩
 have wRB:=Zwk (k:=3440) (by decide) hR
 have wok:∀t,t<m+1→RestOk (Za6 m R t):=fun t _=>(wRB t).1
 have wb:∀t,t<m+1→RBd 3440 (Za6 m R t):=fun t _=>(wRB t).bd2 hM bM (by decide)
 obtain⟨D,e1,ρ,hl,hT⟩:=Ztc (N:=m+1) (L:=r+1) (b:=3440) (p:=fun i=>n+i) (Γ:=ZaN m G) (G':=G') (by omega) (by omega) (by decide) hp inj wok ok' wb bR'
 have hpm:=Zh2 ok' (r+1) (Zz10 _)
 have hpb:=Zic (k:=300) (by decide) (fun t ht=>(sR' t ht).1) (r+1) (Zz10 _)
 refine⟨D,e1,⟨ρ,hl,hT⟩,M*Zc3 R' (r+1),Int.mul_pos hM hpm,(bM.mul hpb).mono (by omega),?_⟩
 have key:∀y,ZaP m G R y→(ZaP (r+1) G' R' fun i=>y (n+i))→ZaP (m+1) (ZaN m G) (Za6 m R) y:=fun y h _=>Zt0 h fun _ _=>rfl
 rcases hT with⟨rfl,i,hi,hnone⟩ | ⟨rfl,hsome⟩
 ·refine .inl ⟨rfl,fun y h=>?_⟩
  obtain⟨q,eq,_⟩:=Zpp (y:=y) (z:=fun i=>y (n+i)) hl (fun i _=>rfl) hp (key y h.1 h.2).2 h.2.2 i hi
  rw[hnone]at eq
  cases eq
 ·have hs:∀t,t<m+1→ρ t=some ((ρ t).getD (1,0)):=fun t ht=>by
   cases e:ρ t with
   | none=>exact absurd e (hsome t ht)
   | some q=>rfl
  have cases:∀t,t<m+1→(ρ t).getD (1,0)=Za6 m R t∨∃j,j<r+1∧t=n+j∧Met (Za6 m R t) (R' j) (some ((ρ t).getD (1,0))):=fun t ht=>by
   by_cases c:∃j,j<r+1∧n+j=t
   ·obtain⟨j,hj,rfl⟩:=c
    have:=hl.2 j hj
    rw[hs (n+j) ht]at this
    exact .inr ⟨j,hj,rfl,this⟩
   ·have:=hl.1 t ht fun j hj e=>c ⟨j,hj,e⟩
    rw[this]
    exact .inl rfl
  refine .inr ⟨_,_,rfl,Zwh inj hp (Zw9 hd) hd',fun t ht=>?_,?_,fun y h=>⟨Ztd (z:=fun i=>y (n+i)) (fun i _=>rfl) (key y h.1 h.2) h.2,fun t ht=>?_⟩,fun i hi j hj=>?_,fun t ht=>?_⟩
  ·rcases cases t ht with e | ⟨j,hj,_,hm⟩
   ·rw[e];exact(wRB t).up (Int.dvd_mul_right _ _) (by decide)
   ·exact Zxc (wRB t) ⟨ok' j hj,Zh3 (r+1) j hj,(bR' j hj).2⟩ (wb t ht) (sR' j hj).1 (sR' j hj).2 hm
  ·refine Zgr (fun Δ=>GB 4060 (m+1) Δ) (fun Δ i j hi hj hΔ a b ha hb y e=>?_) (fun i j hi hj y e=>((wide_GB hG:GB 3440 (m+1) _) i j hi hj y e).mono (by decide)) (r+1+1) (Zz10 _)
   unfold ZbT at e
   split at e
   ·rename_i c
    refine Zwc (hΔ _ _ (c.1▸ha) (c.2▸hb)) (fun z ez=>?_) y e
    exact(show Bd 300 z from sG' i j hi hj z ez).mono (by decide)
   ·exact hΔ a b ha hb y e
  ·obtain⟨q,eq,hq⟩:=Zpp (y:=y) (z:=fun i=>y (n+i)) hl (fun i _=>rfl) hp (key y h.1 h.2).2 h.2.2 t ht
   show ZaE ((ρ t).getD (1,0)) (y t)
   rw[eq]
   exact hq
  ·have:=Zgr (q:=qOf fun i=>n+i) (G':=G') (k:=r+1+1) (fun Δ=>∀i j,leO (Δ i j) (ZaN m G i j)) (fun Δ i j hi hj hΔ a b=>by
    unfold ZbT
    split
    ·rename_i c
     obtain⟨c1,c2⟩:=c
     subst c1 c2
     exact Zcc ZiH (hΔ _ _)
    ·exact hΔ a b) (Γ:=ZaN m G) (fun i j=>ZcI) (r+1+1) (Zz10 _) i j
   unfold ZaN at this
   rw[if_pos ⟨hi,hj⟩]at this
   exact this
  ·have wt:Za6 m R t=R t:=by unfold Za6;rw[if_pos ht]
   show RIn ((ρ t).getD (1,0)) (R t)
   rcases cases t (by omega)with e | ⟨j,hj,_,hm⟩
   ·rw[e,wt];exact ZuP
   ·rw[wt]at hm
    exact Znj hm.1 (hR t ht).1 fun x hx=>((hm.2 x).mp hx).1
noncomputable def ZbI(n m x:Nat): Nat→Nat:=fun t=>if t=x then m+1 else t+1
theorem ZxK{x:Nat}(hn:n≤m): Ord (m+1) n (ZbI n m x):=fun t ht=>by
 unfold ZbI
 split <;> omega
theorem Zu3{x:Nat}(hnm:n≤m)(hm:m≤8)(hM:0<M)(bM:Bd 4950 M)(hd:∀i,i<m+1+1→G i i=some 0)(hG:GB 5000 (m+1) G)(hR:∀t,t<m+1→RB M 5000 (R t)): ∃D,ZcH [ZJ (m+1) G R,Zav (m+1) n fun t=>unC (ZbI n m x t)]=some D∧ZcD [ZJ (m+1) G R,Zav (m+1) n fun t=>unC (ZbI n m x t)]=some D∧Tm n 5100 M (fun v=>∃y,ZaP (m+1) G R y∧∀t,t<n→v t=y (ZbI n m x t-1)) (fun G2 R2=>(∀i,i<n+1→∀j,j<n+1→leO (G2 i j) (G (fO (ZbI n m x) i) (fO (ZbI n m x) j)))∧∀t,t<n→RIn (R2 t) (R (ZbI n m x t-1))) D:=by
 have ho:=ZxK (x:=x) hnm
 have ok:∀t,t<m+1→RestOk (R t):=fun t ht=>(hR t ht).1
 have bR:∀t,t<m+1→RBd 5000 (R t):=fun t ht=>(hR t ht).bd2 hM bM (by decide)
 have eG:=ZxI hd ho
 have eR:=Zw6 ok ho
 obtain⟨D,e1,e2,h⟩:=Zpq (n:=m+1) (m:=n) (b:=5000) (K:=5000) (M:=M) (C:=fun t=>unC (ZbI n m x t)) (by omega) (by omega) (by decide) (by decide) (by omega) hG bR ok (fun i hi k hk=>bd_un.mono (by decide)) hM (bM.mono (by decide)) (fun i j hi hj y e=>by rw[eG i j hi hj]at e;exact hG _ _ (ho.lt i hi) (ho.lt j hj) y e) (fun t ht=>by rw[eR t ht];have:=ho t ht;exact hR _ (by omega))
 refine⟨D,e1,e2,h.sub (by omega) ?_ ?_⟩
 ·rintro v ⟨y,li,e⟩
  refine⟨y,li,fun t ht=>?_⟩
  have:=ho t ht
  rw[Znk this.1,if_pos this.2]
  exact e t ht
 ·rintro G2 R2 _ ⟨a,b⟩
  exact⟨fun i hi j hj=>by have:=a i hi j hj;rw[eG i j hi hj]at this;exact this,fun t ht=>by have:=b t ht;rw[eR t ht]at this;exact this⟩
theorem Zrs{x row s:T}(h:Zck [s]=some .none){s2:T}: Zc8 [s,x,row,s2]=some .none:=by
 apply Pk.eq
 unfold Zc8 Zf8
 walk_at "zz"
 refine ZM h ?_
 walk_at "zz"
 rfl
theorem Zgs: (tab n fun t=>Zai n (unC (t+1)))++(tab r fun t=>Zai n (C t))=tab (n+r) fun t=>Zai n (Zbn n C t):=by
 refine List.ext_getElem? fun i=>?_
 rw[List.getElem?_append]
 rw[Zap]
 split
 ·rename_i h
  rw[Za8 h,Za8 (by omega)]
  unfold Zbn
  rw[if_pos h]
 ·rename_i h
  by_cases c:i-n<r
  ·rw[Za8 c,Za8 (by omega)]
   unfold Zbn
   rw[if_neg h]
  ·rw[Zm3 (by omega),Zm3 (by omega)]
theorem ZoN{x:Nat}: (T.lst (tab n fun i=>if i=x then Zai (m+1) (unC (m+1))else Zai (m+1) (unC (i+1))))=Zav (m+1) n fun t=>unC (ZbI n m x t):=by
 unfold Zav
 congr 1
 refine Za7 fun i _=>?_
 by_cases q:i=x
 ·rw[if_pos q];show _=Zai (m+1) (unC (if i=x then m+1 else i+1));rw[if_pos q]
 ·rw[if_neg q];show _=Zai (m+1) (unC (if i=x then m+1 else i+1));rw[if_neg q]
theorem Zr7{Gs:Nat→Nat→Option Int}{Rs:Nat→Int×Int}{T0 S0:T}{xv:T}(hn:n≤20)(hr:r≤20)(hS:∃m G R,S0=ZJ m G R)(h1:Zck [T0]=some (ZJ n Gs Rs))(h2:ZcH [ZJ n Gs Rs,Zav n (n+r) (Zbn n C)]=some .none): Zc8 [T0,xv,Zav n r C,S0]=some .none:=by
 have ht:ZJ n Gs Rs=.tup [Z8 (n+1) Gs,.lst (tab n fun i=>ZZ (Rs i))]:=rfl
 have hne:∀{Q:T→Prop},Q (.bool false)→Pk (qIs (ZJ n Gs Rs) .none) Q:=fun h=>⟨_,by rw[ht];rfl,h⟩
 have hg:∀{Q:T→Prop},Q (.lst (tab n fun i=>ZZ (Rs i)))→Pk (Zq (ZJ n Gs Rs) (.int 1)) Q:=fun h=>⟨_,by rw[ht];rfl,h⟩
 have hne2:∀{Q:T→Prop},Q (.bool false)→Pk (qIs S0 .none) Q:=fun h=>by obtain⟨m,G,R,rfl⟩:=hS;exact⟨_,rfl,h⟩
 have hs:Zav n r C=.lst (tab r fun i=>Zai n (C i)):=rfl
 apply Pk.eq
 unfold Zc8 Zf8
 rw[hs]
 clear ht
 generalize hD:ZJ n Gs Rs=T1 at *
 walk_at "zz"
 refine ZM h1 ?_
 walk_at "zz"
 refine hne ?_
 walk_at "zz"
 refine hne2 ?_
 walk_at "zz"
 refine hg ?_
 walk_at "zz"
 refine ZM (ZkR (m:=n) (n:=n) (by omega) (by omega)) ?_
 unfold Zav
 walk_at "zz"
 refine ZcP (by simp[tab];omega) ?_
 rw[Zgs,show T.lst (tab (n+r) fun t=>Zai n (Zbn n C t))=Zav n (n+r) (Zbn n C)from rfl]
 walk_at "zz"
 refine ZM h2 ?_
 walk_at "zz"
 rfl
theorem Zsw{x:Nat}{Gs Gg:Nat→Nat→Option Int}{Rs Rg:Nat→Int×Int}{T0 S0 L0 B0:T}(hm:m=n+r)(hx:x<n)(hn:n≤10)(hr:r≤10)(hS:∃m G R,S0=ZJ m G R)(h1:Zck [T0]=some (ZJ n Gs Rs))(h2:ZcH [ZJ n Gs Rs,Zav n (n+r) (Zbn n C)]=some (ZJ m Gg Rg))(h3:Ze9 [ZJ (m+1) (ZaN m Gg) (Za6 m Rg),.lst (tab (r+1) fun i=>.int (((n+i:Nat):Int)+1)),S0]=some L0)(h4:Zck [L0]=some B0)(h5:ZcH [B0,Zav (m+1) n fun t=>unC (ZbI n m x t)]=some D): Zc8 [T0,.int ((x:Int)+1),Zav n r C,S0]=some D:=by
 have ht:ZJ n Gs Rs=.tup [Z8 (n+1) Gs,.lst (tab n fun i=>ZZ (Rs i))]:=rfl
 have hne:∀{Q:T→Prop},Q (.bool false)→Pk (qIs (ZJ n Gs Rs) .none) Q:=fun h=>⟨_,by rw[ht];rfl,h⟩
 have hne3:∀{Q:T→Prop},Q (.bool false)→Pk (qIs (ZJ m Gg Rg) .none) Q:=fun h=>⟨_,rfl,h⟩
 have hg:∀{Q:T→Prop},Q (.lst (tab n fun i=>ZZ (Rs i)))→Pk (Zq (ZJ n Gs Rs) (.int 1)) Q:=fun h=>⟨_,by rw[ht];rfl,h⟩
 have hne2:∀{Q:T→Prop},Q (.bool false)→Pk (qIs S0 .none) Q:=fun h=>by obtain⟨m,G,R,rfl⟩:=hS;exact⟨_,rfl,h⟩
 have hs:Zav n r C=.lst (tab r fun i=>Zai n (C i)):=rfl
 have hw:Zgh [ZJ m Gg Rg,.int ((1:Nat):Int)]=some (ZJ (m+1) (ZaN m Gg) (Za6 m Rg)):=Zsv (by omega) (by decide) (by decide)
 have hb1:Ze3 [.int n,.int (m+1:Nat)]=some (Zav (m+1) n fun t=>unC (t+1)):=ZkR (by omega) (by omega)
 have hb2:Zeu [.int (m+1:Nat),.int (m+1:Nat)]=some (Zai (m+1) (unC (m+1))):=ZlG (by omega)
 have hl:ZgA [.lst (tab n fun t=>Zai (m+1) (unC (t+1))),.int ((x:Int)+1),Zai (m+1) (unC (m+1))]=some (Zav (m+1) n fun t=>unC (ZbI n m x t)):=by rw[Zu0 hx (by omega),ZoN]
 apply Pk.eq
 unfold Zc8 Zf8
 rw[hs]
 clear ht
 generalize ZJ n Gs Rs=T1 at *
 generalize ZJ m Gg Rg=T2 at *
 generalize ZJ (m+1) (ZaN m Gg) (Za6 m Rg)=T3 at *
 walk_at "zz"
 refine ZM h1 ?_
 walk_at "zz"
 refine hne ?_
 walk_at "zz"
 refine hne2 ?_
 walk_at "zz"
 refine hg ?_
 walk_at "zz"
 refine ZM (ZkR (m:=n) (n:=n) (by omega) (by omega)) ?_
 unfold Zav
 walk_at "zz"
 refine ZcP (by simp[tab];omega) ?_
 rw[Zgs,show T.lst (tab (n+r) fun t=>Zai n (Zbn n C t))=Zav n (n+r) (Zbn n C)from rfl]
 walk_at "zz"
 refine ZM h2 ?_
 walk_at "zz"
 refine hne3 ?_
 walk_at "zz"
 refine ZM hw ?_
 walk_at "zz"
 rw[show(n:Int)+r+1=((m+1:Nat):Int)by omega]
 refine ZuF (n:=r+1) (by omega) (by omega) ?_
 have et:(tab (r+1) fun i=>T.int ((n:Int)+1+i))=tab (r+1) fun i=>.int (((n+i:Nat):Int)+1):=Za7 fun i _=>congrArg T.int (by omega)
 rw[et]
 walk_at "zz"
 refine ZM h3 ?_
 walk_at "zz"
 refine ZM h4 ?_
 walk_at "zz"
 refine ZM hb1 ?_
 unfold Zav
 walk_at "zz"
 refine ZM hb2 ?_
 walk_at "zz"
 refine ZM hl ?_
 walk_at "zz"
 exact ZM h5 rfl
noncomputable def ZqQ(n r x:Nat)(G:Nat→Nat→Option Int)(R:Nat→Int×Int)(C:Nat→Nat→Int)(G':Nat→Nat→Option Int)(R':Nat→Int×Int)(v:Nat→Int): Prop:=∃z a,ZaP n G R z∧ZaP (r+1) G' R' (fun i=>if i<r then ZaH (C i) z n else a)∧∀t,t<n→v t=if t=x then a else z t
noncomputable def ZxT(n x:Nat)(G2:Nat→Nat→Option Int)(R2:Nat→Int×Int)(G:Nat→Nat→Option Int)(R:Nat→Int×Int): Prop:=(∀i,i<n+1→i≠x+1→∀j,j<n+1→j≠x+1→leO (G2 i j) (G i j))∧∀t,t<n→t≠x→RIn (R2 t) (R t)
noncomputable def ZnA(n r x:Nat)(T0:T)(C:Nat→Nat→Int)(G':Nat→Nat→Option Int)(R':Nat→Int×Int)(D:T): Prop:=(Zcu [T0]=some .none∧D=.none)∨∃Gs Rs,Zcu [T0]=some (ZJ n Gs Rs)∧((ZcD [ZJ n Gs Rs,Zav n (n+r) (Zbn n C)]=some .none∧D=.none)∨∃Gg Rg L0 B0,ZcD [ZJ n Gs Rs,Zav n (n+r) (Zbn n C)]=some (ZJ (n+r) Gg Rg)∧(∀t,t<n+r→RestOk (Rg t))∧(∀t,t<n+r→RBd 3440 (Rg t))∧Znt n r (n+r) Gg Rg G' R' L0∧Zcu [L0]=some B0∧ZcD [B0,Zav (n+r+1) n fun t=>unC (ZbI n (n+r) x t)]=some D)
theorem ZqR{x:Nat}(hi:i≠x+1): fO (ZbI n m x) i=i:=by
 cases i with
 | zero=>rfl
 | succ i=>show ZbI n m x i=_;unfold ZbI;rw[if_neg (by omega)]
theorem Ztf{x:Nat}(hx:x<n)(hn:n≤4)(hr:r≤4)(hd:∀i,i<n+1→G i i=some 0)(ok:∀t,t<n→RestOk (R t))(sG:SmG 137 n G)(sR:SmR 137 n R)(hC:CB 140 n r C)(hd':∀i,i<r+1+1→G' i i=some 0)(ok':∀t,t<r+1→RestOk (R' t))(sG':SmG 300 (r+1) G')(sR':SmR 300 (r+1) R'): ∃D,Zc8 [ZJ n G R,.int ((x:Int)+1),Zav n r C,ZJ (r+1) G' R']=some D∧ZnA n r x (ZJ n G R) C G' R' D∧Tf n (ZqQ n r x G R C G' R') (fun G2 R2=>ZxT n x G2 R2 G R) D:=by
 obtain⟨D1,p1,l1,M1,m1,b1,h1⟩:=Zwi hn hd ok sG sR
 rcases h1 with⟨rfl,no⟩ | ⟨G1,R1,rfl,d1,r1,g1,li1,in1⟩
 ·exact⟨.none,Zrs p1,.inl ⟨l1,rfl⟩,.inl ⟨rfl,fun v ⟨z,a,hz,_⟩=>no z hz⟩⟩
 obtain⟨D2,p2,l2,M2,m2,b2,h2⟩:=Zu2 hn hr m1 b1 d1 g1 r1 hC
 rcases h2 with⟨rfl,no⟩ | ⟨G2,R2,rfl,d2,r2,g2,li2,in2⟩
 ·refine⟨.none,Zr7 (by omega) (by omega) ⟨_,_,_,rfl⟩ p1 p2,.inr ⟨_,_,l1,.inl ⟨l2,rfl⟩⟩,.inl ⟨rfl,fun v ⟨z,a,hz,_⟩=>no (fun t=>if t<n then z t else ZaH (C (t-n)) z n) ⟨z,li1 z hz,fun t ht=>if_pos ht,fun t ht=>?_⟩⟩⟩
  show(if n+t<n then _ else _)=_
  rw[if_neg (by omega),Nat.add_sub_cancel_left]
 obtain⟨L0,p3,la,M3,m3,b3,h3⟩:=Zxd (m:=n+r) rfl hn hr m2 b2 d2 g2 r2 hd' ok' sG' sR'
 have key:∀v,ZqQ n r x G R C G' R' v→∃y,(ZaP (n+r) G2 R2 y∧ZaP (r+1) G' R' fun i=>y (n+i))∧∀t,t<n→v t=y (ZbI n (n+r) x t-1):=fun v ⟨z,a,hz,hs,hv⟩=>by
  refine⟨fun t=>if t<n then z t else if t<n+r then ZaH (C (t-n)) z n else a,⟨li2 _ ⟨z,li1 z hz,fun t ht=>if_pos ht,fun t ht=>?_⟩,ZlH hs fun i hi=>?_⟩,fun t ht=>?_⟩
  ·show(if n+t<n then _ else if n+t<n+r then _ else _)=_
   rw[if_neg (by omega),if_pos (by omega),Nat.add_sub_cancel_left]
  ·show(if n+i<n then _ else if n+i<n+r then _ else _)=_
   rw[if_neg (by omega),Nat.add_sub_cancel_left]
   by_cases c:i<r
   ·rw[if_pos (by omega),if_pos c]
   ·rw[if_neg (by omega),if_neg c]
  ·rw[hv t ht]
   unfold ZbI
   by_cases c:t=x
   ·rw[if_pos c,if_pos c]
    show _=(if n+r+1-1<n then _ else if n+r+1-1<n+r then _ else _)
    rw[if_neg (by omega),if_neg (by omega)]
   ·rw[if_neg c,if_neg c]
    show _=(if t+1-1<n then _ else _)
    rw[if_pos (by omega),Nat.add_sub_cancel]
 have bR2:∀t,t<n+r→RBd 3440 (R2 t):=fun t ht=>(r2 t ht).bd2 m2 b2 (by decide)
 have fin:∀B0 D,Zck [L0]=some B0→Zcu [L0]=some B0→ZcH [B0,Zav (n+r+1) n fun t=>unC (ZbI n (n+r) x t)]=some D→ZcD [B0,Zav (n+r+1) n fun t=>unC (ZbI n (n+r) x t)]=some D→Zc8 [ZJ n G R,.int ((x:Int)+1),Zav n r C,ZJ (r+1) G' R']=some D∧ZnA n r x (ZJ n G R) C G' R' D:=fun B0 D q1 q2 q3 q4=>⟨Zsw (m:=n+r) rfl hx (by omega) (by omega) ⟨_,_,_,rfl⟩ p1 p2 p3 q1 q3,.inr ⟨_,_,l1,.inr ⟨_,_,L0,B0,l2,fun t ht=>(r2 t ht).1,bR2,la,q2,q4⟩⟩⟩
 rcases h3 with⟨rfl,no⟩ | ⟨G3,R3,rfl,d3,r3,g3,li3,in3⟩
 ·obtain⟨a,b⟩:=fin .none .none ZsY Zrn Zn2 Zjg
  exact⟨.none,a,b,.inl ⟨rfl,fun v h=>by obtain⟨y,hy,_⟩:=key v h;exact no y hy⟩⟩
 obtain⟨B0,p4,l4,h4⟩:=ZmW (k:=4950) (by omega) (by omega) m3 b3 d3 (fun i j hi hj y e=>(g3 i j hi hj y e).mono (by decide)) (fun t ht=>(r3 t ht).mono (by decide))
 rcases h4 with⟨rfl,no⟩ | ⟨G4,R4,rfl,d4,r4,g4,li4,in4⟩
 ·obtain⟨a,b⟩:=fin .none .none p4 l4 Zn2 Zjg
  exact⟨.none,a,b,.inl ⟨rfl,fun v h=>by obtain⟨y,hy,_⟩:=key v h;exact no y (li3 y hy)⟩⟩
 obtain⟨D,p5,l5,h5⟩:=Zu3 (n:=n) (m:=n+r) (x:=x) (by omega) (by omega) m3 b3 d4 (fun i j hi hj y e=>(g4 i j hi hj y e).mono (by omega)) (fun t ht=>(r4 t ht).mono (by omega))
 obtain⟨a,b⟩:=fin _ D p4 l4 p5 l5
 refine⟨D,a,b,?_⟩
 rcases h5.tf with⟨rfl,no⟩ | ⟨G5,R5,rfl,d5,o5,li5,in5⟩
 ·exact .inl ⟨rfl,fun v h=>by obtain⟨y,hy,e⟩:=key v h;exact no v ⟨y,li4 y (li3 y hy),e⟩⟩
 ·refine .inr ⟨G5,R5,rfl,d5,o5,fun v h=>by obtain⟨y,hy,e⟩:=key v h;exact li5 v ⟨y,li4 y (li3 y hy),e⟩,fun i hi hix j hj hjx=>?_,fun t ht htx=>?_⟩
  ·have:=in5.1 i hi j hj
   rw[ZqR hix,ZqR hjx]at this
   exact Zcc this (Zcc (in4.1 i (by omega) j (by omega)) (Zcc (in3.1 i (by omega) j (by omega)) (Zcc (in2.1 i hi j hj) (in1.1 i hi j hj))))
  ·have q5:=in5.2 t ht
   rw[show ZbI n (n+r) x t-1=t by unfold ZbI;rw[if_neg htx];omega]at q5
   have o1:=(r1 t ht).1
   have o2:=(r2 t (by omega)).1
   have o3:=(r3 t (by omega)).1
   have o4:=(r4 t (by omega)).1
   exact Znj (o5 t ht) (ok t ht) fun y hy=>ZgD o1 (ok t ht) (in1.2 t ht) (ZgD o2 o1 (in2.2 t ht) (ZgD o3 o2 (in3.2 t (by omega)) (ZgD o4 o3 (in4.2 t (by omega)) (ZgD (o5 t ht) o4 q5 hy))))
theorem ZoO{k x:Int}(hx:Bd 290 x): Bd 290 (Zdn ns k x).1∧Bd 290 (Zdn ns k x).2:=by
 have h:=Zmy ns k
 have h2:Bd 290 (Zb7 ns k):=Zbq (Zfp ns k) (by decide)
 have e:(20:Nat)<2 ^ 290:=by decide
 unfold Bd at *
 unfold Zdn
 split
 ·exact⟨by show(1:Nat)<_;omega,by show(0:Nat)<_;omega⟩
 ·split
  ·exact⟨by show(0:Nat)<_;omega,hx⟩
  ·split
   ·exact ZeY (by omega) (by omega) hx
   ·exact ZeY (Zdd _) (by rw[Zh9];exact h2) hx
theorem Zwl(h:Q (f n)): Pk (Zq (.lst (tab (n+1) f)) (.int (-1))) Q:=⟨f n,by
 simp only[Zq,Zap]
 rw[show seqIndex? (-1) (n+1)=some n by unfold seqIndex?;simp;omega]
 simp only[Option.bind_some]
 exact Za8 (by omega),h⟩
theorem Zt2{f:Nat→Int}{a:Int}: (tab r fun i=>T.int (f i))++[T.int a]=tab (r+1) fun i=>T.int (if i<r then f i else a):=by
 rw[←Zcj (n:=r) (f:=fun i=>T.int (if i<r then f i else a))]
 congr 1
 ·exact Za7 fun i hi=>by rw[if_pos hi]
 ·rw[if_neg (by omega)]
theorem Zn3(hm:m≤60): ZfO [.int m]=some (Zav m m fun t=>unC (t+1)):=by
 apply Pk.eq
 unfold ZfO Zjz Zav
 walk_at "zz"
 refine ZbQ (n:=m) (a:=fun i=>.int i) (P:=fun k σ=>σ 0=some (.int m)∧σ 1=some (.lst (tab k fun t=>Zai m (unC (t+1))))) ?_ ⟨by walk_at "zr",by walk_at "zr"⟩ ?_ ?_
 ·walk_at "zz"
  rfl
 ·rintro i σ hi ⟨e0,e1⟩
  walk_at "zz"
  rw[show(m:Int)+1=((m+1:Nat):Int)by omega]
  refine Zfr (by omega) ?_
  walk_at "zz"
  refine ZhS (n:=m+1) (f:=fun _=>.int 0) (by walk_at "zr") (by omega) (by omega) ?_
  rw[show((i:Int)+1).toNat=i+1 by omega]
  have ev:(T.lst (tab (m+1) fun k=>if k=i+1 then T.int 1 else T.int 0))=Zai m (unC (i+1)):=by
   show T.lst _=T.lst _
   congr 1
   refine Za7 fun k _=>?_
   unfold unC
   by_cases q:k=i+1
   ·rw[if_pos q,if_pos ⟨by omega,q⟩]
   ·rw[if_neg q,if_neg (by omega)]
  rw[ev]
  walk_at "zz"
  rw[Zcj (f:=fun t=>Zai m (unC (t+1)))]
  exact⟨by walk_at "zr",by walk_at "zr"⟩
 ·rintro σ ⟨e0,e1⟩
  walk_at "zz"
  rfl
theorem Zt3(hm:m≤80)(hL:L≤80)(hb:b≤8000)(hp:n+L≤m+1)(ok:∀t,t<m→RestOk (R t))(ok':∀t,t<L→RestOk (R' t))(bR:∀t,t<m+1→RBd b (Za6 m R t))(bR':∀t,t<L→RBd b (R' t)): Pk (ZfP [ZJ m G R,.int ((n:Int)+1),ZJ L G' R']) fun t=>∃ρ,ZdF (m+1) (Za6 m R) (fun i=>n+i) R' L ρ∧ZgU (m+1) (Zci (qOf fun i=>n+i) G' (L+1) (ZaN m G) (L+1)) ρ t:=by
 unfold ZfP ZjC
 have ht:∀{n:Nat} {G:Nat→Nat→Option Int} {R:Nat→Int×Int},ZJ n G R=.tup [.lst (tab (n+1) fun i=>.lst (tab (n+1) fun j=>oT (G i j))),.lst (tab n fun i=>ZZ (R i))]:=rfl
 have wok:∀t,t<m+1→RestOk (Za6 m R t):=fun t _=>Zwd ok t
 have hpl:∀i,i<L→n+i<m+1:=fun i hi=>by omega
 have inj:∀i j,i<L→j<L→n+i=n+j→i=j:=fun i j _ _ h=>by omega
 have hq:∀i,i<L+1→qOf (fun i=>n+i) i<m+1+1:=fun i hi=>by
  cases i with
  | zero=>exact Nat.succ_pos _
  | succ i=>show n+i+1<m+1+1;omega
 rw[ht,ht]
 walk_at "zz"
 refine Zby (n:=m+1) (a:=fun i=>.lst (tab (m+1) fun j=>oT (G i j))) (b:=fun i=>Zan (m+1+1) (ZaN m G i)) (by omega) ?_ (fun i hi=>?_) ?_
 ·walk_at "zz"
  rfl
 ·walk_at "zz"
  refine ZcP (by simp[tab];omega) ?_
  have er:(tab (m+1) fun j=>oT (G i j))++[T.none]=tab (m+1+1) fun j=>oT (ZaN m G i j):=by
   rw[←Zcj (n:=m+1) (f:=fun j=>oT (ZaN m G i j))]
   congr 1
   ·exact Za7 fun j hj=>by unfold ZaN;rw[if_pos ⟨hi,hj⟩]
   ·unfold ZaN;rw[if_neg (by omega),if_neg (by omega)];rfl
  rw[er]
  walk_at "zz"
  rfl
 walk_at "zz"
 refine Zfr (by omega) ?_
 walk_at "zz"
 refine ZcP (by simp[tab];omega) ?_
 have er:(tab (m+1) fun _=>T.none)++[T.int 0]=tab (m+1+1) fun j=>oT (ZaN m G (m+1) j):=by
  rw[←Zcj (n:=m+1) (f:=fun j=>oT (ZaN m G (m+1) j))]
  congr 1
  ·exact Za7 fun j hj=>by unfold ZaN;rw[if_neg (by omega),if_neg (by omega)];rfl
  ·unfold ZaN;rw[if_neg (by omega),if_pos rfl];rfl
 rw[er]
 walk_at "zz"
 refine ZcP (by simp[tab];omega) ?_
 rw[show(tab (m+1) fun i=>Zan (m+1+1) (ZaN m G i))++[T.lst (tab (m+1+1) fun j=>oT (ZaN m G (m+1) j))]=tab (m+1+1) fun i=>Zan (m+1+1) (ZaN m G i)from Zcj (n:=m+1) (f:=fun i=>Zan (m+1+1) (ZaN m G i)),show T.lst (tab (m+1+1) fun i=>Zan (m+1+1) (ZaN m G i))=Z8 (m+1+1) (ZaN m G)from rfl]
 walk_at "zz"
 refine ZcP (by simp[tab];omega) ?_
 have eR:(tab m fun i=>ZZ (R i))++[T.tup [.int 1,.int 0]]=tab (m+1) fun i=>ZZ (Za6 m R i):=by
  rw[←Zcj (n:=m) (f:=fun i=>ZZ (Za6 m R i))]
  congr 1
  ·exact Za7 fun j hj=>by unfold Za6;rw[if_pos hj]
  ·unfold Za6;rw[if_neg (by omega)];rfl
 rw[eR]
 walk_at "zz"
 refine Zby (n:=L) (a:=fun i=>.int i) (b:=fun i=>.int ((n:Int)+1+i)) (by omega) ?_ (fun i hi=>?_) ?_
 ·walk_at "zz"
  rfl
 ·walk_at "zz"
  rfl
 walk_at "zz"
 have eq5:(T.lst (tab (L+1) (cn (T.int 0) fun i=>T.int ((n:Int)+1+i))))=.lst (tab (L+1) fun i=>.int (qOf (fun i=>n+i) i:Nat)):=by
  congr 1
  refine Za7 fun i _=>?_
  cases i with
  | zero=>rfl
  | succ i=>show T.int ((n:Int)+1+i)=T.int ((n+i+1:Nat):Int);exact congrArg T.int (by omega)
 rw[eq5]
 generalize hΓ:ZaN m G=Γ at *
 generalize hRw:Za6 m R=Rw at *
 refine ZbQ (n:=L+1) (a:=fun i=>.int i) (P:=fun i σ=>σ 1=some (.int ((n:Int)+1))∧σ 2=some (.tup [.lst (tab (L+1) fun i=>.lst (tab (L+1) fun j=>oT (G' i j))),.lst (tab L fun i=>ZZ (R' i))])∧σ 3=some (Z8 (m+1+1) (Zci (qOf fun i=>n+i) G' (L+1) Γ i))∧σ 4=some (.lst (tab (m+1) fun i=>ZZ (Rw i)))∧σ 5=some (.lst (tab (L+1) fun i=>.int (qOf (fun i=>n+i) i:Nat)))) ?_ ⟨by walk_at "zr",by walk_at "zr",by walk_at "zr",by walk_at "zr",by walk_at "zr"⟩ ?_ ?_
 ·walk_at "zz"
  rfl
 ·rintro i σ hi ⟨e1,e2,e3,e4,e5⟩
  refine ZbQ (n:=L+1) (a:=fun i=>.int i) (P:=fun j σ=>σ 1=some (.int ((n:Int)+1))∧σ 2=some (.tup [.lst (tab (L+1) fun i=>.lst (tab (L+1) fun j=>oT (G' i j))),.lst (tab L fun i=>ZZ (R' i))])∧σ 3=some (Z8 (m+1+1) (ZdA (qOf fun i=>n+i) G' i (Zci (qOf fun i=>n+i) G' (L+1) Γ i) j))∧σ 4=some (.lst (tab (m+1) fun i=>ZZ (Rw i)))∧σ 5=some (.lst (tab (L+1) fun i=>.int (qOf (fun i=>n+i) i:Nat)))∧σ 6=some (.int i)) ?_ ⟨by walk_at "zr",by walk_at "zr",by walk_at "zr",by walk_at "zr",by walk_at "zr",by walk_at "zr"⟩ ?_ ?_
  ·walk_at "zz"
   rfl
  ·rintro j σ hj ⟨e1,e2,e3,e4,e5,e6⟩
   have hqi:=hq i hi
   have hqj:=hq j hj
   show Psk _ _ fun σ=>σ 1=_∧σ 2=_∧σ 3=some (Z8 (m+1+1) (ZbT (ZdA (qOf fun i=>n+i) G' i (Zci (qOf fun i=>n+i) G' (L+1) Γ i) j) (qOf (fun i=>n+i) i) (qOf (fun i=>n+i) j) (Zbp (ZdA (qOf fun i=>n+i) G' i (Zci (qOf fun i=>n+i) G' (L+1) Γ i) j (qOf (fun i=>n+i) i) (qOf (fun i=>n+i) j)) (G' i j))))∧σ 4=_∧σ 5=_∧σ 6=_
   generalize ZdA (qOf fun i=>n+i) G' i (Zci (qOf fun i=>n+i) G' (L+1) Γ i) j=Δ at *
   unfold Z8 Zan at e3
   cases hΔ:Δ (qOf (fun i=>n+i) i) (qOf (fun i=>n+i) j)with
   | none=>
    walk_at "zz"
    rw[hΔ,ZbO]
    walk_at "zz"
    rw[ZoI (w:=oT (G' i j)) (v:=G' i j) rfl,Zw7]
    exact⟨by walk_at "zr",by walk_at "zr",ZbJ,by walk_at "zr",by walk_at "zr",by walk_at "zr"⟩
   | some x=>
    cases hG:G' i j with
    | none=>
     walk_at "zz"
     rw[hΔ,ZaF]
     walk_at "zz"
     rw[hG,ZbO]
     walk_at "zz"
     rw[ZoM (ZgB Zew |>.trans hΔ.symm)]
     exact⟨by walk_at "zr",by walk_at "zr",by walk_at "zr",by walk_at "zr",by walk_at "zr",by walk_at "zr"⟩
    | some y=>
     by_cases c:y<x
     ·walk_at "zz"
      rw[hΔ,ZaF]
      walk_at "zz"
      rw[hG,ZaF]
      walk_at "zz"
      rw[ZoI (w:=.int y) (v:=some y) rfl,Zwb c]
      exact⟨by walk_at "zr",by walk_at "zr",ZbJ,by walk_at "zr",by walk_at "zr",by walk_at "zr"⟩
     ·walk_at "zz"
      rw[hΔ,ZaF]
      walk_at "zz"
      rw[hG,ZaF]
      walk_at "zz"
      rw[ZoM (ZgB (leO_some.mpr (by omega)) |>.trans hΔ.symm)]
      exact⟨by walk_at "zr",by walk_at "zr",by walk_at "zr",by walk_at "zr",by walk_at "zr",by walk_at "zr"⟩
  ·rintro σ ⟨e1,e2,e3,e4,e5,e6⟩
   exact⟨e1,e2,e3,e4,e5⟩
 ·rintro σ ⟨e1,e2,e3,e4,e5⟩
  walk_at "zz"
  refine ZbQ (n:=L) (a:=fun i=>.int i) (P:=fun i σ=>∃ρ,σ 1=some (.int ((n:Int)+1))∧σ 2=some (.tup [.lst (tab (L+1) fun i=>.lst (tab (L+1) fun j=>oT (G' i j))),.lst (tab L fun i=>ZZ (R' i))])∧σ 3=some (Z8 (m+1+1) (Zci (qOf fun i=>n+i) G' (L+1) Γ (L+1)))∧σ 4=some (.lst (tab (m+1) fun t=>oR (ρ t)))∧ZdF (m+1) Rw (fun i=>n+i) R' i ρ) ?_ ⟨fun t=>some (Rw t),by walk_at "zr",by walk_at "zr",by walk_at "zr",by walk_at "zr",fun t _ _=>rfl,fun j hj=>by omega⟩ ?_ ?_
  ·walk_at "zz"
   rfl
  ·rintro i σ hi ⟨ρ,e1,e2,e3,e4,hl⟩
   have hpi:=hpl i hi
   have hidx:((n:Int)+1+i-1).toNat=n+i:=by omega
   have hr:ρ (n+i)=some (Rw (n+i)):=hl.1 (n+i) hpi fun j hj e=>by have e':n+j=n+i:=e;omega
   walk_at "zz"
   rw[hidx,hr]
   refine(Zok (k:=b) hb (wok _ hpi) (ok' i hi) (bR _ hpi) (bR' i hi)).mono ?_
   rintro _ ⟨o,rfl,hm⟩
   refine⟨Zqa,?_⟩
   walk_at "zz"
   refine ZhS (n:=m+1) (f:=fun t=>oR (ρ t)) (by walk_at "zr") (by omega) (by omega) ?_
   rw[hidx,ZqC]
   exact⟨_,by walk_at "zr",by walk_at "zr",by walk_at "zr",by walk_at "zr",ZoL (p:=fun i=>n+i) (fun j hj=>hpl j (by omega)) (fun i' j' h1 h2=>inj i' j' (by omega) (by omega)) hl hm⟩
  ·rintro σ ⟨ρ,e1,e2,e3,e4,hl⟩
   walk_at "zz"
   refine ZfD (.none (n:=0)) (Zed (n:=1) fun i _=>ZiR) ?_
   by_cases hc:∃i,i<m+1∧ρ i=none
   ·obtain⟨i,hi,ei⟩:=hc
    rw[Za9 (show T.none∈tab (m+1) fun i=>oR (ρ i)from List.mem_of_getElem? (i:=i) (by rw[Za8 hi,ei];rfl))]
    walk_at "zz"
    exact⟨ρ,hl,.inl ⟨rfl,i,hi,ei⟩⟩
   ·rw[ZbR (show ¬T.none∈tab (m+1) fun i=>oR (ρ i)from fun h=>by
     obtain⟨i,hi,e⟩:=ZcY h
     exact hc ⟨i,hi,oR_none.mp e.symm⟩)]
    have hne:∀i,i<m+1→ρ i≠none:=fun i hi e=>hc ⟨i,hi,e⟩
    walk_at "zz"
    exact⟨ρ,hl,.inr ⟨Zpm hne,hne⟩⟩
theorem Zu4{L0:T}(hn:n≤4)(hr:r≤4)(ok:∀t,t<n+r→RestOk (R t))(bR:∀t,t<n+r→RBd 3440 (R t))(ok':∀t,t<r+1→RestOk (R' t))(sR':SmR 300 (r+1) R')(h:Znt n r (n+r) G R G' R' L0): ZfP [ZJ (n+r) G R,.int ((n:Int)+1),ZJ (r+1) G' R']=some L0:=by
 obtain⟨ρ,hl,hT⟩:=h
 obtain⟨t,et,ρ',hl',hT'⟩:=Zt3 (n:=n) (m:=n+r) (L:=r+1) (b:=3440) (G:=G) (G':=G') (by omega) (by omega) (by decide) (by omega) ok ok' (fun t _=>Zwe (by decide) bR t) (fun t ht=>⟨(show Bd 300 _ from(sR' t ht).1).mono (by decide),(show Bd 300 _ from(sR' t ht).2).mono (by decide)⟩)
 rw[et,Zr5 (Zsu hl' hl) hT' hT]
theorem Zq8{x:Nat}(hx:x<n)(hn:n≤4)(hr:r≤4)(ok':∀t,t<r+1→RestOk (R' t))(sR':SmR 300 (r+1) R')(h:ZnA n r x (ZJ n G R) C G' R' D): ZfQ [ZJ n G R,.int ((x:Int)+1),Zav n r C,ZJ (r+1) G' R']=some D:=by
 have ht:ZJ n G R=.tup [Z8 (n+1) G,.lst (tab n fun i=>ZZ (R i))]:=rfl
 have hg:∀{Q:T→Prop},Q (.lst (tab n fun i=>ZZ (R i)))→Pk (Zq (ZJ n G R) (.int 1)) Q:=fun h=>⟨_,by rw[ht];rfl,h⟩
 have hs:Zav n r C=.lst (tab r fun i=>Zai n (C i)):=rfl
 have o1:=Zn3 (m:=n) (by omega)
 have e1:Zav n n (fun t=>unC (t+1))=.lst (tab n fun t=>Zai n (unC (t+1))):=rfl
 rw[e1]at o1
 have eS:T.lst (tab (n+r) fun t=>Zai n (Zbn n C t))=Zav n (n+r) (Zbn n C):=rfl
 apply Pk.eq
 unfold ZfQ ZjF
 rw[hs]
 have ln:(tab r fun i=>Zai n (C i)).length=r:=Zap
 rcases h with⟨l1,rfl⟩ | ⟨Gs,Rs,l1,⟨l2,rfl⟩ | ⟨Gg,Rg,L0,B0,l2,okg,bRg,la,l4,l5⟩⟩
 ·clear ht
  generalize ZJ n G R=T0 at *
  walk_at "zz"
  refine hg ?_
  walk_at "zz"
  refine ZM l1 ?_
  walk_at "zz"
  refine ZM o1 ?_
  walk_at "zz"
  refine ZcP (by simp[tab];omega) ?_
  rw[Zgs,eS]
  walk_at "zz"
  refine ZM Zjg ?_
  walk_at "zz"
  rfl
 ·clear ht
  generalize ZJ n G R=T0 at *
  generalize ZJ n Gs Rs=T1 at *
  walk_at "zz"
  refine hg ?_
  walk_at "zz"
  refine ZM l1 ?_
  walk_at "zz"
  refine ZM o1 ?_
  walk_at "zz"
  refine ZcP (by simp[tab];omega) ?_
  rw[Zgs,eS]
  walk_at "zz"
  refine ZM l2 ?_
  walk_at "zz"
  rfl
 ·have l3:=Zu4 hn hr okg bRg ok' sR' la
  have o2:=Zn3 (m:=n+r+1) (by omega)
  have e2:Zav (n+r+1) (n+r+1) (fun t=>unC (t+1))=.lst (tab (n+r+1) fun t=>Zai (n+r+1) (unC (t+1))):=rfl
  rw[e2]at o2
  have hne:∀{Q:T→Prop},Q (.bool false)→Pk (qIs (ZJ (n+r) Gg Rg) .none) Q:=fun h=>⟨_,rfl,h⟩
  have fin:(T.lst ((tab n fun t=>Zai (n+r+1) (unC (t+1))).set x (Zai (n+r+1) (unC (n+r+1)))))=Zav (n+r+1) n fun t=>unC (ZbI n (n+r) x t):=by
   rw[←ZoN,Zfl]
  clear ht la
  generalize ZJ n G R=T0 at *
  generalize ZJ n Gs Rs=T1 at *
  generalize ZJ (n+r) Gg Rg=T2 at *
  generalize ZJ (r+1) G' R'=S0 at *
  walk_at "zz"
  refine hg ?_
  walk_at "zz"
  refine ZM l1 ?_
  walk_at "zz"
  refine ZM o1 ?_
  walk_at "zz"
  refine ZcP (by simp[tab];omega) ?_
  rw[Zgs,eS]
  walk_at "zz"
  refine ZM l2 ?_
  walk_at "zz"
  refine hne ?_
  walk_at "zz"
  refine ZM l3 ?_
  walk_at "zz"
  refine ZM l4 ?_
  walk_at "zz"
  rw[show(n:Int)+r+1=((n+r+1:Nat):Int)by omega]
  refine ZM o2 ?_
  refine Ziy ?_
  refine ZtG ?_
  refine ZqK ?_
  walk_at "zz"
  refine⟨_,rfl,?_⟩
  walk_at "zz"
  refine⟨n,rfl,?_⟩
  rw[ZuZ (by omega)]
  refine⟨_,rfl,?_⟩
  walk_at "zz"
  refine Zwl ?_
  walk_at "zz"
  refine⟨_,rfl,by omega,by rw[Zap];omega,?_⟩
  rw[show((x:Int)+1-1).toNat=x by omega,fin]
  walk_at "zz"
  exact ZM l5 rfl
theorem Zt4{k:Int}(hx:∀i,i<n→Bd 290 (x i)): SmG 299 n (Zb5 ns k n x):=by
 intro i j hi hj b h
 have h40:=ZgE
 have h1:Bd 290 (ZaG x i):=ZhO (k:=290) hx i hi
 have h2:Bd 290 (ZaG x j):=ZhO (k:=290) hx j hj
 unfold Zb5 at h
 split at h
 ·cases h;exact Nat.two_pow_pos _
 ·obtain⟨c,h3,h4⟩:=Zz1.mp h
  have:=Zo6 ns _ h3
  subst h4
  have e:(2:Nat) ^ 140=1393796574908163946345982392040522594123776:=by decide
  have hc0:Bd 140 c:=by unfold Bd;omega
  have hc:Bd 291 c:=hc0.mono (by decide)
  exact((h1.sub h2).add hc).mono (by decide)
theorem Zwm{X:Nat}{N:TL→Prop}(hX:X<n)(hn:n≤4)(hr:r≤4)(hd:∀i,i<n+1→G i i=some 0)(ok:∀t,t<n→RestOk (R t))(sG:SmG 137 n G)(sR:SmR 137 n R)(hC:CB 140 n r C)(hd':∀i,i<r+1+1→G' i i=some 0)(ok':∀t,t<r+1→RestOk (R' t))(sG':SmG 300 (r+1) G')(sR':SmR 300 (r+1) R')(e5:σ 5=some (ZJ n G R))(e6:σ 6=some (Zav n r C))(e9:σ 9=some (ZJ (r+1) G' R'))(e10:σ 10=some (.int ((X:Int)+1))): Psk ((Zt (ZF 11 (ZaW (Zf (Zw ZdK (Zf (Za 5) Zm)) (Zf (Zw ZdK (Zf (Za 9) Zm)) (Zf (Zam (ZaD (Za 6)) (Z5 106) Zah (Zw Zcm (Zf (Za 106) Zm))) Zm))))) (Zt (ZF 12 (Zw Zc8 (Zf (Za 5) (Zf (Za 10) (Zf (Za 6) (Zf (Za 9) Zm)))))) (Zt (Z2 (bOr (ZH (Zd qNe (Za 5) (Zd Zq (Za 11) (Zj 0)))) (bOr (ZH (Zd qNe (Za 9) (Zd Zq (Za 11) (Zj 1)))) (bOr (ZH (Zd qNe (Za 6) (Zd Zq (Za 11) (Zj 2)))) Zcf))) (ZI (Zch false)) Z4) (Zt (Z2 (ZcC (ZH (Zw Zd6 (Zf (Za 12) (Zf (Zw ZfQ (Zf (Zd Zq (Za 11) (Zj 0)) (Zf (Za 10) (Zf (Zd Zq (Za 11) (Zj 2)) (Zf (Zd Zq (Za 11) (Zj 1)) Zm))))) Zm))))) (ZI (Zch false)) Z4) (Zt (ZfK 12 ZeX Zm) (ZI ((ZdY (Zd qEq (Za 5) (Zd Zq (Za 11) (Zj 0))) (Zd qEq (Za 9) (Zd Zq (Za 11) (Zj 1))))))))))) σ) (fun t=>t=.bool true) N:=by
 obtain⟨D,ea,al,hD⟩:=Ztf hX hn hr hd ok sG sR hC hd' ok' sG' sR'
 have el:=Zq8 hX hn hr ok' sR' al
 have hs:=hD.due.same (by omega)
 obtain⟨t,et⟩:=ZtZ (n:=n) (by omega) hD.due.sh
 have cp0:ZdK [ZJ n G R]=some (ZJ n G R):=ZpO (by omega)
 have cp1:ZdK [ZJ (r+1) G' R']=some (ZJ (r+1) G' R'):=ZpO (by omega)
 have p0:Pln 3 (ZJ n G R):=Zh4
 have p1:Pln 3 (ZJ (r+1) G' R'):=Zh4
 have ps:=Zwa (C:=C) (n:=n) (m:=r)
 have hl:∀{σ:TL},σ 6=some (Zav n r C)→Pk (Zam (ZaD (Za 6)) (Z5 106) Zah (Zw Zcm (Zf (Za 106) Zm)) σ) fun t=>t=Zav n r C:=fun e=>by
  unfold Zav at e
  refine Zby (n:=r) (a:=fun t=>Zai n (C t)) (b:=fun t=>Zai n (C t)) (by omega) ?_ (fun t ht=>?_) rfl
  ·walk_at "zz"
   rfl
  ·unfold Zai
   walk_at "zz"
   rfl
 clear hD al hd ok sG sR hd' ok' sG' sR' hC
 generalize ZJ n G R=T0 at *
 generalize ZJ (r+1) G' R'=S0 at *
 generalize Zav n r C=C0 at *
 walk_at "zz"
 refine ZM cp0 ?_
 walk_at "zz"
 refine ZM cp1 ?_
 walk_at "zz"
 refine(hl (by walk_at "zr")).mono ?_
 intro t0 et0
 rw[et0]
 clear et0 t0 hl
 walk_at "zz"
 refine ZM ea ?_
 walk_at "zz"
 refine Zm9 p0 p0 ?_
 rw[Za9 rfl]
 walk_at "zz"
 refine Zm9 p1 p1 ?_
 rw[Za9 rfl]
 walk_at "zz"
 refine Zm9 ps ps ?_
 rw[Za9 rfl]
 walk_at "zz"
 refine ZM el ?_
 walk_at "zz"
 refine ZM hs ?_
 walk_at "zz"
 refine Zqm (t:=D) (by walk_at "zr") ?_
 walk_at "zz"
 refine ZM et ?_
 walk_at "zz"
 refine Zfu p0 p0 ?_
 rw[Za9 rfl]
 walk_at "zz"
 refine Zfu p1 p1 ?_
 rw[Za9 rfl]
theorem Zsx(hL:Lay ns): Zmx [scr ns]=some (.bool true):=by
 apply Pk.eq
 unfold Zmx Zmw
 obtain⟨p0,p1⟩:=Zb8 ns 0 (show(0:Int)<10 by decide)
 obtain⟨w,ew,hw⟩:=ZgN p0 (show Zbs ns 0 10<(10:Nat)by omega)
 walk_at "zz"
 refine ZM (Zb9 (by decide) (by decide) (by decide)) ?_
 rw[ew]
 obtain⟨n,r,h0,hn,hr,hidx⟩:∃n r:Nat,0<n∧n≤4∧r≤4∧[T.tup [.int 1,.int 0],.tup [.int 1,.int 1],.tup [.int 2,.int 1],.tup [.int 1,.int 2],.tup [.int 1,.int 1],.tup [.int 2,.int 0],.tup [.int 1,.int 1],.tup [.int 2,.int 2],.tup [.int 1,.int 3],.tup [.int 1,.int 4]][w]?=some (.tup [.int n,.int r]):=by
  match w,hw with
  | 0,_=>exact⟨1,0,by decide,by decide,by decide,rfl⟩
  | 1,_=>exact⟨1,1,by decide,by decide,by decide,rfl⟩
  | 2,_=>exact⟨2,1,by decide,by decide,by decide,rfl⟩
  | 3,_=>exact⟨1,2,by decide,by decide,by decide,rfl⟩
  | 4,_=>exact⟨1,1,by decide,by decide,by decide,rfl⟩
  | 5,_=>exact⟨2,0,by decide,by decide,by decide,rfl⟩
  | 6,_=>exact⟨1,1,by decide,by decide,by decide,rfl⟩
  | 7,_=>exact⟨2,2,by decide,by decide,by decide,rfl⟩
  | 8,_=>exact⟨1,3,by decide,by decide,by decide,rfl⟩
  | 9,_=>exact⟨1,4,by decide,by decide,by decide,rfl⟩
 refine Zik (t:=.tup [.int n,.int r]) (by omega) (by rw[Int.toNat_natCast];exact hidx) ?_
 walk_at "zz"
 refine Zby (n:=n) (a:=fun i=>.int i) (b:=fun i=>.int (Zb7 ns (2+i))) (by omega) ?_ (fun t ht=>?_) ?_
 ·walk_at "zz"
  rfl
 ·walk_at "zz"
  exact ZM (Zfa hL (by omega) (by omega)) rfl
 generalize hx:(fun i:Nat=>Zb7 ns (2+i))=x
 have sx:∀i,i<n→(x i).natAbs<2 ^ 134:=fun i _=>by rw[←hx];exact Zfp ns _
 rw[show(fun i:Nat=>T.int (Zb7 ns (2+i)))=fun i=>T.int (x i)by rw[←hx]]
 walk_at "zz"
 refine ZM (ZpN (x:=x) hL (by decide) (by decide) (by omega)) ?_
 have gd:=ZoC ns 28 n x
 have smG:SmG 137 n (Zb5 ns 28 n x):=fun i j hi hj b e=>Zbq (ZuO sx i j hi hj b e) (by decide)
 have smR:SmR 137 n (Zel ns 28 n x):=fun t ht=>⟨Zbq (Zo7 (ns:=ns) (k:=28) sx t ht).1 (by decide),Zbq (Zo7 (ns:=ns) (k:=28) sx t ht).2 (by decide)⟩
 generalize Zb5 ns 28 n x=G at *
 generalize Zel ns 28 n x=R at *
 walk_at "zz"
 refine ZoD (n:=r) (a:=fun i=>.int i) (Zai n) (fun _ c=>SumB n c 1000000000) (by omega) ?_ (fun t ht=>?_) (fun _=>0) fun C hC=>?_
 ·walk_at "zz"
  rfl
 ·walk_at "zz"
  refine Zdt (by omega) (by omega) ?_
  walk_at "zz"
  exact ZxH (by omega) (by omega) hL (by omega)
 have hCB:CB 140 n r C:=fun i hi k hk=>(hC i hi).bd (by decide) k hk
 have bx:∀i,i<n→Bd 140 (x i):=fun i hi=>Zbq (sx i hi) (by decide)
 have bv:∀i,i<r→Bd 285 (ZaH (C i) x n):=fun i hi=>(ZqD (hCB i hi) bx n (Zz10 n)).mono (by omega)
 walk_at "zz"
 refine Zby (n:=r) (a:=fun i=>Zai n (C i)) (b:=fun i=>.int (ZaH (C i) x n)) (by omega) ?_ (fun i hi=>?_) ?_
 ·walk_at "zz"
  rfl
 ·walk_at "zz"
  exact ZM (ZuY (b:=140) (by omega) (by decide) (hCB i hi) bx) rfl
 walk_at "zz"
 refine ZM (Zfa hL (by omega) (by omega)) ?_
 have bn:Bd 290 (Zb7 ns 6):=Zbq (Zfp ns 6) (by decide)
 refine Zdq (fun σ'=>σ' 0=some (scr ns)∧σ' 3=some (.int n)∧σ' 4=some (ZfI n x)∧σ' 5=some (ZJ n G R)∧σ' 6=some (Zav n r C)∧σ' 7=some (.lst (tab r fun i=>.int (ZaH (C i) x n)))∧∃a:Int,σ' 8=some (.int a)∧Bd 290 a) ?_ ?_
 ·by_cases hr0:r=0
  ·walk_at "zz"
   exact⟨by walk_at "zr",by walk_at "zr",by walk_at "zr",by walk_at "zr",by walk_at "zr",by walk_at "zr",_,by walk_at "zr",bn⟩
  ·walk_at "zz"
   refine ZM (Zb9 (by decide) (by decide) (by decide)) ?_
   walk_at "zz"
   refine⟨fun q=>?_,fun q=>?_⟩
   ·walk_at "zz"
    refine ZM (Zb9 (by decide) (by decide) (by decide)) ?_
    obtain⟨z0,z1⟩:=Zb8 ns 6 (show(0:Int)<7 by decide)
    generalize Zbs ns 6 7=pp at *
    walk_at "zz"
    refine⟨by walk_at "zr",by walk_at "zr",by walk_at "zr",by walk_at "zr",by walk_at "zr",by walk_at "zr",_,ZbJ,?_⟩
    rw[show ∀u:Int,u+pp-3=u+(pp-3)from fun u=>by omega]
    exact((bv _ (by omega)).add ((show Bd 4 (pp-3)by unfold Bd;omega).mono (by decide))).mono (by decide)
   ·walk_at "zz"
    exact⟨by walk_at "zr",by walk_at "zr",by walk_at "zr",by walk_at "zr",by walk_at "zr",by walk_at "zr",_,by walk_at "zr",bn⟩
 rintro σ1 ⟨e0,e3,e4,e5,e6,e7,a,e8,ba⟩
 walk_at "zz"
 refine ZcP (by simp[tab];omega) ?_
 rw[Zt2,show T.lst (tab (r+1) fun i=>T.int (if i<r then ZaH (C i) x n else a))=ZfI (r+1) fun i=>if i<r then ZaH (C i) x n else a from rfl]
 walk_at "zz"
 refine ZM (ZpN hL (by decide) (by decide) (by omega)) ?_
 have hv:∀i,i<r+1→Bd 290 (if i<r then ZaH (C i) x n else a):=fun i hi=>by
  split
  ·exact(bv i (by assumption)).mono (by decide)
  ·exact ba
 have gd':=ZoC ns 40 (r+1) fun i=>if i<r then ZaH (C i) x n else a
 have sG':=Zt4 (ns:=ns) (k:=40) hv
 have sR':SmR 299 (r+1) (Zel ns 40 (r+1) fun i=>if i<r then ZaH (C i) x n else a):=fun t ht=>⟨Zbq (ZoO (ns:=ns) (hv t ht)).1 (by decide),Zbq (ZoO (ns:=ns) (hv t ht)).2 (by decide)⟩
 generalize (Zb5 ns 40 (r+1) fun i=>if i<r then ZaH (C i) x n else a)=G' at *
 generalize (Zel ns 40 (r+1) fun i=>if i<r then ZaH (C i) x n else a)=R' at *
 refine Zdq (fun σ'=>σ' 0=some (scr ns)∧σ' 3=some (.int n)∧σ' 5=some (ZJ n G R)∧σ' 6=some (Zav n r C)∧∃(G2:Nat→Nat→Option Int) (R2:Nat→Int×Int),σ' 9=some (ZJ (r+1) G2 R2)∧(∀i,i<r+1+1→G2 i i=some 0)∧(∀t,t<r+1→RestOk (R2 t))∧SmG 300 (r+1) G2∧SmR 300 (r+1) R2) ?_ ?_
 ·walk_at "zz"
  refine ZM (Zb9 (by decide) (by decide) (by decide)) ?_
  walk_at "zz"
  refine⟨fun q=>?_,fun q=>?_⟩
  ·walk_at "zz"
   refine(ZtY (B:=299) hL (by decide) (by decide) (by omega) (by decide) gd'.2 sR' sG').mono ?_
   rintro _ ⟨G2,R2,rfl,d2,r2,g2,s2⟩
   exact⟨by walk_at "zr",by walk_at "zr",by walk_at "zr",by walk_at "zr",G2,R2,ZbJ,fun i hi=>by rw[d2 i hi];exact gd'.1 i hi,r2,g2,s2⟩
  ·walk_at "zz"
   exact⟨by walk_at "zr",by walk_at "zr",by walk_at "zr",by walk_at "zr",G',R',by walk_at "zr",gd'.1,gd'.2,fun a b ha hb c e=>Zbq (sG' a b ha hb c e) (by decide),fun t ht=>⟨Zbq (sR' t ht).1 (by decide),Zbq (sR' t ht).2 (by decide)⟩⟩
 clear e0 e3 e4 e5 e6 e7 e8 sG' sR' gd'
 rintro σ2 ⟨e0,e3,e5,e6,G2,R2,e9,d2,o2,sG2,sR2⟩
 obtain⟨x0,x1⟩:=Zb8 ns 4 (show(0:Int)<(n:Int)by omega)
 obtain⟨X,eX,hX⟩:=ZgN x0 (show Zbs ns 4 n<(n:Nat)by omega)
 walk_at "zz"
 refine ZM (Zb9 (by decide) (by decide) (by omega)) ?_
 rw[eX]
 refine Zm7 ?_
 rw[Int.add_comm 1 (X:Int)]
 exact Zwm hX hn hr gd.1 gd.2 smG smR hCB d2 o2 sG2 sR2 (by walk_at "zr") (by walk_at "zr") (by walk_at "zr") (by walk_at "zr")
theorem Zr8(hlen:ns.length≤63)(hL:PyData.layable0 (.list (ns.map .int))=true): ∃H',Zo3 [.ref 0] [ns.map V.int]=some (.bool true,H'):=Ztz ZuK ns (Zsx hL)
end L
end
section
open PySem PySem.W PyProof.Rows
namespace PySem.W.Fast
def tw14869557710840242666:=0
def tw11187973929812520656:=0
def tw10667965978278278033:=0
def tw9601000219436670146:=0
def tw15886500619415505586:=0
def tw4491058772748593153:=0
def tw12533650973541477374:=0
def tw9991952250452883065:=0
def tw13840814423707232359:=0
def tw2947586027576077979:=0
def tw5587826856885255690:=0
def tw2496939508604703423:=0
def tw1462193419119380569:=0
def tw529536973988259948:=0
def tw5958337225494893492:=0
def tw8426798971799828003:=0
def tw2215426274937266770:=0
def tw17925384258215065573:=0
def tw5030944203280556702:=0
def tw16798657068305975370:=0
def tw16131593051203169754:=0
def tw7492102371377302679:=0
def tw12018387782679925087:=0
def tw12996339429388188178:=0
def tw2283480497557504744:=0
def tw12336147652794031108:=0
def tw6012122021747098740:=0
def tw3414106826494052011:=0
def tw12068798485007620914:=0
def tw8934421753687110507:=0
def tw3094701115853657799:=0
def tw16279701975793424917:=0
def tw16469568281967520401:=0
def tw14712817762504950641:=0
def tw539595736760451978:=0
def tw5627616332142021980:=0
def tw17721039672839981703:=0
def tw8646929664414959583:=0
def tw14439765378166140033:=0
def tw5603574739699854544:=0
def tw11712190458185945011:=0
def tw4733640183689119296:=0
def tw8839083969933755074:=0
def tw5488966160659634681:=0
def tw15679247252792206210:=0
def tw6771114647407755230:=0
def tw5613845454599061817:=0
def tw15431134087688302020:=0
def tw14827384380277173613:=0
def tw8008005557923197168:=0
def tw13792483299354683862:=0
def tw16919330064296535691:=0
def tw9516800180062724845:=0
def tw425938344300624212:=0
def tw13078823862939028812:=0
def tw1157979631877120646:=0
def tw12434779806091606683:=0
def tw15724745641170818534:=0
def tw3555141088238359772:=0
def tw17093224777342109595:=0
def tw13553050674002434610:=0
def tw14987661418082201831:=0
def tw7097827964152542560:=0
def tw15078095837771203109:=0
def tw17882641709403210578:=0
def tw1647960591809683682:=0
def tw5835942142707902020:=0
def tw4185518321428705831:=0
def tw5680315236850328200:=0
def tw6905212232875527693:=0
def tw13887902116395311400:=0
def tw16299953051713170110:=0
def tw13689568730940467714:=0
def tw16655083059833703075:=0
def tw6771182271545134960:=0
def tw3664731896753646195:=0
def tw13508602156133886167:=0
def tw12356241338228022558:=0
def tw10134030333460990790:=0
def tw17456480263006714056:=0
def tw5363195699714531557:=0
def tw8060744490709563079:=0
def tw11224361182253327997:=0
def tw1826987945724244988:=0
def tw704147369595269066:=0
def tw11300376045408061371:=0
def tw10549793865319268755:=0
def tw714049069090440106:=0
def tw12487779173672901959:=0
def tw8621336744817483243:=0
def tw10655601966937900364:=0
def tw8396962428940809896:=0
def tw12694112234171929671:=0
def tw14731147920152588799:=0
def tw5674458297940323589:=0
def tw16970792351503237766:=0
def tw13708279966662545973:=0
def tw7910172739516966087:=0
def tw3016012700857477809:=0
def tw3259544426188881078:=0
end PySem.W.Fast
set_option maxRecDepth 100000 in
set_option maxHeartbeats 8000000 in
open_top head for PySem.Challenge.rw_seer_k53_answered_by_steps
end
section
open PySem PySem.W PySem.Calls PyProof.Rows PM
seal PM.J PM.Js PM.JT PM.JA PM.JF PM.JI PM.JI2 PM.JP PM.S1 PM.Ss PM.Sto PM.Rd PM.Nm PM.OpN PM.Op2 PM.Def
namespace L
noncomputable abbrev DD(w:World)(s₀:Shared)(mg mb:Str→Option Value)(f:Addr)(r:Nat)(F:List V→Hp→Option (V×Hp)): Prop:=Def PySem.Challenge.rw_seer_k53_answered_by_steps.row.prog w (head.heap_39 w.params) head.view_39 (looseW head.view_39 []) (ExcName.means s₀.heap) mg mb f r F
section
variable {w:World} {s₀:Shared} {mg mb:Str→Option Value}
theorem Zn4: DD w s₀ mg mb 343 1 Zhp:=by
 unfold DD;k_fill
 refine Dof (names:=["_law_script","_law_k","_law_number_here"]) (g:=Zkk) ?_
 exact fun _ _ _ _ _ _ _ c _ _=>(Zv (ZO sL (ZD (ZD (ZD vL vL ZaX) jI ZaX) jI Z9)) (Zv (Zac (ZT (Zas (nB c) (jc vL Zp) ZaL) jI ZfA) (ZB (ZO sL (ZD vL (Zu vL (ZD vL (Zas (nB c) (jc vL Zp) ZaL) ZbC)) Z9))) Zaf) (ZB (ZL vL))))
theorem law_pick_d: DD w s₀ mg mb 350 2 ZbN:=by
 unfold DD;k_fill
 refine Dof (names:=["_law_script","_law_k","_law_many"]) (g:=ZkY) ?_
 exact fun _ _ _ _ _ _ _ c _ _=>(ZB (ZL (ZD (ZD (ZD (cF c Zn4 (jc vL (jc vL Zp))) jI ZaX) jI ZbC) vL ZbC)))
theorem ZeZ: DD w s₀ mg mb 357 2 Zd4:=by
 unfold DD;k_fill
 refine Dof (names:=["_law_script","_law_k","_law_number_here","_law_reach"]) (g:=ZjY) ?_
 exact fun _ _ _ _ _ _ _ c _ _=>(Zv (ZO sL (cF c Zn4 (jc vL (jc vL Zp)))) (Zv (ZO sL (Zu (J.list (jc jI (jc jI (jc (ZD jI jI ZmY) (jc (ZD jI jI ZmY) Zp))))) (ZD (ZD (ZD vL jI ZaX) jI ZbC) jI ZbC))) (ZB (ZL (ZD (ZD (ZD vL (ZD jI jI ZmY) ZaX) (ZD (ZD jI vL ZaX) jI Z9) ZbC) vL Zbh)))))
theorem Zsy: DD w s₀ mg mb 364 3 Zkn:=by
 unfold DD;k_fill
 refine Dof (names:=["_law_script","_law_k","_law_way"]) (g:=Zkm) ?_
 exact fun _ _ _ _ _ _ _ c _ _=>(Zv (ZO sL (cF c law_pick_d (jc vL (jc vL (jc jI Zp))))) (Zv (Zac (ZT (ZD vL jI ZbC) jI Zco) (ZB (ZL jN)) Zaf) (Zv (Zac (ZT (ZD vL jI ZbC) jI Zco) (ZB (ZL jI)) Zaf) (Zv (Zac (ZT (ZD vL jI ZbC) jI ZaY) (ZB (ZL (ZD vL jI ZdP))) Zaf) (ZB (ZL (Zas (nB c) (jc (cF c ZeZ (jc vL (jc vL Zp))) Zp) ZeD)))))))
theorem ZeV: DD w s₀ mg mb 371 1 Zd2:=by
 unfold DD;k_fill
 refine Dof (names:=["_law_m","_law_r"]) (g:=ZjH) ?_
 exact fun _ _ _ _ _ _ _ c _ _=>(Zv (Zac (ZT vL jI ZaY) (ZB (ZL (J.tup (jc jI (jc vL Zp))))) Zaf) (ZB (ZL (J.tup (jc vL (jc (ZD vL vL ZbC) Zp))))))
theorem Ztg: DD w s₀ mg mb 378 3 Zk1:=by
 unfold DD;k_fill
 refine Dof (names:=["_law_script","_law_k","_law_number_here","_law_way"]) (g:=Zk0) ?_
 exact fun _ _ _ _ _ _ _ c _ _=>(Zv (ZO sL (cF c law_pick_d (jc vL (jc vL (jc jI Zp))))) (Zv (Zac (ZT (ZD vL jI ZbC) jI Zco) (ZB (ZL (J.tup (jc jI (jc jI Zp))))) Zaf) (Zv (Zac (ZT (ZD vL jI ZbC) jI ZaY) (ZB (ZL (J.tup (jc jI (jc vL Zp))))) Zaf) (Zv (Zac (ZT (ZD vL jI ZbC) jI ZaY) (ZB (ZL (cF c ZeV (jc (ZD (ZD vL jI ZdP) jI Z9) (jc vL Zp))))) Zaf) (ZB (ZL (cF c ZeV (jc (Zas (nB c) (jc (cF c ZeZ (jc vL (jc vL Zp))) Zp) ZeD) (jc vL Zp)))))))))
theorem Zom: DD w s₀ mg mb 383 4 ZhA:=by
 unfold DD;k_fill
 refine Dof (names:=["_law_script","_law_k","_law_boxes","_law_full","_law_size","_law_bounds","_law_i","_law_row","_law_j","_law_top"]) (g:=Zk3) ?_
 exact fun _ _ _ _ _ _ _ c _ _=>(Zv (ZO sL (ZD (J.list (jc jI Zp)) vC Z9)) (Zv (ZO sC (Zas (nB c) (jc vL Zp) ZaL)) (Zv (ZO sL (J.list Zp)) (Zv (ZbD sL (JI.range (nB c) (jc vC Zp)) (Zv (ZO sL (J.list Zp)) (Zv (ZbD sL (JI.range (nB c) (jc vC Zp)) (Zv (ZO sL (cF c Zsy (jc vC (jc (ZD (ZD vC (ZD vL vC ZaX) Z9) vL Z9) Zp)))) (Zv (Zac (ZT vL jN ZcF) (ZB (ZO sL (ZD (ZD (Zu vL vL) (Zu vL vL) Zbh) vL Z9))) Zaf) (ZB (ZdQ (J.append vL vL)))))) (Zv (S1.put jI vL vL) (ZB (ZdQ (J.append vL vL))))))) (ZB (ZL (J.tup (jc vL (jc (by refine cO ?_ ?_ ?_;(exact(JI.range (nB c) (jc (ZD vC jI Zbh) Zp)));(exact fun _ _=>(cF (Zbo c) Ztg (jc vD (jc (ZD (ZD vD (ZD vD vD ZaX) Z9) vO Z9) (jc (Zu vD vO) Zp)))));(exact fun _ _=>JF.nil)) Zp)))))))))
theorem ZnL: DD w s₀ mg mb 257 1 ZeT:=by
 unfold DD;k_fill
 refine Dof (names:=["rests"]) (g:=ZjM) ?_
 exact fun _ _ _ _ _ _ _ c _ _=>(ZB (ZL (ZD (J.list (jc (J.tup (jc jI (jc jI Zp))) Zp)) vL Z9)))
theorem ZoP: DD w s₀ mg mb 134 1 ZhU:=by
 unfold DD;k_fill
 refine Dof (names:=["one","other","left","right","over"]) (g:=ZlM) ?_
 exact fun _ _ _ _ _ _ _ c _ _=>(Zv (ZO sL (Zas (nB c) (jc vL Zp) ZeD)) (Zv (ZO sL (Zas (nB c) (jc vL Zp) ZeD)) (Zv (Zgl 1000000 (ZT vL jI ZbL) (Zv (ZO sL (ZD vL vL ZbC)) (Zv (ZO sL vL) (ZB (ZO sL vL))))) (ZB (ZL vL)))))
theorem Znl: DD w s₀ mg mb 148 1 ZgM:=by
 unfold DD;k_fill
 refine Dof (names:=["m","r"]) (g:=Zna) ?_
 exact fun _ _ _ _ _ _ _ c _ _=>(Zv (Zac (ZT vL jI Zco) (ZB (Zxw)) Zaf) (Zv (Zac (ZT vL jI ZaY) (ZB (ZL (J.tup (jc jI (jc vL Zp))))) Zaf) (ZB (ZL (J.tup (jc vL (jc (ZD vL vL ZbC) Zp)))))))
theorem Zt5: DD w s₀ mg mb 141 1 ZlP:=by
 unfold DD;k_fill
 refine Dof (names:=["one","by","left","right","left_turns","right_turns","part","over","over_turns"]) (g:=ZlO) ?_
 exact fun _ _ _ _ _ _ _ c _ _=>(Zv (ZO sL (ZD vL vL ZbC)) (Zv (ZO sL vL) (Zv (ZO sL jI) (Zv (ZO sL jI) (Zv (Zgl 1000000 (ZT vL jI ZbL) (Zv (ZO sL (ZD vL vL ZdP)) (Zv (ZO sL (ZD vL (ZD vL vL ZaX) Zbh)) (Zv (ZO sL (ZD vL (ZD vL vL ZaX) Zbh)) (Zv (ZO sL vL) (Zv (ZO sL vL) (Zv (ZO sL vL) (ZB (ZO sL vL))))))))) (ZB (ZL (ZD vL vL ZbC))))))))
theorem Zon: DD w s₀ mg mb 155 1 ZhC:=by
 unfold DD;k_fill
 refine Dof (names:=["one","number"]) (g:=Zk7) ?_
 exact fun _ _ _ _ _ _ _ c _ _=>(Zv (Zac (ZT (Zu vL jI) jI ZaY) (ZB (ZL (Zdk vL (Zu vL jI) ZaY))) Zaf) (ZB (ZL (Zdk (ZD vL (Zu vL jI) ZbC) (Zu vL jI) ZaY))))
theorem Zoo: DD w s₀ mg mb 162 2 ZhD:=by
 unfold DD;k_fill
 refine Dof (names:=["one","other","common","apart","width","turns"]) (g:=Zk9) ?_
 exact fun _ _ _ _ _ _ _ c _ _=>(Zv (Zac (ZT (Zu vL jI) jI ZaY) (ZB (ZL (Zfz (Zce (cF c Zon (jc vL (jc (Zu vL jI) Zp)))) vL jN))) Zaf) (Zv (Zac (ZT (Zu vL jI) jI ZaY) (ZB (ZL (Zfz (Zce (cF c Zon (jc vL (jc (Zu vL jI) Zp)))) vL jN))) Zaf) (Zv (ZO sL (cF c ZoP (jc (Zu vL jI) (jc (Zu vL jI) Zp)))) (Zv (ZO sL (ZD (Zu vL jI) (Zu vL jI) Zbh)) (Zv (Zac (ZT (ZD vL vL ZbC) jI ZbL) (ZB (ZL jN)) Zaf) (Zv (ZO sL (ZD (Zu vL jI) vL ZdP)) (Zv (ZO sL (ZD (ZD vL vL ZdP) (cF c Zt5 (jc (ZD (Zu vL jI) vL ZdP) (jc vL Zp))) ZaX)) (ZB (ZL (cF c Znl (jc (ZD (Zu vL jI) vL ZaX) (jc (ZD (Zu vL jI) (ZD (Zu vL jI) vL ZaX) Z9) Zp))))))))))))
theorem Zgc: DD w s₀ mg mb 65 1 Zet:=by
 unfold DD;k_fill
 refine Dof (names:=["one","other"]) (g:=Zlb) ?_
 exact fun _ _ _ _ _ _ _ c _ _=>(Zv (Zac (Zbf (Zbb (ZT vL jN Zbk) (Zbb (ZT vL jN Zbk) ZcE))) (ZB (ZL jN)) Zaf) (ZB (ZL (ZD vL vL Z9))))
theorem ZkS: DD w s₀ mg mb 169 2 ZfX:=by
 unfold DD;k_fill
 refine Dof (names:=["one","other"]) (g:=Zks) ?_
 exact fun _ _ _ _ _ _ _ c _ _=>(ZB (ZL (cF c Znl (jc (cF c ZoP (jc (Zu vL jI) (jc (Zu vL jI) Zp))) (jc (ZD (Zu vL jI) (Zu vL jI) Z9) Zp)))))
theorem Zrt: DD w s₀ mg mb 264 3 ZfN:=by
 unfold DD;k_fill
 refine Dof (names:=["bounds","rests","i","met","j","other"]) (g:=Zjn) ?_
 exact fun _ _ _ _ _ _ _ c _ _=>(Zv (ZO sL (Zu vL vL)) (Zv (Zey sL sL (Zuw (nB c) vL) (ZB (Zac (Zbf (Za2 (ZT vL jN ZcF) (Za2 (ZT (cF c Zgc (jc (Zu (Zu vL vL) vL) (jc (Zu (Zu vL vL) vL) Zp))) jI ZaY) Zcv))) (ZB (ZO sL (cF c Zoo (jc vL (jc (cF c ZkS (jc vL (jc (J.tup (jc jI (jc (Zu (Zu vL vL) vL) Zp))) Zp))) Zp))))) Zaf))) (ZB (ZL vL))))
theorem ZrK: DD w s₀ mg mb 250 4 Zd3:=by
 unfold DD;k_fill
 refine Dof (names:=["told","rests","met"]) (g:=ZfR) ?_
 exact fun _ _ _ _ _ _ _ c _ _=>(Zv (Zac (ZT vC jN Zbk) (ZB (ZL jN)) Zaf) (Zv (ZO sC (cF c ZnL (jc (Zu vC jI) Zp))) (Zv (by refine sO sL ?_ ?_ ?_;(exact(JI.range (nB c) (jc jI (jc (Zas (nB c) (jc vC Zp) ZaL) Zp))));(exact fun _ _=>(cF (Zbo c) Zrt (jc (Zu vD jI) (jc vD (jc vO Zp)))));(exact fun _ _=>JF.nil)) (Zv (Zac (ZT jN vL ZfC) (ZB (ZL jN)) Zaf) (ZB (ZL (J.tup (jc (Zu vC jI) (jc vL Zp)))))))))
theorem Zsz: DD w s₀ mg mb 86 1 Zkq:=by
 unfold DD;k_fill
 refine Dof (names:=["one","other"]) (g:=Zkp) ?_
 exact fun _ _ _ _ _ _ _ c _ _=>(ZB (ZL (ZxL (Zdk vL jN Zbk) (ZiJ (Zdk vL jN ZcF) (Zdk vL vL Znm)))))
theorem Zps: DD w s₀ mg mb 93 2 Zh5:=by
 unfold DD;k_fill
 refine Dof (names:=["one","other"]) (g:=Zmp) ?_
 exact fun _ _ _ _ _ _ _ c _ _=>(ZB (ZL (Zfz (Zce (cF c Zsz (jc vL (jc vL Zp)))) vL vL)))
theorem Zq9: DD w s₀ mg mb 122 3 Zi5:=by
 unfold DD;k_fill
 refine Dof (names:=["row","there","further"]) (g:=Zi4) ?_
 exact fun _ _ _ _ _ _ _ c _ _=>(ZB (ZL (by refine cT ?_ ?_;(exact(JI2.zip (nB c) vL vL));(exact fun _ _=>(cF (Zbo c) Zps (jc vO (jc (cF (Zbo c) Zgc (jc vD (jc vO Zp))) Zp)))))))
theorem ZsA: DD w s₀ mg mb 117 4 Zkw:=by
 unfold DD;k_fill
 refine Dof (names:=["bounds","mid"]) (g:=Zkv) ?_
 exact fun _ _ _ _ _ _ _ c _ _=>(ZB (ZL (by refine cO ?_ ?_ ?_;(exact(JI.seq vC));(exact fun _ _=>(cF (Zbo c) Zq9 (jc vO (jc (Zu vO vD) (jc (Zu vD vD) Zp)))));(exact fun _ _=>JF.nil))))
theorem Zru: DD w s₀ mg mb 127 1 Zji:=by
 unfold DD;k_fill
 refine Dof (names:=["bounds"]) (g:=Zjh) ?_
 exact fun _ _ _ _ _ _ _ c _ _=>(ZB (ZL (Zas (nB c) (jc (by refine cO ?_ ?_ ?_;(exact(JI.range (nB c) (jc (Zas (nB c) (jc vC Zp) ZaL) Zp)));(exact fun _ _=>(Zdk (Zu (Zu vD vO) vO) jI Zco));(exact fun _ _=>JF.nil)) Zp) Zwu)))
theorem Zu5: DD w s₀ mg mb 112 5 Zfe:=by
 unfold DD;k_fill
 refine Dof (names:=["bounds","near","mid"]) (g:=Zmr) ?_
 exact fun _ _ _ _ _ _ _ c _ _=>(Zv (ZO sL vL) (Zv (ZbD sL (JI.range (nB c) (jc (Zas (nB c) (jc vL Zp) ZaL) Zp)) (Zv (ZO sL (cF c ZsA (jc vL (jc vL Zp)))) (ZB (Zac (Zce (cF c Zru (jc vL Zp))) (ZB (ZL jN)) Zaf)))) (ZB (ZL vL))))
theorem Zxe: DD w s₀ mg mb 245 6 Zee:=by
 unfold DD;k_fill
 refine Dof (names:=["told","bounds"]) (g:=ZiD) ?_
 exact fun _ _ _ _ _ _ _ c _ _=>(Zv (Zac (ZT vL jN Zbk) (ZB (ZL jN)) Zaf) (Zv (ZO sL (cF c Zu5 (jc (Zu vL jI) Zp))) (Zv (Zac (ZT vL jN Zbk) (ZB (ZL jN)) Zaf) (ZB (ZL (J.tup (jc vL (jc (Zu vL jI) Zp))))))))
theorem ZqF: DD w s₀ mg mb 238 7 Zfw:=by
 unfold DD;k_fill
 refine Dof (names:=["told"]) (g:=Znd) ?_
 exact fun _ _ _ _ _ _ _ c _ _=>(ZB (ZL (cF c ZrK (jc (cF c Zxe (jc vL Zp)) Zp))))
theorem Zr9: DD w s₀ mg mb 183 1 Zj6:=by
 unfold DD;k_fill
 refine Dof (names:=["one","top"]) (g:=Zj5) ?_
 exact fun _ _ _ _ _ _ _ c _ _=>(Zv (Zac (ZT (Zu vL jI) jI ZaY) (ZB (ZL (Zfz (ZT (Zu vL jI) vL Znm) (Zu vL jI) jN))) Zaf) (ZB (ZL (ZD vL (ZD (ZD vL (Zu vL jI) Zbh) (Zu vL jI) ZbC) Zbh))))
theorem Zra: DD w s₀ mg mb 283 2 Zjb:=by
 unfold DD;k_fill
 refine Dof (names:=["bound","left"]) (g:=Zja) ?_
 exact fun _ _ _ _ _ _ _ c _ _=>(Zv (Zac (ZT vL jN ZcF) (ZB (ZL (cF c Zr9 (jc vL (jc vL Zp))))) Zaf) (Zv (Zac (ZT (Zu vL jI) jI ZaY) (ZB (ZL (Zu vL jI))) Zaf) (ZB (ZL jN))))
theorem ZnQ: DD w s₀ mg mb 176 2 Zhi:=by
 unfold DD;k_fill
 refine Dof (names:=["one","k"]) (g:=Zj3) ?_
 exact fun _ _ _ _ _ _ _ c _ _=>(ZB (ZL (cF c Znl (jc (ZD (Zu vL jI) (Zas (nB c) (jc vL Zp) ZeD) ZaX) (jc (ZD (Zu vL jI) vL ZaX) Zp)))))
theorem ZrL: DD w s₀ mg mb 276 3 ZjQ:=by
 unfold DD;k_fill
 refine Dof (names:=["row","left","rests","new","bound","other","low"]) (g:=ZjP) ?_
 exact fun _ _ _ _ _ _ _ c _ _=>(Zv (ZO sL (J.list Zp)) (Zv (Zey sL sL (JI2.zip (nB c) vL vL) (Zv (ZO sL (cF c Zra (jc vL (jc (cF c ZkS (jc vL (jc (cF c ZnQ (jc vL (jc (Zep jI Zd9) Zp))) Zp))) Zp)))) (Zv (Zac (Zbf (Za2 (ZT vL jN Zbk) (Za2 (ZT vL jN ZcF) Zcv))) (ZB (ZL jN)) Zaf) (ZB (ZdQ (J.append vL vL)))))) (ZB (ZL vL))))
theorem Zt6: DD w s₀ mg mb 269 4 ZlS:=by
 unfold DD;k_fill
 refine Dof (names:=["told","rests","bounds"]) (g:=ZlR) ?_
 exact fun _ _ _ _ _ _ _ c _ _=>(Zv (Zac (ZT vL jN Zbk) (ZB (ZL jN)) Zaf) (Zv (ZO sC (cF c ZnL (jc (Zu vL jI) Zp))) (Zv (by refine sT sL ?_ ?_;(exact(JI2.zip (nB c) (Zu vL jI) vC));(exact fun _ _=>(cF (Zbo c) ZrL (jc vO (jc vO (jc vD Zp)))))) (Zv (Zac (ZT jN vL ZfC) (ZB (ZL jN)) Zaf) (ZB (ZL (J.tup (jc vL (jc (Zu vL jI) Zp)))))))))
theorem ZmX: DD w s₀ mg mb 231 8 Zgz:=by
 unfold DD;k_fill
 refine Dof (names:=["told"]) (g:=ZmO) ?_
 exact fun _ _ _ _ _ _ _ c _ _=>(ZB (ZL (cF c ZqF (jc (cF c Zt6 (jc (cF c ZqF (jc vL Zp)) Zp)) Zp))))
theorem Zrb: DD w s₀ mg mb 300 1 Zje:=by
 unfold DD;k_fill
 refine Dof (names:=["one"]) (g:=Zjd) ?_
 exact fun _ _ _ _ _ _ _ c _ _=>(ZB (ZL (Zdk (Zas (nB c) (jc (by refine cO ?_ ?_ ?_;(exact(JI.seq (Ziv vL jI)));(exact fun _ _=>vO);(exact fun _ _=>JF.one (ZT vO jI ZbL))) Zp) ZtF) (J.list (jc (Zep jI Zd9) (jc jI Zp))) ZaY)))
theorem Zrv: DD w s₀ mg mb 58 2 Zjl:=by
 unfold DD;k_fill
 refine Dof (names:=["one","other"]) (g:=Zjk) ?_
 exact fun _ _ _ _ _ _ _ c _ _=>(ZB (ZL (J.tup (jc (cF c Zgc (jc (Zu vL jI) (jc (Zu vL jI) Zp))) (jc (cF c Zgc (jc (Zu vL jI) (jc (Zu vL jI) Zp))) Zp)))))
theorem ZkT: DD w s₀ mg mb 79 1 ZfZ:=by
 unfold DD;k_fill
 refine Dof (names:=["end","k"]) (g:=ZkB) ?_
 exact fun _ _ _ _ _ _ _ c _ _=>(Zv (Zac (ZT vL jN Zbk) (ZB (ZL jN)) Zaf) (ZB (ZL (ZD vL vL ZaX))))
theorem Zrc: DD w s₀ mg mb 72 2 Zi8:=by
 unfold DD;k_fill
 refine Dof (names:=["one","k","lo","hi"]) (g:=Zi7) ?_
 exact fun _ _ _ _ _ _ _ c _ _=>(Zv (Zac (ZT vL jI ZaY) (ZB (ZL (J.tup (jc jI (jc jI Zp))))) Zaf) (Zv (ZO sL (cF c ZkT (jc (Zu vL jI) (jc vL Zp)))) (Zv (ZO sL (cF c ZkT (jc (Zu vL jI) (jc vL Zp)))) (Zv (Zac (ZT vL jI Zco) (ZB (ZL (J.tup (jc vL (jc vL Zp))))) Zaf) (ZB (ZL (J.tup (jc vL (jc vL Zp)))))))))
theorem ZrM: DD w s₀ mg mb 217 3 ZjK:=by
 unfold DD;k_fill
 refine Dof (names:=["one","stretches","whole","k","part"]) (g:=ZjJ) ?_
 exact fun _ _ _ _ _ _ _ c _ _=>(Zv (ZO sL (J.tup (jc (Zu vL jI) (jc (Zu vL jI) Zp)))) (Zv (Zey sL sL (JI2.zip (nB c) (Ziv vL jI) vL) (ZB (ZO sL (cF c Zrv (jc vL (jc (cF c Zrc (jc vL (jc vL Zp))) Zp)))))) (ZB (ZL vL))))
theorem Zrw: DD w s₀ mg mb 288 2 Zjt:=by
 unfold DD;k_fill
 refine Dof (names:=["told","bounds"]) (g:=Zjs) ?_
 exact fun _ _ _ _ _ _ _ c _ _=>(Zv (ZO sC (Zu vL jI)) (ZB (ZL (by refine cO ?_ ?_ ?_;(exact(JI.range (nB c) (jc jI (jc (Zas (nB c) (jc vC Zp) ZaL) Zp))));(exact fun _ _=>(J.tup (jc (cF (Zbo c) ZkT (jc (Zu (Zu vD jI) vO) (jc (Zep jI Zd9) Zp))) (jc (Zu (Zu vD vO) jI) Zp))));(exact fun _ _=>JF.nil)))))
theorem Zth: DD w s₀ mg mb 295 4 Zlo:=by
 unfold DD;k_fill
 refine Dof (names:=["told","one"]) (g:=Zln) ?_
 exact fun _ _ _ _ _ _ _ c _ _=>(Zv (Zac (Zce (cF c Zrb (jc vL Zp))) (ZB (ZL (cF c Zgc (jc (Zu (Zu (Zu vL jI) (J.index vL jI jI)) (J.index vL (Zep jI Zd9) jI)) (jc (Zu vL jI) Zp))))) Zaf) (ZB (ZL (Zu (cF c ZrM (jc vL (jc (cF c Zrw (jc vL Zp)) Zp))) jI))))
theorem Zti: DD w s₀ mg mb 198 1 Zlr:=by
 unfold DD;k_fill
 refine Dof (names:=["one","other"]) (g:=Zlq) ?_
 exact fun _ _ _ _ _ _ _ c _ _=>(ZB (ZL (by refine cT ?_ ?_;(exact(JI2.zip (nB c) vL vL));(exact fun _ _=>(ZD vO vO Z9)))))
theorem ZsB: DD w s₀ mg mb 203 1 ZkK:=by
 unfold DD;k_fill
 refine Dof (names:=["one","k"]) (g:=ZkJ) ?_
 exact fun _ _ _ _ _ _ _ c _ _=>(ZB (ZL (by refine cO ?_ ?_ ?_;(exact(JI.seq vL));(exact fun _ _=>(ZD vO vD ZaX));(exact fun _ _=>JF.nil))))
theorem Ztj: DD w s₀ mg mb 210 2 Zlu:=by
 unfold DD;k_fill
 refine Dof (names:=["one","other"]) (g:=Zlt) ?_
 exact fun _ _ _ _ _ _ _ c _ _=>(ZB (ZL (cF c Zti (jc vL (jc (cF c ZsB (jc vL (jc (Zep jI Zd9) Zp))) Zp)))))
theorem Zsa: DD w s₀ mg mb 310 5 Zkd:=by
 unfold DD;k_fill
 refine Dof (names:=["told","one","others"]) (g:=Zkc) ?_
 exact fun _ _ _ _ _ _ _ c _ _=>(ZB (ZL (by refine cO ?_ ?_ ?_;(exact(JI.seq vL));(exact fun _ _=>(cF (Zbo c) Zth (jc vD (jc (cF (Zbo c) Ztj (jc vD (jc vO Zp))) Zp))));(exact fun _ _=>JF.nil))))
theorem Ztk: DD w s₀ mg mb 224 3 Zlh:=by
 unfold DD;k_fill
 refine Dof (names:=["one","rests","whole","k","part"]) (g:=Zlg) ?_
 exact fun _ _ _ _ _ _ _ c _ _=>(Zv (ZO sL (J.tup (jc jI (jc (Zu vL jI) Zp)))) (Zv (Zey sL sL (JI2.zip (nB c) (Ziv vL jI) vL) (ZB (ZO sL (cF c ZkS (jc vL (jc (cF c ZnQ (jc vL (jc vL Zp))) Zp)))))) (ZB (ZL vL))))
theorem Zmi: DD w s₀ mg mb 188 1 Zgi:=by
 unfold DD;k_fill
 refine Dof (names:=["i","n"]) (g:=Zl4) ?_
 exact fun _ _ _ _ _ _ _ c _ _=>(ZB (ZL (by refine cO ?_ ?_ ?_;(exact(JI.range (nB c) (jc (ZD vL jI Z9) Zp)));(exact fun _ _=>(Zfz (Zbf (Za2 (ZT vD jI ZfA) (Za2 (ZT vO vD ZaY) Zcv))) jI jI));(exact fun _ _=>JF.nil))))
theorem Zpt: DD w s₀ mg mb 305 9 Zh6:=by
 unfold DD;k_fill
 refine Dof (names:=["told","sums","all_sums","bounds","rests"]) (g:=Zmu) ?_
 exact fun _ _ _ _ _ _ _ c _ _=>(Zv (Zac (ZT vC jN Zbk) (ZB (ZL jN)) Zaf) (Zv (ZO sC (ZD (J.list (jc (cF c Zmi (jc jI (jc (Zas (nB c) (jc (Zu vC jI) Zp) ZaL) Zp))) Zp)) vL Z9)) (Zv (by refine sO sL ?_ ?_ ?_;(exact(JI.seq vC));(exact fun _ _=>(cF (Zbo c) Zsa (jc vD (jc vO (jc vD Zp)))));(exact fun _ _=>JF.nil)) (Zv (by refine sO sL ?_ ?_ ?_;(exact(JI.seq vL));(exact fun _ _=>(cF (Zbo c) Ztk (jc vO (jc (Zu vD jI) Zp))));(exact fun _ _=>JF.nil)) (ZB (ZL (cF c ZmX (jc (J.tup (jc vL (jc vL Zp))) Zp))))))))
theorem Zpu: ∀n:Nat,Def PySem.Challenge.rw_seer_k53_answered_by_steps.row.prog w (head.heap_39 w.params) head.view_39 (looseW head.view_39 []) (ExcName.means s₀.heap) mg mb 19 (n) (Zff n)
 | 0=>ZuI
 | n+1=>by
  have ih:=Zpu n
  k_fill
  refine' Zqc (names:=["thing"]) (n:=1) (room:=n) (g:=ZmQ (Zff n)) (ho:=?ho) (hcd:=?hcd) (nd:=by decide) (hn:=by decide) (hbind:=?hb) (hkinds:=?hk) (hone:=?h1) (hco:=?z1) (hgen:=?z2) (hk:=?z3) (hbody:=?hbody)
  case ho=>k_is
  case z1=>rfl
  case z2=>rfl
  case z3=>rfl
  case hcd=>k_is
  case hb=>intro s xs hx;match xs,hx with | [x0],_=>exact BindsTo.of_eq rfl
  case hk=>decide
  case h1=>decide +kernel
  case hbody=>
   intro dp un gd L outer h₀ hu clr hd1 hu1
   exact(Zv (Zac (Zce (ZdL (nB clr) (nB clr) (.inr (.inr (.inl rfl))) vL)) (ZB (ZL (by refine cO ?_ ?_ ?_;(exact(JI.seq vL));(exact fun _ _=>(cF (Zbo clr) ih (jc vO Zp)));(exact fun _ _=>JF.nil)))) Zaf) (Zv (Zac (Zce (ZdL (nB clr) (nB clr) (.inr (.inr (.inr rfl))) vL)) (ZB (ZL (Zdr (nB clr) (jc (by refine cO ?_ ?_ ?_;(exact(JI.seq vL));(exact fun _ _=>(cF (Zbo clr) ih (jc vO Zp)));(exact fun _ _=>JF.nil)) Zp) Ztw))) Zaf) (ZB (ZL vL))))
theorem Zwn: Def PySem.Challenge.rw_seer_k53_answered_by_steps.row.prog w (head.heap_39 w.params) head.view_39 (looseW head.view_39 []) (ExcName.means s₀.heap) mg mb 19 9 ZmR:=Zpu 9
theorem Ztl: DD w s₀ mg mb 100 3 Zll:=by
 unfold DD;k_fill
 refine Dof (names:=["bounds","i","j","bound"]) (g:=ZhH) ?_
 exact fun _ _ _ _ _ _ _ c _ _=>(ZB (S1.put (cF c Zps (jc (Zu (Zu vL vL) vL) (jc vL Zp))) (Zu vL vL) vL))
theorem ZqZ: DD w s₀ mg mb 329 10 Zi2:=by
 unfold DD;k_fill
 refine Dof (names:=["bounds","at","other","new","i","row","j","bound"]) (g:=Zi1) ?_
 exact fun _ _ _ _ _ _ _ c _ _=>(Zv (ZO sL (cF c Zwn (jc vL Zp))) (Zv (Zey sL sL (JI2.zip (nB c) vL vL) (ZB (Zey sL sL (JI2.zip (nB c) vL vL) (ZB (ZdQ (cF c Ztl (jc vL (jc vL (jc vL (jc vL Zp)))))))))) (ZB (ZL vL))))
theorem Zt7: DD w s₀ mg mb 322 11 ZlZ:=by
 unfold DD;k_fill
 refine Dof (names:=["told","at","other","rests","i","left"]) (g:=ZlY) ?_
 exact fun _ _ _ _ _ _ _ c _ _=>(Zv (ZO sL (Zdr (nB c) (jc (Zu vL jI) Zp) ZdM)) (Zv (Zey sL sL (JI2.zip (nB c) vL (Zu vL jI)) (ZB (S1.put (cF c Zoo (jc (Zu vL (ZD vL jI Zbh)) (jc vL Zp))) vL (ZD vL jI Zbh)))) (Zv (Zac (ZT jN vL ZfC) (ZB (ZL jN)) Zaf) (ZB (ZL (J.tup (jc (cF c ZqZ (jc (Zu vL jI) (jc (ZD (J.list (jc jI Zp)) vL Z9) (jc (Zu vL jI) Zp)))) (jc vL Zp))))))))
theorem Zxf: DD w s₀ mg mb 26 1 Znf:=by
 unfold DD;k_fill
 refine Dof (names:=["row","x","thing"]) (g:=Zne) ?_
 exact fun _ _ _ _ _ _ _ c _ _=>(ZB (ZL (ZD (ZD (Zif vL JP.none (JP.some (ZD vL jI Zbh))) (J.list (jc vL Zp)) Z9) (Zif vL (JP.some vL) JP.none) Z9)))
theorem Zop: DD w s₀ mg mb 193 2 ZhN:=by
 unfold DD;k_fill
 refine Dof (names:=["many","n"]) (g:=Zlz) ?_
 exact fun _ _ _ _ _ _ _ c _ _=>(ZB (ZL (by refine cO ?_ ?_ ?_;(exact(JI.range (nB c) (jc jI (jc (ZD vL jI Z9) Zp))));(exact fun _ _=>(cF (Zbo c) Zmi (jc vO (jc vD Zp))));(exact fun _ _=>JF.nil))))
theorem ZrN: DD w s₀ mg mb 105 1 ZjW:=by
 unfold DD;k_fill
 refine Dof (names:=["i","n"]) (g:=ZjV) ?_
 exact fun _ _ _ _ _ _ _ c _ _=>(ZB (ZL (by refine cO ?_ ?_ ?_;(exact(JI.range (nB c) (jc (ZD vL jI Z9) Zp)));(exact fun _ _=>(Zfz (ZT vD vO ZaY) jI jN));(exact fun _ _=>JF.nil))))
theorem Zt8: DD w s₀ mg mb 315 2 ZlW:=by
 unfold DD;k_fill
 refine Dof (names:=["told","more","n","bounds","new"]) (g:=ZlV) ?_
 exact fun _ _ _ _ _ _ _ c _ _=>(Zv (ZO sC (Zas (nB c) (jc (Zu vL jI) Zp) ZaL)) (Zv (by refine sO sL ?_ ?_ ?_;(exact(JI.seq (Zu vL jI)));(exact fun _ _=>(ZD vO (ZD (J.list (jc jN Zp)) vD ZaX) Z9));(exact fun _ _=>JF.nil)) (Zv (by refine sO sL ?_ ?_ ?_;(exact(JI.range (nB c) (jc (ZD vC jI Z9) (jc (ZD (ZD vC vC Z9) jI Z9) Zp))));(exact fun _ _=>(cF (Zbo c) ZrN (jc vO (jc (ZD vD vD Z9) Zp))));(exact fun _ _=>JF.nil)) (ZB (ZL (J.tup (jc (ZD vL vL Z9) (jc (ZD (Zu vL jI) (ZD (J.list (jc (J.tup (jc jI (jc jI Zp))) Zp)) vC ZaX) Z9) Zp))))))))
theorem Ztm: DD w s₀ mg mb 336 12 ZlC:=by
 unfold DD;k_fill
 refine Dof (names:=["told","x","row","summary","sharpened","n","answer","given","both"]) (g:=ZlB) ?_
 exact fun _ _ _ _ _ _ _ c _ _=>(Zv (ZO sL (cF c ZmX (jc vL Zp))) (Zv (Zac (Zbf (Zbb (ZT vL jN Zbk) (Zbb (ZT vL jN Zbk) ZcE))) (ZB (ZL jN)) Zaf) (Zv (ZO sL (Zas (nB c) (jc (Zu vL jI) Zp) ZaL)) (Zv (ZO sL (ZD (ZD vL (Zas (nB c) (jc vL Zp) ZaL) Z9) jI Z9)) (Zv (ZO sL (cF c Zpt (jc vL (jc (ZD (cF c Zop (jc vL (jc vL Zp))) vL Z9) Zp)))) (Zv (Zac (ZT vL jN Zbk) (ZB (ZL jN)) Zaf) (Zv (ZO sL (cF c ZmX (jc (cF c Zt7 (jc (cF c Zt8 (jc vL (jc jI Zp))) (jc (ZvQ (nB c) (nB c) (jc (ZD vL jI Z9) (jc (ZD vL jI Z9) Zp))) (jc vL Zp)))) Zp))) (ZB (ZL (cF c Zpt (jc vL (jc (cF c Zxf (jc (cF c Zop (jc vL (jc vL Zp))) (jc vL (jc (cF c Zmi (jc vL (jc vL Zp))) Zp)))) Zp))))))))))))
theorem Zsb: DD w s₀ mg mb 519 1 Zka:=by
 unfold DD;k_fill
 refine Dof (names:=["_law_told_here"]) (g:=Zhl) ?_
 exact fun _ _ _ _ _ _ _ c _ _=>(ZB (Zac (ZT vL jN ZcF) (Zv (S1.put jI (Zu (Zu vL jI) jI) jI) (Zv (ZdQ (J.append (Zu vL jI) (J.list (jc jI Zp)))) (ZB (ZdQ (J.append (Zu vL jI) (J.tup (jc jI (jc jI Zp)))))))) Zaf))
theorem Zt9: DD w s₀ mg mb 466 3 Zl2:=by
 unfold DD;k_fill
 refine Dof (names:=["_law_script","_law_k","_law_many","_law_one","_law_way","_law_at","_law_to","_law_i"]) (g:=Zl1) ?_
 exact fun _ _ _ _ _ _ _ c _ _=>(Zv (ZO sL (ZD (J.list (jc (cF c ZeZ (jc vL (jc vL Zp))) Zp)) (ZD (J.list (jc jI Zp)) vL ZaX) Z9)) (Zv (ZO sL (cF c law_pick_d (jc vL (jc vL (jc jI Zp))))) (Zv (Zac (Zbf (Zbb (ZT vL jI ZaY) (Zbb (ZT vL jI ZaY) ZcE))) (ZB (ZL vL)) Zaf) (Zv (ZO sL (ZD jI (cF c law_pick_d (jc vL (jc (ZD vL jI Z9) (jc vL Zp)))) Z9)) (Zv (Zac (ZT vL jI ZaY) (ZB (S1.put (ZD (cF c law_pick_d (jc vL (jc (ZD vL jI Z9) (jc jI Zp)))) jI Zbh) vL vL)) Zaf) (Zv (Zac (Zbf (Zbb (ZT vL jI ZaY) (Zbb (ZT vL jI ZaY) ZcE))) (Zv (ZO sL (ZD jI (cF c law_pick_d (jc vL (jc (ZD vL jI Z9) (jc vL Zp)))) Z9)) (Zv (S1.put jI vL vL) (ZB (S1.put (ZD (Zu vL vL) jI Zbh) vL vL)))) Zaf) (Zv (Zac (ZT vL jI ZaY) (ZB (ZbD sL (JI.range (nB c) (jc vL Zp)) (ZB (S1.put (ZD (cF c law_pick_d (jc vL (jc (ZD (ZD vL jI Z9) vL Z9) (jc jI Zp)))) jI Zbh) vL (ZD vL jI Z9))))) Zaf) (Zv (Zac (ZT vL jI ZaY) (ZB (ZbD sL (JI.range (nB c) (jc vL Zp)) (ZB (S1.put (ZD (cF c law_pick_d (jc vL (jc (ZD (ZD vL jI Z9) vL Z9) (jc jI Zp)))) jI Zbh) vL (ZD vL jI Z9))))) Zaf) (ZB (ZL vL))))))))))
theorem ZsC: DD w s₀ mg mb 493 1 ZkN:=by
 unfold DD;k_fill
 refine Dof (names:=["_law_one","_law_boxes"]) (g:=ZkM) ?_
 exact fun _ _ _ _ _ _ _ c _ _=>(ZB (ZL (ZD (Zu vC jI) (Zas (nB c) (jc (by refine cO ?_ ?_ ?_;(exact(JI.range (nB c) (jc (Zas (nB c) (jc vC Zp) ZaL) Zp)));(exact fun _ _=>(ZD (Zu vD (ZD vO jI Z9)) (Zu vD vO) ZaX));(exact fun _ _=>JF.nil)) Zp) Zwo) Z9)))
theorem Zsc: DD w s₀ mg mb 393 3 Zj1:=by
 unfold DD;k_fill
 refine Dof (names:=["_law_script","_law_k","_law_told_here","_law_bounds","_law_rests","_law_i","_law_j","_law_way","_law_t","_law_one"]) (g:=Zj0) ?_
 exact fun _ _ _ _ _ _ _ c _ _=>(Zv (by refine sO sL ?_ ?_ ?_;(exact(JI.seq (Zu vL jI)));(exact fun _ _=>(Zdr (nB (Zbo c)) (jc vO Zp) ZdM));(exact fun _ _=>JF.nil)) (Zv (ZO sL (Zdr (nB c) (jc (Zu vL jI) Zp) ZdM)) (Zv (ZO sL (cF c law_pick_d (jc vL (jc vL (jc (Zas (nB c) (jc vL Zp) ZaL) Zp))))) (Zv (ZO sL (cF c law_pick_d (jc vL (jc (ZD vL jI Z9) (jc (Zas (nB c) (jc vL Zp) ZaL) Zp))))) (Zv (ZO sL (cF c law_pick_d (jc vL (jc (ZD vL jI Z9) (jc jI Zp))))) (Zv (Zac (Zbf (Za2 (ZT vL jI Zco) (Za2 (ZT vL vL ZbL) (Za2 (ZT (Zu (Zu vL vL) vL) jN Zbk) Zcv)))) (ZB (S1.put (cF c ZeZ (jc vL (jc (ZD vL jI Z9) Zp))) (Zu vL vL) vL)) (ZB (Zac (Zbf (Za2 (ZT vL jI Zco) (Za2 (ZT vL vL ZbL) Zcv))) (ZB (S1.put (ZD (ZD (Zu (Zu vL vL) vL) jI Zbh) (cF c law_pick_d (jc vL (jc (ZD vL jI Z9) (jc jI Zp)))) Zbh) (Zu vL vL) vL)) (ZB (Zac (ZT (Zas (nB c) (jc vL Zp) ZaL) jI ZfA) (Zv (ZO sL (cF c law_pick_d (jc vL (jc vL (jc (Zas (nB c) (jc vL Zp) ZaL) Zp))))) (Zv (ZO sL (Zu vL vL)) (ZB (S1.put (cF c ZeV (jc (ZD (Zu vL jI) (ZD jI (ZD vL jI ZbC) Z9) ZaX) (jc (ZD (Zu vL jI) (cF c law_pick_d (jc vL (jc (ZD vL jI Z9) (jc jI Zp)))) Z9) Zp))) vL vL)))) Zaf))))) (ZB (ZL (J.tup (jc vL (jc vL Zp)))))))))))
theorem Zoq: DD w s₀ mg mb 388 1 ZhB:=by
 unfold DD;k_fill
 refine Dof (names:=["_law_told_here"]) (g:=Zk5) ?_
 exact fun _ _ _ _ _ _ _ c _ _=>(Zv (Zac (ZT vL jN Zbk) (ZB (ZL jN)) Zaf) (ZB (ZL (J.tup (jc (by refine cO ?_ ?_ ?_;(exact(JI.seq (Zu vL jI)));(exact fun _ _=>(Zdr (nB (Zbo c)) (jc vO Zp) ZdM));(exact fun _ _=>JF.nil)) (jc (Zdr (nB c) (jc (Zu vL jI) Zp) ZdM) Zp))))))
theorem ZkU: DD w s₀ mg mb 400 1 ZfY:=by
 unfold DD;k_fill
 refine Dof (names:=["_law_thing"]) (g:=Zky) ?_
 exact fun _ _ _ _ _ _ _ c _ _=>(ZB (ZL (ZiJ (ZdL (nB c) (nB c) (.inl rfl) vL) (Zxg (ZdL (nB c) (nB c) (.inr (.inl rfl)) vL)))))
theorem Ztn: DD w s₀ mg mb 407 2 Zle:=by
 unfold DD;k_fill
 refine Dof (names:=["_law_thing","_law_size","_law_i","_law_top"]) (g:=Zld) ?_
 exact fun _ _ _ _ _ _ _ c _ _=>(Zv (Zac (Zbf (Zbb (Zde (Zce (ZdL (nB c) (nB c) (.inr (.inr (.inl rfl))) vL))) (Zbb (ZT (Zas (nB c) (jc vL Zp) ZaL) vL ZbL) ZcE))) (ZB (ZL jB)) Zaf) (Zv (ZbD sL (JI.range (nB c) (jc vL Zp)) (Zv (Zac (Zbf (Zbb (Zde (Zce (ZdL (nB c) (nB c) (.inr (.inr (.inl rfl))) (Zu vL vL)))) (Zbb (ZT (Zas (nB c) (jc (Zu vL vL) Zp) ZaL) vL ZbL) ZcE))) (ZB (ZL jB)) Zaf) (Zv (ZbD sL (JI.seq (Zu vL vL)) (ZB (Zac (Zbf (Za2 (ZT vL jN ZcF) (Za2 (Zde (Zce (cF c ZkU (jc vL Zp)))) Zcv))) (ZB (ZL jB)) Zaf))) (ZB (Zac (ZT (Zu (Zu vL vL) vL) jI ZbL) (ZB (ZL jB)) Zaf))))) (ZB (ZL jB))))
theorem ZsD: DD w s₀ mg mb 414 3 ZkH:=by
 unfold DD;k_fill
 refine Dof (names:=["_law_thing","_law_many","_law_pair"]) (g:=ZkG) ?_
 exact fun _ _ _ _ _ _ _ c _ _=>(Zv (Zac (Zbf (Zbb (Zde (Zce (ZdL (nB c) (nB c) (.inr (.inr (.inr rfl))) vL))) (Zbb (ZT (Zas (nB c) (jc vL Zp) ZaL) jI ZbL) (Zbb (Zde (Zce (cF c Ztn (jc (Zu vL jI) (jc (ZD vL jI Z9) Zp))))) ZcE)))) (ZB (ZL jB)) Zaf) (Zv (Zac (Zbf (Zbb (Zde (Zce (ZdL (nB c) (nB c) (.inr (.inr (.inl rfl))) (Zu vL jI)))) (Zbb (ZT (Zas (nB c) (jc (Zu vL jI) Zp) ZaL) vL ZbL) ZcE))) (ZB (ZL jB)) Zaf) (Zv (ZbD sL (JI.seq (Zu vL jI)) (Zv (Zac (Zbf (Zbb (Zde (Zce (ZdL (nB c) (nB c) (.inr (.inr (.inr rfl))) vL))) (Zbb (ZT (Zas (nB c) (jc vL Zp) ZaL) jI ZbL) ZcE))) (ZB (ZL jB)) Zaf) (Zv (Zac (Zbf (Zbb (Zde (Zce (cF c ZkU (jc (Zu vL jI) Zp)))) (Zbb (Zde (Zce (cF c ZkU (jc (Zu vL jI) Zp)))) ZcE))) (ZB (ZL jB)) Zaf) (ZB (Zac (Zbf (Zbb (ZT (Zu vL jI) jI Zco) (Zbb (Zbf (Za2 (ZT (Zu vL jI) jI ZfA) (Za2 (Zde (Zuz jI (Zu vL jI) (Zu vL jI) Znm Zco)) Zcv))) ZcE))) (ZB (ZL jB)) Zaf))))) (ZB (ZL jB)))))
theorem Zto: DD w s₀ mg mb 421 4 Zlk:=by
 unfold DD;k_fill
 refine Dof (names:=["_law_found","_law_due"]) (g:=Zlj) ?_
 exact fun _ _ _ _ _ _ _ c _ _=>(Zv (Zac (ZT vL jN Zbk) (ZB (ZL (Zdk vL jN Zbk))) Zaf) (ZB (ZL (ZiJ (cF c ZsD (jc vL (jc (Zas (nB c) (jc (Zu vL jI) Zp) ZaL) Zp))) (Zdk vL vL ZaY)))))
theorem ZnD: DD w s₀ mg mb 440 1 Zg2:=by
 unfold DD;k_fill
 refine Dof (names:=["_law_bounds","_law_size","_law_found","_law_reach","_law_before","_law_i","_law_j","_law_k","_law_by"]) (g:=ZiZ) ?_
 exact fun _ _ _ _ _ _ _ c _ _=>(Zv (ZO sL (Zas (nB c) (jc vL Zp) ZaL)) (Zv (by refine sO sL ?_ ?_ ?_;(exact(JI.seq vL));(exact fun _ _=>(Zdr (nB (Zbo c)) (jc vO Zp) ZdM));(exact fun _ _=>JF.nil)) (Zv (ZO sL jI) (Zv (Zgl 1000000 (ZT vL vL Zco) (Zv (by refine sO sL ?_ ?_ ?_;(exact(JI.seq vL));(exact fun _ _=>(Zdr (nB (Zbo c)) (jc vO Zp) ZdM));(exact fun _ _=>JF.nil)) (Zv (ZbD sL (JI.range (nB c) (jc vL Zp)) (ZB (ZbD sL (JI.range (nB c) (jc vL Zp)) (ZB (ZbD sL (JI.range (nB c) (jc vL Zp)) (ZB (Zac (Zbf (Za2 (ZT (Zu (Zu vL vL) vL) jN ZcF) (Za2 (ZT (Zu (Zu vL vL) vL) jN ZcF) Zcv))) (Zv (ZO sL (ZD (Zu (Zu vL vL) vL) (Zu (Zu vL vL) vL) Z9)) (ZB (Zac (Zbf (Zbb (ZT (Zu (Zu vL vL) vL) jN Zbk) (Zbb (ZT vL (Zu (Zu vL vL) vL) Zco) ZcE))) (ZB (S1.put vL (Zu vL vL) vL)) Zaf))) Zaf))))))) (ZB (ZO sL (ZD jI vL ZaX)))))) (Zv (ZbD sL (JI.range (nB c) (jc vL Zp)) (ZB (Zac (ZT (Zu (Zu vL vL) vL) jI Zco) (ZB (ZL jN)) Zaf))) (ZB (ZL vL)))))))
theorem ZoQ: DD w s₀ mg mb 435 2 ZhX:=by
 unfold DD;k_fill
 refine Dof (names:=["_law_one","_law_other","_law_high","_law_low","_law_now","_law_then","_law_times","_law_over","_law_apart"]) (g:=ZlT) ?_
 exact fun _ _ _ _ _ _ _ c _ _=>(Zv (ZO sL (Zu vL jI)) (Zv (ZO sL (Zu vL jI)) (Zv (ZO sL jI) (Zv (ZO sL jI) (Zv (Zgl 1000000 (ZT vL jI ZbL) (Zv (ZO sL (ZD vL vL ZdP)) (Zv (ZO sL (ZD vL (ZD vL vL ZaX) Zbh)) (Zv (ZO sL vL) (Zv (ZO sL vL) (Zv (ZO sL (ZD vL (ZD vL vL ZaX) Zbh)) (Zv (ZO sL vL) (ZB (ZO sL vL))))))))) (Zv (ZO sL (ZD (Zu vL jI) (Zu vL jI) Zbh)) (Zv (Zac (ZT vL jI ZaY) (Zv (Zac (ZT vL jI ZbL) (ZB (ZL jN)) Zaf) (ZB (ZL vL))) Zaf) (Zv (Zac (ZT (ZD vL vL ZbC) jI ZbL) (ZB (ZL jN)) Zaf) (ZB (ZL (cF c ZeV (jc (ZD (ZD (Zu vL jI) vL ZdP) (Zu vL jI) ZaX) (jc (ZD (Zu vL jI) (ZD (ZD (Zu vL jI) vL ZaX) (ZD vL vL ZdP) ZaX) Z9) Zp)))))))))))))
theorem ZnR: DD w s₀ mg mb 447 3 Zhk:=by
 unfold DD;k_fill
 refine Dof (names:=["_law_bounds","_law_rests","_law_full","_law_new","_law_i","_law_j","_law_gap"]) (g:=Zj8) ?_
 exact fun _ _ _ _ _ _ _ c _ _=>(Zv (ZO sL (ZD (J.list (jc (J.tup (jc jI (jc jI Zp))) Zp)) vL Z9)) (Zv (ZO sL (ZD (J.list (jc (J.tup (jc jI (jc jI Zp))) Zp)) vL Z9)) (Zv (ZbD sL (JI.range (nB c) (jc jI (jc (Zas (nB c) (jc vL Zp) ZaL) Zp))) (ZB (ZbD sL (JI.range (nB c) (jc (Zas (nB c) (jc vL Zp) ZaL) Zp)) (Zv (ZO sL (Zu (Zu vL vL) vL)) (ZB (Zac (Zbf (Za2 (ZT vL vL ZbL) (Za2 (ZT vL jN ZcF) (Za2 (ZT (Zu (Zu vL vL) vL) (Zep vL Zd9) ZaY) (Za2 (ZT (Zu vL vL) jN ZcF) Zcv))))) (ZB (S1.put (cF c ZoQ (jc (Zu vL vL) (jc (cF c ZeV (jc (Zu (Zu vL vL) jI) (jc (ZD (Zu (Zu vL vL) jI) vL Z9) Zp))) Zp))) vL vL)) Zaf)))))) (Zv (Zac (ZT jN vL ZfC) (ZB (ZL jN)) Zaf) (ZB (ZL (Ziv vL jI)))))))
theorem ZoR: DD w s₀ mg mb 428 1 ZhT:=by
 unfold DD;k_fill
 refine Dof (names:=["_law_one","_law_other","_law_over"]) (g:=ZlK) ?_
 exact fun _ _ _ _ _ _ _ c _ _=>(Zv (ZO sL (Zas (nB c) (jc vL Zp) ZeD)) (Zv (ZO sL (Zas (nB c) (jc vL Zp) ZeD)) (Zv (Zgl 1000000 (ZT vL jI ZbL) (Zv (ZO sL (ZD vL vL ZbC)) (Zv (ZO sL vL) (ZB (ZO sL vL))))) (ZB (ZL vL)))))
theorem ZrO: DD w s₀ mg mb 452 2 ZjT:=by
 unfold DD;k_fill
 refine Dof (names:=["_law_bounds","_law_rests","_law_full","_law_new","_law_i","_law_j","_law_m","_law_r","_law_top"]) (g:=ZjS) ?_
 exact fun _ _ _ _ _ _ _ c _ _=>(Zv (ZO sL (ZD (J.list (jc (J.tup (jc jI (jc jI Zp))) Zp)) vL Z9)) (Zv (by refine sO sL ?_ ?_ ?_;(exact(JI.seq vL));(exact fun _ _=>(Zdr (nB (Zbo c)) (jc vO Zp) ZdM));(exact fun _ _=>JF.nil)) (Zv (ZbD sL (JI.range (nB c) (jc (Zas (nB c) (jc vL Zp) ZaL) Zp)) (ZB (ZbD sL (JI.range (nB c) (jc (Zas (nB c) (jc vL Zp) ZaL) Zp)) (Zv (ZO sL (cF c ZoR (jc (Zu (Zu vL vL) jI) (jc (Zu (Zu vL vL) jI) Zp)))) (Zv (ZO sL (ZD (Zu (Zu vL vL) jI) (Zu (Zu vL vL) jI) Zbh)) (Zv (ZO sL (Zu (Zu vL vL) vL)) (ZB (Zac (Zbf (Za2 (ZT vL vL ZbL) (Za2 (ZT vL jI ZaY) Zcv))) (Zv (Zac (Zbf (Za2 (ZT vL jN ZcF) (Za2 (ZT vL vL Zco) Zcv))) (ZB (ZL jN)) Zaf) (ZB (S1.put vL (Zu vL vL) vL))) (ZB (Zac (Zbf (Za2 (ZT vL vL ZbL) (Za2 (ZT vL jN ZcF) Zcv))) (ZB (S1.put (ZD vL (ZD (ZD vL vL Zbh) vL ZbC) Zbh) (Zu vL vL) vL)) Zaf)))))))))) (ZB (ZL vL)))))
theorem ZkV: DD w s₀ mg mb 459 4 Zf0:=by
 unfold DD;k_fill
 refine Dof (names:=["_law_told_here","_law_bounds","_law_rests"]) (g:=ZkE) ?_
 exact fun _ _ _ _ _ _ _ c _ _=>(Zv (Zac (ZT vL jN Zbk) (ZB (ZL jN)) Zaf) (Zv (ZO sL (cF c ZnD (jc (Zu vL jI) Zp))) (Zv (Zac (ZT vL jN Zbk) (ZB (ZL jN)) Zaf) (Zv (ZO sL (cF c ZnR (jc vL (jc (Zu vL jI) Zp)))) (Zv (Zac (ZT vL jN Zbk) (ZB (ZL jN)) Zaf) (Zv (ZO sL (cF c ZrO (jc vL (jc vL Zp)))) (Zv (Zac (ZT vL jN Zbk) (ZB (ZL jN)) Zaf) (Zv (ZO sL (cF c ZnD (jc vL Zp))) (Zv (Zac (ZT vL jN Zbk) (ZB (ZL jN)) Zaf) (Zv (ZO sL (cF c ZnR (jc vL (jc vL Zp)))) (Zv (Zac (ZT vL jN Zbk) (ZB (ZL jN)) Zaf) (ZB (ZL (J.tup (jc vL (jc vL Zp))))))))))))))))
theorem Zrx: DD w s₀ mg mb 476 1 Zjq:=by
 unfold DD;k_fill
 refine Dof (names:=["_law_told_here","_law_one","_law_ups","_law_downs","_law_ends","_law_total","_law_i"]) (g:=Zjp) ?_
 exact fun _ _ _ _ _ _ _ c _ _=>(Zv (by refine sO sL ?_ ?_ ?_;(exact(JI.range (nB c) (jc jI (jc (Zas (nB c) (jc vC Zp) ZaL) Zp))));(exact fun _ _=>vO);(exact fun _ _=>JF.one (ZT (Zu vD vO) jI ZfA))) (Zv (by refine sO sL ?_ ?_ ?_;(exact(JI.range (nB c) (jc jI (jc (Zas (nB c) (jc vC Zp) ZaL) Zp))));(exact fun _ _=>vO);(exact fun _ _=>JF.one (ZT (Zu vD vO) jI Zco))) (Zv (Zac (Zbf (Za2 (ZT (Zas (nB c) (jc vL Zp) ZaL) jI ZaY) (Za2 (ZT (Zas (nB c) (jc vL Zp) ZaL) jI ZaY) (Za2 (ZT (Zu vC (Zu vL jI)) jI ZaY) (Za2 (ZT (Zu vC (Zu vL jI)) (Zep jI Zd9) ZaY) Zcv))))) (Zv (Zac (ZT (Zu (Zu (Zu vC jI) (Zu vL jI)) (Zu vL jI)) jN Zbk) (ZB (ZL jN)) Zaf) (ZB (ZL (ZD (Zu (Zu (Zu vC jI) (Zu vL jI)) (Zu vL jI)) (Zu vC jI) Z9)))) Zaf) (Zv (ZO sL (ZD (by refine cO ?_ ?_ ?_;(exact(JI.seq vL));(exact fun _ _=>(Zu (Zu (Zu vD jI) vO) jI));(exact fun _ _=>JF.nil)) (by refine cO ?_ ?_ ?_;(exact(JI.seq vL));(exact fun _ _=>(Zu (Zu (Zu vD jI) jI) vO));(exact fun _ _=>JF.nil)) Z9)) (Zv (Zac (ZT jN vL ZfC) (ZB (ZL jN)) Zaf) (Zv (ZO sL (Zu vC jI)) (Zv (ZbD sL (JI.seq vL) (ZB (ZO sL (ZD vL (ZD (Zu vC vL) (Zu (Zu (Zu vC jI) vL) jI) ZaX) Z9)))) (Zv (ZbD sL (JI.seq vL) (ZB (ZO sL (ZD vL (ZD (Zu vC vL) (Zu (Zu (Zu vC jI) jI) vL) ZaX) Zbh)))) (ZB (ZL vL))))))))))
theorem Zry: DD w s₀ mg mb 483 2 Zjw:=by
 unfold DD;k_fill
 refine Dof (names:=["_law_one","_law_rests","_law_m","_law_r","_law_i"]) (g:=Zjv) ?_
 exact fun _ _ _ _ _ _ _ c _ _=>(Zv (ZO sL jI) (Zv (ZO sL (Zu vL jI)) (Zv (ZbD sL (JI.range (nB c) (jc (Zas (nB c) (jc vL Zp) ZaL) Zp)) (Zv (ZO sL (cF c ZoR (jc vL (jc (ZD (Zu vL (ZD vL jI Z9)) (Zu (Zu vL vL) jI) ZaX) Zp)))) (ZB (ZO sL (ZD vL (ZD (Zu vL (ZD vL jI Z9)) (Zu (Zu vL vL) jI) ZaX) Z9))))) (ZB (ZL (cF c ZeV (jc vL (jc vL Zp))))))))
theorem Ztp: DD w s₀ mg mb 471 1 Zlx:=by
 unfold DD;k_fill
 refine Dof (names:=["_law_one","_law_other"]) (g:=Zlw) ?_
 exact fun _ _ _ _ _ _ _ c _ _=>(ZB (ZL (by refine cO ?_ ?_ ?_;(exact(JI.range (nB c) (jc (Zas (nB c) (jc vC Zp) ZaL) Zp)));(exact fun _ _=>(ZD (Zu vD vO) (Zu vD vO) Zbh));(exact fun _ _=>JF.nil))))
theorem ZnS: DD w s₀ mg mb 488 5 Zhn:=by
 unfold DD;k_fill
 refine Dof (names:=["_law_told_here","_law_sums","_law_full","_law_bounds","_law_one"]) (g:=Zkf) ?_
 exact fun _ _ _ _ _ _ _ c _ _=>(Zv (Zac (ZT vC jN Zbk) (ZB (ZL jN)) Zaf) (Zv (ZO sL (ZD (J.list (jc (ZD (J.list (jc jI Zp)) (ZD (Zas (nB c) (jc (Zu vC jI) Zp) ZaL) jI Z9) ZaX) Zp)) vL Z9)) (Zv (ZO sL (J.list Zp)) (Zv (ZbD sC (JI.seq vL) (ZB (ZdQ (J.append vL (by refine cO ?_ ?_ ?_;(exact(JI.seq vL));(exact fun _ _=>(cF (Zbo c) Zrx (jc vD (jc (cF (Zbo c) Ztp (jc vD (jc vO Zp))) Zp))));(exact fun _ _=>JF.nil)))))) (ZB (ZL (cF c ZkV (jc (J.tup (jc vL (jc (by refine cO ?_ ?_ ?_;(exact(JI.seq vL));(exact fun _ _=>(cF (Zbo c) Zry (jc vO (jc (Zu vD jI) Zp))));(exact fun _ _=>JF.nil)) Zp))) Zp))))))))
theorem ZnI: DD w s₀ mg mb 500 1 Zhd:=by
 unfold DD;k_fill
 refine Dof (names:=["_law_many","_law_sums","_law_i","_law_one"]) (g:=Zjy) ?_
 exact fun _ _ _ _ _ _ _ c _ _=>(Zv (ZO sL (J.list Zp)) (Zv (ZbD sL (JI.range (nB c) (jc vL Zp)) (Zv (ZO sL (ZD (J.list (jc jI Zp)) (ZD vL jI Z9) ZaX)) (Zv (S1.put jI vL (ZD vL jI Z9)) (ZB (ZdQ (J.append vL vL)))))) (ZB (ZL vL))))
theorem Zrz: DD w s₀ mg mb 505 3 ZjB:=by
 unfold DD;k_fill
 refine Dof (names:=["_law_told_here","_law_first","_law_other","_law_bounds","_law_rests","_law_at","_law_i","_law_j","_law_top","_law_now","_law_t"]) (g:=ZjA) ?_
 exact fun _ _ _ _ _ _ _ c _ _=>(Zv (ZO sL (ZD (by refine cO ?_ ?_ ?_;(exact(JI.seq (Zu vL jI)));(exact fun _ _=>(ZD vO (J.list (jc jN Zp)) Z9));(exact fun _ _=>JF.nil)) (J.list (jc (ZD (ZD (J.list (jc jN Zp)) (Zas (nB c) (jc (Zu vL jI) Zp) ZaL) ZaX) (J.list (jc jI Zp)) Z9) Zp)) Z9)) (Zv (ZO sL (ZD (Zu vL jI) (J.list (jc (J.tup (jc jI (jc jI Zp))) Zp)) Z9)) (Zv (ZO sL (ZD (J.list (jc jI Zp)) (by refine cO ?_ ?_ ?_;(exact(JI.range (nB c) (jc (Zas (nB c) (jc (Zu vL jI) Zp) ZaL) Zp)));(exact fun _ _=>(ZD vD vO Z9));(exact fun _ _=>JF.nil)) Z9)) (Zv (ZbD sL (JI.range (nB c) (jc (Zas (nB c) (jc vL Zp) ZaL) Zp)) (ZB (ZbD sL (JI.range (nB c) (jc (Zas (nB c) (jc vL Zp) ZaL) Zp)) (Zv (ZO sL (Zu (Zu (Zu vL jI) vL) vL)) (Zv (ZO sL (Zu (Zu vL (Zu vL vL)) (Zu vL vL))) (ZB (Zac (Zbf (Zbb (ZT vL jN Zbk) (Zbb (Zbf (Za2 (ZT vL jN ZcF) (Za2 (ZT vL vL Zco) Zcv))) ZcE))) (ZB (S1.put vL (Zu vL (Zu vL vL)) (Zu vL vL))) Zaf))))))) (Zv (ZbD sL (JI.range (nB c) (jc (Zas (nB c) (jc (Zu vL jI) Zp) ZaL) Zp)) (ZB (S1.put (cF c ZoQ (jc (Zu vL (ZD (ZD vC vL Z9) jI Zbh)) (jc (Zu (Zu vL jI) vL) Zp))) vL (ZD (ZD vC vL Z9) jI Zbh)))) (Zv (Zac (ZT jN vL ZfC) (ZB (ZL jN)) Zaf) (ZB (ZL (J.tup (jc vL (jc vL Zp)))))))))))
theorem ZrA: DD w s₀ mg mb 512 6 ZjE:=by
 unfold DD;k_fill
 refine Dof (names:=["_law_told_here","_law_x","_law_row","_law_summary","_law_many","_law_cast","_law_sums","_law_back"]) (g:=ZjD) ?_
 exact fun _ _ _ _ _ _ _ c _ _=>(Zv (ZO sL (Zas (nB c) (jc (Zu vL jI) Zp) ZaL)) (Zv (ZO sL (cF c ZnS (jc (cF c ZkV (jc vL Zp)) (jc (ZD (cF c ZnI (jc vL Zp)) vL Z9) Zp)))) (Zv (Zac (ZT vL jN Zbk) (ZB (ZL jN)) Zaf) (Zv (ZO sL (cF c ZkV (jc (cF c Zrz (jc vL (jc (ZD vL jI Z9) (jc vL Zp)))) Zp))) (Zv (ZO sL (cF c ZnI (jc (ZD (ZD vL (Zas (nB c) (jc vL Zp) ZaL) Z9) jI Z9) Zp))) (Zv (ZO sL (Zif vL JP.none (JP.some vL))) (Zv (S1.put (Zu vL (Zep jI Zd9)) vL (ZD vL jI Zbh)) (ZB (ZL (cF c ZnS (jc vL (jc vL Zp))))))))))))
end
end L
end
section
open PySem PySem.W PySem.Calls PyProof.Rows PM
open L
seal PySem.wpAny PM.J PM.Js PM.JT PM.JA PM.JF PM.JI PM.JI2 PM.JP PM.S1 PM.Ss PM.Sto PM.Rd PM.Nm PM.OpN PM.Op2 PM.Def
theorem PySem.Challenge.cw_seer_k53_answered_by_steps_holds : PySem.Challenge.rw_seer_k53_answered_by_steps.Holds :=
 head (by
  w_strict (k_go0;(rename Well _ _ _ _=>w9);(rename Frag.In _ _=>kx9);(rename Top _ _ _ _ _ _=>t9);(rename Fr _ _ _ _=>f9);(rename News _ _ _ _=>n9);(rename CellsAre _ _ _=>x9);(rename (PyData.layable0 _=true)=>hl9);(obtain⟨H9,e9⟩:=L.Zr8 (by omega) hl9);(refine' PM.Zvd (names:=["_law_script","_law_shapes","_law_shape_here","_law_many","_law_boxes","_law_told_here","_law_row","_law_some","_law_answer","_law_summary","_law_x","_law_kept","_law_found"]) (g:=Zmv) (room:=12) ?hb ?h1 ?h2 ?h3 ?h4 kx9 t9 w9 ?len f9 n9 x9 e9 ?post);(case h1=>decide);(case h2=>decide);(case h3=>rfl);(case h4=>rfl);(case len=>(rw[PM.Zbg];omega));(case hb=>(intro dp un gd L a ccd outer h₀ hu clr hd1 hu1;exact(Zv (ZO sL (J.list (jc (J.tup (jc jI (jc jI Zp))) (jc (J.tup (jc jI (jc jI Zp))) (jc (J.tup (jc jI (jc jI Zp))) (jc (J.tup (jc jI (jc jI Zp))) (jc (J.tup (jc jI (jc jI Zp))) (jc (J.tup (jc jI (jc jI Zp))) (jc (J.tup (jc jI (jc jI Zp))) (jc (J.tup (jc jI (jc jI Zp))) (jc (J.tup (jc jI (jc jI Zp))) (jc (J.tup (jc jI (jc jI Zp))) Zp)))))))))))) (Zv (ZO sL (Zu vL (cF clr law_pick_d (jc vC (jc jI (jc jI Zp)))))) (Zv (ZO sC (Zu vL jI)) (Zv (ZO sC (by refine cO ?_ ?_ ?_;(exact(JI.range (nB clr) (jc vC Zp)));(exact fun _ _=>(cF (Zbo clr) ZeZ (jc vD (jc (ZD jI vO Z9) Zp))));(exact fun _ _=>JF.nil))) (Zv (ZO sL (cF clr Zom (jc vC (jc jI (jc vC Zp))))) (Zv (by refine sO sL ?_ ?_ ?_;(exact(JI.range (nB clr) (jc (Zu vL jI) Zp)));(exact fun _ _=>(cF (Zbo clr) Zt9 (jc vD (jc (ZD jI (ZD jI vO ZaX) Z9) (jc vD Zp)))));(exact fun _ _=>JF.nil)) (Zv (by refine sO sL ?_ ?_ ?_;(exact(JI.seq vL));(exact fun _ _=>(cF (Zbo clr) ZsC (jc vO (jc vD Zp))));(exact fun _ _=>JF.nil)) (Zv (ZO sL (cF clr ZeZ (jc vC (jc jI Zp)))) (Zv (Zac (Zbf (Za2 (ZT (Zas (nB clr) (jc vL Zp) ZaL) jI ZfA) (Za2 (ZT (cF clr law_pick_d (jc vC (jc jI (jc jI Zp)))) jI ZaY) Zcv))) (ZB (ZO sL (ZD (ZD (Zu vL jI) (cF clr law_pick_d (jc vC (jc jI (jc jI Zp)))) Z9) jI Zbh))) Zaf) (Zv (ZO sL (cF clr Zom (jc vC (jc jI (jc (ZD vL (J.list (jc vL Zp)) Z9) Zp))))) (Zv (Zac (ZT (cF clr law_pick_d (jc vC (jc jI (jc jI Zp)))) jI ZaY) (ZB (ZO sL (cF clr Zsc (jc vC (jc jI (jc vL Zp)))))) Zaf) (Zv (ZO sL (ZD jI (cF clr law_pick_d (jc vC (jc jI (jc vC Zp)))) Z9)) (Zv (ZO sL (J.list (jc (cF clr Zoq (jc vL Zp)) (jc (cF clr Zoq (jc vL Zp)) (jc (by refine cO ?_ ?_ ?_;(exact(JI.seq vL));(exact fun _ _=>(Zdr (nB (Zbo clr)) (jc vO Zp) ZdM));(exact fun _ _=>JF.nil)) Zp))))) (Zv (ZO sL (cF clr Ztm (jc vL (jc vL (jc vL (jc vL Zp)))))) (Zv (Zac (Zbf (Zbb (ZT vL (Zu vL jI) ZbL) (Zbb (ZT vL (Zu vL jI) ZbL) (Zbb (ZT vL (Zu vL jI) ZbL) ZcE)))) (ZB (ZL jB)) Zaf) (Zv (Zac (Zde (Zce (cF clr Zto (jc vL (jc (cF clr ZrA (jc (Zu vL jI) (jc vL (jc (Zu vL jI) (jc (Zu vL jI) Zp))))) Zp))))) (ZB (ZL jB)) Zaf) (Zv (ZdQ (cF clr Zsb (jc vL Zp))) (ZB (ZL (ZiJ (Zdk vL (Zu vL jI) ZaY) (Zdk vL (Zu vL jI) ZaY)))))))))))))))))))))));(case post=>(intro h' tk' m' F';k_steps)))
  )
end
