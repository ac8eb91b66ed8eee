import PyProof.Rows.All
import Wide.All
import OpenK.AllK
import Wide.FinOn
import PySem.Challenge.RW_seer_k47_claims_keep_boxes
import PyProof.Rows.News
import PyProof.Rows.Nodes
import PyProof.Rows.Chain
import PyProof.Rows.TupSub
import PyProof.PureInt
import PyProof.Rules2
import PyProof.Rules3
import PyProof.Rows.Globals
import PyProof.Rows.RuleB_mod
import PyProof.Rows.RuleB_floordiv
import PyProof.Rows.RuleB_small
import PyProof.NoPylong
import PyProof.Rows.RuleB_pow
import PyProof.Rows.EqDataRows
import PyProof.Rows.StrTemp
import PyProof.Rows.TupAdd
import PyProof.Rows.ListMul
import PyProof.ListIndexNeg
import PyProof.SliceList
import PyProof.Methods
import PyProof.Rows.Tup
import PyProof.IsiPairs
import PyProof.IsiHeapPairs
import PyProof.IsiNone
import PyProof.Rows.RuleN_abs
import PyProof.Rows.SumAny
import PyProof.WalkInts
import PyProof.PvWalk
import PyProof.RulesRaise
import PyProof.Raises
import PyProof.Dict
import PyProof.Seq
import PyProof.Rows.ListAppend
import PyProof.ForAppend
import PyProof.ForAny
import PyProof.Walks
import PyProof.WalksT
import KE.KItem
import PyProof.WalksMore
import PyProof.RangeFor
import PyProof.Rows.Range3
import OpenK.KCell
import KE.KTree
import KE.RegLcTurns
import KE.KCompFold
import KE.KLcPair
import KE.LcTurns
import PyProof.CompUse
import PyProof.Rows.ZipGen
import OpenK.KLine
import KE.KState
import Wide.Well
import PyProof.ListCopy
import PyProof.Rows.TupleOfSeqD
import KE.LcSums
import KE.KCellOne
import PyProof.FitsBits
import KE.KEqDeep
import PyProof.Rows.TupMore
import PyProof.Rows.NestLooks
import PyProof.EnumMake
import PyProof.WalksEnum
import PyProof.Rows.SortWalk
import PyProof.DictStraight
import PyProof.EqAt
import PyProof.Rows.SeqMore2
import KE.KAnyBase
import PyProof.Rows.SeqSlice
set_option linter.all false
set_option maxRecDepth 100000
set_option maxHeartbeats 8000000
abbrev Zz0:=@Option.bind_eq_some_iff
abbrev Zz1:=@Option.map_eq_some_iff
abbrev Zz2:=@List.mem_cons_of_mem
abbrev Zz3:=@List.mem_append_right
abbrev Zz4:=@List.mem_append_left
abbrev Zz5:=@List.mem_cons_self
abbrev Zz6:=@List.getElem?_eq_some_iff
abbrev Zz7:=@List.mem_cons
abbrev Zz8:=@List.mem_append
abbrev Zz9:=@List.mem_singleton
abbrev Zz10:=@Nat.le_refl
abbrev Zz11:=@List.mem_map
set_option Elab.async false
set_option compiler.extract_closed false
section
/-! The plain machine: values as trees, lists as places; and how it stands for the model's heap. -/
namespace PM
open PySem PyProof.Rows
inductive V where
 | none
 | bool (b:Bool)
 | int (i:Int)
 | str (s:Str)
 | tup (vs:List V)
 | ref (a:Nat)
noncomputable abbrev Hp:=List (List V)
noncomputable abbrev Lc:=Nat→Option V
noncomputable def LEN: Nat:=100000
theorem Za6: LEN=100000:=rfl
theorem Zcz{n:Nat}(h:n≤LEN): n≤sizeLine:=by
 have:sizeLine=2 ^ 24:=rfl
 rw[this];rw[Za6]at h;omega
noncomputable abbrev ZeB(xs:List Value)(k:Nat): Obj:={ cls:=.type "tuple",data:=.seq xs.toArray k }
noncomputable abbrev ZbD(xs:List Value)(k:Nat): Obj:={ cls:=.type "list",data:=.seq xs.toArray k }
structure Wd where
 pi:List Addr
 tups:List (Addr×Obj)
 sc:Addr×Obj
structure Wd.Le(W W':Wd): Prop where
 pi:W.pi <+: W'.pi
 tups:∀q∈W.tups,q∈W'.tups
 sc:W'.sc=W.sc
theorem Wd.Le.refl(W:Wd): W.Le W:=⟨List.prefix_refl _,fun _ h=>h,rfl⟩
theorem Wd.Le.trans{W W' W'':Wd}(a:W.Le W')(b:W'.Le W''): W.Le W'':=⟨a.pi.trans b.pi,fun q h=>b.tups q (a.tups q h),b.sc.trans a.sc⟩
theorem Wd.Le.at{W W':Wd}(h:W.Le W'){i:Nat}{a:Addr}(e:W.pi[i]?=some a): W'.pi[i]?=some a:=by
 obtain⟨t,ht⟩:=h.pi
 have hi:i<W.pi.length:=(Zz6.mp e).1
 rw[←ht,List.getElem?_append_left hi]
 exact e
mutual
inductive VR(W:Wd): V→Value→Prop where
 | none:VR W .none .none
 | bool (b:Bool):VR W (.bool b) (.bool b)
 | int (i:Int) (t:Tok):VR W (.int i) (.int i t)
 | str (s:Str) (t:Tok):VR W (.str s) (.str s t)
 | tup {vs:List V} {a:Addr} {xs:List Value} {k:Nat}:(a,ZeB xs k)∈W.tups→vs.length≤LEN→VRs W vs xs→VR W (.tup vs) (.ref a)
 | ref {i:Nat} {a:Addr}:W.pi[i]?=some a→VR W (.ref i) (.ref a)
inductive VRs(W:Wd): List V→List Value→Prop where
 | nil:VRs W [] []
 | cons {v:V} {x:Value} {vs:List V} {xs:List Value}:VR W v x→VRs W vs xs→VRs W (v::vs) (x::xs)
end
mutual
theorem VR.mono{W W':Wd}(h:W.Le W'){v:V}{x:Value}(r:VR W v x): VR W' v x:=by
 cases r with
 | none=>exact .none
 | bool b=>exact .bool b
 | int i t=>exact .int i t
 | str s t=>exact .str s t
 | tup hm hl hs=>exact .tup (h.tups _ hm) hl (VRs.mono h hs)
 | ref e=>exact .ref (h.at e)
theorem VRs.mono{W W':Wd}(h:W.Le W'){vs:List V}{xs:List Value}(r:VRs W vs xs): VRs W' vs xs:=by
 cases r with
 | nil=>exact .nil
 | cons a b=>exact .cons (VR.mono h a) (VRs.mono h b)
end
theorem VRs.length{W:Wd}: ∀{vs:List V} {xs:List Value},VRs W vs xs→xs.length=vs.length
 | _,_,.nil=>rfl
 | _,_,.cons _ r=>by rw[List.length_cons,List.length_cons,r.length]
theorem VRs.at{W:Wd}: ∀{vs:List V} {xs:List Value} {i:Nat} {v:V},VRs W vs xs→vs[i]?=some v→∃x,xs[i]?=some x∧VR W v x
 | _,_,_,_,.nil,e=>by simp at e
 | _,_,0,_,.cons a _,e=>by
  simp at e
  exact⟨_,by simp,e▸a⟩
 | _,_,i+1,_,.cons _ r,e=>by
  simp at e
  obtain⟨x,hx,hr⟩:=r.at e
  exact⟨x,by simpa using hx,hr⟩
theorem VRs.append{W:Wd}: ∀{vs us:List V} {xs ys:List Value},VRs W vs xs→VRs W us ys→VRs W (vs++us) (xs++ys)
 | _,_,_,_,.nil,h=>h
 | _,_,_,_,.cons a r,h=>.cons a (r.append h)
theorem VRs.snoc{W:Wd}{vs:List V}{xs:List Value}{v:V}{x:Value}(h:VRs W vs xs)(r:VR W v x): VRs W (vs++[v]) (xs++[x]):=h.append (.cons r .nil)
theorem VRs.set{W:Wd}: ∀{vs:List V} {xs:List Value} {v:V} {x:Value} (i:Nat),VRs W vs xs→VR W v x→VRs W (vs.set i v) (xs.set i x)
 | _,_,_,_,_,.nil,_=>.nil
 | _,_,_,_,0,.cons _ r,h=>.cons h r
 | _,_,_,_,i+1,.cons a r,h=>.cons a (r.set i h)
theorem VRs.drop{W:Wd}: ∀{vs:List V} {xs:List Value} (i:Nat),VRs W vs xs→VRs W (vs.drop i) (xs.drop i)
 | _,_,0,h=>h
 | _,_,_+1,.nil=>.nil
 | _,_,i+1,.cons _ r=>r.drop i
structure HR(W:Wd)(H:Hp)(led:List (Addr×Obj)): Prop where
 len:W.pi.length=H.length
 nd:W.pi.Nodup
 lists:∀(i:Nat) (vs:List V),H[i]?=some vs→vs.length≤LEN∧∃a xs k,W.pi[i]?=some a∧(a,ZbD xs k)∈led∧VRs W vs xs
 tups:∀q∈W.tups,q∈led
 kind:∀q∈W.tups,∃xs k,q.2=ZeB xs k
theorem HR.mono{W:Wd}{H:Hp}{led led':List (Addr×Obj)}(R:HR W H led)(h:∀q∈led,q∈led'): HR W H led':=
 ⟨R.len,R.nd,fun i vs e=>by
  obtain⟨l,a,xs,k,h1,h2,h3⟩:=R.lists i vs e
  exact⟨l,a,xs,k,h1,h _ h2,h3⟩,fun q hq=>h q (R.tups q hq),R.kind⟩
structure Cx where
 A:Around
 env:Env
 h₀:Heap
 L:Addr
 hh:A.handled=none
 hu:A.units+200<cLine
 Own:Wd→Lc→(Str→Option Value)→List (Addr×Obj)→Prop
 mono:∀{W W':Wd} {ρ:Lc} {m:Str→Option Value} {c:List (Addr×Obj)},W.Le W'→Own W ρ m c→Own W' ρ m c
structure Rep'(Γ:Cx)(W:Wd)(ρ:Lc)(H:Hp)(fr:List (Addr×Obj))(h:Heap)(m:Str→Option Value)(cells led:List (Addr×Obj)): Prop where
 F:Fr Γ.h₀ Γ.L h m
 N:News Γ.h₀ Γ.L h led
 R:HR W H (W.sc::led)
 sc:Γ.h₀.get? W.sc.1=some W.sc.2
 sc0:W.pi[0]?=some W.sc.1
 frIn:∀q∈fr,q∈led
 frOff:∀q∈fr,q.1∉W.pi
 clIn:∀q∈cells,q∈led
 clOff:∀q∈cells,q.1∉W.pi
 apart:∀q∈cells,∀r∈fr,q.1≠r.1
 frTup:∀q∈fr,∀t∈W.tups,q.1≠t.1
 clTup:∀q∈cells,∀t∈W.tups,q.1≠t.1
 own:Γ.Own W ρ m cells
def Rep(Γ:Cx)(W:Wd)(ρ:Lc)(H:Hp)(fr:List (Addr×Obj))(h:Heap): Prop:=∃m cells led,Rep' Γ W ρ H fr h m cells led
theorem Rep.grown{Γ:Cx}{W:Wd}{ρ:Lc}{H:Hp}{fr:List (Addr×Obj)}{h h':Heap}(r:Rep Γ W ρ H fr h)(up:∀b o,h.get? b=some o→h'.get? b=some o): Rep Γ W ρ H fr h':=by
 obtain⟨m,c,led,r⟩:=r
 refine⟨m,c,led,⟨⟨?_,fun b o e=>up b o (r.F.keep b o e),r.F.above⟩,fun q hq=>⟨up _ _ (r.N q hq).1,(r.N q hq).2⟩,r.R,r.sc,r.sc0,r.frIn,r.frOff,r.clIn,r.clOff,r.apart,r.frTup,r.clTup,r.own⟩⟩
 obtain⟨o,es,ep,h1,h2⟩:=r.F.ns
 exact⟨o,es,ep,up _ _ h1,h2⟩
theorem Rep.push{Γ:Cx}{W:Wd}{ρ:Lc}{H:Hp}{fr:List (Addr×Obj)}{h:Heap}(r:Rep Γ W ρ H fr h)(o:Obj): Rep Γ W ρ H fr (h.push o):=r.grown fun _ _ e=>Heap.get?_push_of_some _ e
theorem ZdQ{q s:Addr×Obj}{l l':List (Addr×Obj)}(h:q∈s::l)(m:q∈l→q∈l'): q∈s::l':=by
 rcases Zz7.mp h with e | h
 ·exact e▸List.mem_cons_self
 ·exact Zz2 _ (m h)
theorem Zfs{q s:Addr×Obj}{l l':List (Addr×Obj)}(h:q∈s::l)(m:∀x∈l,x∈l'): q∈s::l':=by
 rcases Zz7.mp h with e | h
 ·exact e▸List.mem_cons_self
 ·exact Zz2 _ (m q h)
theorem Rep'.get{Γ:Cx}{W:Wd}{ρ:Lc}{H:Hp}{fr:List (Addr×Obj)}{h:Heap}{m:Str→Option Value}{c led:List (Addr×Obj)}(r:Rep' Γ W ρ H fr h m c led){q:Addr×Obj}(hq:q∈W.sc::led): h.get? q.1=some q.2:=by
 rcases Zz7.mp hq with e | hq
 ·rw[e]
  exact r.F.keep _ _ r.sc
 ·exact(r.N q hq).1
theorem Rep'.off{Γ:Cx}{W:Wd}{ρ:Lc}{H:Hp}{fr:List (Addr×Obj)}{h:Heap}{m:Str→Option Value}{c led:List (Addr×Obj)}(r:Rep' Γ W ρ H fr h m c led): ∀q∈W.sc::led,q.1≠h.objs.size:=fun q hq=>Nat.ne_of_lt (Heap.lt_size (r.get hq))
theorem Rep'.same{Γ:Cx}{W:Wd}{ρ:Lc}{H:Hp}{fr:List (Addr×Obj)}{h h':Heap}{m:Str→Option Value}{c led:List (Addr×Obj)}(r:Rep' Γ W ρ H fr h m c led)(F':Fr Γ.h₀ Γ.L h' m)(N':News Γ.h₀ Γ.L h' led): Rep Γ W ρ H fr h':=
 ⟨m,c,led,F',N',r.R,r.sc,r.sc0,r.frIn,r.frOff,r.clIn,r.clOff,r.apart,r.frTup,r.clTup,r.own⟩
theorem Rep'.piIn{Γ:Cx}{W:Wd}{ρ:Lc}{H:Hp}{fr:List (Addr×Obj)}{h:Heap}{m:Str→Option Value}{c led:List (Addr×Obj)}(r:Rep' Γ W ρ H fr h m c led): ∀a∈W.pi,∃o,(a,o)∈W.sc::led:=by
 intro a ha
 obtain⟨i,hi,e⟩:=List.getElem_of_mem ha
 have hi':i<H.length:=r.R.len▸hi
 obtain⟨_,b,xs,k,h1,h2,_⟩:=r.R.lists i H[i] (List.getElem?_eq_getElem hi')
 have:b=a:=by rw[List.getElem?_eq_getElem hi,e]at h1;exact(Option.some.inj h1).symm
 exact⟨_,this▸h2⟩
theorem Rep'.inLed{Γ:Cx}{W:Wd}{ρ:Lc}{H:Hp}{fr:List (Addr×Obj)}{h:Heap}{m:Str→Option Value}{c led:List (Addr×Obj)}(r:Rep' Γ W ρ H fr h m c led){i:Nat}{a:Addr}{o:Obj}(hi:i≠0)(ea:W.pi[i]?=some a)(hm:(a,o)∈W.sc::led): (a,o)∈led:=by
 rcases Zz7.mp hm with e | hm
 ·have e1:a=W.sc.1:=congrArg (·.1) e
  have hl:i<W.pi.length:=(Zz6.mp ea).1
  have:i=0:=(List.getElem?_inj hl r.R.nd).mp (by rw[ea,r.sc0,e1])
  exact absurd this hi
 ·exact hm
theorem Rep'.notSc{Γ:Cx}{W:Wd}{ρ:Lc}{H:Hp}{fr:List (Addr×Obj)}{h:Heap}{m:Str→Option Value}{c led:List (Addr×Obj)}(r:Rep' Γ W ρ H fr h m c led): ∀q∈led,q.1≠W.sc.1:=fun q hq e=>by
 have:=(r.N q hq).2.2
 rw[e,r.sc]at this
 cases this
theorem Rep'.newTup{Γ:Cx}{W:Wd}{ρ:Lc}{H:Hp}{fr:List (Addr×Obj)}{h h':Heap}{m:Str→Option Value}{c led:List (Addr×Obj)}{vs:List V}{xs:List Value}{k:Nat}{n:Addr}(r:Rep' Γ W ρ H fr h m c led)(F':Fr Γ.h₀ Γ.L h' m)(N':News Γ.h₀ Γ.L h' ((n,ZeB xs k)::led))(hn:∀q∈W.sc::led,q.1≠n)(hv:VRs W vs xs)(hl:vs.length≤LEN):
  ∃W',W.Le W'∧Rep Γ W' ρ H fr h'∧VR W' (.tup vs) (.ref n):=by
 have le:W.Le ⟨W.pi,(n,ZeB xs k)::W.tups,W.sc⟩:=⟨List.prefix_refl _,fun q hq=>List.mem_cons_of_mem _ hq,rfl⟩
 refine⟨⟨W.pi,(n,ZeB xs k)::W.tups,W.sc⟩,le,⟨m,c,(n,ZeB xs k)::led,⟨F',N',?_,r.sc,r.sc0,fun q hq=>List.mem_cons_of_mem _ (r.frIn q hq),r.frOff,fun q hq=>List.mem_cons_of_mem _ (r.clIn q hq),r.clOff,r.apart,fun q hq t ht=>?_,fun q hq t ht=>?_,Γ.mono le r.own⟩⟩,.tup Zz5 hl (hv.mono le)⟩
 ·refine⟨r.R.len,r.R.nd,fun i us e=>?_,fun q hq=>?_,fun q hq=>?_⟩
  ·obtain⟨l,a,ys,j,h1,h2,h3⟩:=r.R.lists i us e
   exact⟨l,a,ys,j,h1,Zfs h2 fun x hx=>List.mem_cons_of_mem _ hx,h3.mono le⟩
  ·rcases Zz7.mp hq with e | hq
   ·exact e▸List.mem_cons_of_mem _ Zz5
   ·exact Zfs (r.R.tups q hq) fun x hx=>List.mem_cons_of_mem _ hx
  ·rcases Zz7.mp hq with e | hq
   ·exact⟨xs,k,by rw[e]⟩
   ·exact r.R.kind q hq
 ·rcases Zz7.mp ht with e | ht
  ·rw[e]
   exact hn q (Zz2 _ (r.frIn q hq))
  ·exact r.frTup q hq t ht
 ·rcases Zz7.mp ht with e | ht
  ·rw[e]
   exact hn q (Zz2 _ (r.clIn q hq))
  ·exact r.clTup q hq t ht
theorem Rep.tuple{Γ:Cx}{W:Wd}{ρ:Lc}{H:Hp}{fr:List (Addr×Obj)}{h:Heap}{vs:List V}{xs:List Value}{k:Nat}(r:Rep Γ W ρ H fr h)(hv:VRs W vs xs)(hl:vs.length≤LEN):
  ∃W',W.Le W'∧Rep Γ W' ρ H fr (h.push (ZeB xs k))∧VR W' (.tup vs) (.ref h.objs.size):=by
 obtain⟨m,c,led,r⟩:=r
 exact r.newTup (r.F.push _) (News.push r.F r.N _) r.off hv hl
theorem Rep'.newList{Γ:Cx}{W:Wd}{ρ:Lc}{H:Hp}{fr:List (Addr×Obj)}{h h':Heap}{m:Str→Option Value}{c led:List (Addr×Obj)}{vs:List V}{xs:List Value}{k:Nat}{n:Addr}(r:Rep' Γ W ρ H fr h m c led)(F':Fr Γ.h₀ Γ.L h' m)(N':News Γ.h₀ Γ.L h' ((n,ZbD xs k)::led))(hn:∀q∈W.sc::led,q.1≠n)(hv:VRs W vs xs)(hl:vs.length≤LEN):
  ∃W',W.Le W'∧Rep Γ W' ρ (H++[vs]) fr h'∧VR W' (.ref H.length) (.ref n):=by
 have le:W.Le ⟨W.pi++[n],W.tups,W.sc⟩:=⟨List.prefix_append _ _,fun q hq=>hq,rfl⟩
 have h0:0<W.pi.length:=(Zz6.mp r.sc0).1
 have at_n:(W.pi++[n])[H.length]?=some n:=by rw[←r.R.len];simp
 refine⟨⟨W.pi++[n],W.tups,W.sc⟩,le,⟨m,c,(n,ZbD xs k)::led,⟨F',N',?_,r.sc,(List.getElem?_append_left h0).trans r.sc0,fun q hq=>List.mem_cons_of_mem _ (r.frIn q hq),fun q hq=>?_,fun q hq=>List.mem_cons_of_mem _ (r.clIn q hq),fun q hq=>?_,r.apart,r.frTup,r.clTup,Γ.mono le r.own⟩⟩,.ref at_n⟩
 ·refine⟨by simp[r.R.len],?_,fun i us e=>?_,fun q hq=>Zfs (r.R.tups q hq) fun x hx=>List.mem_cons_of_mem _ hx,r.R.kind⟩
  ·show(W.pi++[n]).Nodup
   rw[List.nodup_append]
   refine⟨r.R.nd,by simp,fun a ha b hb=>?_⟩
   rw[List.mem_singleton.mp hb]
   obtain⟨o,ho⟩:=r.piIn a ha
   exact hn _ ho
  ·by_cases hi:i<H.length
   ·rw[List.getElem?_append_left hi]at e
    obtain⟨l,a,ys,j,h1,h2,h3⟩:=r.R.lists i us e
    exact⟨l,a,ys,j,le.at h1,Zfs h2 fun x hx=>List.mem_cons_of_mem _ hx,h3.mono le⟩
   ·have:i=H.length:=by
     have:=(Zz6.mp e).1
     simp at this
     omega
    subst this
    simp at e
    subst e
    exact⟨hl,n,xs,k,at_n,List.mem_cons_of_mem _ Zz5,hv.mono le⟩
 ·intro hm
  rcases Zz8.mp hm with hm | hm
  ·exact r.frOff q hq hm
  ·exact hn q (Zz2 _ (r.frIn q hq)) (Zz9.mp hm)
 ·intro hm
  rcases Zz8.mp hm with hm | hm
  ·exact r.clOff q hq hm
  ·exact hn q (Zz2 _ (r.clIn q hq)) (Zz9.mp hm)
theorem Rep.list{Γ:Cx}{W:Wd}{ρ:Lc}{H:Hp}{fr:List (Addr×Obj)}{h:Heap}{vs:List V}{xs:List Value}{k:Nat}(r:Rep Γ W ρ H fr h)(hv:VRs W vs xs)(hl:vs.length≤LEN):
  ∃W',W.Le W'∧Rep Γ W' ρ (H++[vs]) fr (h.push (ZbD xs k))∧VR W' (.ref H.length) (.ref h.objs.size):=by
 obtain⟨m,c,led,r⟩:=r
 exact r.newList (r.F.push _) (News.push r.F r.N _) r.off hv hl
theorem Rep.at{Γ:Cx}{W:Wd}{ρ:Lc}{H:Hp}{fr:List (Addr×Obj)}{h:Heap}{i:Nat}{a:Addr}{vs:List V}(r:Rep Γ W ρ H fr h)(e:H[i]?=some vs)(ea:W.pi[i]?=some a): vs.length≤LEN∧∃xs k,h.get? a=some (ZbD xs k)∧VRs W vs xs:=by
 obtain⟨m,c,led,r⟩:=r
 obtain⟨l,b,xs,k,h1,h2,h3⟩:=r.R.lists i vs e
 rw[ea]at h1
 cases h1
 exact⟨l,xs,k,r.get h2,h3⟩
theorem Rep.tupAt{Γ:Cx}{W:Wd}{ρ:Lc}{H:Hp}{fr:List (Addr×Obj)}{h:Heap}{q:Addr×Obj}(r:Rep Γ W ρ H fr h)(e:q∈W.tups): h.get? q.1=some q.2:=by
 obtain⟨m,c,led,r⟩:=r
 exact r.get (r.R.tups _ e)
theorem Rep'.changed{Γ:Cx}{W:Wd}{ρ:Lc}{H:Hp}{fr:List (Addr×Obj)}{h h':Heap}{m:Str→Option Value}{c led:List (Addr×Obj)}{i:Nat}{a:Addr}{vs us:List V}{ys:List Value}{k:Nat}(r:Rep' Γ W ρ H fr h m c led)(i0:i≠0)(e:H[i]?=some vs)(ea:W.pi[i]?=some a)(F':Fr Γ.h₀ Γ.L h' m)(N':News Γ.h₀ Γ.L h' ((a,ZbD ys k)::led.filter (fun q=>decide (q.1≠a))))(hv:VRs W us ys)(hl:us.length≤LEN):
  Rep Γ W ρ (H.set i us) fr h':=by
 obtain⟨_,b,xs,j,h1,h2,h3⟩:=r.R.lists i vs e
 rw[ea]at h1
 cases h1
 have h2:=r.inLed i0 ea h2
 have hN:=r.N _ h2
 have hm:a∈W.pi:=List.mem_of_getElem? ea
 have hi:i<H.length:=(Zz6.mp e).1
 refine⟨m,c,(a,ZbD ys k)::led.filter (fun q=>decide (q.1≠a)),⟨F',N',?_,r.sc,r.sc0,fun q hq=>?_,r.frOff,fun q hq=>?_,r.clOff,r.apart,r.frTup,r.clTup,r.own⟩⟩
 ·refine⟨by simp[r.R.len],r.R.nd,fun n ws en=>?_,fun q hq=>?_,r.R.kind⟩
  ·by_cases hn:n=i
   ·subst hn
    rw[List.getElem?_set_self hi]at en
    cases en
    exact⟨hl,a,ys,k,ea,List.mem_cons_of_mem _ Zz5,hv⟩
   ·rw[List.getElem?_set_ne (Ne.symm hn)]at en
    obtain⟨l,d,zs,j',g1,g2,g3⟩:=r.R.lists n ws en
    refine⟨l,d,zs,j',g1,ZdQ g2 fun g2=>List.mem_cons_of_mem _ (List.mem_filter.mpr ⟨g2,?_⟩),g3⟩
    have:d≠a:=fun e=>by
     subst e
     exact hn ((List.getElem?_inj (Zz6.mp g1).1 r.R.nd).mp (g1.trans ea.symm))
    simpa using this
  ·refine ZdQ (r.R.tups q hq) fun g2=>List.mem_cons_of_mem _ (List.mem_filter.mpr ⟨g2,?_⟩)
   have:q.1≠a:=fun e=>by
    obtain⟨zs,j',hk⟩:=r.R.kind q hq
    have g:=r.get (r.R.tups q hq)
    rw[e,hN.1,hk]at g
    have c:=congrArg Obj.cls (Option.some.inj g)
    exact absurd c (by simp)
   simpa using this
 ·refine Zz2 _ (List.mem_filter.mpr ⟨r.frIn q hq,?_⟩)
  have:q.1≠a:=fun e=>r.frOff q hq (e▸hm)
  simpa using this
 ·refine Zz2 _ (List.mem_filter.mpr ⟨r.clIn q hq,?_⟩)
  have:q.1≠a:=fun e=>r.clOff q hq (e▸hm)
  simpa using this
theorem Rep.change{Γ:Cx}{W:Wd}{ρ:Lc}{H:Hp}{fr:List (Addr×Obj)}{h h':Heap}{i:Nat}{a:Addr}{vs us:List V}{ys:List Value}{k:Nat}(r:Rep Γ W ρ H fr h)(i0:i≠0)(e:H[i]?=some vs)(ea:W.pi[i]?=some a)(sb:Heap.SameBut a h h')(ha:h'.get? a=some (ZbD ys k))(hv:VRs W us ys)(hl:us.length≤LEN):
  Rep Γ W ρ (H.set i us) fr h':=by
 obtain⟨m,c,led,r⟩:=r
 obtain⟨_,b,xs,j,h1,h2,h3⟩:=r.R.lists i vs e
 rw[ea]at h1
 cases h1
 have h2:=r.inLed i0 ea h2
 have hN:=r.N _ h2
 have keep:∀q∈led,q.1≠a→h'.get? q.1=some q.2:=fun q hq hn=>sb.extBut _ _ hn (r.N q hq).1
 refine r.changed (k:=k) i0 e ea ⟨r.F.ns.sameBut sb (Ne.symm hN.2.1),fun b o eb=>sb.extBut b o (fun q=>?_) (r.F.keep b o eb),r.F.above⟩ (fun q hq=>?_) hv hl
 ·subst q
  rw[hN.2.2]at eb
  cases eb
 ·rcases Zz7.mp hq with e | hq
  ·subst e
   exact⟨ha,hN.2⟩
  ·obtain⟨h1,h2⟩:=List.mem_filter.mp hq
   exact⟨keep q h1 (by simpa using h2),(r.N q h1).2⟩
theorem Rep.swap{Γ:Cx}{W:Wd}{ρ:Lc}{H:Hp}{fs fs' fr:List (Addr×Obj)}{h h':Heap}(r:Rep Γ W ρ H (fs++fr) h)(ap:∀q∈fs,∀t∈fr,q.1≠t.1)(keep:∀b o,b∉fs.map (·.1)→h.get? b=some o→h'.get? b=some o)(new:∀q∈fs',h'.get? q.1=some q.2∧q.1∈fs.map (·.1)): Rep Γ W ρ H (fs'++fr) h':=by
 obtain⟨m,c,led,r⟩:=r
 have inF:∀q∈fs,q∈fs++fr:=fun q hq=>List.mem_append_left _ hq
 have nL:∀a∈fs.map (·.1),a≠Γ.L∧Γ.h₀.get? a=none:=fun a ha=>by
  obtain⟨q,hq,e⟩:=Zz11.mp ha
  exact e▸(r.N q (r.frIn q (inF q hq))).2
 have kp:∀q∈led,q.1∉fs.map (·.1)→h'.get? q.1=some q.2:=fun q hq hn=>keep _ _ hn (r.N q hq).1
 refine⟨m,c,fs'++led.filter (fun q=>decide (q.1∉fs.map (·.1))),⟨⟨?_,fun b o e=>?_,r.F.above⟩,fun q hq=>?_,⟨r.R.len,r.R.nd,fun i vs e=>?_,fun q hq=>?_,r.R.kind⟩,r.sc,r.sc0,fun q hq=>?_,fun q hq=>?_,fun q hq=>?_,r.clOff,fun q hq t ht=>?_,fun q hq t ht=>?_,r.clTup,r.own⟩⟩
 ·obtain⟨o,es,ep,h1,h2⟩:=r.F.ns
  exact⟨o,es,ep,keep _ _ (fun q=>(nL _ q).1 rfl) h1,h2⟩
 ·refine keep b o (fun q=>?_) (r.F.keep b o e)
  rw[(nL b q).2]at e
  cases e
 ·rcases Zz8.mp hq with hq | hq
  ·obtain⟨h1,h2⟩:=new q hq
   exact⟨h1,nL _ h2⟩
  ·obtain⟨h1,h2⟩:=List.mem_filter.mp hq
   exact⟨kp q h1 (by simpa using h2),(r.N q h1).2⟩
 ·obtain⟨l,a,xs,k,h1,h2,h3⟩:=r.R.lists i vs e
  refine⟨l,a,xs,k,h1,ZdQ h2 fun h2=>List.mem_append_right _ (List.mem_filter.mpr ⟨h2,?_⟩),h3⟩
  have:a∉fs.map (·.1):=fun q=>by
   obtain⟨t,ht,e⟩:=Zz11.mp q
   exact r.frOff t (inF t ht) (e▸List.mem_of_getElem? h1)
  simpa using this
 ·refine ZdQ (r.R.tups q hq) fun h2=>List.mem_append_right _ (List.mem_filter.mpr ⟨h2,?_⟩)
  have:q.1∉fs.map (·.1):=fun z=>by
   obtain⟨t,ht,e⟩:=Zz11.mp z
   exact r.frTup t (inF t ht) q hq e
  simpa using this
 ·rcases Zz8.mp hq with hq | hq
  ·exact Zz4 _ hq
  ·refine Zz3 _ (List.mem_filter.mpr ⟨r.frIn q (Zz3 _ hq),?_⟩)
   have:q.1∉fs.map (·.1):=fun z=>by
    obtain⟨t,ht,e⟩:=Zz11.mp z
    exact ap t ht q hq e
   simpa using this
 ·rcases Zz8.mp hq with hq | hq
  ·obtain⟨t,ht,e⟩:=Zz11.mp (new q hq).2
   exact e▸r.frOff t (inF t ht)
  ·exact r.frOff q (Zz3 _ hq)
 ·refine Zz3 _ (List.mem_filter.mpr ⟨r.clIn q hq,?_⟩)
  have:q.1∉fs.map (·.1):=fun z=>by
   obtain⟨t,ht,e⟩:=Zz11.mp z
   exact r.apart q hq t (inF t ht) e.symm
  simpa using this
 ·rcases Zz8.mp ht with ht | ht
  ·obtain⟨u,hu,e⟩:=Zz11.mp (new t ht).2
   exact e▸r.apart q hq u (inF u hu)
  ·exact r.apart q hq t (Zz3 _ ht)
 ·rcases Zz8.mp hq with hq | hq
  ·obtain⟨u,hu,e⟩:=Zz11.mp (new q hq).2
   exact e▸r.frTup u (inF u hu) t ht
  ·exact r.frTup q (Zz3 _ hq) t ht
theorem Rep.more{Γ:Cx}{W:Wd}{ρ:Lc}{H:Hp}{fs fr:List (Addr×Obj)}{h h':Heap}(r:Rep Γ W ρ H fr h)(up:∀b o,h.get? b=some o→h'.get? b=some o)(new:∀q∈fs,h'.get? q.1=some q.2∧h.objs.size≤q.1): Rep Γ W ρ H (fs++fr) h'∧∀q∈fs,∀t∈fr,q.1≠t.1:=by
 have r':=r.grown up
 obtain⟨m,c,led,r⟩:=r
 have lt:∀q∈W.sc::led,q.1<h.objs.size:=fun q hq=>Heap.lt_size (r.get hq)
 have ne:∀q∈fs,∀t∈W.sc::led,q.1≠t.1:=fun q hq t ht=>Nat.ne_of_gt (Nat.lt_of_lt_of_le (lt t ht) (new q hq).2)
 refine⟨⟨m,c,fs++led,⟨⟨?_,fun b o e=>up b o (r.F.keep b o e),r.F.above⟩,fun q hq=>?_,r.R.mono fun q hq=>Zfs hq fun x hx=>List.mem_append_right _ hx,r.sc,r.sc0,fun q hq=>?_,fun q hq=>?_,fun q hq=>List.mem_append_right _ (r.clIn q hq),r.clOff,fun q hq t ht=>?_,fun q hq t ht=>?_,r.clTup,r.own⟩⟩,fun q hq t ht=>ne q hq t (Zz2 _ (r.frIn t ht))⟩
 ·obtain⟨o,es,ep,h1,h2⟩:=r.F.ns
  exact⟨o,es,ep,up _ _ h1,h2⟩
 ·rcases Zz8.mp hq with hq | hq
  ·obtain⟨h1,h2⟩:=new q hq
   refine⟨h1,fun e=>?_,?_⟩
   ·exact absurd (e▸r.F.ns.lt) (Nat.not_lt.mpr h2)
   ·cases e:Γ.h₀.get? q.1 with
    | none=>rfl
    | some o=>exact absurd (Heap.lt_size (r.F.keep _ _ e)) (Nat.not_lt.mpr h2)
  ·exact⟨up _ _ (r.N q hq).1,(r.N q hq).2⟩
 ·rcases Zz8.mp hq with hq | hq
  ·exact Zz4 _ hq
  ·exact Zz3 _ (r.frIn q hq)
 ·rcases Zz8.mp hq with hq | hq
  ·intro hm
   obtain⟨o,ho⟩:=r.piIn _ hm
   exact ne q hq _ ho rfl
  ·exact r.frOff q hq
 ·rcases Zz8.mp ht with ht | ht
  ·exact(ne t ht q (Zz2 _ (r.clIn q hq))).symm
  ·exact r.apart q hq t ht
 ·rcases Zz8.mp hq with hq | hq
  ·exact ne q hq t (r.R.tups t ht)
  ·exact r.frTup q hq t ht
theorem Rep.less{Γ:Cx}{W:Wd}{ρ:Lc}{H:Hp}{fs fr:List (Addr×Obj)}{h:Heap}(r:Rep Γ W ρ H fs h)(sub:∀q∈fr,q∈fs): Rep Γ W ρ H fr h:=by
 obtain⟨m,c,led,r⟩:=r
 exact⟨m,c,led,⟨r.F,r.N,r.R,r.sc,r.sc0,fun q hq=>r.frIn q (sub q hq),fun q hq=>r.frOff q (sub q hq),r.clIn,r.clOff,fun q hq t ht=>r.apart q hq t (sub t ht),fun q hq=>r.frTup q (sub q hq),r.clTup,r.own⟩⟩
theorem Rep.frAt{Γ:Cx}{W:Wd}{ρ:Lc}{H:Hp}{fr:List (Addr×Obj)}{h:Heap}{q:Addr×Obj}(r:Rep Γ W ρ H fr h)(hq:q∈fr): h.get? q.1=some q.2:=by
 obtain⟨m,c,led,r⟩:=r
 exact(r.N q (r.frIn q hq)).1
end PM
end
section
namespace PM
open PySem PyProof.Rows PyProof
noncomputable abbrev Ex:=Lc→Hp→Option (V×Hp)
noncomputable abbrev Exs:=Lc→Hp→Option (List V×Hp)
noncomputable abbrev Ts:=Lc→Hp→Option (Bool×Hp)
noncomputable abbrev ZhI(Γ:Cx)(W:Wd)(ρ:Lc)(H:Hp)(fr:List (Addr×Obj))(s:Shared)(Q:Value→Shared→Prop)(v:V): Prop:=
 ∀(W':Wd) (h':Heap) (tk':Nat) (x:Value),W.Le W'→Rep Γ W' ρ H fr h'→VR W' v x→Q x { s with heap:=h',toks:=tk' }
noncomputable abbrev Zjr(Γ:Cx)(W:Wd)(ρ:Lc)(H:Hp)(fr:List (Addr×Obj))(s:Shared)(Q:Bool→Shared→Prop)(b:Bool): Prop:=
 ∀(W':Wd) (h':Heap) (tk':Nat),W.Le W'→Rep Γ W' ρ H fr h'→Q b { s with heap:=h',toks:=tk' }
section
variable (prog:Program) (w:World)
def J(Γ:Cx)(e:Expr)(f:Ex): Prop:=∀(W:Wd) (ρ:Lc) (H:Hp) (fr:List (Addr×Obj)) (s:Shared) (Q E:Value→Shared→Prop) (v:V) (H':Hp),
 Rep Γ W ρ H fr s.heap→f ρ H=some (v,H')→ZhI Γ W ρ H' fr s Q v→wpAny (model prog w) Γ.A (eval e Γ.env) Q E s
def Js(Γ:Cx)(es:List Expr)(f:Exs): Prop:=∀(pos:Pos) (W:Wd) (ρ:Lc) (H:Hp) (fr:List (Addr×Obj)) (s:Shared) (Q:List Value→Shared→Prop) (E:Value→Shared→Prop) (vs:List V) (H':Hp),
 Rep Γ W ρ H fr s.heap→f ρ H=some (vs,H')→(∀(W':Wd) (h':Heap) (tk':Nat) (xs:List Value),W.Le W'→Rep Γ W' ρ H' fr h'→VRs W' vs xs→Q xs { s with heap:=h',toks:=tk' })→wpAny (model prog w) Γ.A (spliced (backTo pos (starEach es Γ.env))) Q E s
def JT(Γ:Cx)(e:Expr)(f:Ts): Prop:=∀(W:Wd) (ρ:Lc) (H:Hp) (fr:List (Addr×Obj)) (s:Shared) (Q:Bool→Shared→Prop) (E:Value→Shared→Prop) (b:Bool) (H':Hp),
 Rep Γ W ρ H fr s.heap→f ρ H=some (b,H')→Zjr Γ W ρ H' fr s Q b→wpAny (model prog w) Γ.A (isTrue e Γ.env (eval e Γ.env)) Q E s
def Op2(m:Value→Value→Sem Value)(o:V→V→Hp→Option (V×Hp)): Prop:=∀(Γ:Cx) (W:Wd) (ρ:Lc) (H:Hp) (fr:List (Addr×Obj)) (s:Shared) (Q E:Value→Shared→Prop) (a b:V) (x y:Value) (v:V) (H':Hp),
 Rep Γ W ρ H fr s.heap→VR W a x→VR W b y→o a b H=some (v,H')→ZhI Γ W ρ H' fr s Q v→wpAny (model prog w) Γ.A (m x y) Q E s
def Op1(m:Value→Sem Value)(o:V→Hp→Option (V×Hp)): Prop:=∀(Γ:Cx) (W:Wd) (ρ:Lc) (H:Hp) (fr:List (Addr×Obj)) (s:Shared) (Q E:Value→Shared→Prop) (a:V) (x:Value) (v:V) (H':Hp),
 Rep Γ W ρ H fr s.heap→VR W a x→o a H=some (v,H')→ZhI Γ W ρ H' fr s Q v→wpAny (model prog w) Γ.A (m x) Q E s
def OpT(m:Value→Sem Bool)(o:V→Hp→Option Bool): Prop:=∀(Γ:Cx) (W:Wd) (ρ:Lc) (H:Hp) (fr:List (Addr×Obj)) (s:Shared) (Q:Bool→Shared→Prop) (E:Value→Shared→Prop) (a:V) (x:Value) (b:Bool),
 Rep Γ W ρ H fr s.heap→VR W a x→o a H=some b→Zjr Γ W ρ H fr s Q b→wpAny (model prog w) Γ.A (m x) Q E s
end
noncomputable def ZJ(k:Int): Ex:=fun _ H=>some (.int k,H)
noncomputable def ZaF: Ex:=fun _ H=>some (.none,H)
noncomputable def Zft(b:Bool): Ex:=fun _ H=>some (.bool b,H)
noncomputable def ZeC(x:Str): Ex:=fun _ H=>some (.str x,H)
noncomputable def Zl(i:Nat): Ex:=fun ρ H=>(ρ i).map fun v=>(v,H)
noncomputable def Zy(o:V→V→Hp→Option (V×Hp))(f g:Ex): Ex:=fun ρ H=>(f ρ H).bind fun p=>(g ρ p.2).bind fun q=>o p.1 q.1 q.2
noncomputable def eUn(o:V→Hp→Option (V×Hp))(f:Ex): Ex:=fun ρ H=>(f ρ H).bind fun p=>o p.1 p.2
noncomputable def eIf(t:Ts)(f g:Ex): Ex:=fun ρ H=>(t ρ H).bind fun p=>if p.1 then f ρ p.2 else g ρ p.2
noncomputable def ZZ: Exs:=fun _ H=>some ([],H)
noncomputable def Zz(f:Ex)(g:Exs): Exs:=fun ρ H=>(f ρ H).bind fun p=>(g ρ p.2).bind fun q=>some (p.1::q.1,q.2)
noncomputable def Zc8(g:Exs): Ex:=fun ρ H=>(g ρ H).bind fun p=>if p.1.length≤LEN then some (.tup p.1,p.2)else none
noncomputable def Zet(g:Exs): Ex:=fun ρ H=>(g ρ H).bind fun p=>if p.1.length≤LEN then some (.ref p.2.length,p.2++[p.1])else none
noncomputable def Zcu: V→Hp→Option Bool
 | .bool b,_=>some b
 | .int i,_=>some (i != 0)
 | .none,_=>some false
 | _,_=>none
noncomputable def Zak(f:Ex): Ts:=fun ρ H=>(f ρ H).bind fun p=>(Zcu p.1 p.2).map fun b=>(b,p.2)
noncomputable def Zjx(t:Ts): Ts:=fun ρ H=>(t ρ H).map fun p=>(!p.1,p.2)
noncomputable def Zbo: Ts:=fun _ H=>some (true,H)
noncomputable def Zhn: Ts:=fun _ H=>some (false,H)
noncomputable def Zco(t u:Ts): Ts:=fun ρ H=>(t ρ H).bind fun p=>if p.1 then u ρ p.2 else some (false,p.2)
noncomputable def tOr(t u:Ts): Ts:=fun ρ H=>(t ρ H).bind fun p=>if p.1 then some (true,p.2)else u ρ p.2
noncomputable def tIf(t u v:Ts): Ts:=fun ρ H=>(t ρ H).bind fun p=>if p.1 then u ρ p.2 else v ρ p.2
noncomputable def ZmV(f:Ex): Ex:=fun ρ H=>(f ρ H).bind fun p=>(Zcu p.1 p.2).map fun b=>(.bool (!b),p.2)
noncomputable def ZdR(f g:Ex): Ex:=fun ρ H=>(f ρ H).bind fun p=>(Zcu p.1 p.2).bind fun b=>if b then g ρ p.2 else some p
noncomputable def eOr(f g:Ex): Ex:=fun ρ H=>(f ρ H).bind fun p=>(Zcu p.1 p.2).bind fun b=>if b then some p else g ρ p.2
section
variable {prog:Program} {w:World} {Γ:Cx}
theorem J.int(k:Int)(n:Nat)(pos:Pos): J prog w Γ (.Constant (.int k) n pos) (ZJ k):=fun W ρ H fr s Q E v H' r e post=>by
 cases e
 exact wpAny_Constant_int (post W s.heap _ _ (.refl W) r (.int k _))
theorem J.none(n:Nat)(pos:Pos): J prog w Γ (.Constant .none n pos) ZaF:=fun W ρ H fr s Q E v H' r e post=>by
 cases e
 exact wpAny_Constant_none (post W s.heap s.toks _ (.refl W) r .none)
theorem J.bool(b:Bool)(n:Nat)(pos:Pos): J prog w Γ (.Constant (.bool b) n pos) (Zft b):=fun W ρ H fr s Q E v H' r e post=>by
 cases e
 exact wpAny_Constant_bool (post W s.heap s.toks _ (.refl W) r (.bool b))
theorem J.str(x:Str)(n:Nat)(pos:Pos): J prog w Γ (.Constant (.str x) n pos) (ZeC x):=fun W ρ H fr s Q E v H' r e post=>by
 cases e
 exact wpAny_Constant_str (post W s.heap _ _ (.refl W) r (.str x _))
theorem ZI{e1 e2:Expr}{op:Operator}{pos:Pos}{f g:Ex}{o:V→V→Hp→Option (V×Hp)}(h1:J prog w Γ e1 f)(h2:J prog w Γ e2 g)(ho:Op2 prog w (binaryOp op) o): J prog w Γ (.BinOp e1 op e2 pos) (Zy o f g):=by
 intro W ρ H fr s Q E v H' r hf post
 obtain⟨p,e1,hf⟩:=Zz0.mp hf
 obtain⟨q,e2,e3⟩:=Zz0.mp hf
 refine wpAny_BinOp (h1 W ρ H fr s _ E _ _ r e1 fun W1 k1 t1 x l1 r1 x1=>?_)
 refine h2 W1 ρ _ fr _ _ E _ _ r1 e2 fun W2 k2 t2 y l2 r2 y2=>?_
 exact ho Γ W2 ρ _ fr _ Q E _ _ x y v H' r2 (x1.mono l2) y2 e3 fun W3 k3 t3 z l3 r3 z3=>post W3 k3 t3 z ((l1.trans l2).trans l3) r3 z3
theorem ZaV{e1 e2:Expr}{op:CmpOp}{pos:Pos}{f g:Ex}{o:V→V→Hp→Option (V×Hp)}(h1:J prog w Γ e1 f)(h2:J prog w Γ e2 g)(ho:Op2 prog w (compareOp op) o)(hm:behindInMarks op e2=false:=by with_unfolding_all rfl): J prog w Γ (.Compare e1 [op] [e2] pos) (Zy o f g):=by
 intro W ρ H fr s Q E v H' r hf post
 obtain⟨p,e1,hf⟩:=Zz0.mp hf
 obtain⟨q,e2,e3⟩:=Zz0.mp hf
 refine wpAny_Compare1 (h1 W ρ H fr s _ E _ _ r e1 fun W1 k1 t1 x l1 r1 x1=>?_) hm
 refine h2 W1 ρ _ fr _ _ E _ _ r1 e2 fun W2 k2 t2 y l2 r2 y2=>?_
 exact ho Γ W2 ρ _ fr _ Q E _ _ x y v H' r2 (x1.mono l2) y2 e3 fun W3 k3 t3 z l3 r3 z3=>post W3 k3 t3 z ((l1.trans l2).trans l3) r3 z3
theorem Zcf{e1:Expr}{op:UnaryOp}{pos:Pos}{f:Ex}{o:V→Hp→Option (V×Hp)}(h1:J prog w Γ e1 f)(ho:Op1 prog w (unaryOp op) o): J prog w Γ (.UnaryOp op e1 pos) (eUn o f):=by
 intro W ρ H fr s Q E v H' r hf post
 obtain⟨p,e1,hf⟩:=Zz0.mp hf
 refine wpAny_UnaryOp (h1 W ρ H fr s _ E _ _ r e1 fun W1 k1 t1 x l1 r1 x1=>?_)
 exact ho Γ W1 ρ _ fr _ Q E _ x v H' r1 x1 hf fun W3 k3 t3 z l3 r3 z3=>post W3 k3 t3 z (l1.trans l3) r3 z3
theorem truth: OpT prog w truthy Zcu:=by
 intro Γ W ρ H fr s Q E a x b r hx ho post
 cases hx with
 | none=>cases ho;exact truthy_none (post W s.heap s.toks (.refl W) r)
 | bool c=>cases ho;exact fun _ _ _=>post W s.heap s.toks (.refl W) r
 | int i t=>cases ho;exact P.truthy_int (post W s.heap s.toks (.refl W) r)
 | str _ _=>cases ho
 | tup _ _ _=>cases ho
 | ref _=>cases ho
theorem ZmC{e1:Expr}{pos:Pos}{f:Ex}(h1:J prog w Γ e1 f): J prog w Γ (.UnaryOp .Not e1 pos) (ZmV f):=by
 intro W ρ H fr s Q E v H' r hf post
 obtain⟨p,e1,hf⟩:=Zz0.mp hf
 obtain⟨b,e2,e3⟩:=Zz1.mp hf
 cases e3
 refine wpAny_UnaryOp (h1 W ρ H fr s _ E _ _ r e1 fun W1 k1 t1 x l1 r1 x1=>?_)
 exact not_of (truth Γ W1 ρ _ fr _ _ E _ x b r1 x1 e2 fun W2 k2 t2 l2 r2=>post W2 k2 t2 _ (l1.trans l2) r2 (.bool _))
theorem ZdM{e1 e2:Expr}{pos:Pos}{f g:Ex}(h1:J prog w Γ e1 f)(h2:J prog w Γ e2 g): J prog w Γ (.BoolOp .And [e1,e2] pos) (ZdR f g):=by
 intro W ρ H fr s Q E v H' r hf post
 obtain⟨p,e1,hf⟩:=Zz0.mp hf
 obtain⟨b,e2,e3⟩:=Zz0.mp hf
 refine wpAny_And2 (h1 W ρ H fr s _ E _ _ r e1 fun W1 k1 t1 x l1 r1 x1=>?_)
 refine truth Γ W1 ρ _ fr _ _ E _ x b r1 x1 e2 fun W2 k2 t2 l2 r2=>?_
 cases b with
 | true=>exact h2 W2 ρ _ fr _ Q E v H' r2 e3 fun W3 k3 t3 z l3 r3 z3=>post W3 k3 t3 z ((l1.trans l2).trans l3) r3 z3
 | false=>
  cases e3
  exact post W2 k2 t2 x (l1.trans l2) r2 (x1.mono l2)
theorem Zjy{e1 e2:Expr}{pos:Pos}{f g:Ex}(h1:J prog w Γ e1 f)(h2:J prog w Γ e2 g): J prog w Γ (.BoolOp .Or [e1,e2] pos) (eOr f g):=by
 intro W ρ H fr s Q E v H' r hf post
 obtain⟨p,e1,hf⟩:=Zz0.mp hf
 obtain⟨b,e2,e3⟩:=Zz0.mp hf
 refine wpAny_Or2 (h1 W ρ H fr s _ E _ _ r e1 fun W1 k1 t1 x l1 r1 x1=>?_)
 refine truth Γ W1 ρ _ fr _ _ E _ x b r1 x1 e2 fun W2 k2 t2 l2 r2=>?_
 cases b with
 | false=>exact h2 W2 ρ _ fr _ Q E v H' r2 e3 fun W3 k3 t3 z l3 r3 z3=>post W3 k3 t3 z ((l1.trans l2).trans l3) r3 z3
 | true=>
  cases e3
  exact post W2 k2 t2 x (l1.trans l2) r2 (x1.mono l2)
theorem Zeu{t e1 e2:Expr}{pos:Pos}{u:Ts}{f g:Ex}(ht:JT prog w Γ t u)(h1:J prog w Γ e1 f)(h2:J prog w Γ e2 g): J prog w Γ (.IfExp t e1 e2 pos) (eIf u f g):=by
 intro W ρ H fr s Q E v H' r hf post
 obtain⟨p,e1,hf⟩:=Zz0.mp hf
 refine wpAny_IfExp (ht W ρ H fr s _ E _ _ r e1 fun W1 k1 t1 l1 r1=>?_)
 obtain⟨b,H1⟩:=p
 cases b with
 | true=>exact h1 W1 ρ _ fr _ Q E v H' r1 hf fun W3 k3 t3 z l3 r3 z3=>post W3 k3 t3 z (l1.trans l3) r3 z3
 | false=>exact h2 W1 ρ _ fr _ Q E v H' r1 hf fun W3 k3 t3 z l3 r3 z3=>post W3 k3 t3 z (l1.trans l3) r3 z3
theorem Zh: Js prog w Γ [] ZZ:=fun pos W ρ H fr s Q E vs H' r hf post=>by
 cases hf
 exact wpAny_items_nil (post W s.heap s.toks [] (.refl W) r .nil)
theorem ZvB{e:Expr}{es:List Expr}{f:Ex}{g:Exs}(h1:J prog w Γ e f)(h2:Js prog w Γ es g)(he:starEach (e::es) Γ.env=(false,eval e Γ.env)::starEach es Γ.env:=by rfl): Js prog w Γ (e::es) (Zz f g):=by
 intro pos W ρ H fr s Q E vs H' r hf post
 obtain⟨p,e1,hf⟩:=Zz0.mp hf
 obtain⟨q,e2,e3⟩:=Zz0.mp hf
 cases e3
 refine wpAny_items_cons (h1 W ρ H fr s _ E _ _ r e1 fun W1 k1 t1 x l1 r1 x1=>?_) he
 exact h2 pos W1 ρ _ fr _ _ E _ _ r1 e2 fun W2 k2 t2 ys l2 r2 y2=>post W2 k2 t2 _ (l1.trans l2) r2 (.cons (x1.mono l2) y2)
theorem J.tup{es:List Expr}{k:Nat}{pos:Pos}{g:Exs}(h:Js prog w Γ es g): J prog w Γ (.Tuple es k pos) (Zc8 g):=by
 intro W ρ H fr s Q E v H' r hf post
 obtain⟨p,e1,hf⟩:=Zz0.mp hf
 by_cases hl:p.1.length≤LEN
 ·rw[if_pos hl]at hf
  cases hf
  refine wpAny_Tuple (h pos W ρ H fr s _ E _ _ r e1 fun W1 k1 t1 xs l1 r1 x1=>⟨Zcz (by rw[x1.length];exact hl),?_⟩)
  obtain⟨W2,l2,r2,v2⟩:=r1.tuple (k:=0) x1 hl
  exact post W2 _ _ _ (l1.trans l2) r2 v2
 ·rw[if_neg hl]at hf
  cases hf
theorem J.list{es:List Expr}{pos:Pos}{g:Exs}(h:Js prog w Γ es g): J prog w Γ (.List es pos) (Zet g):=by
 intro W ρ H fr s Q E v H' r hf post
 obtain⟨p,e1,hf⟩:=Zz0.mp hf
 by_cases hl:p.1.length≤LEN
 ·rw[if_pos hl]at hf
  cases hf
  refine wpAny_List (h pos W ρ H fr s _ E _ _ r e1 fun W1 k1 t1 xs l1 r1 x1=>⟨Zcz (by rw[x1.length];exact hl),?_⟩)
  obtain⟨W2,l2,r2,v2⟩:=r1.list (k:=0) x1 hl
  exact post W2 _ _ _ (l1.trans l2) r2 v2
 ·rw[if_neg hl]at hf
  cases hf
theorem ZbG{e:Expr}{pos:Pos}{t:Ts}(h:JT prog w Γ e t): JT prog w Γ (.UnaryOp .Not e pos) (Zjx t):=by
 intro W ρ H fr s Q E b H' r hf post
 obtain⟨p,e1,e2⟩:=Zz1.mp hf
 cases e2
 exact isTrue_not (h W ρ H fr s _ E _ _ r e1 post)
def JA(prog:Program)(w:World)(Γ:Cx)(op:BoolOp)(es:List Expr)(f:Ts): Prop:=∀(W:Wd) (ρ:Lc) (H:Hp) (fr:List (Addr×Obj)) (s:Shared) (Q:Bool→Shared→Prop) (E:Value→Shared→Prop) (b:Bool) (H':Hp),
 Rep Γ W ρ H fr s.heap→f ρ H=some (b,H')→Zjr Γ W ρ H' fr s Q b→wpAny (model prog w) Γ.A (allTrue op es Γ.env) Q E s
theorem Zcr: JA prog w Γ .And [] Zbo:=fun W ρ H fr s Q E b H' r hf post=>by
 cases hf
 exact wpAny_allTrue_And_nil (post W s.heap s.toks (.refl W) r)
theorem Zch: JA prog w Γ .Or [] Zhn:=fun W ρ H fr s Q E b H' r hf post=>by
 cases hf
 exact wpAny_allTrue_Or_nil (post W s.heap s.toks (.refl W) r)
theorem Za5{e:Expr}{es:List Expr}{t u:Ts}(h1:JT prog w Γ e t)(h2:JA prog w Γ .And es u): JA prog w Γ .And (e::es) (Zco t u):=by
 intro W ρ H fr s Q E b H' r hf post
 obtain⟨p,e1,hf⟩:=Zz0.mp hf
 refine wpAny_allTrue_And_cons (h1 W ρ H fr s _ E _ _ r e1 fun W1 k1 t1 l1 r1=>?_)
 obtain⟨c,H1⟩:=p
 cases c with
 | true=>exact h2 W1 ρ _ fr _ Q E b H' r1 hf fun W3 k3 t3 l3 r3=>post W3 k3 t3 (l1.trans l3) r3
 | false=>
  cases hf
  exact post W1 k1 t1 l1 r1
theorem ZaY{e:Expr}{es:List Expr}{t u:Ts}(h1:JT prog w Γ e t)(h2:JA prog w Γ .Or es u): JA prog w Γ .Or (e::es) (tOr t u):=by
 intro W ρ H fr s Q E b H' r hf post
 obtain⟨p,e1,hf⟩:=Zz0.mp hf
 refine wpAny_allTrue_Or_cons (h1 W ρ H fr s _ E _ _ r e1 fun W1 k1 t1 l1 r1=>?_)
 obtain⟨c,H1⟩:=p
 cases c with
 | false=>exact h2 W1 ρ _ fr _ Q E b H' r1 hf fun W3 k3 t3 l3 r3=>post W3 k3 t3 (l1.trans l3) r3
 | true=>
  cases hf
  exact post W1 k1 t1 l1 r1
theorem Za2{op:BoolOp}{es:List Expr}{pos:Pos}{t:Ts}(h:JA prog w Γ op es t): JT prog w Γ (.BoolOp op es pos) t:=fun W ρ H fr s Q E b H' r hf post=>wpAny_isTrue_BoolOp (h W ρ H fr s Q E b H' r hf post)
theorem ZaL{e:Expr}{f:Ex}(h:J prog w Γ e f)(he:isTrue e Γ.env (eval e Γ.env)=(do let v ←eval e Γ.env;standAt e.pos;holding [v] (truthy v)):=by rfl): JT prog w Γ e (Zak f):=by
 intro W ρ H fr s Q E b H' r hf post
 obtain⟨p,e1,hf⟩:=Zz0.mp hf
 obtain⟨c,e2,e3⟩:=Zz1.mp hf
 cases e3
 refine isTrue_plain (h W ρ H fr s _ E _ _ r e1 fun W1 k1 t1 x l1 r1 x1=>?_) he
 exact truth Γ W1 ρ _ fr _ _ E _ x b r1 x1 e2 fun W2 k2 t2 l2 r2=>post W2 k2 t2 (l1.trans l2) r2
theorem ZP{e1 e2:Expr}{op:CmpOp}{pos:Pos}{f g:Ex}{o:V→V→Hp→Option (V×Hp)}(h1:J prog w Γ e1 f)(h2:J prog w Γ e2 g)(ho:Op2 prog w (compareOp op) o)(hm:behindInMarks op e2=false:=by with_unfolding_all rfl): JT prog w Γ (.Compare e1 [op] [e2] pos) (Zak (Zy o f g)):=by
 intro W ρ H fr s Q E b H' r hf post
 obtain⟨pp,e0,hf0⟩:=Zz0.mp hf
 obtain⟨c,e4,e5⟩:=Zz1.mp hf0
 cases e5
 obtain⟨p,e1,hf⟩:=Zz0.mp e0
 obtain⟨q,e2,e3⟩:=Zz0.mp hf
 refine wpAny_isTrue_Compare1 (h1 W ρ H fr s _ E _ _ r e1 fun W1 k1 t1 x l1 r1 x1=>?_) hm
 refine h2 W1 ρ _ fr _ _ E _ _ r1 e2 fun W2 k2 t2 y l2 r2 y2=>?_
 refine ho Γ W2 ρ _ fr _ _ E _ _ x y _ _ r2 (x1.mono l2) y2 e3 fun W3 k3 t3 z l3 r3 z3=>?_
 exact truth Γ W3 ρ _ fr _ _ E _ z b r3 z3 e4 fun W4 k4 t4 l4 r4=>post W4 k4 t4 (((l1.trans l2).trans l3).trans l4) r4
theorem Zyo{t e1 e2:Expr}{pos:Pos}{u f g:Ts}(ht:JT prog w Γ t u)(h1:JT prog w Γ e1 f)(h2:JT prog w Γ e2 g): JT prog w Γ (.IfExp t e1 e2 pos) (tIf u f g):=by
 intro W ρ H fr s Q E v H' r hf post
 obtain⟨p,e1,hf⟩:=Zz0.mp hf
 refine isTrue_IfExp (ht W ρ H fr s _ E _ _ r e1 fun W1 k1 t1 l1 r1=>?_)
 obtain⟨b,H1⟩:=p
 cases b with
 | true=>exact h1 W1 ρ _ fr _ Q E v H' r1 hf fun W3 k3 t3 l3 r3=>post W3 k3 t3 (l1.trans l3) r3
 | false=>exact h2 W1 ρ _ fr _ Q E v H' r1 hf fun W3 k3 t3 l3 r3=>post W3 k3 t3 (l1.trans l3) r3
end
end PM
end
section
namespace PM
open PySem PyProof.Rows PyProof
noncomputable def mulOk(a b:Int): Bool:=!(decide (Builtin.Int.intBits a>shortFactorBits) && decide (Builtin.Int.intBits b>shortFactorBits) && Builtin.Int.intTooBig (Builtin.Int.intBits a+Builtin.Int.intBits b))
theorem ZuF{a b:Int}(h:mulOk a b=true): IntMulOk a b:=by
 unfold mulOk at h
 unfold IntMulOk
 intro c
 rw[c]at h
 cases h
noncomputable def ZeD: V→V→Hp→Option (V×Hp)
 | .int a,.int b,H=>some (.int (a-b),H)
 | _,_,_=>none
noncomputable def oDiv: V→V→Hp→Option (V×Hp)
 | .int a,.int b,H=>if b≠0∧Builtin.divisionGoesByPylong a b=false then some (.int (a.fdiv b),H)else none
 | _,_,_=>none
noncomputable def oMod: V→V→Hp→Option (V×Hp)
 | .int a,.int b,H=>if b≠0 then some (.int (a.fmod b),H)else none
 | _,_,_=>none
noncomputable def oPow: V→V→Hp→Option (V×Hp)
 | .int a,.int b,H=>if 0≤b∧(Builtin.Int.intBits a:Int)*b≤2 ^ 27 then some (.int (a ^ b.toNat),H)else none
 | _,_,_=>none
noncomputable def ZfA: V→Hp→Option (V×Hp)
 | .int a,H=>some (.int (-a),H)
 | _,_=>none
noncomputable def Zjz(p:Int→Int→Bool): V→V→Hp→Option (V×Hp)
 | .int a,.int b,H=>some (.bool (p a b),H)
 | _,_,_=>none
noncomputable def oLt:=Zjz fun a b=>decide (a<b)
noncomputable def oLe:=Zjz fun a b=>decide (a≤b)
noncomputable def oGt:=Zjz fun a b=>decide (b<a)
section
variable {prog:Program} {w:World}
theorem ZbM: Op2 prog w (binaryOp .Sub) ZeD:=by
 intro Γ W ρ H fr s Q E a b x y v H' r hx hy ho post
 cases hx <;> first | (cases ho;done) | skip
 cases hy <;> first | (cases ho;done) | skip
 cases ho
 exact PySem.P.sub_int (post W s.heap _ _ (.refl W) r (.int _ _))
theorem Za3: Op2 prog w (binaryOp .Mod) oMod:=by
 intro Γ W ρ H fr s Q E a b x y v H' r hx hy ho post
 cases hx <;> first | (cases ho;done) | skip
 cases hy <;> first | (cases ho;done) | skip
 rename_i i t j u
 simp only[oMod]at ho
 by_cases hb:j≠0
 ·rw[if_pos hb]at ho
  cases ho
  exact mod_int' hb (post W s.heap _ _ (.refl W) r (.int _ _))
 ·rw[if_neg hb]at ho
  cases ho
theorem Zek: Op2 prog w (binaryOp .FloorDiv) oDiv:=by
 intro Γ W ρ H fr s Q E a b x y v H' r hx hy ho post
 cases hx <;> first | (cases ho;done) | skip
 cases hy <;> first | (cases ho;done) | skip
 rename_i i t j u
 simp only[oDiv]at ho
 by_cases hb:j≠0∧Builtin.divisionGoesByPylong i j=false
 ·rw[if_pos hb]at ho
  cases ho
  exact floordiv_int hb.1 (post W s.heap _ _ (.refl W) r (.int _ _)) (.inl hb.2)
 ·rw[if_neg hb]at ho
  cases ho
theorem Zmi: Op2 prog w (binaryOp .Pow) oPow:=by
 intro Γ W ρ H fr s Q E a b x y v H' r hx hy ho post
 cases hx <;> first | (cases ho;done) | skip
 cases hy <;> first | (cases ho;done) | skip
 rename_i i t j u
 simp only[oPow]at ho
 by_cases hb:0≤j∧(Builtin.Int.intBits i:Int)*j≤2 ^ 27
 ·rw[if_pos hb]at ho
  cases ho
  exact pow_int hb.1 hb.2 (post W s.heap _ _ (.refl W) r (.int _ _))
 ·rw[if_neg hb]at ho
  cases ho
theorem Zb9: Op1 prog w (unaryOp .USub) ZfA:=by
 intro Γ W ρ H fr s Q E a x v H' r hx ho post
 cases hx <;> first | (cases ho;done) | skip
 cases ho
 exact PySem.P.neg_int (post W s.heap _ _ (.refl W) r (.int _ _))
theorem Zc5: Op2 prog w (compareOp .Lt) oLt:=by
 intro Γ W ρ H fr s Q E a b x y v H' r hx hy ho post
 cases hx <;> first | (cases ho;done) | skip
 cases hy <;> first | (cases ho;done) | skip
 cases ho
 exact PySem.P.lt_int (post W s.heap s.toks _ (.refl W) r (.bool _))
theorem Zjs: Op2 prog w (compareOp .LtE) oLe:=by
 intro Γ W ρ H fr s Q E a b x y v H' r hx hy ho post
 cases hx <;> first | (cases ho;done) | skip
 cases hy <;> first | (cases ho;done) | skip
 cases ho
 exact PySem.P.le_int (post W s.heap s.toks _ (.refl W) r (.bool _))
theorem Zdv: Op2 prog w (compareOp .Gt) oGt:=by
 intro Γ W ρ H fr s Q E a b x y v H' r hx hy ho post
 cases hx <;> first | (cases ho;done) | skip
 cases hy <;> first | (cases ho;done) | skip
 cases ho
 exact PySem.P.gt_int (post W s.heap s.toks _ (.refl W) r (.bool _))
end
end PM
end
section
namespace PM
open PySem PyProof.Rows PyProof
noncomputable def ZfB(f:V→Option PyData): List V→Option (List PyData)
 | []=>some []
 | v::vs=>(f v).bind fun d=>(ZfB f vs).bind fun ds=>some (d::ds)
noncomputable def toD(H:Hp): Nat→V→Option PyData
 | _,.none=>some .none
 | _,.bool b=>some (.bool b)
 | _,.int i=>some (.int i)
 | _,.str x=>some (.str x)
 | n+1,.tup vs=>(ZfB (toD H n) vs).map .tuple
 | n+1,.ref a=>H[a]?.bind fun vs=>(ZfB (toD H n) vs).map .list
 | 0,.tup _=>none
 | 0,.ref _=>none
theorem ZkJ{W:Wd}{h:Heap}{f:V→Option PyData}(ih:∀v x d,VR W v x→f v=some d→∃as,Reads h x d as): ∀{vs:List V} {xs:List Value} {ds:List PyData},VRs W vs xs→ZfB f vs=some ds→∃as,ReadsAll h xs ds as
 | _,_,_,.nil,e=>by
  cases e
  exact⟨_,.nil⟩
 | _,_,_,.cons a r,e=>by
  obtain⟨d,e1,e⟩:=Zz0.mp e
  obtain⟨ds,e2,e3⟩:=Zz0.mp e
  cases e3
  obtain⟨as,h1⟩:=ih _ _ _ a e1
  obtain⟨bs,h2⟩:=ZkJ ih r e2
  exact⟨_,.cons h1 h2⟩
theorem Ze0{Γ:Cx}{W:Wd}{ρ:Lc}{H:Hp}{fr:List (Addr×Obj)}{h:Heap}(r:Rep Γ W ρ H fr h): ∀(n:Nat) (v:V) (x:Value) (d:PyData),VR W v x→toD H n v=some d→∃as,Reads h x d as:=by
 intro n
 induction n with
 | zero=>
  intro v x d hv e
  cases hv with
  | none=>cases e;exact⟨_,.none⟩
  | bool b=>cases e;exact⟨_,.bool b⟩
  | int i t=>cases e;exact⟨_,.int i t⟩
  | str y t=>cases e;exact⟨_,.str y t⟩
  | tup _ _ _=>cases e
  | ref _=>cases e
 | succ n ih=>
  intro v x d hv e
  cases hv with
  | none=>cases e;exact⟨_,.none⟩
  | bool b=>cases e;exact⟨_,.bool b⟩
  | int i t=>cases e;exact⟨_,.int i t⟩
  | str y t=>cases e;exact⟨_,.str y t⟩
  | @tup vs a xs k hm hl hs=>
   obtain⟨ds,e1,e2⟩:=Zz1.mp e
   subst e2
   obtain⟨as,h1⟩:=ZkJ ih hs e1
   exact⟨_,.tuple (r.tupAt hm) rfl rfl (by simpa using h1)⟩
  | @ref i a ea=>
   obtain⟨vs,e0,e⟩:=Zz0.mp e
   obtain⟨ds,e1,e2⟩:=Zz1.mp e
   subst e2
   obtain⟨hl,xs,k,hg,hs⟩:=r.at e0 ea
   obtain⟨as,h1⟩:=ZkJ ih hs e1
   exact⟨_,.list hg rfl rfl (by simpa using h1)⟩
noncomputable def ZbE: Nat:=8
noncomputable def ZjA(a b:V)(H:Hp): Option Bool:=(toD H ZbE a).bind fun d=>(toD H ZbE b).bind fun e=>if SeqAt.shaped d=true∧SeqAt.shaped e=true then some (PyData.eqv d e)else none
noncomputable def oEq(a b:V)(H:Hp): Option (V×Hp):=(ZjA a b H).map fun c=>(.bool c,H)
noncomputable def oNe(a b:V)(H:Hp): Option (V×Hp):=(ZjA a b H).map fun c=>(.bool (!c),H)
noncomputable def oIs: V→V→Hp→Option (V×Hp)
 | .none,.none,H=>some (.bool true,H)
 | .bool _,.none,H=>some (.bool false,H)
 | .int _,.none,H=>some (.bool false,H)
 | .str _,.none,H=>some (.bool false,H)
 | .tup _,.none,H=>some (.bool false,H)
 | .ref _,.none,H=>some (.bool false,H)
 | _,_,_=>none
noncomputable def Zmj(a b:V)(H:Hp): Option (V×Hp):=(oIs a b H).bind fun p=>match p.1 with | .bool c=>some (.bool (!c),p.2) | _=>none
section
variable {prog:Program} {w:World}
theorem Zae: Op2 prog w (compareOp .Eq) oEq:=by
 intro Γ W ρ H fr s Q E a b x y v H' r hx hy ho post
 obtain⟨c,e1,e2⟩:=Zz1.mp ho
 cases e2
 obtain⟨d,h1,e1⟩:=Zz0.mp e1
 obtain⟨e,h2,e1⟩:=Zz0.mp e1
 by_cases hs:SeqAt.shaped d=true∧SeqAt.shaped e=true
 ·rw[if_pos hs]at e1
  cases e1
  obtain⟨as,R1⟩:=Ze0 r ZbE a x d hx h1
  obtain⟨bs,R2⟩:=Ze0 r ZbE b y e hy h2
  exact eq_dataH R1 R2 hs.1 hs.2 (by have:=Γ.hu;omega) (post W s.heap s.toks _ (.refl W) r (.bool _))
 ·rw[if_neg hs]at e1
  cases e1
theorem Zce: Op2 prog w (compareOp .NotEq) oNe:=by
 intro Γ W ρ H fr s Q E a b x y v H' r hx hy ho post
 obtain⟨c,e1,e2⟩:=Zz1.mp ho
 cases e2
 obtain⟨d,h1,e1⟩:=Zz0.mp e1
 obtain⟨e,h2,e1⟩:=Zz0.mp e1
 by_cases hs:SeqAt.shaped d=true∧SeqAt.shaped e=true
 ·rw[if_pos hs]at e1
  cases e1
  obtain⟨as,R1⟩:=Ze0 r ZbE a x d hx h1
  obtain⟨bs,R2⟩:=Ze0 r ZbE b y e hy h2
  exact ne_dataH R1 R2 hs.1 hs.2 (by have:=Γ.hu;omega) (post W s.heap s.toks _ (.refl W) r (.bool _))
 ·rw[if_neg hs]at e1
  cases e1
theorem ZbJ: Op2 prog w (compareOp .Is) oIs:=by
 intro Γ W ρ H fr s Q E a b x y v H' r hx hy ho post
 cases hy <;> first | (cases hx <;> cases ho;done) | skip
 refine PySem.is_none ?_
 cases hx <;> (cases ho;exact post W s.heap s.toks _ (.refl W) r (.bool _))
theorem ZcA: Op2 prog w (compareOp .IsNot) Zmj:=by
 intro Γ W ρ H fr s Q E a b x y v H' r hx hy ho post
 cases hy <;> first | (cases hx <;> cases ho;done) | skip
 refine PySem.isNot_none ?_
 cases hx <;> (cases ho;exact post W s.heap s.toks _ (.refl W) r (.bool _))
end
end PM
end
section
namespace PM
open PySem PyProof.Rows PyProof
noncomputable def ZY: V→V→Hp→Option (V×Hp)
 | .ref a,.int k,H=>H[a]?.bind fun vs=>(seqIndex? k vs.length).bind fun j=>vs[j]?.map fun v=>(v,H)
 | .tup vs,.int k,H=>(seqIndex? k vs.length).bind fun j=>vs[j]?.map fun v=>(v,H)
 | _,_,_=>none
theorem ZnQ{k:Int}{n j:Nat}(h:seqIndex? k n=some j): j<n∧(k:Int)<n∧-(n:Int)≤k∧(0≤k→k.toNat=j)∧(k<0→(k+n).toNat=j):=by
 unfold seqIndex? at h
 by_cases c:k<0
 ·simp only[c,if_true]at h
  split at h
  ·rename_i d
   simp at d h
   omega
  ·cases h
 ·simp only[c,if_false]at h
  split at h
  ·rename_i d
   simp at d h
   omega
  ·cases h
section
variable {prog:Program} {w:World} {Γ:Cx}
theorem Zs{e1 e2:Expr}{pos:Pos}{f g:Ex}(h1:J prog w Γ e1 f)(h2:J prog w Γ e2 g)(hs:∀a k u,subscripted e2 false (.ref a) (.int k u)=operate [.ref a,.int k u] (getItem (.ref a) (.int k u)):=by intros;with_unfolding_all rfl): J prog w Γ (.Subscript e1 e2 pos) (Zy ZY f g):=by
 intro W ρ H fr s Q E v H' r hf post
 obtain⟨p,e1,hf⟩:=Zz0.mp hf
 obtain⟨q,e2,e3⟩:=Zz0.mp hf
 refine Subscript_ (h1 W ρ H fr s _ E _ _ r e1 fun W1 k1 t1 x l1 r1 x1=>?_)
 refine h2 W1 ρ _ fr _ _ E _ _ r1 e2 fun W2 k2 t2 y l2 r2 y2=>?_
 have x2:=x1.mono l2
 obtain⟨v1,H1⟩:=p
 obtain⟨v2,H2⟩:=q
 simp only at e3 r2 x2 y2
 cases y2 <;> first | (cases x2 <;> cases e3;done) | skip
 rename_i k u
 cases x2 <;> first | (cases e3;done) | skip
 ·rename_i vs a xs kk hm hl hv
  obtain⟨j,hj,e4⟩:=Zz0.mp e3
  obtain⟨z,hz,e5⟩:=Zz1.mp e4
  cases e5
  obtain⟨z',hz',rz⟩:=hv.at hz
  have hx:xs.length=vs.length:=hv.length
  have hb:=ZnQ hj
  rw[Za6]at hl
  have it:IsTup k2 a xs.toArray:=⟨_,r2.tupAt hm,rfl,kk,rfl⟩
  exact item_tupleT it (by omega) (by omega) (by rw[hx];exact hj) hz' (post W2 k2 t2 z' (l1.trans l2) r2 rz) (hs _ _ _)
 ·rename_i i a ea
  obtain⟨vs,hvs,e3⟩:=Zz0.mp e3
  obtain⟨j,hj,e4⟩:=Zz0.mp e3
  obtain⟨z,hz,e5⟩:=Zz1.mp e4
  cases e5
  obtain⟨hl,xs,kk,hg,hv⟩:=r2.at hvs ea
  obtain⟨z',hz',rz⟩:=hv.at hz
  have hx:xs.length=vs.length:=hv.length
  have hb:=ZnQ hj
  rw[Za6]at hl
  have isl:k2.IsList a xs.toArray:=⟨_,hg,rfl,kk,rfl⟩
  refine tail_any (s:={ s with heap:=k2,toks:=t2 }) isl.typeIs slot_list_getitem.lookup ?_ (hs _ _ _)
  by_cases hk:0≤k
  ·exact wpAny_getItem_list isl hk (by omega) (by rw[hb.2.2.2.1 hk];simpa using hz') (post W2 k2 t2 z' (l1.trans l2) r2 rz)
  ·refine wpAny_getItem_list_neg isl (by omega) (by simp;omega) (by omega) ?_ (post W2 k2 t2 z' (l1.trans l2) r2 rz)
   have:=hb.2.2.2.2 (by omega)
   rw[←hx]at this
   simpa [this]using hz'
end
noncomputable def Zbt{α:Type}(vs:List α)(lo hi:Option Int): List α:=(sliceRange (sliceBounds lo hi none vs.length).1 (sliceBounds lo hi none vs.length).2.1 (sliceBounds lo hi none vs.length).2.2).filterMap fun i=>vs[i]?
theorem VRs.pick{W:Wd}{vs:List V}{xs:List Value}(h:VRs W vs xs)(l:List Nat): VRs W (l.filterMap fun i=>vs[i]?) (l.filterMap fun i=>xs[i]?):=by
 induction l with
 | nil=>exact .nil
 | cons i l ih=>
  simp only[List.filterMap_cons]
  have hl:=h.length
  cases e:vs[i]? with
  | none=>
   have:xs[i]?=none:=by rw[List.getElem?_eq_none_iff]at e ⊢;omega
   rw[this]
   exact ih
  | some v=>
   obtain⟨x,hx,hr⟩:=h.at e
   rw[hx]
   exact .cons hr ih
theorem Zpf{α:Type}(vs:List α)(lo hi:Option Int): (Zbt vs lo hi).length≤vs.length:=by
 unfold Zbt
 refine Nat.le_trans (List.length_filterMap_le _ _) ?_
 refine sliceRange_length_le _ _ _ _ (fun _=>?_) fun c=>?_
 ·unfold sliceBounds
  cases lo <;> cases hi <;> simp <;> omega
 ·exact absurd (by unfold sliceBounds;simp) c
theorem ZuG{α:Type}(vs:List α)(a:Nat): ∀m:Nat,a+m≤vs.length→((List.range m).map fun k=>a+k).filterMap (fun i=>vs[i]?)=(vs.drop a).take m:=by
 intro m
 induction m with
 | zero=>intro _;simp
 | succ m ih=>
  intro h
  rw[List.range_succ,List.map_append,List.filterMap_append,ih (by omega),List.take_add_one]
  congr 1
  simp only[List.map_cons,List.map_nil,List.filterMap_cons,List.filterMap_nil,List.getElem?_drop]
  cases e:vs[a+m]? with
  | none=>rw[List.getElem?_eq_none_iff]at e;omega
  | some v=>rfl
theorem ZpS{α:Type}(vs:List α)(lo hi:Option Int){a b:Nat}(ha:(sliceBounds lo hi none vs.length).1=(a:Int))(hb:(sliceBounds lo hi none vs.length).2.1=(b:Int))(h:b≤vs.length): Zbt vs lo hi=(vs.drop a).take (b-a):=by
 have hc:(sliceBounds lo hi none vs.length).2.2=1:=by unfold sliceBounds;rfl
 unfold Zbt
 rw[ha,hb,hc]
 have e:sliceRange (a:Int) (b:Int) 1=(List.range (b-a)).map fun k=>a+k:=by
  unfold sliceRange
  simp only[show(1:Int)>0 from by decide,if_true]
  by_cases c:(a:Int)<b
  ·rw[if_pos c]
   have:((b:Int)-a+1-1) / 1=((b-a:Nat):Int):=by omega
   rw[this]
   simp only[Int.toNat_natCast]
   refine List.map_congr_left fun k _=>?_
   omega
  ·rw[if_neg c]
   have:b-a=0:=by omega
   rw[this]
   rfl
 rw[e]
 by_cases c:a≤b
 ·exact ZuG vs a (b-a) (by omega)
 ·have:b-a=0:=by omega
  rw[this]
  simp
theorem ZoR{α:Type}(vs:List α){k:Int}{a:Nat}(e:k=(a:Int)): Zbt vs (some k) none=vs.drop a:=by
 by_cases h:a≤vs.length
 ·rw[ZpS vs (some k) none (a:=a) (b:=vs.length) (by unfold sliceBounds;simp;omega) (by unfold sliceBounds;simp) (Zz10 _)]
  rw[List.take_of_length_le (by simp)]
 ·rw[ZpS vs (some k) none (a:=vs.length) (b:=vs.length) (by unfold sliceBounds;simp;omega) (by unfold sliceBounds;simp) (Zz10 _)]
  simp
  omega
noncomputable def ZhB: Option V→Option (Option Int)
 | none=>some none
 | some (.int k)=>some (some k)
 | _=>none
noncomputable abbrev Pt:=Lc→Hp→Option (Option V×Hp)
noncomputable def Zfu: Pt:=fun _ H=>some (none,H)
noncomputable def Zfv(f:Ex): Pt:=fun ρ H=>(f ρ H).map fun p=>(some p.1,p.2)
noncomputable def ZdH(f:Ex)(lo hi:Pt): Ex:=fun ρ H=>(f ρ H).bind fun p=>(lo ρ p.2).bind fun q=>(hi ρ q.2).bind fun u=>(ZhB q.1).bind fun a=>(ZhB u.1).bind fun b=>match p.1 with
 | .ref i=>u.2[i]?.bind fun vs=>some (.ref u.2.length,u.2++[Zbt vs a b])
 | _=>none
inductive VP(W:Wd): Option V→Value→Prop where
 | none:VP W none .none
 | some {v:V} {x:Value}:VR W v x→VP W (some v) x
theorem VP.mono{W W':Wd}{v:Option V}{x:Value}(l:W.Le W')(h:VP W v x): VP W' v x:=by
 cases h with
 | none=>exact .none
 | some h=>exact .some (h.mono l)
theorem VP.part{W:Wd}{v:Option V}{x:Value}{k:Option Int}(h:VP W v x)(e:ZhB v=Option.some k): IsPart x k:=by
 cases h with
 | none=>cases e;exact .none
 | some h=>cases h <;> cases e;exact .int _ _
def JP(prog:Program)(w:World)(Γ:Cx)(e:Option Expr)(f:Pt): Prop:=∀(W:Wd) (ρ:Lc) (H:Hp) (fr:List (Addr×Obj)) (s:Shared) (Q E:Value→Shared→Prop) (v:Option V) (H':Hp),
 Rep Γ W ρ H fr s.heap→f ρ H=some (v,H')→(∀(W':Wd) (h':Heap) (tk':Nat) (x:Value),W.Le W'→Rep Γ W' ρ H' fr h'→VP W' v x→Q x { s with heap:=h',toks:=tk' })→wpAny (model prog w) Γ.A (evalPart e Γ.env) Q E s
section
variable {prog:Program} {w:World} {Γ:Cx}
theorem JP.none: JP prog w Γ none Zfu:=fun W ρ H fr s Q E v H' r hf post=>by
 cases hf
 exact wpAny_evalPart_none (post W s.heap s.toks _ (.refl W) r .none)
theorem JP.some{e:Expr}{f:Ex}(h:J prog w Γ e f): JP prog w Γ (some e) (Zfv f):=fun W ρ H fr s Q E v H' r hf post=>by
 obtain⟨p,e1,e2⟩:=Zz1.mp hf
 cases e2
 exact wpAny_evalPart_some (h W ρ H fr s _ E _ _ r e1 fun W1 k1 t1 x l1 r1 x1=>post W1 k1 t1 x l1 r1 (.some x1))
theorem ZvC{e:Expr}{lo hi:Option Expr}{p pos:Pos}{f:Ex}{a b:Pt}(h:J prog w Γ e f)(hlo:JP prog w Γ lo a)(hhi:JP prog w Γ hi b)(ht:∀o r,letTemporaryGo e o r=pure ():=by intro _ _;rfl): J prog w Γ (.Subscript e (.Slice lo hi Option.none p) pos) (ZdH f a b):=by
 intro W ρ H fr s Q E v H' r hf post
 obtain⟨p,e1,hf⟩:=Zz0.mp hf
 obtain⟨q,e2,hf⟩:=Zz0.mp hf
 obtain⟨u,e3,hf⟩:=Zz0.mp hf
 obtain⟨ka,e4,hf⟩:=Zz0.mp hf
 obtain⟨kb,e5,hf⟩:=Zz0.mp hf
 refine wpAny_Subscript_list_slice (h W ρ H fr s _ E _ _ r e1 fun W1 k1 t1 x l1 r1 x1=>?_) ht
 refine hlo W1 ρ _ fr _ _ E _ _ r1 e2 fun W2 k2 t2 y l2 r2 y2=>?_
 refine hhi W2 ρ _ fr _ _ E _ _ r2 e3 fun W3 k3 t3 z l3 r3 z3=>?_
 have x3:=x1.mono (l2.trans l3)
 obtain⟨v1,H1⟩:=p
 simp only at hf x3
 cases x3 with
 | none=>cases hf
 | bool _=>cases hf
 | int _ _=>cases hf
 | str _ _=>cases hf
 | tup _ _ _=>cases hf
 | @ref i a ea=>
  obtain⟨vs,hvs,e6⟩:=Zz0.mp hf
  cases e6
  obtain⟨hl,xs,kk,hg,hv⟩:=r3.at hvs ea
  have isl:k3.IsList a xs.toArray:=⟨_,hg,rfl,kk,rfl⟩
  refine⟨a,xs.toArray,ka,kb,rfl,isl,Zcz (by simp[hv.length];exact hl),(y2.mono l3).part e4,z3.part e5,?_⟩
  have hp:VRs W3 (Zbt vs ka kb) (Zbt xs ka kb):=by
   unfold Zbt
   rw[hv.length]
   exact hv.pick _
  have hx:slicePick xs.toArray ka kb Option.none=(Zbt xs ka kb).toArray:=by
   unfold slicePick Zbt
   simp
  obtain⟨W4,l4,r4,v4⟩:=(r3.push { cls:=.type "slice",data:=.fields #[y,z,.none] }).list (k:=0) hp (Nat.le_trans (Zpf vs ka kb) hl)
  rw[hx]
  have:=post W4 _ t3 _ (((l1.trans l2).trans l3).trans l4) r4 v4
  rw[Heap.size_push]at this
  exact this
end
end PM
end
section
namespace PM
open PySem PyProof.Rows PyProof
def Nm(prog:Program)(w:World)(Γ:Cx)(x:Str)(v:Value): Prop:=∀(pos:Pos) (m:Str→Option Value) (s:Shared) (Q E:Value→Shared→Prop),Fr Γ.h₀ Γ.L s.heap m→Q v s→wpAny (model prog w) Γ.A (eval (.Name x pos) Γ.env) Q E s
theorem Nm.use{prog:Program}{w:World}{Γ:Cx}{x:Str}{y:Value}(h:Nm prog w Γ x y){pos:Pos}{W:Wd}{ρ:Lc}{H:Hp}{fr:List (Addr×Obj)}{s:Shared}{Q E:Value→Shared→Prop}(r:Rep Γ W ρ H fr s.heap)(q:Q y s): wpAny (model prog w) Γ.A (eval (.Name x pos) Γ.env) Q E s:=by
 obtain⟨m,c,led,r⟩:=r
 exact h pos m s Q E r.F q
def OpN(prog:Program)(w:World)(m:List Value→Sem Value)(o:List V→Hp→Option (V×Hp)): Prop:=∀(Γ:Cx) (W:Wd) (ρ:Lc) (H:Hp) (fr:List (Addr×Obj)) (s:Shared) (Q E:Value→Shared→Prop) (as:List V) (xs:List Value) (v:V) (H':Hp),
 Rep Γ W ρ H fr s.heap→VRs W as xs→o as H=some (v,H')→ZhI Γ W ρ H' fr s Q v→wpAny (model prog w) Γ.A (m xs) Q E s
noncomputable def Z0(o:List V→Hp→Option (V×Hp))(g:Exs): Ex:=fun ρ H=>(g ρ H).bind fun p=>o p.1 p.2
section
variable {prog:Program} {w:World} {Γ:Cx}
theorem Zao{x:Str}{np pos:Pos}{id:String}{e:Expr}{es:List Expr}{g:Exs}{o:List V→Hp→Option (V×Hp)}(hn:Nm prog w Γ x (.builtin id))(h:Js prog w Γ (e::es) g)(ho:OpN prog w (fun xs=>call (.builtin id) xs) o)
  (he:starEach (e::es) Γ.env=(false,eval e Γ.env)::starEach es Γ.env:=by rfl) (hp:∀pos,(backTo pos (starEach es Γ.env)).any (·.1)=false:=by intro _;rfl):J prog w Γ (.Call (.Name x np) (e::es) [] pos) (Z0 o g):=by
 intro W ρ H fr s Q E v H' r hf post
 obtain⟨p,e1,hf⟩:=Zz0.mp hf
 refine wpAny_Call_ofName (hn.use r ?_)
 refine callWith_builtin1 (h pos W ρ H fr s _ E _ _ r e1 fun W1 k1 t1 xs l1 r1 x1=>?_) he (hp pos)
 exact ho Γ W1 ρ _ fr _ Q E _ xs v H' r1 x1 hf fun W2 k2 t2 y l2 r2 y2=>post W2 k2 t2 y (l1.trans l2) r2 y2
theorem ZiJ{x:Str}{np pos:Pos}{T:String}{e:Expr}{es:List Expr}{g:Exs}{o:List V→Hp→Option (V×Hp)}(hn:Nm prog w Γ x (.type T))(h:Js prog w Γ (e::es) g)(ho:OpN prog w (fun xs=>call (.type T) xs) o)
  (he:starEach (e::es) Γ.env=(false,eval e Γ.env)::starEach es Γ.env:=by rfl) (hp:∀pos,(backTo pos (starEach es Γ.env)).any (·.1)=false:=by intro _;rfl):J prog w Γ (.Call (.Name x np) (e::es) [] pos) (Z0 o g):=by
 intro W ρ H fr s Q E v H' r hf post
 obtain⟨p,e1,hf⟩:=Zz0.mp hf
 refine wpAny_Call_ofName (hn.use r ?_)
 refine PySem.Pv.callWith_type1 (h pos W ρ H fr s _ E _ _ r e1 fun W1 k1 t1 xs l1 r1 x1=>?_) he (hp pos)
 exact ho Γ W1 ρ _ fr _ Q E _ xs v H' r1 x1 hf fun W2 k2 t2 y l2 r2 y2=>post W2 k2 t2 y (l1.trans l2) r2 y2
end
noncomputable def ZlU: V→String
 | .none=>"NoneType"
 | .bool _=>"bool"
 | .int _=>"int"
 | .str _=>"str"
 | .tup _=>"tuple"
 | .ref _=>"list"
noncomputable def Zmk(T:String)(v:V): Bool:=ZlU v == T || (T == "int" && ZlU v == "bool")
noncomputable def eIs(T:String)(f:Ex): Ex:=fun ρ H=>(f ρ H).map fun p=>(.bool (Zmk T p.1),p.2)
section
variable {prog:Program} {w:World} {Γ:Cx}
theorem isinst{T:String}(hT:T="int"∨T="bool"∨T="list"∨T="tuple"){W:Wd}{ρ:Lc}{H:Hp}{fr:List (Addr×Obj)}{s:Shared}{Q E:Value→Shared→Prop}{a:V}{x:Value}(r:Rep Γ W ρ H fr s.heap)(hx:VR W a x)(hin:∀i,a=.ref i→i<H.length)
  (post:∀tk,Q (.bool (Zmk T a)) { s with toks:=tk }):wpAny (model prog w) Γ.A (call (.builtin "isinstance") [x,.type T]) Q E s:=by
 cases hx with
 | none=>
      rcases hT with e | e | e | e <;> subst e
      ·exact call_isinstance (isinstance_false_none (by decide +kernel) F.isi_meta_int (by rw[isSubtype_type];kernel_rfl)) (post _)
      ·exact call_isinstance (isinstance_false_none (by decide +kernel) F.isi_meta_bool (by rw[isSubtype_type];kernel_rfl)) (post _)
      ·exact call_isinstance (isinstance_false_none (by decide +kernel) F.isi_meta_list (by rw[isSubtype_type];kernel_rfl)) (post _)
      ·exact call_isinstance (isinstance_false_none (by decide +kernel) F.isi_meta_tuple (by rw[isSubtype_type];kernel_rfl)) (post _)
 | bool b=>
       rcases hT with e | e | e | e <;> subst e
       ·exact IsiPair.bool_int (post s.toks)
       ·exact IsiPair.bool_bool (post s.toks)
       ·exact IsiPair.bool_list (post _)
       ·exact IsiPair.bool_tuple (post _)
 | int i t=>
       rcases hT with e | e | e | e <;> subst e
       ·exact IsiPair.int_int (post s.toks)
       ·exact IsiPair.int_bool (post _)
       ·exact IsiPair.int_list (post _)
       ·exact IsiPair.int_tuple (post _)
 | str y t=>
       rcases hT with e | e | e | e <;> subst e
       ·exact IsiPair.str_int (post _)
       ·exact IsiPair.str_bool (post _)
       ·exact IsiPair.str_list (post _)
       ·exact IsiPair.str_tuple (post _)
 | tup hm hl hs=>
  have hg:=r.tupAt hm
  rcases hT with e | e | e | e <;> subst e
  ·exact IsiPair.tuple_int hg rfl (post _)
  ·exact IsiPair.tuple_bool hg rfl (post _)
  ·exact IsiPair.tuple_list hg rfl (post _)
  ·exact IsiPair.tuple_tuple hg rfl (post s.toks)
 | @ref i a ea=>
  obtain⟨hl,xs,k,hg,hv⟩:=r.at (List.getElem?_eq_getElem (hin i rfl)) ea
  rcases hT with e | e | e | e <;> subst e
  ·exact IsiPair.list_int hg rfl (post _)
  ·exact IsiPair.list_bool hg rfl (post _)
  ·exact IsiPair.list_list hg rfl (post s.toks)
  ·exact IsiPair.list_tuple hg rfl (post _)
end
theorem Rep.refIn{Γ:Cx}{W:Wd}{ρ:Lc}{H:Hp}{fr:List (Addr×Obj)}{h:Heap}{i:Nat}{x:Value}(r:Rep Γ W ρ H fr h)(hx:VR W (.ref i) x): i<H.length:=by
 obtain⟨m,c,led,r⟩:=r
 cases hx with
 | ref e=>rw[←r.R.len];exact(Zz6.mp e).1
section
variable {prog:Program} {w:World} {Γ:Cx}
theorem Zdm{np tp pos:Pos}{x y:Str}{T:String}{e:Expr}{f:Ex}(hn:Nm prog w Γ x (.builtin "isinstance"))(hy:Nm prog w Γ y (.type T))(hT:T="int"∨T="bool"∨T="list"∨T="tuple")(h:J prog w Γ e f)
  (he:starEach [e,.Name y tp] Γ.env=(false,eval e Γ.env)::starEach [.Name y tp] Γ.env:=by rfl) (hp:∀pos,(backTo pos (starEach [.Name y tp] Γ.env)).any (·.1)=false:=by intro _;rfl):J prog w Γ (.Call (.Name x np) [e,.Name y tp] [] pos) (eIs T f):=by
 intro W ρ H fr s Q E v H' r hf post
 obtain⟨p,e1,e2⟩:=Zz1.mp hf
 cases e2
 refine wpAny_Call_ofName (hn.use r ?_)
 refine callWith_builtin1 (wpAny_items_cons (h W ρ H fr s _ E _ _ r e1 fun W1 k1 t1 z l1 r1 z1=>?_) he) he (hp pos)
 refine wpAny_items_cons (hy.use (s:={ s with heap:=k1,toks:=t1 }) r1 ?_)
 refine wpAny_items_nil ?_
 exact PM.isinst hT r1 z1 (fun i e=>by rw[e]at z1;exact r1.refIn z1) fun tk=>post W1 k1 tk _ l1 r1 (.bool _)
end
noncomputable def ZbO: List V→Hp→Option (V×Hp)
 | [.ref a],H=>H[a]?.map fun vs=>(.int vs.length,H)
 | [.tup vs],H=>some (.int vs.length,H)
 | _,_=>none
noncomputable def ZhJ: List V→Hp→Option (V×Hp)
 | [.int a],H=>some (.int (if a<0 then -a else a),H)
 | _,_=>none
noncomputable def ZmD: List V→Hp→Option (V×Hp)
 | [.int a,.int b],H=>some (.int (if b>a then b else a),H)
 | _,_=>none
noncomputable def ZxT: List V→Hp→Option (V×Hp)
 | [.int a,.int b],H=>some (.int (if b<a then b else a),H)
 | _,_=>none
noncomputable def Zc2: List V→Option (List Int)
 | []=>some []
 | .int k::vs=>(Zc2 vs).map fun ks=>k::ks
 | _::_=>none
noncomputable def ZjB: List V→Hp→Option (V×Hp)
 | [.ref a],H=>H[a]?.bind fun vs=>(Zc2 vs).map fun ks=>(.int ks.sum,H)
 | _,_=>none
theorem VRs.one{W:Wd}{v:V}{xs:List Value}(h:VRs W [v] xs): ∃x,xs=[x]∧VR W v x:=by
 cases h with
 | cons a b=>cases b;exact⟨_,rfl,a⟩
theorem VRs.two{W:Wd}{v u:V}{xs:List Value}(h:VRs W [v,u] xs): ∃x y,xs=[x,y]∧VR W v x∧VR W u y:=by
 cases h with
 | cons a b=>obtain⟨y,e,r⟩:=b.one;subst e;exact⟨_,_,rfl,a,r⟩
theorem ZsG{W:Wd}: ∀{vs:List V} {xs:List Value} {ks:List Int},VRs W vs xs→Zc2 vs=some ks→∃ts:Array (Int×Tok),xs.toArray=intItems ts∧preSum (numAt ts) ts.size=ks.sum:=by
 have key:∀{vs:List V} {xs:List Value} {ks:List Int},VRs W vs xs→Zc2 vs=some ks→∃ts:List (Int×Tok),xs=ts.map (fun p=>Value.int p.1 p.2)∧ts.map (·.1)=ks:=by
  intro vs
  induction vs with
  | nil=>intro xs ks h e;cases h;cases e;exact⟨[],rfl,rfl⟩
  | cons v vs ih=>
   intro xs ks h e
   cases h with
   | cons a b=>
    cases v with
    | int i=>
     obtain⟨js,e1,e2⟩:=Zz1.mp e
     subst e2
     cases a with
     | int _ t=>
      obtain⟨ts,h1,h2⟩:=ih b e1
      exact⟨(i,t)::ts,by rw[h1];rfl,by rw[List.map_cons,h2]⟩
    | none=>cases e
    | bool _=>cases e
    | str _=>cases e
    | tup _=>cases e
    | ref _=>cases e
 intro vs xs ks h e
 obtain⟨ts,h1,h2⟩:=key h e
 refine⟨ts.toArray,by rw[h1];simp[intItems],?_⟩
 rw[preSum_eq,List.take_of_length_le (by simp),←h2]
noncomputable def Zbh: V→V→Hp→Option (V×Hp)
 | .int a,.int b,H=>some (.int (a+b),H)
 | .ref a,.ref b,H=>H[a]?.bind fun vs=>H[b]?.bind fun us=>if(vs++us).length≤LEN then some (.ref H.length,H++[vs++us])else none
 | .tup vs,.tup us,H=>if(vs++us).length≤LEN then some (.tup (vs++us),H)else none
 | _,_,_=>none
noncomputable def ZeE(vs:List V): Nat→List V
 | 0=>[]
 | n+1=>ZeE vs n++vs
noncomputable def ZdS: V→V→Hp→Option (V×Hp)
 | .int a,.int b,H=>if mulOk a b=true then some (.int (a*b),H)else none
 | .ref a,.int k,H=>H[a]?.bind fun vs=>if vs.length*k.toNat≤LEN∧-(2 ^ 63:Int)≤k∧k<2 ^ 63 then some (.ref H.length,H++[ZeE vs k.toNat])else none
 | _,_,_=>none
section
variable {prog:Program} {w:World}
theorem ZaR: OpN prog w (fun xs=>call (.builtin "len") xs) ZbO:=by
 intro Γ W ρ H fr s Q E as xs v H' r hx ho post
 unfold ZbO at ho
 split at ho
 ·rename_i a
  obtain⟨vs,e1,e2⟩:=Zz1.mp ho
  cases e2
  obtain⟨x,ex,rx⟩:=hx.one
  subst ex
  cases rx with
  | ref ea=>
   obtain⟨hl,ys,k,hg,hv⟩:=r.at e1 ea
   have isl:s.heap.IsList _ ys.toArray:=⟨_,hg,rfl,k,rfl⟩
   have e3:(ys.toArray.size:Int)=vs.length:=by simp[hv.length]
   rw[Za6]at hl
   refine Calls.call_len_list isl (by rw[e3];omega) ?_
   rw[e3]
   exact post W s.heap _ _ (.refl W) r (.int _ _)
 ·rename_i vs
  cases ho
  obtain⟨x,ex,rx⟩:=hx.one
  subst ex
  cases rx with
  | @tup _ a ys k hm hl hs=>
   have it:IsTup s.heap a ys.toArray:=⟨_,r.tupAt hm,rfl,k,rfl⟩
   have e3:(ys.toArray.size:Int)=vs.length:=by simp[hs.length]
   rw[Za6]at hl
   refine len_tuple it (by rw[e3];omega) ?_
   rw[e3]
   exact post W s.heap _ _ (.refl W) r (.int _ _)
 ·cases ho
theorem Zdr: OpN prog w (fun xs=>call (.builtin "abs") xs) ZhJ:=by
 intro Γ W ρ H fr s Q E as xs v H' r hx ho post
 unfold ZhJ at ho
 split at ho
 ·cases ho
  obtain⟨x,ex,rx⟩:=hx.one
  subst ex
  cases rx with
  | int i t=>exact call_abs_int fun u tk=>post W s.heap tk _ (.refl W) r (.int _ _)
 ·cases ho
theorem ZvD: OpN prog w (fun xs=>call (.builtin "max") xs) ZmD:=by
 intro Γ W ρ H fr s Q E as xs v H' r hx ho post
 unfold ZmD at ho
 split at ho
 ·cases ho
  obtain⟨x,y,ex,rx,ry⟩:=hx.two
  subst ex
  cases rx with
  | int i t=>
   cases ry with
   | int j u=>
    refine max_two_ints Γ.hh fun h' tk up=>?_
    split
    ·rename_i c
     rw[if_pos c]at post
     exact post W h' tk _ (.refl W) (r.grown up) (.int _ _)
    ·rename_i c
     rw[if_neg c]at post
     exact post W h' tk _ (.refl W) (r.grown up) (.int _ _)
 ·cases ho
theorem ZwP: OpN prog w (fun xs=>call (.builtin "sum") xs) ZjB:=by
 intro Γ W ρ H fr s Q E as xs v H' r hx ho post
 unfold ZjB at ho
 split at ho
 ·obtain⟨vs,e1,e2⟩:=Zz0.mp ho
  obtain⟨ks,e3,e4⟩:=Zz1.mp e2
  cases e4
  obtain⟨x,ex,rx⟩:=hx.one
  subst ex
  cases rx with
  | ref ea=>
   obtain⟨hl,ys,k,hg,hv⟩:=r.at e1 ea
   obtain⟨ts,h1,h2⟩:=ZsG hv e3
   have isl:s.heap.IsList _ (intItems ts):=⟨_,hg,rfl,k,by rw[←h1]⟩
   refine sum_intListG Γ.hh isl fun h' tk t' up=>?_
   rw[h2]
   exact post W h' tk _ (.refl W) (r.grown up) (.int _ _)
 ·cases ho
theorem Zax: Op2 prog w (binaryOp .Add) Zbh:=by
 intro Γ W ρ H fr s Q E a b x y v H' r hx hy ho post
 unfold Zbh at ho
 split at ho
 ·cases ho
  cases hx;cases hy
  exact PySem.P.add_int (post W s.heap _ _ (.refl W) r (.int _ _))
 ·obtain⟨vs,e1,ho⟩:=Zz0.mp ho
  obtain⟨us,e2,ho⟩:=Zz0.mp ho
  by_cases hl:(vs++us).length≤LEN
  ·rw[if_pos hl]at ho
   cases ho
   cases hx with
   | ref ea=>
   cases hy with
   | ref eb=>
   obtain⟨l1,ys,k,hg,hv⟩:=r.at e1 ea
   obtain⟨l2,zs,k2,hg2,hv2⟩:=r.at e2 eb
   obtain⟨m,c,led,r'⟩:=r
   have i1:s.heap.IsList _ ys.toArray:=⟨_,hg,rfl,k,rfl⟩
   have i2:s.heap.IsList _ zs.toArray:=⟨_,hg2,rfl,k2,rfl⟩
   refine add_lists (hsz:=Zcz (by rw[hv.length,hv2.length,←List.length_append];exact hl)) r'.F r'.N i1 i2 fun h' F' N'=>?_
   obtain⟨W2,le2,r2,v2⟩:=r'.newList F' N' r'.off (hv.append hv2) hl
   exact post W2 h' s.toks _ le2 r2 v2
  ·rw[if_neg hl]at ho
   cases ho
 ·rename_i vs us
  by_cases hl:(vs++us).length≤LEN
  ·rw[if_pos hl]at ho
   cases ho
   cases hx with
   | @tup _ a ys k hm h1 hv=>
   cases hy with
   | @tup _ b zs k2 hm2 h2 hv2=>
   have t1:IsTup s.heap a ys.toArray:=⟨_,r.tupAt hm,rfl,k,rfl⟩
   have t2:IsTup s.heap b zs.toArray:=⟨_,r.tupAt hm2,rfl,k2,rfl⟩
   have r0:=r
   obtain⟨m,c,led,r'⟩:=r
   refine add_tuples (hsz:=Zcz (by rw[hv.length,hv2.length,←List.length_append];exact hl)) r'.F r'.N t1 t2 (fun e=>?_) (fun _ e=>?_) fun _ _ h' F' N'=>?_
   ·have:vs=[]:=List.length_eq_zero_iff.mp (by rw[←hv.length,e];rfl)
    subst this
    exact post W s.heap s.toks _ (.refl W) r0 (.tup hm2 h2 hv2)
   ·have:us=[]:=List.length_eq_zero_iff.mp (by rw[←hv2.length,e];rfl)
    subst this
    rw[List.append_nil]at post
    exact post W s.heap s.toks _ (.refl W) r0 (.tup hm h1 hv)
   ·obtain⟨W2,le2,r2,v2⟩:=r'.newTup F' N' r'.off (hv.append hv2) hl
    exact post W2 h' s.toks _ le2 r2 v2
  ·rw[if_neg hl]at ho
   cases ho
 ·cases ho
theorem Zpg(vs:List V): ∀n,(ZeE vs n).length=vs.length*n
 | 0=>rfl
 | n+1=>by rw[ZeE,List.length_append,Zpg vs n,Nat.mul_succ]
theorem Zt2(xs:List Value)(n:Nat): ∀acc:Array Value,(List.foldl (fun x1 x2=>x1++x2) acc (List.replicate n xs.toArray))=acc++(List.replicate n xs).flatten.toArray:=by
 induction n with
 | zero=>intro acc;simp
 | succ n ih=>
  intro acc
  rw[List.replicate_succ,List.foldl_cons,ih,List.replicate_succ,List.flatten_cons]
  simp[Array.append_assoc]
theorem ZpT{W:Wd}{vs:List V}{xs:List Value}(h:VRs W vs xs): ∀n,VRs W (ZeE vs n) (List.replicate n xs).flatten
 | 0=>.nil
 | n+1=>by
  rw[ZeE,List.replicate_succ',List.flatten_append]
  simp only[List.flatten_cons,List.flatten_nil,List.append_nil]
  exact(ZpT h n).append h
theorem ZbH: Op2 prog w (binaryOp .Mult) ZdS:=by
 intro Γ W ρ H fr s Q E a b x y v H' r hx hy ho post
 unfold ZdS at ho
 split at ho
 ·rename_i i j
  by_cases hm:mulOk i j=true
  ·rw[if_pos hm]at ho
   cases ho
   cases hx;cases hy
   exact PySem.P.mul_int (post W s.heap _ _ (.refl W) r (.int _ _)) (ZuF hm)
  ·rw[if_neg hm]at ho
   cases ho
 ·rename_i i k
  obtain⟨vs,e1,ho⟩:=Zz0.mp ho
  by_cases hc:vs.length*k.toNat≤LEN∧-(2 ^ 63:Int)≤k∧k<2 ^ 63
  ·rw[if_pos hc]at ho
   cases ho
   cases hx with
   | ref ea=>
   cases hy with
   | int _ u=>
   obtain⟨l1,ys,kk,hg,hv⟩:=r.at e1 ea
   obtain⟨m,c,led,r'⟩:=r
   have hl:=hc.1
   rw[Za6]at hl
   refine mul_list r'.F r'.N hg hc.2.1 hc.2.2 (by rw[List.size_toArray,hv.length];omega) fun h' F' N'=>?_
   have e2:(List.foldl (fun x1 x2=>x1++x2) #[] (List.replicate (if ys.toArray.isEmpty=true then 0 else k.toNat) ys.toArray))=(List.replicate k.toNat ys).flatten.toArray:=by
    cases ys with
    | nil=>
     simp
    | cons y0 ys0=>
     have:((y0::ys0).toArray.isEmpty=true)=False:=by simp
     simp only[this,if_false]
     rw[Zt2]
     simp
   rw[e2]at N'
   obtain⟨W2,le2,r2,v2⟩:=r'.newList F' N' r'.off (ZpT hv k.toNat) (by rw[Zpg];exact hc.1)
   exact post W2 h' s.toks _ le2 r2 v2
  ·rw[if_neg hc]at ho
   cases ho
 ·cases ho
end
end PM
end
section
namespace PM
open PySem PyProof.Rows PyProof
noncomputable def upd(ρ:Lc)(i:Nat)(v:V): Lc:=fun j=>if j=i then some v else ρ j
noncomputable abbrev Sm:=Lc→Hp→Option (Option V×Lc×Hp)
noncomputable def ZaP: Sm:=fun ρ H=>some (none,ρ,H)
noncomputable def Z9(a b:Sm): Sm:=fun ρ H=>(a ρ H).bind fun p=>match p.1 with
 | some _=>some p
 | none=>b p.2.1 p.2.2
noncomputable def Zau(f:Ex): Sm:=fun ρ H=>(f ρ H).map fun p=>(some p.1,ρ,p.2)
noncomputable def ZaI(i:Nat)(f:Ex): Sm:=fun ρ H=>(f ρ H).map fun p=>(none,upd ρ i p.1,p.2)
noncomputable def sIf(t:Ts)(a b:Sm): Sm:=fun ρ H=>(t ρ H).bind fun p=>if p.1 then a ρ p.2 else b ρ p.2
noncomputable def ZcV(f:Ex): Sm:=fun ρ H=>(f ρ H).map fun p=>(none,ρ,p.2)
noncomputable def ZmW: V→V→V→Hp→Option Hp
 | .ref a,.int k,v,H=>H[a]?.bind fun vs=>if a≠0∧0≤k∧k<vs.length then some (H.set a (vs.set k.toNat v))else none
 | _,_,_,_=>none
noncomputable def Zc9(f o i:Ex): Sm:=fun ρ H=>(f ρ H).bind fun p=>(o ρ p.2).bind fun q=>(i ρ q.2).bind fun u=>(ZmW q.1 u.1 p.1 u.2).map fun K=>(none,ρ,K)
noncomputable def Zel(t:Ts)(b:Sm): Nat→Sm
 | 0=>fun _ _=>none
 | n+1=>fun ρ H=>(t ρ H).bind fun p=>if p.1 then(b ρ p.2).bind fun q=>(match q.1 with
   | some _=>some q
   | none=>Zel t b n q.2.1 q.2.2)else some (none,ρ,p.2)
noncomputable def PostS(Γ:Cx)(W:Wd)(fr:List (Addr×Obj))(s:Shared)(Q:Flow→Shared→Prop): Option V×Lc×Hp→Prop
 | (none,ρ',H')=>∀(W':Wd) (h':Heap) (tk':Nat),W.Le W'→Rep Γ W' ρ' H' fr h'→Q .next { s with heap:=h',toks:=tk' }
 | (some v,ρ',H')=>∀(W':Wd) (h':Heap) (tk':Nat) (x:Value),W.Le W'→Rep Γ W' ρ' H' fr h'→VR W' v x→Q (.ret x) { s with heap:=h',toks:=tk' }
theorem PostS.le{Γ:Cx}{W W':Wd}{fr:List (Addr×Obj)}{s:Shared}{h:Heap}{tk:Nat}{Q:Flow→Shared→Prop}{r:Option V×Lc×Hp}(l:W.Le W')(p:PostS Γ W fr s Q r): PostS Γ W' fr { s with heap:=h,toks:=tk } Q r:=by
 obtain⟨o,ρ',H'⟩:=r
 cases o with
 | none=>exact fun W2 h2 t2 l2 r2=>p W2 h2 t2 (l.trans l2) r2
 | some v=>exact fun W2 h2 t2 x l2 r2 x2=>p W2 h2 t2 x (l.trans l2) r2 x2
section
variable (prog:Program) (w:World)
def S1(Γ:Cx)(st:Stmt)(g:Sm): Prop:=∀(W:Wd) (ρ:Lc) (H:Hp) (fr:List (Addr×Obj)) (s:Shared) (Q:Flow→Shared→Prop) (E:Value→Shared→Prop) (r:Option V×Lc×Hp),
 Rep Γ W ρ H fr s.heap→g ρ H=some r→PostS Γ W fr s Q r→wpAny (model prog w) Γ.A (exec st Γ.env) Q E s
def Ss(Γ:Cx)(ss:List Stmt)(g:Sm): Prop:=∀(W:Wd) (ρ:Lc) (H:Hp) (fr:List (Addr×Obj)) (s:Shared) (Q:Flow→Shared→Prop) (E:Value→Shared→Prop) (r:Option V×Lc×Hp),
 Rep Γ W ρ H fr s.heap→g ρ H=some r→PostS Γ W fr s Q r→wpAny (model prog w) Γ.A (execs ss Γ.env) Q E s
def Sto(Γ:Cx)(x:Str)(i:Nat): Prop:=∀(W:Wd) (ρ:Lc) (H:Hp) (fr:List (Addr×Obj)) (s:Shared) (Q:Unit→Shared→Prop) (E:Value→Shared→Prop) (v:V) (y:Value),
 Rep Γ W ρ H fr s.heap→VR W v y→(∀(h':Heap) (tk':Nat),Rep Γ W (upd ρ i v) H fr h'→Q () { s with heap:=h',toks:=tk' })→wpAny (model prog w) Γ.A (storeName Γ.env x y) Q E s
def Rd(Γ:Cx)(x:Str)(i:Nat): Prop:=∀(W:Wd) (ρ:Lc) (H:Hp) (fr:List (Addr×Obj)) (s:Shared) (Q E:Value→Shared→Prop) (v:V) (pos:Pos),
 Rep Γ W ρ H fr s.heap→ρ i=some v→(∀y,VR W v y→Q y s)→wpAny (model prog w) Γ.A (eval (.Name x pos) Γ.env) Q E s
end
section
variable {prog:Program} {w:World} {Γ:Cx}
theorem Zjt{x:Str}{i:Nat}{pos:Pos}(h:Rd prog w Γ x i): J prog w Γ (.Name x pos) (Zl i):=by
 intro W ρ H fr s Q E v H' r hf post
 obtain⟨u,e1,e2⟩:=Zz1.mp hf
 cases e2
 exact h W ρ H fr s Q E v pos r e1 fun y hy=>post W s.heap s.toks y (.refl W) r hy
theorem ZQ: Ss prog w Γ [] ZaP:=fun W ρ H fr s Q E r rp hf post=>by
 cases hf
 exact wpAny_execs_nil (post W s.heap s.toks (.refl W) rp)
theorem Zt{st:Stmt}{ss:List Stmt}{a b:Sm}(h1:S1 prog w Γ st a)(h2:Ss prog w Γ ss b): Ss prog w Γ (st::ss) (Z9 a b):=by
 intro W ρ H fr s Q E r rp hf post
 obtain⟨p,e1,hf⟩:=Zz0.mp hf
 refine wpAny_execs_cons (h1 W ρ H fr s _ E p rp e1 ?_)
 obtain⟨o,ρ1,H1⟩:=p
 cases o with
 | some v=>
  cases hf
  exact fun W1 k1 t1 x l1 r1 x1=>post W1 k1 t1 x l1 r1 x1
 | none=>exact fun W1 k1 t1 l1 r1=>h2 W1 ρ1 H1 fr _ Q E r r1 hf (post.le l1)
theorem Zp{st:Stmt}{a:Sm}(h1:S1 prog w Γ st a): Ss prog w Γ [st] a:=by
 intro W ρ H fr s Q E r rp hf post
 refine wpAny_execs_cons (h1 W ρ H fr s _ E r rp hf ?_)
 obtain⟨o,ρ1,H1⟩:=r
 cases o with
 | some v=>exact fun W1 k1 t1 x l1 r1 x1=>post W1 k1 t1 x l1 r1 x1
 | none=>exact fun W1 k1 t1 l1 r1=>wpAny_execs_nil (post W1 k1 t1 l1 r1)
theorem Zx{e:Expr}{pos:Pos}{f:Ex}(h:J prog w Γ e f): S1 prog w Γ (.Return (some e) pos) (Zau f):=by
 intro W ρ H fr s Q E r rp hf post
 obtain⟨p,e1,e2⟩:=Zz1.mp hf
 cases e2
 exact wpAny_Return_some (h W ρ H fr s _ E _ _ rp e1 post)
theorem ZR{t:Expr}{a b:List Stmt}{pos:Pos}{u:Ts}{f g:Sm}(ht:JT prog w Γ t u)(h1:Ss prog w Γ a f)(h2:Ss prog w Γ b g): S1 prog w Γ (.If t a b pos) (sIf u f g):=by
 intro W ρ H fr s Q E r rp hf post
 obtain⟨p,e1,hf⟩:=Zz0.mp hf
 refine wpAny_If (ht W ρ H fr s _ E _ _ rp e1 fun W1 k1 t1 l1 r1=>?_)
 obtain⟨c,H1⟩:=p
 cases c with
 | true=>exact h1 W1 ρ H1 fr _ Q E r r1 hf (post.le l1)
 | false=>exact h2 W1 ρ H1 fr _ Q E r r1 hf (post.le l1)
theorem ZdI{e:Expr}{pos:Pos}{f:Ex}(h:J prog w Γ e f)(hi:interactive Γ.env=false:=by rfl)(hs:swapsWith e none pos.line Γ.env=pure false:=by rfl): S1 prog w Γ (.Expr e pos) (ZcV f):=by
 intro W ρ H fr s Q E r rp hf post
 obtain⟨p,e1,e2⟩:=Zz1.mp hf
 cases e2
 exact wpAny_Expr_any (h W ρ H fr s _ E _ _ rp e1 fun W1 k1 t1 x l1 r1 x1=>post W1 k1 t1 l1 r1) hi hs
theorem Z2{x:Str}{i:Nat}{e:Expr}{pos' pos:Pos}{f:Ex}(hx:Sto prog w Γ x i)(h:J prog w Γ e f)(hs:swapsWith e (some (.Name x pos')) pos.line Γ.env=pure false:=by rfl): S1 prog w Γ (.Assign [.Name x pos'] e pos) (ZaI i f):=by
 intro W ρ H fr s Q E r rp hf post
 obtain⟨p,e1,e2⟩:=Zz1.mp hf
 cases e2
 refine wpAny_Assign_Name (h W ρ H fr s _ E _ _ rp e1 fun W1 k1 t1 y l1 r1 y1=>?_) hs
 exact hx W1 ρ _ fr _ _ E _ y r1 y1 fun h' tk' r2=>post W1 h' tk' l1 r2
theorem Zph{t:Expr}{a:List Stmt}{pos:Pos}{u:Ts}{f:Sm}(n:Nat)(ht:JT prog w Γ t u)(h1:Ss prog w Γ a f): S1 prog w Γ (.While t a [] pos) (Zel u f n):=by
 intro W ρ H fr s Q E r rp hf post
 refine wpAny_While ?_
 refine codeAny_whileLoop (fun k s'=>∃W' ρ' H' h' tk',s' = { s with heap:=h',toks:=tk' }∧W.Le W'∧Rep Γ W' ρ' H' fr h'∧Zel u f k ρ' H'=some r) ?_ n ⟨W,ρ,H,s.heap,s.toks,rfl,.refl W,rp,hf⟩
 rintro k s' ⟨W1,ρ1,H1,k1,t1,rfl,l1,r1,e⟩
 cases k with
 | zero=>cases e
 | succ k=>
  obtain⟨p,e1,e⟩:=Zz0.mp e
  refine ht W1 ρ1 H1 fr _ _ _ _ _ r1 e1 fun W2 k2 t2 l2 r2=>?_
  obtain⟨c,H2⟩:=p
  cases c with
  | false=>
   cases e
   exact wpAny_execs_nil (post W2 k2 t2 (l1.trans l2) r2)
  | true=>
   obtain⟨q,e2,e⟩:=Zz0.mp e
   refine h1 W2 ρ1 H2 fr _ _ _ q r2 e2 ?_
   obtain⟨o,ρ3,H3⟩:=q
   cases o with
   | some v=>
    cases e
    exact fun W3 k3 t3 x l3 r3 x3=>post W3 k3 t3 x ((l1.trans l2).trans l3) r3 x3
   | none=>exact fun W3 k3 t3 l3 r3=>⟨k,Nat.lt_succ_self k,W3,ρ3,H3,k3,t3,rfl,(l1.trans l2).trans l3,r3,e⟩
end
noncomputable def Zhe: List V→Hp→Option (V×Hp)
 | [.ref a,v],H=>H[a]?.bind fun vs=>if a≠0∧vs.length<LEN then some (.none,H.set a (vs++[v]))else none
 | _,_=>none
section
variable {prog:Program} {w:World} {Γ:Cx}
theorem Zt3: OpN prog w (fun xs=>call (.builtin "list.append") xs) Zhe:=by
 intro Γ W ρ H fr s Q E as xs v H' r hx ho post
 unfold Zhe at ho
 split at ho
 ·obtain⟨vs,e1,e2⟩:=Zz0.mp ho
  obtain⟨x,y,ex,rx,ry⟩:=hx.two
  subst ex
  split at e2
  ·rename_i hl
   cases e2
   cases rx with
   | @ref _ a0 ea=>
    obtain⟨_,ys,k,hg,hv⟩:=r.at e1 ea
    refine append_at (hsz:=Zcz (by rw[List.size_toArray,hv.length];omega)) hg fun h' sb hg'=>?_
    have hg2:h'.get? a0=some (ZbD (ys++[y]) (k+1)):=by rw[hg'];simp
    exact post W h' s.toks _ (.refl W) (r.change hl.1 e1 ea sb hg2 (hv.snoc ry) (by simp;omega)) .none
  ·cases e2
 ·cases ho
end
end PM
end
section
namespace PM
open PySem PySem.W PyProof.Rows PyProof
theorem ZpU: ∀{l:List Value} {k:Nat} {v:Value},k<l.length→ki_setL l k v=some (l.set k v)
 | [],_,_,h=>by simp at h
 | x::r,0,v,_=>by simp[ki_setL]
 | x::r,k+1,v,h=>by
  have:=ZpU (l:=r) (k:=k) (v:=v) (by simpa using h)
  simp[ki_setL,this]
theorem Zt4{a k v:V}{H K:Hp}(h:ZmW a k v H=some K): ∃i j vs,a=.ref i∧k=.int j∧H[i]?=some vs∧(i≠0∧0≤j∧j<vs.length)∧K=H.set i (vs.set j.toNat v):=by
 cases a <;> first | (cases h;done) | skip
 cases k <;> first | (cases h;done) | skip
 obtain⟨vs,e1,e2⟩:=Zz0.mp h
 split at e2
 ·rename_i c
  cases e2
  exact⟨_,_,vs,rfl,rfl,e1,c,rfl⟩
 ·cases e2
theorem ZsH{a v x:V}{H K:Hp}(h:Zhe [a,v] H=some (x,K)): ∃i,a=.ref i:=by
 cases a <;> first | (cases h;done) | skip
 exact⟨_,rfl⟩
noncomputable def ZiK(o f:Ex): Ex:=fun ρ H=>(o ρ H).bind fun p=>(f ρ p.2).bind fun q=>Zhe [p.1,q.1] q.2
section
variable {prog:Program} {w:World} {Γ:Cx}
theorem S1.put{o i value:Expr}{pos' pos:Pos}{f g k:Ex}(hf:J prog w Γ value f)(ho:J prog w Γ o g)(hi:J prog w Γ i k)(hs:swapsWith value (some (.Subscript o i pos')) pos.line Γ.env=pure false:=by rfl): S1 prog w Γ (.Assign [.Subscript o i pos'] value pos) (Zc9 f g k):=by
 intro W ρ H fr s Q E r rp hx post
 obtain⟨p,e1,hx⟩:=Zz0.mp hx
 obtain⟨q,e2,hx⟩:=Zz0.mp hx
 obtain⟨u,e3,hx⟩:=Zz0.mp hx
 obtain⟨K,e4,e5⟩:=Zz1.mp hx
 cases e5
 refine wpAny_Assign_Subscript (hf W ρ H fr s _ E _ _ rp e1 fun W1 k1 t1 x l1 r1 x1=>?_) hs
 refine ho W1 ρ _ fr _ _ E _ _ r1 e2 fun W2 k2 t2 y l2 r2 y2=>?_
 refine hi W2 ρ _ fr _ _ E _ _ r2 e3 fun W3 k3 t3 z l3 r3 z3=>?_
 have x3:=x1.mono (l2.trans l3)
 have y3:=y2.mono l3
 obtain⟨b,kk,vs,eb,ek,hvs,hc,e6⟩:=Zt4 e4
 subst e6
 rw[eb]at y3
 rw[ek]at z3
 cases y3 with
 | @ref _ a ea=>
 cases z3 with
 | int _ tz=>
 obtain⟨hl,xs,n,hg,hv⟩:=r3.at hvs ea
 obtain⟨m,c,led,r'⟩:=r3
 have hll:=hl
 rw[Za6]at hll
 have hk:kk.toNat<xs.length:=by rw[hv.length];omega
 obtain⟨_,a',xs',n',h1,h2,h3⟩:=r'.R.lists b vs hvs
 rw[ea]at h1
 cases h1
 have h2:=r'.inLed hc.1 ea h2
 have N2:News Γ.h₀ Γ.L k3 ((a,ZbD xs n)::led.filter (fun q=>decide (q.1≠a))):=by
  intro q hq
  rcases Zz7.mp hq with e | hq
  ·subst e
   exact⟨hg,(r'.N _ h2).2⟩
  ·exact r'.N q (List.mem_filter.mp hq).1
 refine ki_set (its:=xs.toArray) (n:=n) (q:=xs.set kk.toNat x) r'.F N2 hc.2.1 (by omega) (by simpa using ZpU hk) (Upd.head fun q hq=>by simpa using (List.mem_filter.mp hq).2) fun h' F' N'=>?_
 exact post W3 h' t3 ((l1.trans l2).trans l3) (r'.changed hc.1 hvs ea F' N' (hv.set _ x3) (by simpa using hl))
theorem J.append{o e:Expr}{apos pos:Pos}{f g:Ex}(ho:J prog w Γ o f)(he:J prog w Γ e g)(hbase:attributeBase o "append" Γ.env (eval o Γ.env)=eval o Γ.env:=by rfl)
  (hfew:((backTo pos (starEach [e] Γ.env)).all (fun x=>!x.1) && (backToKw pos (keywordEach [] Γ.env)).all (fun x=>x.1.isSome) && decide (([e]:List Expr).length+([]:List Keyword).length+(if([]:List Keyword).isEmpty then 0 else 1)<30))=true:=by rfl)
  (hline:(apos.endLine == pos.line)=true:=by rfl) (htrees:backTo pos (starEach [e] Γ.env)=[(false,eval e Γ.env)]:=by rfl):J prog w Γ (.Call (.Attribute o "append" apos) [e] [] pos) (ZiK f g):=by
 intro W ρ H fr s Q E v H' r hx post
 obtain⟨p,e1,hx⟩:=Zz0.mp hx
 obtain⟨q,e2,e3⟩:=Zz0.mp hx
 refine wpAny_Call_append hbase hfew hline htrees (ho W ρ H fr s _ E _ _ r e1 fun W1 k1 t1 x l1 r1 x1=>?_)
 obtain⟨v1,H1⟩:=p
 obtain⟨b,hb⟩:=ZsH e3
 subst hb
 have hb:=r1.refIn x1
 cases x1 with
 | @ref _ a ea=>
 obtain⟨_,xs,n,hg,hv⟩:=r1.at (List.getElem?_eq_getElem hb) ea
 refine⟨a,xs.toArray,rfl,⟨_,n,hg,rfl,rfl,rfl⟩,?_⟩
 refine he W1 ρ _ fr _ _ E _ _ r1 e2 fun W2 k2 t2 y l2 r2 y2=>?_
 exact Zt3 Γ W2 ρ _ fr _ Q E _ [.ref a,y] v H' r2 (.cons (.ref (l2.at ea)) (.cons y2 .nil)) e3 fun W3 k3 t3 z l3 r3 z3=>post W3 k3 t3 z ((l1.trans l2).trans l3) r3 z3
end
end PM
end
section
namespace PM
open PySem PySem.W PyProof.Rows PyProof
noncomputable abbrev Nx:=Nat→Hp→Option (Option V)
noncomputable def ZxU(Γ:Cx)(W:Wd)(ρ:Lc)(H:Hp)(fr:List (Addr×Obj))(s:Shared)(It:Nat→List (Addr×Obj)→Prop)(i:Nat)(Q:Option Value→Shared→Prop): Option V→Prop
 | none=>∀(h':Heap) (tk':Nat),Rep Γ W ρ H fr h'→Q none { s with heap:=h',toks:=tk' }
 | some v=>∀(fs':List (Addr×Obj)) (h':Heap) (tk':Nat) (x:Value),It (i+1) fs'→Rep Γ W ρ H (fs'++fr) h'→VR W v x→Q (some x) { s with heap:=h',toks:=tk' }
structure Itr(prog:Program)(w:World)(Γ:Cx)(W0:Wd)(it:Value)(as:List Addr)(It:Nat→List (Addr×Obj)→Prop)(nx:Nx): Prop where
 adr:∀i fs,It i fs→fs.map (·.1)=as
 next:∀(i:Nat) (W:Wd) (ρ:Lc) (H:Hp) (fr fs:List (Addr×Obj)) (s:Shared) (Q:Option Value→Shared→Prop) (E:Value→Shared→Prop) (o:Option V),W0.Le W→Rep Γ W ρ H (fs++fr) s.heap→(∀a∈as,∀t∈fr,a≠t.1)→It i fs→nx i H=some o →
  ZxU Γ W ρ H fr s It i Q o→wpAny (model prog w) Γ.A (pyNext it) Q E s
 self:∀(i:Nat) (W:Wd) (ρ:Lc) (H:Hp) (fr fs:List (Addr×Obj)) (s:Shared) (Q E:Value→Shared→Prop),W0.Le W→Rep Γ W ρ H (fs++fr) s.heap→It i fs→Q it s→wpAny (model prog w) Γ.A (pyIter it) Q E s
noncomputable abbrev Src:=Lc→Hp→Option (Nx×Nat×Hp)
def JI(prog:Program)(w:World)(Γ:Cx)(e:Expr)(g:Src): Prop:=∀(W:Wd) (ρ:Lc) (H:Hp) (fr:List (Addr×Obj)) (s:Shared) (Q E:Value→Shared→Prop) (nx:Nx) (n:Nat) (H':Hp),
 Rep Γ W ρ H fr s.heap→g ρ H=some (nx,n,H') →
 (∀(W':Wd) (h':Heap) (tk':Nat) (it:Value) (as:List Addr) (It:Nat→List (Addr×Obj)→Prop) (fs:List (Addr×Obj)),W.Le W'→It 0 fs→Rep Γ W' ρ H' (fs++fr) h'→(∀a∈as,∀t∈fr,a≠t.1)→Itr prog w Γ W' it as It nx→Q it { s with heap:=h',toks:=tk' }) →
 wpAny (model prog w) Γ.A (eval e Γ.env) (fun xv s₁=>wpAny (model prog w) Γ.A (pyIter xv) Q E s₁) E s
noncomputable def Zml(a:Nat): Nx:=fun i H=>H[a]?.map fun vs=>vs[i]?
noncomputable def ZqK(vs:List V): Nx:=fun i _=>some vs[i]?
noncomputable def Zfb(a c:Int)(n:Nat): Nx:=fun i _=>some (if i<n then some (.int (a+i*c))else none)
noncomputable def ZcM(f:Ex): Src:=fun ρ H=>(f ρ H).bind fun p=>match p.1 with
 | .ref a=>p.2[a]?.map fun vs=>(Zml a,vs.length+1,p.2)
 | .tup vs=>some (ZqK vs,vs.length+1,p.2)
 | _=>none
noncomputable def rngN(a b c:Int): Nat:=(Builtin.Range.rangeSize a b c).toNat
noncomputable def Zb8(a b c:Int)(H:Hp): Option (Nx×Nat×Hp):=if c≠0∧Builtin.Range.small a b c=true∧0≤Builtin.Range.rangeSize a b c∧rngN a b c≤LEN∧Builtin.divisionGoesByPylong (b-a) c=false then some (Zfb a c (rngN a b c),rngN a b c+1,H)else none
noncomputable def Zca(g:Exs): Src:=fun ρ H=>(g ρ H).bind fun p=>match p.1 with
 | [.int b]=>Zb8 0 b 1 p.2
 | [.int a,.int b]=>Zb8 a b 1 p.2
 | [.int a,.int b,.int c]=>Zb8 a b c p.2
 | _=>none
section
variable {prog:Program} {w:World} {Γ:Cx}
theorem Zmm{W0:Wd}{I:Addr}{nx:Nx}(P:Nat→Obj→Prop)
  (next:∀(i:Nat) (W:Wd) (ρ:Lc) (H:Hp) (fr:List (Addr×Obj)) (ob:Obj) (s:Shared) (Q:Option Value→Shared→Prop) (E:Value→Shared→Prop) (o:Option V),W0.Le W→Rep Γ W ρ H ((I,ob)::fr) s.heap→P i ob→nx i H=some o →
   (match o with
    | none=>∀(h':Heap) (tk':Nat),(∀b o,b≠I→s.heap.get? b=some o→h'.get? b=some o)→Q none { s with heap:=h',toks:=tk' }
    | some v=>∀(ob':Obj) (h':Heap) (tk':Nat) (x:Value),P (i+1) ob'→h'.get? I=some ob'→(∀b o,b≠I→s.heap.get? b=some o→h'.get? b=some o)→VR W v x→Q (some x) { s with heap:=h',toks:=tk' })→wpAny (model prog w) Γ.A (pyNext (.ref I)) Q E s)
  (self:∀(i:Nat) (W:Wd) (ρ:Lc) (H:Hp) (fr:List (Addr×Obj)) (ob:Obj) (s:Shared) (Q E:Value→Shared→Prop),W0.Le W→Rep Γ W ρ H ((I,ob)::fr) s.heap→P i ob→Q (.ref I) s→wpAny (model prog w) Γ.A (pyIter (.ref I)) Q E s):
  Itr prog w Γ W0 (.ref I) [I] (fun i fs=>∃ob,fs=[(I,ob)]∧P i ob) nx:=by
 refine⟨?_,?_,?_⟩
 ·rintro i fs ⟨ob,e,_⟩
  rw[e]
  rfl
 ·rintro i W ρ H fr fs s Q E o le r ap ⟨ob,e,hp⟩ hn post
  subst e
  refine next i W ρ H fr ob s Q E o le r hp hn ?_
  have ap':∀q∈[(I,ob)],∀t∈fr,q.1≠t.1:=fun q hq t ht=>by rw[List.mem_singleton.mp hq];exact ap I Zz5 t ht
  cases o with
  | none=>
   intro h' tk' keep
   have:=Rep.swap (fs:=[(I,ob)]) (fs':=[]) r ap' (fun b o hb e=>keep b o (fun q=>hb (by simp[q])) e) (fun q hq=>nomatch hq)
   exact post h' tk' this
  | some v=>
   intro ob' h' tk' x hp' hg keep hx
   have:=Rep.swap (fs:=[(I,ob)]) (fs':=[(I,ob')]) r ap' (fun b o hb e=>keep b o (fun q=>hb (by simp[q])) e) (fun q hq=>by rw[List.mem_singleton.mp hq];exact⟨hg,by simp⟩)
   exact post [(I,ob')] h' tk' x ⟨ob',rfl,hp'⟩ this hx
 ·rintro i W ρ H fr fs s Q E le r ⟨ob,e,hp⟩ q
  subst e
  exact self i W ρ H fr ob s Q E le r hp q
theorem JI.seq{e:Expr}{f:Ex}(h:J prog w Γ e f): JI prog w Γ e (ZcM f):=by
 intro W ρ H fr s Q E nx n H' r hf post
 obtain⟨p,e1,hf⟩:=Zz0.mp hf
 refine h W ρ H fr s _ E _ _ r e1 fun W1 k1 t1 x l1 r1 x1=>?_
 obtain⟨v,H1⟩:=p
 cases x1 with
 | none=>cases hf
 | bool _=>cases hf
 | int _ _=>cases hf
 | str _ _=>cases hf
 | @tup vs a xs k hm hl hs=>
  cases hf
  have it:k1.IsTuple a xs.toArray:=⟨_,r1.tupAt hm,rfl,k,rfl⟩
  refine wpAny_pyIter_tuple it ?_
  obtain⟨r2,ap⟩:=r1.more (fs:=[(k1.objs.size,{ cls:=.type "tuple_iterator",data:=.fields #[.ref a,.int 0 0] })]) (fun b o e=>Heap.get?_push_of_some { cls:=.type "tuple_iterator",data:=.fields #[.ref a,.int 0 0] } e) (fun q hq=>by rw[List.mem_singleton.mp hq];exact⟨Heap.get?_push_size _ rfl,Nat.le_refl _⟩)
  refine post W1 _ t1 _ [k1.objs.size] _ _ l1 ⟨_,rfl,?_⟩ r2 (fun b hb t ht=>by rw[List.mem_singleton.mp hb];exact ap _ Zz5 t ht)
   (Zmm (fun i ob=>ob.cls=.type "tuple_iterator"∧ob.data=.fields #[.ref a,.int i 0]) ?_ ?_)
  ·intro i W ρ H fr ob s Q E o le r hp hn post
   have g1:s.heap.IsTupleIter k1.objs.size a i:=⟨ob,r.frAt Zz5,hp.1,hp.2⟩
   have g2:s.heap.IsTuple a xs.toArray:=⟨_,r.tupAt (le.tups _ hm),rfl,k,rfl⟩
   have ne:a≠k1.objs.size:=Nat.ne_of_lt (Heap.lt_size (r1.tupAt hm))
   have Wk:=Walks.tuple (prog:=prog) (w:=w) Γ.hh k1.objs.size a ne xs.toArray
   cases hn
   cases ev:vs[i]? with
   | none=>
    rw[ev]at post
    have hi:xs.toArray[i]?=none:=by have:=List.getElem?_eq_none_iff.mp ev;rw[←hs.length]at this;simpa using this
    exact wpAny_pyNext_tuple_end Γ.hh g1 g2 hi fun h' he'=>post h' s.toks fun b o hb e=>he' b o hb e
   | some v=>
    rw[ev]at post
    obtain⟨y,hy,ry⟩:=hs.at ev
    refine wpAny_pyNext_tuple_item g1 g2 (x:=y) (by simpa using hy) fun h' hit' hs'=>?_
    obtain⟨ob',h1,h2,h3⟩:=hit'
    exact post ob' h' s.toks y ⟨h2,h3⟩ h1 (fun b o hb e=>hs'.extBut b o hb e) (ry.mono le)
  ·intro i W ρ H fr ob s Q E le r hp q
   exact wpAny_pyIter_tupleiter (⟨ob,r.frAt Zz5,hp.1,hp.2⟩:s.heap.IsTupleIter k1.objs.size a i) q
  ·exact⟨rfl,rfl⟩
 | @ref i0 a ea=>
  obtain⟨vs,e2,e3⟩:=Zz1.mp hf
  cases e3
  obtain⟨hl,xs,k,hg,hv⟩:=r1.at e2 ea
  have isl:k1.IsList a xs.toArray:=⟨_,hg,rfl,k,rfl⟩
  refine wpAny_pyIter_list isl ?_
  obtain⟨r2,ap⟩:=r1.more (fs:=[(k1.objs.size,{ cls:=.type "list_iterator",data:=.fields #[.ref a,.int 0 0] })]) (fun b o e=>Heap.get?_push_of_some { cls:=.type "list_iterator",data:=.fields #[.ref a,.int 0 0] } e) (fun q hq=>by rw[List.mem_singleton.mp hq];exact⟨Heap.get?_push_size _ rfl,Nat.le_refl _⟩)
  refine post W1 _ t1 _ [k1.objs.size] _ _ l1 ⟨_,rfl,?_⟩ r2 (fun b hb t ht=>by rw[List.mem_singleton.mp hb];exact ap _ Zz5 t ht)
   (Zmm (fun i ob=>ob.cls=.type "list_iterator"∧ob.data=.fields #[.ref a,.int i 0]) ?_ ?_)
  ·intro i W ρ H fr ob s Q E o le r hp hn post
   obtain⟨us,eu,e4⟩:=Zz1.mp hn
   subst e4
   obtain⟨hl2,ys,k2,hg2,hv2⟩:=r.at eu (le.at ea)
   have g1:s.heap.IsListIter k1.objs.size a i:=⟨ob,r.frAt Zz5,hp.1,hp.2⟩
   have g2:s.heap.IsList a ys.toArray:=⟨_,hg2,rfl,k2,rfl⟩
   cases ev:us[i]? with
   | none=>
    rw[ev]at post
    have hi:ys.toArray[i]?=none:=by have:=List.getElem?_eq_none_iff.mp ev;rw[←hv2.length]at this;simpa using this
    exact wpAny_pyNext_list_end Γ.hh g1 g2 hi fun h' he'=>post h' s.toks fun b o hb e=>he' b o hb e
   | some v=>
    rw[ev]at post
    obtain⟨y,hy,ry⟩:=hv2.at ev
    refine wpAny_pyNext_list_item g1 g2 (x:=y) (by simpa using hy) fun h' hit' hs'=>?_
    obtain⟨ob',h1,h2,h3⟩:=hit'
    exact post ob' h' s.toks y ⟨h2,h3⟩ h1 (fun b o hb e=>hs'.extBut b o hb e) ry
  ·intro i W ρ H fr ob s Q E le r hp q
   exact wpAny_pyIter_listiter (⟨ob,r.frAt Zz5,hp.1,hp.2⟩:s.heap.IsListIter k1.objs.size a i) q
  ·exact⟨rfl,rfl⟩
theorem ZsI{a b c:Int}{H:Hp}{z:Nx×Nat×Hp}(h:Zb8 a b c H=some z): c≠0∧Builtin.divisionGoesByPylong (b-a) c=false:=by
 unfold Zb8 at h
 split at h
 ·rename_i hc
  exact⟨hc.1,hc.2.2.2.2⟩
 ·cases h
theorem ZuH{W0:Wd}{I:Addr}{a c:Int}{n:Nat}: Itr prog w Γ W0 (.ref I) [I] (fun i fs=>∃ob,fs=[(I,ob)]∧(i≤n∧ob = { cls:=.type "range_iterator",dict:=none,data:=.fields #[rawInt (a+(i:Nat)*c),rawInt ((n:Int)-(i:Nat)),rawInt c],slots:=#[] })) (Zfb a c n):=by
 have Wk:=Walks.range (prog:=prog) (w:=w) Γ.hh I a c n
 refine Zmm (fun i ob=>i≤n∧ob = { cls:=.type "range_iterator",dict:=none,data:=.fields #[rawInt (a+(i:Nat)*c),rawInt ((n:Int)-(i:Nat)),rawInt c],slots:=#[] }) ?_ ?_
 ·intro i W ρ H fr ob s Q E o le r hp hn post
  have g:IsRangeIter s.heap I (a+(i:Nat)*c) ((n:Int)-(i:Nat)) c:=(r.frAt Zz5).trans (congrArg some hp.2)
  cases hn
  by_cases hi:i<n
  ·rw[if_pos hi]at post
   refine Wk.item i s Q E hi g fun v h' tk hv st keep=>?_
   obtain⟨t,e⟩:=hv
   subst e
   exact post _ h' tk _ ⟨hi,rfl⟩ st (fun b o hb e=>keep b o (by simpa using hb) e) (.int _ _)
  ·rw[if_neg hi]at post
   have e:i=n:=by have:=hp.1;omega
   subst e
   exact Wk.done s Q E g fun h' tk keep=>post h' tk fun b o hb e=>keep b o (by simpa using hb) e
 ·intro i W ρ H fr ob s Q E le r hp q
  have g:IsRangeIter s.heap I (a+(i:Nat)*c) ((n:Int)-(i:Nat)) c:=(r.frAt Zz5).trans (congrArg some hp.2)
  exact Wk.self i s Q E g q
theorem ZkK{a b c:Int}{t u v:Tok}{W:Wd}{ρ:Lc}{H:Hp}{fr:List (Addr×Obj)}{s:Shared}{k:Heap}{tk:Nat}{Q E:Value→Shared→Prop}{nx:Nx}{n:Nat}{H':Hp}(r:Rep Γ W ρ H fr k)(hm:Zb8 a b c H=some (nx,n,H'))
  (post:∀(W':Wd) (h':Heap) (tk':Nat) (it:Value) (as:List Addr) (It:Nat→List (Addr×Obj)→Prop) (fs:List (Addr×Obj)),W.Le W'→It 0 fs→Rep Γ W' ρ H' (fs++fr) h'→(∀a∈as,∀t∈fr,a≠t.1)→Itr prog w Γ W' it as It nx→Q it { s with heap:=h',toks:=tk' }):
  wpAny (model prog w) Γ.A (pyIter (.ref k.objs.size)) Q E { s with heap:=k.push { cls:=.type "range",data:=.fields #[.int a t,.int b u,.int c v] },toks:=tk }:=by
 unfold Zb8 at hm
 split at hm
 ·rename_i hc
  cases hm
  have hr:IsRange (k.push { cls:=.type "range",data:=.fields #[.int a t,.int b u,.int c v] }) k.objs.size a b c t u v:=IsRange.new ..
  refine wpAny_pyIter_range hr hc.2.1 ?_
  have rp:=r.push { cls:=.type "range",data:=.fields #[.int a t,.int b u,.int c v] }
  have en:Builtin.Range.rangeSize a b c=((rngN a b c:Nat):Int):=(Int.toNat_of_nonneg hc.2.2.1).symm
  dsimp only
  generalize hk:k.push { cls:=.type "range",data:=.fields #[.int a t,.int b u,.int c v] } = k2 at rp ⊢
  obtain⟨r2,ap⟩:=rp.more (fs:=[(k2.objs.size,{ cls:=.type "range_iterator",data:=.fields #[rawInt a,rawInt (Builtin.Range.rangeSize a b c),rawInt c] })]) (fun b' o e=>Heap.get?_push_of_some { cls:=.type "range_iterator",data:=.fields #[rawInt a,rawInt (Builtin.Range.rangeSize a b c),rawInt c] } e) (fun q hq=>by rw[List.mem_singleton.mp hq];exact⟨Heap.get?_push_size _ rfl,Nat.le_refl _⟩)
  refine post W _ tk _ [k2.objs.size] _ _ (.refl W) ⟨_,rfl,Nat.zero_le _,?_⟩ r2 (fun b hb t ht=>by rw[List.mem_singleton.mp hb];exact ap _ Zz5 t ht) (ZuH (a:=a) (c:=c) (n:=rngN a b c))
  rw[en]
  simp
 ·cases hm
theorem JI.range{x:Str}{np pos:Pos}{e:Expr}{es:List Expr}{g:Exs}(hn:Nm prog w Γ x (.type "range"))(h:Js prog w Γ (e::es) g)
  (he:starEach (e::es) Γ.env=(false,eval e Γ.env)::starEach es Γ.env:=by rfl) (hp:∀pos,(backTo pos (starEach es Γ.env)).any (·.1)=false:=by intro _;rfl):JI prog w Γ (.Call (.Name x np) (e::es) [] pos) (Zca g):=by
 intro W ρ H fr s Q E nx n H' r hf post
 obtain⟨p,e1,hf⟩:=Zz0.mp hf
 refine wpAny_Call_ofName (hn.use r ?_)
 refine PySem.Pv.callWith_type1 (h pos W ρ H fr s _ E _ _ r e1 fun W1 k1 t1 xs l1 r1 x1=>?_) he (hp pos)
 obtain⟨vs,H1⟩:=p
 dsimp only at hf x1 r1
 have post1:=fun W' h' tk' it as It fs (l:W1.Le W')=>post W' h' tk' it as It fs (l1.trans l)
 split at hf
 ·obtain⟨y,ex,ry⟩:=x1.one
  subst ex
  cases ry
  exact call_range_1 (ZkK r1 hf post1)
 ·obtain⟨y,z,ex,ry,rz⟩:=x1.two
  subst ex
  cases ry
  cases rz
  exact call_range_2 (ZkK r1 hf post1)
 ·cases x1 with
  | cons ry x1=>
  obtain⟨y,z,ex,rz,ru⟩:=x1.two
  subst ex
  cases ry
  cases rz
  cases ru
  have hc:=ZsI hf
  exact call_range_3 hc.1 (ZkK r1 hf post1) (.inl hc.2)
 ·cases hf
end
noncomputable def ZcT(nx:Nx)(put:V→Lc→Option Lc)(b:Sm): Nat→Nat→Sm
 | 0,_=>fun _ _=>none
 | n+1,i=>fun ρ H=>(nx i H).bind fun o=>match o with
  | none=>some (none,ρ,H)
  | some v=>(put v ρ).bind fun ρ1=>(b ρ1 H).bind fun q=>match q.1 with
   | some _=>some q
   | none=>ZcT nx put b n (i+1) q.2.1 q.2.2
noncomputable def ZbS(g:Src)(put:V→Lc→Option Lc)(b:Sm): Sm:=fun ρ H=>(g ρ H).bind fun z=>ZcT z.1 put b z.2.1 0 ρ z.2.2
noncomputable def put1(i:Nat): V→Lc→Option Lc:=fun v ρ=>some (upd ρ i v)
section
variable {prog:Program} {w:World} {Γ:Cx}
theorem ZbN{x:Str}{i:Nat}{px pos:Pos}{it:Expr}{body:List Stmt}{g:Src}{b:Sm}(hx:Sto prog w Γ x i)(hg:JI prog w Γ it g)(hb:Ss prog w Γ body b)(hs:∀x,foldedSetIterable it Γ.env x=pure x:=by intro _;rfl): S1 prog w Γ (.For (.Name x px) it body [] pos) (ZbS g (put1 i) b):=by
 intro W ρ H fr s Q E r rp hf post
 obtain⟨z,e1,hf⟩:=Zz0.mp hf
 obtain⟨nx,n,H0⟩:=z
 refine wpAny_For (hg W ρ H fr s _ E nx n H0 rp e1 fun W1 k1 t1 itv as It fs l1 i1 r1 ap I1=>?_) hs
 refine codeAny_forLoop (fun k s'=>∃W' ρ' H' h' tk' j fs',s' = { s with heap:=h',toks:=tk' }∧W1.Le W'∧It j fs'∧Rep Γ W' ρ' H' (fs'++fr) h'∧ZcT nx (put1 i) b k j ρ' H'=some r) ?_ n ⟨W1,ρ,H0,k1,t1,0,fs,rfl,.refl _,i1,r1,hf⟩
 rintro k s' ⟨W2,ρ2,H2,k2,t2,j,fs2,rfl,l2,i2,r2,e⟩
 cases k with
 | zero=>cases e
 | succ k=>
  obtain⟨o,e2,e⟩:=Zz0.mp e
  refine I1.next j W2 ρ2 H2 fr fs2 _ _ _ o l2 r2 ap i2 e2 ?_
  cases o with
  | none=>
   cases e
   intro h' tk' r3
   exact wpAny_execs_nil (post W2 h' tk' (l1.trans l2) r3)
  | some v=>
   intro fs3 k3 t3 y i3 r3 y3
   obtain⟨ρ3,e3,e⟩:=Zz0.mp e
   cases e3
   obtain⟨q,e4,e⟩:=Zz0.mp e
   refine wpAny_assign_Name (hx W2 ρ2 H2 (fs3++fr) _ _ _ v y r3 y3 fun k4 t4 r4=>?_)
   refine hb W2 _ H2 (fs3++fr) _ _ _ q r4 e4 ?_
   obtain⟨u,ρ5,H5⟩:=q
   cases u with
   | some u=>
    cases e
    exact fun W5 k5 t5 x5 l5 r5 v5=>post W5 k5 t5 x5 ((l1.trans l2).trans l5) (r5.less fun q hq=>List.mem_append_right _ hq) v5
   | none=>exact fun W5 k5 t5 l5 r5=>⟨k,Nat.lt_succ_self k,W5,ρ5,H5,k5,t5,j+1,fs3,rfl,l2.trans l5,i3,r5,e⟩
end
end PM
end
section
namespace PM
open PySem PySem.W PySem.Calls PyProof.Rows PyProof
structure OwnF(names:List Str)(cs:Scope)(cl:List (Str×Addr))(W:Wd)(ρ:Lc)(m:Str→Option Value)(cells:List (Addr×Obj)): Prop where
 loc:∀(i:Nat) (x:Str) (v:V),names[i]?=some x→cs.names.lookup x=some .local→ρ i=some v→∃y,m x=some y∧VR W v y
 cel:∀(i:Nat) (x:Str) (v:V),names[i]?=some x→cs.names.lookup x=some .cell→ρ i=some v→∃c o y,cl.lookup x=some c∧(c,o)∈cells∧o.data=.cell (some y)∧VR W v y
 all:∀(x:Str) (c:Addr),cl.lookup x=some c→∃o v₀,(c,o)∈cells∧o.data=.cell v₀
 one:∀(x y:Str) (c:Addr),cl.lookup x=some c→cl.lookup y=some c→x=y
theorem OwnF.mono{names:List Str}{cs:Scope}{cl:List (Str×Addr)}{W W':Wd}{ρ:Lc}{m:Str→Option Value}{cells:List (Addr×Obj)}(l:W.Le W')(h:OwnF names cs cl W ρ m cells): OwnF names cs cl W' ρ m cells:=
 ⟨fun i x v a b c=>by
  obtain⟨y,h1,h2⟩:=h.loc i x v a b c
  exact⟨y,h1,h2.mono l⟩,fun i x v a b c=>by
  obtain⟨d,o,y,h1,h2,h3,h4⟩:=h.cel i x v a b c
  exact⟨d,o,y,h1,h2,h3,h4.mono l⟩,h.all,h.one⟩
noncomputable def Zbu(dp un:Nat)(gd:Option (List Code))(cn:Str)(cs:Scope)(L a:Addr)(ccd:Value)(cl:List (Str×Addr))(outer:List Env)(h₀:Heap)(hu:un+200<cLine)(names:List Str): Cx where
 A:=ktrTop dp un gd cn cs L a ccd cl outer
 env:=envX cn cs L a ccd cl
 h₀:=h₀
 L:=L
 hh:=rfl
 hu:=hu
 Own:=OwnF names cs cl
 mono:=OwnF.mono
section
variable {prog:Program} {w:World} {dp un:Nat} {gd:Option (List Code)} {cn:Str} {cs:Scope} {L a:Addr} {ccd:Value} {cl:List (Str×Addr)} {outer:List Env} {h₀:Heap} {hu:un+200<cLine} {names:List Str}
theorem ZwQ{x:Str}{i:Nat}(hi:names[i]?=some x)(hx:cs.names.lookup x=some .local)(hk:cs.kind=.function)(hd:(x == ("__debug__":Str))=false): Rd prog w (Zbu dp un gd cn cs L a ccd cl outer h₀ hu names) x i:=by
 intro W ρ H fr s Q E v pos r e q
 obtain⟨m,c,led,r⟩:=r
 obtain⟨y,h1,h2⟩:=r.own.loc i x v hi hx e
 exact nameX_L r.F h1 (q y h2) hk hx hd
theorem ZwR{x:Str}{i:Nat}(hi:names[i]?=some x)(hx:cs.names.lookup x=some .cell)(hk:cs.kind=.function)(hd:(x == ("__debug__":Str))=false): Rd prog w (Zbu dp un gd cn cs L a ccd cl outer h₀ hu names) x i:=by
 intro W ρ H fr s Q E v pos r e q
 obtain⟨m,c,led,r⟩:=r
 obtain⟨d,o,y,h1,h2,h3,h4⟩:=r.own.cel i x v hi hx e
 exact nameX_C r.N h1 (r.clIn _ h2) h3 (q y h4) hk hx hd
theorem ZvE{x:Str}{i:Nat}(nd:names.Nodup)(hi:names[i]?=some x)(hx:cs.names.lookup x=some .local)(hk:cs.kind=.function): Sto prog w (Zbu dp un gd cn cs L a ccd cl outer h₀ hu names) x i:=by
 intro W ρ H fr s Q E v y r vy q
 obtain⟨m,c,led,r⟩:=r
 have hi':i<names.length:=(Zz6.mp hi).1
 refine storeX_L r.F r.N (fun h' F' N'=>q h' _ ⟨_,c,led,⟨F',N',r.R,r.sc,r.sc0,r.frIn,r.frOff,r.clIn,r.clOff,r.apart,r.frTup,r.clTup,⟨fun j z u hj hz hu=>?_,fun j z u hj hz hu=>?_,r.own.all,r.own.one⟩⟩⟩) hk hx
 ·by_cases e:j=i
  ·subst e
   rw[hi]at hj
   cases hj
   simp only[upd,if_true]at hu
   cases hu
   exact⟨y,by simp,vy⟩
  ·have hzx:z≠x:=fun e'=>by
    subst e'
    exact e ((List.getElem?_inj (Zz6.mp hj).1 nd).mp (hj.trans hi.symm))
   simp only[upd,if_neg e]at hu
   obtain⟨y',h1,h2⟩:=r.own.loc j z u hj hz hu
   exact⟨y',by simp[hzx,h1],h2⟩
 ·by_cases e:j=i
  ·subst e
   rw[hi]at hj
   cases hj
   rw[hx]at hz
   cases hz
  ·simp only[upd,if_neg e]at hu
   exact r.own.cel j z u hj hz hu
theorem ZvF{x:Str}{i:Nat}(nd:names.Nodup)(hi:names[i]?=some x)(hx:cs.names.lookup x=some .cell)(hk:cs.kind=.function)(hcl:(cl.lookup x).isSome=true): Sto prog w (Zbu dp un gd cn cs L a ccd cl outer h₀ hu names) x i:=by
 intro W ρ H fr s Q E v y r vy q
 obtain⟨m,c,led,r⟩:=r
 obtain⟨d,hd⟩:=Option.isSome_iff_exists.mp hcl
 obtain⟨o,v₀,ho,hv₀⟩:=r.own.all x d hd
 have inl:=r.clIn _ ho
 have N2:News h₀ L s.heap ((d,o)::led.filter (fun q=>decide (q.1≠d))):=by
  intro q hq
  rcases Zz7.mp hq with e | hq
  ·subst e
   exact r.N _ inl
  ·exact r.N q (List.mem_filter.mp hq).1
 refine storeX_C r.F N2 hd (UpdF.head fun q hq=>by simpa using (List.mem_filter.mp hq).2) hv₀ (fun h' o' F' N' ho'=>?_) hk hx
 have keep:∀q∈led,q.1≠d→q∈(d,o')::led.filter (fun q=>decide (q.1≠d)):=fun q hq hn=>List.mem_cons_of_mem _ (List.mem_filter.mpr ⟨hq,by simpa using hn⟩)
 refine q h' s.toks ⟨m,(d,o')::c.filter (fun q=>decide (q.1≠d)),_,⟨F',N',⟨r.R.len,r.R.nd,fun j vs e=>?_,fun q hq=>ZdQ (r.R.tups q hq) fun z=>keep q z (r.clTup _ ho q hq).symm,r.R.kind⟩,r.sc,r.sc0,fun q hq=>keep q (r.frIn q hq) (r.apart _ ho q hq).symm,r.frOff,fun q hq=>?_,fun q hq=>?_,fun q hq t ht=>?_,r.frTup,fun q hq t ht=>?_,⟨fun j z u hj hz hu=>?_,fun j z u hj hz hu=>?_,fun z e hz=>?_,r.own.one⟩⟩⟩
 ·obtain⟨l,b,xs,k,h1,h2,h3⟩:=r.R.lists j vs e
  exact⟨l,b,xs,k,h1,ZdQ h2 fun z=>keep _ z fun e=>r.clOff _ ho (e▸List.mem_of_getElem? h1),h3⟩
 ·rcases Zz7.mp hq with e | hq
  ·exact e▸List.mem_cons_self
  ·obtain⟨h1,h2⟩:=List.mem_filter.mp hq
   exact keep q (r.clIn q h1) (by simpa using h2)
 ·rcases Zz7.mp hq with e | hq
  ·rw[e]
   exact(r.clOff _ ho:d∉W.pi)
  ·exact r.clOff q (List.mem_filter.mp hq).1
 ·rcases Zz7.mp hq with e | hq
  ·rw[e]
   exact(r.apart _ ho t ht:d≠t.1)
  ·exact r.apart q (List.mem_filter.mp hq).1 t ht
 ·rcases Zz7.mp hq with e | hq
  ·rw[e]
   exact(r.clTup _ ho t ht:d≠t.1)
  ·exact r.clTup q (List.mem_filter.mp hq).1 t ht
 ·by_cases e:j=i
  ·subst e
   rw[hi]at hj
   cases hj
   rw[hx]at hz
   cases hz
  ·simp only[upd,if_neg e]at hu
   exact r.own.loc j z u hj hz hu
 ·by_cases e:j=i
  ·subst e
   rw[hi]at hj
   cases hj
   simp only[upd,if_true]at hu
   cases hu
   exact⟨d,o',y,hd,List.mem_cons_self,ho',vy⟩
  ·have hzx:z≠x:=fun e'=>by
    subst e'
    exact e ((List.getElem?_inj (Zz6.mp hj).1 nd).mp (hj.trans hi.symm))
   simp only[upd,if_neg e]at hu
   obtain⟨b,ob,y',h1,h2,h3,h4⟩:=r.own.cel j z u hj hz hu
   have:b≠d:=fun e'=>by
    subst e'
    exact hzx (r.own.one z x b h1 hd)
   exact⟨b,ob,y',h1,List.mem_cons_of_mem _ (List.mem_filter.mpr ⟨h2,by simpa using this⟩),h3,h4⟩
 ·by_cases e':e=d
  ·subst e'
   exact⟨o',_,List.mem_cons_self,ho'⟩
  ·obtain⟨ob,v1,h1,h2⟩:=r.own.all z e hz
   exact⟨ob,v1,List.mem_cons_of_mem _ (List.mem_filter.mpr ⟨h1,by simpa using e'⟩),h2⟩
end
end PM
end
section
namespace PM
open PySem PySem.W PySem.Calls PyProof.Rows PyProof PyProof.Rows.LCg
theorem ZgN{Γ:Cx}{W:Wd}{ρ:Lc}{H:Hp}{fr:List (Addr×Obj)}{h:Heap}{D:Addr}{ys:List Value}{k:Nat}{vs:List V}(r:Rep Γ W ρ H ((D,ZbD ys k)::fr) h)(ap:∀t∈fr,D≠t.1)(hv:VRs W vs ys)(hl:vs.length≤LEN):
  ∃W',W.Le W'∧Rep Γ W' ρ (H++[vs]) fr h∧VR W' (.ref H.length) (.ref D):=by
 obtain⟨m,c,led,r⟩:=r
 have le:W.Le ⟨W.pi++[D],W.tups,W.sc⟩:=⟨List.prefix_append _ _,fun q hq=>hq,rfl⟩
 have h0:0<W.pi.length:=(Zz6.mp r.sc0).1
 have at_n:(W.pi++[D])[H.length]?=some D:=by rw[←r.R.len];simp
 have off:=r.frOff _ Zz5
 refine⟨⟨W.pi++[D],W.tups,W.sc⟩,le,⟨m,c,led,⟨r.F,r.N,⟨by simp[r.R.len],?_,fun i us e=>?_,r.R.tups,r.R.kind⟩,r.sc,(List.getElem?_append_left h0).trans r.sc0,fun q hq=>r.frIn q (Zz2 _ hq),fun q hq=>?_,r.clIn,fun q hq=>?_,fun q hq t ht=>r.apart q hq t (Zz2 _ ht),fun q hq=>r.frTup q (Zz2 _ hq),r.clTup,Γ.mono le r.own⟩⟩,.ref at_n⟩
 ·show(W.pi++[D]).Nodup
  rw[List.nodup_append]
  refine⟨r.R.nd,by simp,fun a ha b hb=>?_⟩
  rw[List.mem_singleton.mp hb]
  exact fun e=>off (e▸ha)
 ·by_cases hi:i<H.length
  ·rw[List.getElem?_append_left hi]at e
   obtain⟨l,a,zs,j,h1,h2,h3⟩:=r.R.lists i us e
   exact⟨l,a,zs,j,le.at h1,h2,h3.mono le⟩
  ·have:i=H.length:=by
    have:=(Zz6.mp e).1
    simp at this
    omega
   subst this
   simp at e
   subst e
   exact⟨hl,D,ys,k,at_n,List.mem_cons_of_mem _ (r.frIn _ Zz5),hv.mono le⟩
 ·intro hm
  rcases Zz8.mp hm with hm | hm
  ·exact r.frOff q (Zz2 _ hq) hm
  ·exact ap q hq (Zz9.mp hm).symm
 ·intro hm
  rcases Zz8.mp hm with hm | hm
  ·exact r.clOff q hq hm
  ·exact r.apart q hq _ Zz5 (Zz9.mp hm)
def Zyi(Γ:Cx)(C:Addr)(ts:List (Str×Nat))(ρ0:Lc)(W:Wd)(ρ:Lc)(m:Str→Option Value)(cells:List (Addr×Obj)): Prop:=
 ∃oC m₂ cs,cells=(C,oC)::cs∧(∀q∈cs,q.1≠C)∧NsObj oC m₂∧(∀p∈ts,∃v y,ρ p.2=some v∧m₂ p.1=some y∧VR W v y)∧(∀j,(∀p∈ts,p.2≠j)→ρ j=ρ0 j)∧Γ.Own W ρ0 m cs
noncomputable def Za9(Γ:Cx)(scope:Scope)(cl:List (Str×Addr))(C:Addr)(ts:List (Str×Nat))(ρ0:Lc): Cx where
 A:=Γ.A
 env:=compEnvC scope cl C Γ.env
 h₀:=Γ.h₀
 L:=Γ.L
 hh:=Γ.hh
 hu:=Γ.hu
 Own:=Zyi Γ C ts ρ0
 mono:=fun l h=>by
  obtain⟨oC,m₂,cs,e,h0,h1,h2,h3,h4⟩:=h
  exact⟨oC,m₂,cs,e,h0,h1,fun p hp=>by
   obtain⟨v,y,a,b,c⟩:=h2 p hp
   exact⟨v,y,a,b,c.mono l⟩,h3,Γ.mono l h4⟩
section
variable {Γ:Cx} {scope:Scope} {cl:List (Str×Addr)} {C:Addr} {ts:List (Str×Nat)} {ρ0:Lc} {W:Wd} {ρ:Lc} {H:Hp} {fr:List (Addr×Obj)} {h:Heap}
theorem ZpV{oC:Obj}{m₂:Str→Option Value}(r:Rep Γ W ρ0 H ((C,oC)::fr) h)(ap:∀t∈fr,C≠t.1)(hC:NsObj oC m₂)(ht:∀p∈ts,∃v y,ρ p.2=some v∧m₂ p.1=some y∧VR W v y)(hj:∀j,(∀p∈ts,p.2≠j)→ρ j=ρ0 j): Rep (Za9 Γ scope cl C ts ρ0) W ρ H fr h:=by
 obtain⟨m,c,led,r⟩:=r
 refine⟨m,(C,oC)::c,led,⟨r.F,r.N,r.R,r.sc,r.sc0,fun q hq=>r.frIn q (Zz2 _ hq),fun q hq=>r.frOff q (Zz2 _ hq),fun q hq=>?_,fun q hq=>?_,fun q hq t ht=>?_,fun q hq=>r.frTup q (Zz2 _ hq),fun q hq t ht=>?_,⟨oC,m₂,c,rfl,fun q hq=>r.apart q hq _ Zz5,hC,ht,hj,r.own⟩⟩⟩
 ·rcases Zz7.mp hq with e | hq
  ·exact e▸r.frIn _ Zz5
  ·exact r.clIn q hq
 ·rcases Zz7.mp hq with e | hq
  ·exact e▸r.frOff _ Zz5
  ·exact r.clOff q hq
 ·rcases Zz7.mp hq with e | hq
  ·exact e▸ap t ht
  ·exact r.apart q hq t (Zz2 _ ht)
 ·rcases Zz7.mp hq with e | hq
  ·exact e▸r.frTup _ Zz5 t ht
  ·exact r.clTup q hq t ht
theorem Rep.fromC(r:Rep (Za9 Γ scope cl C ts ρ0) W ρ H fr h): ∃oC m₂,NsObj oC m₂∧Rep Γ W ρ0 H ((C,oC)::fr) h:=by
 obtain⟨m,c,led,r⟩:=r
 obtain⟨oC,m₂,cs,e,h0,h1,h2,h3,h4⟩:=r.own
 subst e
 refine⟨oC,m₂,h1,m,cs,led,⟨r.F,r.N,r.R,r.sc,r.sc0,fun q hq=>?_,fun q hq=>?_,fun q hq=>r.clIn q (Zz2 _ hq),fun q hq=>r.clOff q (Zz2 _ hq),fun q hq t ht=>?_,fun q hq t ht=>?_,fun q hq=>r.clTup q (Zz2 _ hq),h4⟩⟩
 ·rcases Zz7.mp hq with e | hq
  ·exact e▸r.clIn _ Zz5
  ·exact r.frIn q hq
 ·rcases Zz7.mp hq with e | hq
  ·exact e▸r.clOff _ Zz5
  ·exact r.frOff q hq
 ·rcases Zz7.mp ht with e | ht
  ·rw[e]
   exact h0 q hq
  ·exact r.apart q (Zz2 _ hq) t ht
 ·rcases Zz7.mp hq with e | hq
  ·exact e▸r.clTup _ Zz5 t ht
  ·exact r.frTup q hq t ht
end
def JF(prog:Program)(w:World)(Γ:Cx)(ifs:List Expr)(f:Ts): Prop:=∀(W:Wd) (ρ:Lc) (H:Hp) (fr:List (Addr×Obj)) (s:Shared) (Q:Bool→Shared→Prop) (E:Value→Shared→Prop) (b:Bool) (H':Hp),
 Rep Γ W ρ H fr s.heap→f ρ H=some (b,H')→Zjr Γ W ρ H' fr s Q b →
 wpAny (model prog w) Γ.A (forIn ifs true fun c r=>if r=true then do let ok ←isTrue c Γ.env (eval c Γ.env);pure (ForInStep.yield ok)else pure (ForInStep.yield r)) Q E s
section
variable {prog:Program} {w:World} {Γ:Cx}
theorem JF.nil: JF prog w Γ [] Zbo:=fun W ρ H fr s Q E b H' r hf post=>by
 cases hf
 exact wpAny_pure (post W s.heap s.toks (.refl W) r)
theorem JF.one{e:Expr}{t:Ts}(h:JT prog w Γ e t): JF prog w Γ [e] t:=fun W ρ H fr s Q E b H' r hf post=>by
 rw[List.forIn_cons]
 simp only[if_true,List.forIn_nil]
 refine wpAny_bind (wpAny_bind (h W ρ H fr s _ E b H' r hf fun W1 k1 t1 l1 r1=>wpAny_pure ?_))
 exact wpAny_pure (post W1 k1 t1 l1 r1)
end
end PM
end
section
namespace PM
open PySem PySem.W PySem.Calls PyProof.Rows PyProof PyProof.Rows.LCg
noncomputable def Zcv(nx:Nx)(put:V→Lc→Option Lc)(c:Ts)(f:Ex)(ρ:Lc): Nat→Nat→List V→Hp→Option (List V×Hp)
 | 0,_,_,_=>none
 | n+1,i,acc,H=>(nx i H).bind fun o=>match o with
  | none=>some (acc,H)
  | some v=>(put v ρ).bind fun ρ1=>(c ρ1 H).bind fun b=>if b.1 then(f ρ1 b.2).bind fun p=>(if acc.length<LEN then Zcv nx put c f ρ n (i+1) (acc++[p.1]) p.2 else none)else Zcv nx put c f ρ n (i+1) acc b.2
noncomputable def Zbm(g:Src)(put:V→Lc→Option Lc)(c:Ts)(f:Ex): Ex:=fun ρ H=>(g ρ H).bind fun z=>(Zcv z.1 put c f ρ z.2.1 0 [] z.2.2).map fun q=>(.ref q.2.length,q.2++[q.1])
def ZhK(Γ:Cx)(W0:Wd)(ρ:Lc)(fr:List (Addr×Obj))(C D:Addr)(It:Nat→List (Addr×Obj)→Prop)(nx:Nx)(put:V→Lc→Option Lc)(c:Ts)(f:Ex)(q:List V×Hp)(s:Shared)(k:Nat)(s':Shared): Prop:=
 ∃W' H' h' tk' j fs acc ys oC m₂,s' = { s with heap:=h',toks:=tk' }∧W0.Le W'∧It j fs∧NsObj oC m₂∧VRs W' acc ys∧acc.length≤LEN∧Rep Γ W' ρ H' ((C,oC)::(D,lst ys)::(fs++fr)) h'∧Zcv nx put c f ρ k j acc H'=some q
section
variable {prog:Program} {w:World} {Γ:Cx}
theorem ZoS{scope:Scope}{cl:List (Str×Addr)}{elt:Expr}{ts:List (Str×Nat)}{W0 W:Wd}{ρ ρ1:Lc}{H:Hp}{fr fs:List (Addr×Obj)}{C D:Addr}{It:Nat→List (Addr×Obj)→Prop}{nx:Nx}{put:V→Lc→Option Lc}{c:Ts}{f:Ex}{q:List V×Hp}{s:Shared}{h:Heap}{tk:Nat}{k j:Nat}{acc:List V}{ys:List Value}{E:Value→Shared→Prop}
  (hel:J prog w (Za9 Γ scope cl C ts ρ) elt f) (aD:∀t∈fs++fr,D≠t.1) (cd:C≠D) (l0:W0.Le W) (hit:It (j+1) fs) (hv:VRs W acc ys) (r:Rep (Za9 Γ scope cl C ts ρ) W ρ1 H ((D,lst ys)::(fs++fr)) h)
  (e:((f ρ1 H).bind fun p=>(if acc.length<LEN then Zcv nx put c f ρ k (j+1) (acc++[p.1]) p.2 else none))=some q):
  wpAny (model prog w) Γ.A (eval elt (compEnvC scope cl C Γ.env)) (fun x s₄=>wpAny (model prog w) Γ.A (call (.builtin "list.append") [.ref D,x]) (fun _ s₅=>∃m,m<k+1∧ZhK Γ W0 ρ fr C D It nx put c f q s m s₅) E s₄) E { s with heap:=h,toks:=tk }:=by
 obtain⟨p,e2,e⟩:=Zz0.mp e
 by_cases hlt:acc.length<LEN
 ·rw[if_pos hlt]at e
  refine hel W ρ1 H _ _ _ E _ _ r e2 fun W2 k2 t2 x l2 r2 x2=>?_
  obtain⟨oC',m₃,hC',r3⟩:=r2.fromC
  have hD:k2.get? D=some (lst ys):=r3.frAt (q:=(D,lst ys)) (Zz2 _ Zz5)
  refine append_at (hsz:=Zcz (by rw[List.size_toArray,hv.length];omega)) hD fun h' sb hg=>?_
  have hg':h'.get? D=some (lst (ys++[x])):=hg.trans (congrArg some (lst_snoc ys x))
  have r4:Rep Γ W2 ρ p.2 ([(D,lst ys)]++((C,oC')::(fs++fr))) k2:=r3.less fun q hq=>by
   rcases Zz8.mp hq with hq | hq
   ·rw[List.mem_singleton.mp hq]
    exact Zz2 _ Zz5
   ·rcases Zz7.mp hq with e | hq
    ·exact e▸List.mem_cons_self
    ·exact Zz2 _ (Zz2 _ hq)
  have r5:Rep Γ W2 ρ p.2 ([(D,lst (ys++[x]))]++((C,oC')::(fs++fr))) h':=by
   refine r4.swap (fun q hq t ht=>?_) (fun b o hb e=>sb.extBut b o (fun z=>hb (by simp[z])) e) fun q hq=>?_
   ·rw[List.mem_singleton.mp hq]
    rcases Zz7.mp ht with e | ht
    ·rw[e]
     exact cd.symm
    ·exact aD t ht
   ·rw[List.mem_singleton.mp hq]
    exact⟨hg',by simp⟩
  have r6:Rep Γ W2 ρ p.2 ((C,oC')::(D,lst (ys++[x]))::(fs++fr)) h':=r5.less fun q hq=>by
   rcases Zz7.mp hq with e | hq
   ·exact e▸List.mem_append_right _ Zz5
   ·rcases Zz7.mp hq with e | hq
    ·exact e▸List.mem_append_left _ Zz5
    ·exact Zz3 _ (Zz2 _ hq)
  exact⟨k,Nat.lt_succ_self k,W2,p.2,h',t2,j+1,fs,acc++[p.1],ys++[x],oC',m₃,rfl,l0.trans l2,hit,hC',(hv.mono l2).snoc x2,by simp;omega,r6,e⟩
 ·rw[if_neg hlt]at e
  cases e
theorem ZuI{scope:Scope}{cl:List (Str×Addr)}{elt:Expr}{ifs:List Expr}{ts:List (Str×Nat)}{W0 W:Wd}{ρ ρ1:Lc}{H:Hp}{fr fs:List (Addr×Obj)}{C D:Addr}{It:Nat→List (Addr×Obj)→Prop}{nx:Nx}{put:V→Lc→Option Lc}{c:Ts}{f:Ex}{q:List V×Hp}{s s1:Shared}{k j:Nat}{acc:List V}{ys:List Value}{oC:Obj}{m₂:Str→Option Value}{E:Value→Shared→Prop}
  (hel:J prog w (Za9 Γ scope cl C ts ρ) elt f) (hif:JF prog w (Za9 Γ scope cl C ts ρ) ifs c) (hs:∃h tk,s1 = { s with heap:=h,toks:=tk })
  (aC:∀t∈(D,lst ys)::(fs++fr),C≠t.1) (aD:∀t∈fs++fr,D≠t.1) (l0:W0.Le W) (hit:It (j+1) fs) (hC:NsObj oC m₂) (hv:VRs W acc ys) (hl:acc.length≤LEN) (r:Rep Γ W ρ H ((C,oC)::(D,lst ys)::(fs++fr)) s1.heap)
  (ht:∀p∈ts,∃v y,ρ1 p.2=some v∧m₂ p.1=some y∧VR W v y) (hj:∀i,(∀p∈ts,p.2≠i)→ρ1 i=ρ i)
  (e:((c ρ1 H).bind fun b=>if b.1 then(f ρ1 b.2).bind fun p=>(if acc.length<LEN then Zcv nx put c f ρ k (j+1) (acc++[p.1]) p.2 else none)else Zcv nx put c f ρ k (j+1) acc b.2)=some q):
  wpAny (model prog w) Γ.A (forIn ifs true fun c r=>if r=true then do let ok ←isTrue c (compEnvC scope cl C Γ.env) (eval c (compEnvC scope cl C Γ.env));pure (ForInStep.yield ok)else pure (ForInStep.yield r)) (fun ok s₃=>
   if ok=true then wpAny (model prog w) Γ.A (eval elt (compEnvC scope cl C Γ.env)) (fun x s₄=>wpAny (model prog w) Γ.A (call (.builtin "list.append") [.ref D,x]) (fun _ s₅=>∃m,m<k+1∧ZhK Γ W0 ρ fr C D It nx put c f q s m s₅) E s₄) E s₃
   else ∃m,m<k+1∧ZhK Γ W0 ρ fr C D It nx put c f q s m s₃) E s1:=by
 obtain⟨h,tk,rfl⟩:=hs
 obtain⟨b,e1,e⟩:=Zz0.mp e
 obtain⟨b,H1⟩:=b
 have rc:=ZpV (scope:=scope) (cl:=cl) r aC hC ht hj
 refine hif W ρ1 H _ _ _ E b H1 rc e1 fun W1 k1 t1 l1 r1=>?_
 cases b with
 | false=>
  obtain⟨oC',m₃,hC',r2⟩:=r1.fromC
  exact⟨k,Nat.lt_succ_self k,W1,H1,k1,t1,j+1,fs,acc,ys,oC',m₃,rfl,l0.trans l1,hit,hC',hv.mono l1,hl,r2,e⟩
 | true=>exact ZoS hel aD (aC (D,lst ys) Zz5) (l0.trans l1) hit (hv.mono l1) r1 e
theorem comp_core{elt iter:Expr}{x:Str}{px:Pos}{ifs:List Expr}{scope:Scope}{pos:Pos}{cl:List (Str×Addr)}{t:Nat}{g:Src}{c:Ts}{f:Ex}(hg:JI prog w Γ iter g)(hel:∀C ρ,J prog w (Za9 Γ scope cl C [(x,t)] ρ) elt f)(hif:∀C ρ,JF prog w (Za9 Γ scope cl C [(x,t)] ρ) ifs c)
  (hcell:∀y∈scope.names,y.2≠.cell) (hkind:scope.kind=.function) (hx:scope.names.lookup x=some .local)
  {W:Wd} {ρ:Lc} {H:Hp} {fr:List (Addr×Obj)} {s:Shared} {E:Value→Shared→Prop} {q:List V×Hp} {RR:Value→Addr→Result→Shared→Prop} (r:Rep Γ W ρ H fr s.heap) (hf:((g ρ H).bind fun z=>Zcv z.1 (put1 t) c f ρ z.2.1 0 [] z.2.2)=some q)
  (hR:∀(W':Wd) (h':Heap) (tk':Nat) (C D:Addr) (oC:Obj) (m₂:Str→Option Value) (ys:List Value),W.Le W'→NsObj oC m₂→VRs W' q.1 ys→q.1.length≤LEN→(∀t∈fr,D≠t.1)→(∀t∈fr,C≠t.1)→C≠D→Rep Γ W' ρ q.2 ((C,oC)::(D,lst ys)::fr) h'→RR (.ref D) C (.ok .next) { s with heap:=h',toks:=tk' }):
  wpAny (model prog w) Γ.A (eval iter Γ.env) (fun xv s₁=>wpAny (model prog w) Γ.A (pyIter xv) (fun it s₂=>wpAny (model prog w) Γ.A (newList []) (fun acc s₃=>wpAny (model prog w) Γ.A (newFunctionEnv scope Γ.env.globals cl [] Γ.env.qual none .none (some Γ.env)) (fun cenv s₄=>
   codeAny (model prog w) Γ.A (.compStart (.ListComp elt [⟨.Name x px,iter,ifs,0⟩] scope pos) 0 it acc { cenv with scope:=relabel scope Γ.env }) (RR acc cenv.locals) s₄) E s₃) E s₂) E s₁) E s:=by
 obtain⟨z,e1,e2⟩:=Zz0.mp hf
 obtain⟨nx,n,H0⟩:=z
 refine hg W ρ H fr s _ E nx n H0 r e1 fun W1 k1 t1 itv as It fs l1 i1 r1 ap I1=>?_
 refine wpAny_newObj_type (wpAny_newFunctionEnv hcell (fun y hy=>by simp at hy) (fun h₂ hns hsb=>?_) hkind)
 dsimp only at hns hsb ⊢
 obtain⟨rD,aD⟩:=r1.more (fs:=[(k1.objs.size,lst [])]) (fun b o e=>Heap.get?_push_of_some (lst []) e) (fun q hq=>by rw[List.mem_singleton.mp hq];exact⟨Heap.get?_push_size _ rfl,Nat.le_refl _⟩)
 generalize eH:k1.push { cls:=.type "list",dict:=none,data:=.seq ([]:List Value).toArray } = K at hns hsb ⊢
 have eK:k1.push (lst [])=K:=eH
 rw[eK]at rD
 obtain⟨oC,gC,nC⟩:=ns_obj hns
 have up:∀b o,K.get? b=some o→h₂.get? b=some o:=fun b o e=>hsb.extBut b o (Nat.ne_of_lt (Heap.lt_size e)) (Heap.get?_push_of_some _ e)
 obtain⟨rC,aC⟩:=rD.more (fs:=[(K.objs.size,oC)]) up (fun q hq=>by rw[List.mem_singleton.mp hq];exact⟨gC,Nat.le_refl _⟩)
 have adr0:=I1.adr 0 fs i1
 have offs:∀b∈as,b≠k1.objs.size∧b≠K.objs.size:=fun b hb=>by
  rw[←adr0]at hb
  obtain⟨q,hq,e⟩:=Zz11.mp hb
  exact⟨e▸(aD _ Zz5 q (Zz4 _ hq)).symm,e▸(aC _ Zz5 q (Zz3 _ (Zz4 _ hq))).symm⟩
 have cd:K.objs.size≠k1.objs.size:=aC _ Zz5 (k1.objs.size,lst []) (Zz4 _ Zz5)
 have cfr:∀t∈fr,K.objs.size≠t.1:=fun t ht=>aC _ Zz5 t (Zz3 _ (Zz3 _ ht))
 have dfr:∀t∈fr,k1.objs.size≠t.1:=fun t ht=>aD _ Zz5 t (Zz3 _ ht)
 generalize k1.objs.size=D at *
 generalize K.objs.size=C at *
 have loop:∀s₃:Shared,s₃ = { s with heap:=h₂,toks:=t1+([]:List (Str×Value)).length } →
   codeAny (model prog w) Γ.A (.compLoop (.ListComp elt [⟨.Name x px,iter,ifs,0⟩] scope pos) 0 itv (.ref D) (compEnvC scope cl C Γ.env)) (RR (.ref D) C) s₃:=by
  intro s₃ hs₃
  subst hs₃
  refine codeAny_compLoop_tests (ZhK Γ W1 ρ fr C D It nx (put1 t) c f q s) ?_ n ⟨W1,H0,h₂,_,0,fs,[],[],oC,_,rfl,.refl _,i1,nC,.nil,Nat.zero_le _,rC,e2⟩
  rintro k s' ⟨W2,H2,k2,t2,j,fs2,acc,ys,oC2,m₂,rfl,l2,i2,hC2,hv2,hl2,r2,e⟩
  cases k with
  | zero=>cases e
  | succ k=>
   obtain⟨o,e4,e⟩:=Zz0.mp e
   have r2':Rep Γ W2 ρ H2 (fs2++((C,oC2)::(D,lst ys)::fr)) k2:=r2.less fun q hq=>by
    rcases Zz8.mp hq with hq | hq
    ·exact Zz2 _ (Zz2 _ (Zz4 _ hq))
    ·rcases Zz7.mp hq with e | hq
     ·exact e▸List.mem_cons_self
     ·rcases Zz7.mp hq with e | hq
      ·exact e▸List.mem_cons_of_mem _ Zz5
      ·exact Zz2 _ (Zz2 _ (Zz3 _ hq))
   have ap2:∀b∈as,∀t∈(C,oC2)::(D,lst ys)::fr,b≠t.1:=fun b hb t ht=>by
    rcases Zz7.mp ht with e | ht
    ·rw[e]
     exact(offs b hb).2
    ·rcases Zz7.mp ht with e | ht
     ·rw[e]
      exact(offs b hb).1
     ·exact ap b hb t ht
   refine I1.next j W2 ρ H2 _ fs2 _ _ _ o l2 r2' ap2 i2 e4 ?_
   cases o with
   | none=>
    cases e
    intro h' tk' r3
    exact hR W2 h' tk' C D oC2 m₂ ys (l1.trans l2) hC2 hv2 hl2 dfr cfr cd r3
   | some v=>
    intro fs3 k3 t3 y i3 r3 y3
    obtain⟨ρ3,e5,e⟩:=Zz0.mp e
    cases e5
    have a3:∀t∈fs3,t.1∈as:=fun t ht=>by
     rw[←I1.adr _ _ i3]
     exact List.mem_map_of_mem ht
    have gC3:k3.get? C=some oC2:=r3.frAt (q:=(C,oC2)) (Zz3 _ Zz5)
    have nC3:k3.Ns C m₂:=hC2.ns gC3
    refine wpAny_assign_Name (wpAny_storeName_local (lookup_relabel_local hx) nC3 (fun h4 hn4 sb4=>?_) (by simp[compEnvC,relabel,hkind]))
    obtain⟨oC4,gC4,nC4⟩:=ns_obj hn4
    have r3':Rep Γ W2 ρ H2 ([(C,oC2)]++((D,lst ys)::(fs3++fr))) k3:=r3.less fun q hq=>by
     rcases Zz8.mp hq with hq | hq
     ·rw[List.mem_singleton.mp hq]
      exact Zz3 _ Zz5
     ·rcases Zz7.mp hq with e | hq
      ·exact e▸List.mem_append_right _ (Zz2 _ Zz5)
      ·rcases Zz8.mp hq with hq | hq
       ·exact Zz4 _ hq
       ·exact Zz3 _ (Zz2 _ (Zz2 _ hq))
    have aC3:∀t∈(D,lst ys)::(fs3++fr),C≠t.1:=fun t ht=>by
     rcases Zz7.mp ht with e | ht
     ·rw[e]
      exact cd
     ·rcases Zz8.mp ht with ht | ht
      ·exact(offs _ (a3 t ht)).2.symm
      ·exact cfr t ht
    have aD3:∀t∈fs3++fr,D≠t.1:=fun t ht=>by
     rcases Zz8.mp ht with ht | ht
     ·exact(offs _ (a3 t ht)).1.symm
     ·exact dfr t ht
    have r4:Rep Γ W2 ρ H2 ([(C,oC4)]++((D,lst ys)::(fs3++fr))) h4:=by
     refine r3'.swap (fun q hq t ht=>?_) (fun b o hb e=>sb4.extBut b o (fun z=>hb (by simp[z,compEnvC])) e) fun q hq=>?_
     ·rw[List.mem_singleton.mp hq]
      exact aC3 t ht
     ·rw[List.mem_singleton.mp hq]
      exact⟨gC4,by simp⟩
    refine ZuI (hel C ρ) (hif C ρ) ⟨h4,_,rfl⟩ aC3 aD3 l2 i3 nC4 hv2 hl2 r4 (fun p hp=>?_) (fun i hi=>?_) e
    ·rw[List.mem_singleton.mp hp]
     exact⟨v,y,by simp[upd],by simp,y3⟩
    ·have:i≠t:=fun e=>hi (x,t) Zz5 e.symm
     simp[upd,this]
 refine codeAny_compStart_list (loop _ rfl) ?_
 exact I1.self 0 W1 ρ H0 (([(C,oC)]++[(D,lst [])])++fr) fs _ _ _ (.refl _) (rC.less fun q hq=>by
  rcases Zz8.mp hq with hq | hq
  ·exact Zz3 _ (Zz3 _ (Zz4 _ hq))
  ·rcases Zz8.mp hq with hq | hq
   ·rcases Zz8.mp hq with hq | hq
    ·exact Zz4 _ hq
    ·exact Zz3 _ (Zz4 _ hq)
   ·exact Zz3 _ (Zz3 _ (Zz3 _ hq))) i1 (loop _ rfl)
theorem Zpi{W:Wd}{ρ:Lc}{q:List V×Hp}{fr:List (Addr×Obj)}{C D:Addr}{oC:Obj}{ys:List Value}{h' h'':Heap}(hv:VRs W q.1 ys)(hl:q.1.length≤LEN)(aD:∀t∈fr,D≠t.1)(aC:∀t∈fr,C≠t.1)(cd:C≠D)(r:Rep Γ W ρ q.2 ((C,oC)::(D,lst ys)::fr) h')(sb:Heap.SameBut C h' h''):
  ∃W',W.Le W'∧Rep Γ W' ρ (q.2++[q.1]) fr h''∧VR W' (.ref q.2.length) (.ref D):=by
 have r4:Rep Γ W ρ q.2 ([]++((D,lst ys)::fr)) h'':=by
  refine Rep.swap (fs:=[(C,oC)]) (fs':=[]) r (fun q hq t ht=>?_) (fun b o hb e=>sb.extBut b o (fun z=>hb (by simp[z])) e) fun q hq=>nomatch hq
  rw[List.mem_singleton.mp hq]
  rcases Zz7.mp ht with e | ht
  ·rw[e]
   exact cd
  ·exact aC t ht
 exact ZgN r4 aD hv hl
theorem ZwS{elt iter:Expr}{x:Str}{px:Pos}{ifs:List Expr}{scope:Scope}{pos:Pos}{cl:List (Str×Addr)}{t:Nat}{g:Src}{c:Ts}{f:Ex}(hg:JI prog w Γ iter g)(hel:∀C ρ,J prog w (Za9 Γ scope cl C [(x,t)] ρ) elt f)(hif:∀C ρ,JF prog w (Za9 Γ scope cl C [(x,t)] ρ) ifs c)
  (hclos:closureFor scope Γ.env=pure cl) (hcell:∀y∈scope.names,y.2≠.cell) (hkind:scope.kind=.function) (hnames:∀y∈scope.names,y.2=.local→scope.names.lookup y.1=some .local) (hx:scope.names.lookup x=some .local) (hs:∀x,foldedSetIterable iter Γ.env x=pure x:=by intro _;rfl):
  J prog w Γ (.ListComp elt [⟨.Name x px,iter,ifs,0⟩] scope pos) (Zbm g (put1 t) c f):=by
 intro W ρ H fr s Q E v H' r hf post
 obtain⟨z,e1,hf⟩:=Zz0.mp hf
 obtain⟨q,e2,e3⟩:=Zz1.mp hf
 cases e3
 rw[eval_ListComp]
 refine wpAny_comprehension_free (use:=Option.none) rfl hs hclos hkind hnames ?_
 refine comp_core (RR:=fun acc C=>compPost (model prog w) Γ.A E Option.none Q acc C) hg hel hif hcell hkind hx r (q:=q) (by rw[e1];exact e2) fun W2 h' tk' C D oC m₂ ys l2 hC hv hl aD aC cd r3=>?_
 refine⟨m₂,hC.ns (r3.frAt (q:=(C,oC)) Zz5),fun h'' sb=>?_⟩
 obtain⟨W5,l5,r5,v5⟩:=Zpi hv hl aD aC cd r3 sb
 exact post W5 h'' tk' _ (l2.trans l5) r5 v5
theorem Ztq{elt iter:Expr}{x y:Str}{px py pos spos:Pos}{ifs:List Expr}{scope:Scope}{cl:List (Str×Addr)}{t i:Nat}{g:Src}{c:Ts}{f:Ex}(hy:Sto prog w Γ y i)(hg:JI prog w Γ iter g)(hel:∀C ρ,J prog w (Za9 Γ scope cl C [(x,t)] ρ) elt f)(hif:∀C ρ,JF prog w (Za9 Γ scope cl C [(x,t)] ρ) ifs c)
  (hsw:swapsWith (.ListComp elt [⟨.Name x px,iter,ifs,0⟩] scope pos) (some (.Name y py)) spos.line Γ.env=pure true)
  (hclos:closureFor scope Γ.env=pure cl) (hcell:∀y∈scope.names,y.2≠.cell) (hkind:scope.kind=.function) (hnames:∀y∈scope.names,y.2=.local→scope.names.lookup y.1=some .local) (hx:scope.names.lookup x=some .local) (hs:∀x,foldedSetIterable iter Γ.env x=pure x:=by intro _;rfl):
  S1 prog w Γ (.Assign [.Name y py] (.ListComp elt [⟨.Name x px,iter,ifs,0⟩] scope pos) spos) (ZaI i (Zbm g (put1 t) c f)):=by
 intro W ρ H fr s Q E r rp hf post
 obtain⟨p,e0,e9⟩:=Zz1.mp hf
 cases e9
 obtain⟨z,e1,hf⟩:=Zz0.mp e0
 obtain⟨q,e2,e3⟩:=Zz1.mp hf
 cases e3
 rw[exec_Assign_Name_used _ _ _ _ hsw]
 refine wpAny_bind (wpAny_standAt (wpAny_bind ?_))
 show wpAny _ Γ.A (do let _ ←comprehension (.ListComp elt [⟨.Name x px,iter,ifs,0⟩] scope pos) scope Γ.env _ (newList []) false (eval iter Γ.env) (some (assign (.Name y py) Γ.env))) _ _ s
 refine wpAny_bind (wpAny_mono (wpAny_comprehension_free (use:=some (assign (.Name y py) Γ.env)) (Q:=fun _ s'=>Q .next s') rfl hs hclos hkind hnames ?_) (fun _ s' h'=>wpAny_pure (wpAny_pure h')) fun _ _ e=>e)
 refine comp_core (RR:=fun acc C=>compPost (model prog w) Γ.A E (some (assign (.Name y py) Γ.env)) (fun _ s'=>Q .next s') acc C) hg hel hif hcell hkind hx rp (q:=q) (by rw[e1];exact e2) fun W2 h' tk' C D oC m₂ ys l2 hC hv hl aD aC cd r3=>?_
 have r4:Rep Γ W2 ρ q.2 ((D,lst ys)::(C,oC)::fr) h':=r3.less fun t ht=>by
  rcases Zz7.mp ht with e | ht
  ·exact e▸List.mem_cons_of_mem _ Zz5
  ·rcases Zz7.mp ht with e | ht
   ·exact e▸List.mem_cons_self
   ·exact Zz2 _ (Zz2 _ ht)
 obtain⟨W5,l5,r5,v5⟩:=ZgN r4 (fun t ht=>by
  rcases Zz7.mp ht with e | ht
  ·rw[e]
   exact cd.symm
  ·exact aD t ht) hv hl
 refine wpAny_assign_Name (hy W5 ρ _ _ _ _ _ _ _ r5 v5 fun h6 t6 r6=>?_)
 refine⟨m₂,hC.ns (r6.frAt (q:=(C,oC)) Zz5),fun h'' sb=>?_⟩
 have r7:Rep Γ W5 (upd ρ i (.ref q.2.length)) (q.2++[q.1]) ([]++fr) h'':=
  Rep.swap (fs:=[(C,oC)]) (fs':=[]) r6 (fun q hq t ht=>by rw[List.mem_singleton.mp hq];exact aC t ht) (fun b o hb e=>sb.extBut b o (fun z=>hb (by simp[z])) e) fun q hq=>nomatch hq
 exact post W5 h'' t6 (l2.trans l5) r7
end
end PM
end
section
namespace PM
open PySem PySem.W PySem.Calls PyProof.Rows PyProof PyProof.Rows.LCg PyProof.Rows.LCp
theorem ZmX(h:Heap): ∀as:List Addr,(∀a∈as,∃o,h.get? a=some o)→∃fs:List (Addr×Obj),fs.map (·.1)=as∧∀q∈fs,h.get? q.1=some q.2
 | [],_=>⟨[],rfl,fun q hq=>nomatch hq⟩
 | a::as,d=>by
  obtain⟨o,ho⟩:=d a Zz5
  obtain⟨fs,h1,h2⟩:=ZmX h as fun b hb=>d b (Zz2 _ hb)
  refine⟨(a,o)::fs,by rw[List.map_cons,h1],fun q hq=>?_⟩
  rcases Zz7.mp hq with e | hq
  ·rw[e]
   exact ho
  ·exact h2 q hq
structure Itr2(prog:Program)(w:World)(Γ:Cx)(W0:Wd)(it:Value)(as:List Addr)(It:Nat→List (Addr×Obj)→Prop)(nx:Nx): Prop where
 adr:∀i fs,It i fs→fs.map (·.1)=as
 pair:∀i H v,nx i H=some (some v)→∃a b,v=.tup [a,b]
 item:∀(i:Nat) (W:Wd) (ρ:Lc) (H:Hp) (fr fs:List (Addr×Obj)) (s:Shared) (Q:Option Value→Shared→Prop) (E:Value→Shared→Prop) (a b:V),W0.Le W→Rep Γ W ρ H (fs++fr) s.heap→(∀a∈as,∀t∈fr,a≠t.1)→It i fs→nx i H=some (some (.tup [a,b])) →
  (∀(T:Addr) (h1:Heap) (t1:Nat),(∀(elts:List Expr) (k:Nat) (pos:Pos) (s1:Shared) (Q1:Unit→Shared→Prop) (E1:Value→Shared→Prop),s1 = { s with heap:=h1,toks:=t1 } →
    (∀(fs':List (Addr×Obj)) (h':Heap) (x y:Value),It (i+1) fs'→Rep Γ W ρ H (fs'++fr) h'→IsTup h' T #[x,y]→VR W a x→VR W b y→Q1 () { s with heap:=h',toks:=t1 })→wpAny (model prog w) Γ.A (letOwnedTupleGo (.Tuple elts k pos) it (.ref T)) Q1 E1 s1)→Q (some (.ref T)) { s with heap:=h1,toks:=t1 })→wpAny (model prog w) Γ.A (pyNext it) Q E s
 done:∀(i:Nat) (W:Wd) (ρ:Lc) (H:Hp) (fr fs:List (Addr×Obj)) (s:Shared) (Q:Option Value→Shared→Prop) (E:Value→Shared→Prop),W0.Le W→Rep Γ W ρ H (fs++fr) s.heap→(∀a∈as,∀t∈fr,a≠t.1)→It i fs→nx i H=some none →
  (∀(h':Heap) (tk':Nat),Rep Γ W ρ H fr h'→Q none { s with heap:=h',toks:=tk' })→wpAny (model prog w) Γ.A (pyNext it) Q E s
 self:∀(i:Nat) (W:Wd) (ρ:Lc) (H:Hp) (fr fs:List (Addr×Obj)) (s:Shared) (Q E:Value→Shared→Prop) (o:Option V),W0.Le W→Rep Γ W ρ H (fs++fr) s.heap→It i fs→nx i H=some o→Q it s→wpAny (model prog w) Γ.A (pyIter it) Q E s
def JI2(prog:Program)(w:World)(Γ:Cx)(e:Expr)(g:Src): Prop:=∀(W:Wd) (ρ:Lc) (H:Hp) (fr:List (Addr×Obj)) (s:Shared) (Q E:Value→Shared→Prop) (nx:Nx) (n:Nat) (H':Hp),
 Rep Γ W ρ H fr s.heap→g ρ H=some (nx,n,H') →
 (∀(W':Wd) (h':Heap) (tk':Nat) (it:Value) (as:List Addr) (It:Nat→List (Addr×Obj)→Prop) (fs:List (Addr×Obj)),W.Le W'→It 0 fs→Rep Γ W' ρ H' (fs++fr) h'→(∀a∈as,∀t∈fr,a≠t.1)→Itr2 prog w Γ W' it as It nx→(∃o,nx 0 H'=some o)→Q it { s with heap:=h',toks:=tk' }) →
 wpAny (model prog w) Γ.A (eval e Γ.env) (fun xv s₁=>wpAny (model prog w) Γ.A (pyIter xv) Q E s₁) E s
noncomputable def ZhC(a b:Nat): Nx:=fun i H=>H[a]?.bind fun vs=>H[b]?.bind fun us=>match vs[i]?,us[i]? with
 | some x,some y=>some (some (.tup [x,y]))
 | _,_=>if i=min vs.length us.length then some none else none
noncomputable def ZjC(f g:Ex): Src:=fun ρ H=>(f ρ H).bind fun p=>(g ρ p.2).bind fun q=>match p.1,q.1 with
 | .ref a,.ref b=>q.2[a]?.bind fun vs=>q.2[b]?.map fun us=>(ZhC a b,min vs.length us.length+1,q.2)
 | _,_=>none
noncomputable def Zda(i j:Nat): V→Lc→Option Lc
 | .tup [a,b],ρ=>some (upd (upd ρ i a) j b)
 | _,_=>none
def ZS(z TI TO i1 i2 l1 l2:Addr)(i:Nat)(h:Heap): Prop:=IsZip h z TI TO .none∧PySem.IsPair h TI (.ref i1) (.ref i2)∧(∃a b,PySem.IsPair h TO a b)∧h.IsListIter i1 l1 i∧h.IsListIter i2 l2 i
theorem ZS.at{z TI TO i1 i2 l1 l2:Addr}{i:Nat}{h h':Heap}(x:ZS z TI TO i1 i2 l1 l2 i h)(e:∀a∈[z,TI,TO,i1,i2],∀o,h.get? a=some o→h'.get? a=some o): ZS z TI TO i1 i2 l1 l2 i h':=by
 obtain⟨h1,h2,⟨a,b,h3⟩,h4,h5⟩:=x
 exact⟨e z (by simp) _ h1,e TI (by simp) _ h2,⟨a,b,e TO (by simp) _ h3⟩,h4.at fun o x=>e i1 (by simp) o x,h5.at fun o x=>e i2 (by simp) o x⟩
theorem ZS.have{z TI TO i1 i2 l1 l2:Addr}{i:Nat}{h:Heap}(x:ZS z TI TO i1 i2 l1 l2 i h): ∀a∈[z,TI,TO,i1,i2],∃o,h.get? a=some o:=by
 obtain⟨h1,h2,⟨a,b,h3⟩,⟨o4,h4,_⟩,⟨o5,h5,_⟩⟩:=x
 intro c hc
 simp only[List.mem_cons,List.not_mem_nil,or_false]at hc
 rcases hc with e | e | e | e | e <;> subst e
 ·exact⟨_,h1⟩
 ·exact⟨_,h2⟩
 ·exact⟨_,h3⟩
 ·exact⟨_,h4⟩
 ·exact⟨_,h5⟩
def ZIt(z TI TO i1 i2 l1 l2:Addr)(i:Nat)(fs:List (Addr×Obj)): Prop:=fs.map (·.1)=[z,TI,TO,i1,i2]∧∀h:Heap,(∀q∈fs,h.get? q.1=some q.2)→ZS z TI TO i1 i2 l1 l2 i h
theorem ZpW{z TI TO i1 i2 l1 l2:Addr}{i:Nat}{h:Heap}(x:ZS z TI TO i1 i2 l1 l2 i h): ∃fs,ZIt z TI TO i1 i2 l1 l2 i fs∧∀q∈fs,h.get? q.1=some q.2:=by
 obtain⟨fs,h1,h2⟩:=ZmX h [z,TI,TO,i1,i2] x.have
 refine⟨fs,⟨h1,fun h' e=>x.at fun a ha o ho=>?_⟩,h2⟩
 rw[←h1]at ha
 obtain⟨q,hq,eq⟩:=Zz11.mp ha
 have:=h2 q hq
 rw[eq,ho]at this
 cases this
 exact eq▸e q hq
section
variable {prog:Program} {w:World} {Γ:Cx}
theorem ZwT{W0:Wd}{z TI TO i1 i2 l1 l2:Addr}{a b:Nat}(ea:W0.pi[a]?=some l1)(eb:W0.pi[b]?=some l2)(D:ZipApart z TI TO i1 i2 l1 l2):
  Itr2 prog w Γ W0 (.ref z) [z,TI,TO,i1,i2] (ZIt z TI TO i1 i2 l1 l2) (ZhC a b):=by
 refine⟨fun i fs h=>h.1,?_,?_,?_,?_⟩
 ·intro i H v e
  obtain⟨vs,e1,e⟩:=Zz0.mp e
  obtain⟨us,e2,e⟩:=Zz0.mp e
  split at e
  ·cases e
   exact⟨_,_,rfl⟩
  ·split at e <;> cases e
 ·intro i W ρ H fr fs s Q E va vb le r ap hit hn post
  obtain⟨vs,e1,e⟩:=Zz0.mp hn
  obtain⟨us,e2,e⟩:=Zz0.mp e
  have hvu:vs[i]?=some va∧us[i]?=some vb:=by
   split at e
   ·rename_i x y h1 h2
    cases e
    exact⟨h1,h2⟩
   ·split at e <;> cases e
  obtain⟨_,xs,k1,g1,v1⟩:=r.at e1 (le.at ea)
  obtain⟨_,ys,k2,g2,v2⟩:=r.at e2 (le.at eb)
  obtain⟨x,hx,rx⟩:=v1.at hvu.1
  obtain⟨y,hy,ry⟩:=v2.at hvu.2
  have st:ZS z TI TO i1 i2 l1 l2 i s.heap:=hit.2 _ fun q hq=>r.frAt (Zz4 _ hq)
  have Wk:=WalksT.zip2 (prog:=prog) (w:=w) (A:=Γ.A) Γ.hh z TI TO i1 i2 l1 l2 D xs.toArray ys.toArray
  have isl1:s.heap.IsList l1 xs.toArray:=⟨_,g1,rfl,k1,rfl⟩
  have isl2:s.heap.IsList l2 ys.toArray:=⟨_,g2,rfl,k2,rfl⟩
  have hi:i<min xs.toArray.size ys.toArray.size:=by
   have h1:=(Zz6.mp hx).1
   have h2:=(Zz6.mp hy).1
   simp
   omega
  refine Wk.item i s Q E hi ⟨st.1,st.2.1,st.2.2.1,st.2.2.2.1,st.2.2.2.2,isl1,isl2⟩ fun T vals h1 t1 hp hT hTup hmid keep1=>post T h1 t1 ?_
  intro elts k pos s1 Q1 E1 es1 q1
  subst es1
  have hTw:=Wk.apart i T _ hmid
  refine Wk.go elts k pos i T _ Q1 E1 hmid fun h2 st2 keep2=>?_
  obtain⟨x',y',hx',hy',ev⟩:=hp
  have ex:x'=x:=by
   have:xs[i]?=some x':=by simpa using hx'
   rw[hx]at this
   exact(Option.some.inj this).symm
  have ey:y'=y:=by
   have:ys[i]?=some y':=by simpa using hy'
   rw[hy]at this
   exact(Option.some.inj this).symm
  subst ex ey ev
  obtain⟨fs',hit',at'⟩:=ZpW (h:=h2) (⟨st2.1,st2.2.1,st2.2.2.1,st2.2.2.2.1,st2.2.2.2.2.1⟩:ZS z TI TO i1 i2 l1 l2 (i+1) h2)
  obtain⟨oT,gT,cT,nT,dT⟩:=hTup
  refine q1 fs' h2 x' y' hit' ?_ ⟨oT,keep2 T oT hTw gT,cT,nT,dT⟩ rx ry
  refine r.swap (fs':=fs') (fun q hq t ht=>?_) (fun c o hc e=>?_) fun q hq=>⟨at' q hq,?_⟩
  ·exact ap _ (hit.1▸List.mem_map_of_mem hq) t ht
  ·rw[hit.1]at hc
   have hcw:c∉[z,TO,i1,i2]:=fun h=>hc (by simp at h ⊢;rcases h with h | h | h | h <;> simp[h])
   exact keep2 c o hcw (keep1 c o hcw e)
  ·rw[hit.1,←hit'.1]
   exact List.mem_map_of_mem hq
 ·intro i W ρ H fr fs s Q E le r ap hit hn post
  obtain⟨vs,e1,e⟩:=Zz0.mp hn
  obtain⟨us,e2,e⟩:=Zz0.mp e
  obtain⟨_,xs,k1,g1,v1⟩:=r.at e1 (le.at ea)
  obtain⟨_,ys,k2,g2,v2⟩:=r.at e2 (le.at eb)
  have hi:i=min vs.length us.length:=by
   split at e
   ·cases e
   ·split at e
    ·assumption
    ·cases e
  have st:ZS z TI TO i1 i2 l1 l2 i s.heap:=hit.2 _ fun q hq=>r.frAt (Zz4 _ hq)
  have Wk:=WalksT.zip2 (prog:=prog) (w:=w) (A:=Γ.A) Γ.hh z TI TO i1 i2 l1 l2 D xs.toArray ys.toArray
  have hm:min xs.toArray.size ys.toArray.size=i:=by simp[v1.length,v2.length,hi]
  refine Wk.done s Q E (by rw[hm];exact⟨st.1,st.2.1,st.2.2.1,st.2.2.2.1,st.2.2.2.2,⟨_,g1,rfl,k1,rfl⟩,⟨_,g2,rfl,k2,rfl⟩⟩) fun h' tk keep=>post h' tk ?_
  have:=r.swap (fs':=[]) (fun q hq t ht=>ap _ (hit.1▸List.mem_map_of_mem hq) t ht) (fun c o hc e=>keep c o (fun h=>hc (by rw[hit.1];simp at h ⊢;rcases h with h | h | h | h <;> simp[h])) e) (fun q hq=>nomatch hq)
  exact this
 ·intro i W ρ H fr fs s Q E o le r hit hn q
  obtain⟨vs,e1,e⟩:=Zz0.mp hn
  obtain⟨us,e2,e⟩:=Zz0.mp e
  obtain⟨_,xs,k1,g1,v1⟩:=r.at e1 (le.at ea)
  obtain⟨_,ys,k2,g2,v2⟩:=r.at e2 (le.at eb)
  have st:ZS z TI TO i1 i2 l1 l2 i s.heap:=hit.2 _ fun q hq=>r.frAt (Zz4 _ hq)
  have Wk:=WalksT.zip2 (prog:=prog) (w:=w) (A:=Γ.A) Γ.hh z TI TO i1 i2 l1 l2 D xs.toArray ys.toArray
  exact Wk.self i s Q E ⟨st.1,st.2.1,st.2.2.1,st.2.2.2.1,st.2.2.2.2,⟨_,g1,rfl,k1,rfl⟩,⟨_,g2,rfl,k2,rfl⟩⟩ q
theorem JI2.zip{x:Str}{np pos:Pos}{e1 e2:Expr}{f g:Ex}(hn:Nm prog w Γ x (.type "zip"))(h1:J prog w Γ e1 f)(h2:J prog w Γ e2 g)
  (he:starEach [e1,e2] Γ.env=(false,eval e1 Γ.env)::starEach [e2] Γ.env:=by rfl) (he2:starEach [e2] Γ.env=(false,eval e2 Γ.env)::starEach [] Γ.env:=by rfl) (hp:∀pos,(backTo pos (starEach [e2] Γ.env)).any (·.1)=false:=by intro _;rfl):JI2 prog w Γ (.Call (.Name x np) [e1,e2] [] pos) (ZjC f g):=by
 intro W ρ H fr s Q E nx n H' r hf post
 obtain⟨p,a1,hf⟩:=Zz0.mp hf
 obtain⟨q,a2,hf⟩:=Zz0.mp hf
 refine wpAny_Call_ofName (hn.use r ?_)
 refine PySem.Pv.callWith_type1 (wpAny_items_cons (h1 W ρ H fr s _ E _ _ r a1 fun W1 k1 t1 y1 l1 r1 v1=>?_) he) he (hp pos)
 refine wpAny_items_cons (h2 W1 ρ _ fr _ _ E _ _ r1 a2 fun W2 k2 t2 y2 l2 r2 v2=>wpAny_items_nil ?_) he2
 have v1':=v1.mono l2
 obtain⟨u1,H1⟩:=p
 obtain⟨u2,H2⟩:=q
 simp only at hf v1' v2 r2
 cases u1 <;> first | (cases hf;done) | skip
 rename_i b1
 cases u2 <;> first | (cases hf;done) | skip
 rename_i b2
 obtain⟨vs,c1,hf⟩:=Zz0.mp hf
 obtain⟨us,c2,c3⟩:=Zz1.mp hf
 cases c3
 cases v1' with
 | @ref _ m1 ea=>
 cases v2 with
 | @ref _ m2 eb=>
 obtain⟨_,xs,n1,g1,w1⟩:=r2.at c1 ea
 obtain⟨_,ys,n2,g2,w2⟩:=r2.at c2 eb
 have isl1:k2.IsList m1 xs.toArray:=⟨_,g1,rfl,n1,rfl⟩
 have isl2:k2.IsList m2 ys.toArray:=⟨_,g2,rfl,n2,rfl⟩
 refine call_zip_2 (s:={ s with heap:=k2,toks:=t2 }) isl1 isl2 fun h₁ hz hTI hTO hi1 hi2 hsz up=>?_
 have ap:=zipApart_new (n:=k2.objs.size) (Heap.lt_size g1) (Heap.lt_size g2)
 have Wk:=WalksT.zip2 (prog:=prog) (w:=w) (A:=Γ.A) Γ.hh _ _ _ _ _ m1 m2 ap xs.toArray ys.toArray
 have zs:ZS (k2.objs.size+4) (k2.objs.size+2) (k2.objs.size+3) k2.objs.size (k2.objs.size+1) m1 m2 0 h₁:=⟨hz,hTI,⟨_,_,hTO⟩,hi1,hi2⟩
 refine Wk.self 0 _ _ _ ⟨hz,hTI,⟨_,_,hTO⟩,hi1,hi2,isl1.at fun o e=>up _ o e,isl2.at fun o e=>up _ o e⟩ ?_
 obtain⟨fs,hit,at'⟩:=ZpW zs
 obtain⟨r3,ap3⟩:=r2.more (fs:=fs) (h':=h₁) (fun b o e=>up b o e) (fun q hq=>⟨at' q hq,by
  have:q.1∈fs.map (·.1):=List.mem_map_of_mem hq
  rw[hit.1]at this
  simp at this
  rcases this with e | e | e | e | e <;> rw[e] <;> omega⟩)
 refine post W2 h₁ t2 _ _ _ fs (l1.trans l2) hit r3 (fun b hb t ht=>?_) (ZwT ea eb ap) ?_
 ·rw[←hit.1]at hb
  obtain⟨q,hq,e⟩:=Zz11.mp hb
  exact e▸ap3 q hq t ht
 ·simp only[ZhC,c1,c2,Option.bind_some]
  split
  ·exact⟨_,rfl⟩
  ·rename_i hno
   have:0=min vs.length us.length:=by
    rcases Nat.eq_zero_or_pos vs.length with z | z
    ·rw[z];simp
    ·rcases Nat.eq_zero_or_pos us.length with z' | z'
     ·rw[z'];simp
     ·exact(hno vs[0] us[0] (by simp[z]) (by simp[z'])).elim
   rw[if_pos this]
   exact⟨_,rfl⟩
theorem ZvG{x1 x2:Str}{i1 i2 kt:Nat}{p1 p2 tp:Pos}(h1:Sto prog w Γ x1 i1)(h2:Sto prog w Γ x2 i2){W:Wd}{ρ:Lc}{H:Hp}{fr:List (Addr×Obj)}{s:Shared}{Q:Unit→Shared→Prop}{E:Value→Shared→Prop}{T:Addr}{y1 y2:Value}{a b:V}(r:Rep Γ W ρ H fr s.heap)(ht:IsTup s.heap T #[y1,y2])(v1:VR W a y1)(v2:VR W b y2)
  (post:∀(h':Heap) (tk':Nat),Rep Γ W (upd (upd ρ i1 a) i2 b) H fr h'→Q () { s with heap:=h',toks:=tk' }):wpAny (model prog w) Γ.A (assign (.Tuple [.Name x1 p1,.Name x2 p2] kt tp) Γ.env (.ref T)) Q E s:=by
 refine assign_Tuple_tuple Γ.hh ht rfl rfl fun g₄ he=>?_
 have r4:=r.grown (h':=g₄) fun b o e=>he b o (Nat.ne_of_lt (Heap.lt_size e)) e
 refine assignInOrder_cons (wpAny_assign_Name (h1 W ρ H fr _ _ _ a y1 r4 v1 fun k5 t5 r5=>?_))
 refine assignInOrder_cons (wpAny_assign_Name (h2 W _ H fr _ _ _ b y2 r5 v2 fun k6 t6 r6=>?_))
 exact assignInOrder_nil (post k6 t6 r6)
theorem ZiL{x1 x2:Str}{i1 i2 kt:Nat}{p1 p2 tp pos:Pos}{it:Expr}{body:List Stmt}{g:Src}{b:Sm}(h1:Sto prog w Γ x1 i1)(h2:Sto prog w Γ x2 i2)(hg:JI2 prog w Γ it g)(hb:Ss prog w Γ body b)(hs:∀x,foldedSetIterable it Γ.env x=pure x:=by intro _;rfl):
  S1 prog w Γ (.For (.Tuple [.Name x1 p1,.Name x2 p2] kt tp) it body [] pos) (ZbS g (Zda i1 i2) b):=by
 intro W ρ H fr s Q E r rp hf post
 obtain⟨z,e1,hf⟩:=Zz0.mp hf
 obtain⟨nx,n,H0⟩:=z
 refine wpAny_For (hg W ρ H fr s _ E nx n H0 rp e1 fun W1 k1 t1 itv as It fs l1 j1 r1 ap I1 _=>?_) hs
 refine codeAny_forLoop_any (fun k s'=>∃W' ρ' H' h' tk' j fs',s' = { s with heap:=h',toks:=tk' }∧W1.Le W'∧It j fs'∧Rep Γ W' ρ' H' (fs'++fr) h'∧ZcT nx (Zda i1 i2) b k j ρ' H'=some r) ?_ n ⟨W1,ρ,H0,k1,t1,0,fs,rfl,.refl _,j1,r1,hf⟩
 rintro k s' ⟨W2,ρ2,H2,k2,t2,j,fs2,rfl,l2,j2,r2,e⟩
 cases k with
 | zero=>cases e
 | succ k=>
  obtain⟨o,e2,e⟩:=Zz0.mp e
  cases o with
  | none=>
   cases e
   exact I1.done j W2 ρ2 H2 fr fs2 _ _ _ l2 r2 ap j2 e2 fun h' tk' r3=>wpAny_execs_nil (post W2 h' tk' (l1.trans l2) r3)
  | some v=>
   obtain⟨va,vb,ev⟩:=I1.pair j H2 v e2
   subst ev
   refine I1.item j W2 ρ2 H2 fr fs2 _ _ _ va vb l2 r2 ap j2 e2 fun T h3 t3 go=>?_
   obtain⟨ρ3,e3,e⟩:=Zz0.mp e
   cases e3
   obtain⟨q,e4,e⟩:=Zz0.mp e
   refine go _ _ _ _ _ _ rfl fun fs3 k3 y1 y2 j3 r3 ht w1 w2=>?_
   refine ZvG h1 h2 (s:={ s with heap:=k3,toks:=t3 }) r3 ht w1 w2 fun k4 t4 r4=>?_
   refine hb W2 _ H2 (fs3++fr) _ _ _ q r4 e4 ?_
   obtain⟨u,ρ5,H5⟩:=q
   cases u with
   | some u=>
    cases e
    exact fun W5 k5 t5 x5 l5 r5 v5=>post W5 k5 t5 x5 ((l1.trans l2).trans l5) (r5.less fun q hq=>List.mem_append_right _ hq) v5
   | none=>exact fun W5 k5 t5 l5 r5=>⟨k,Nat.lt_succ_self k,W5,ρ5,H5,k5,t5,j+1,fs3,rfl,l2.trans l5,j3,r5,e⟩
theorem Zon{elt iter:Expr}{x x₂:Str}{px px₂ tp:Pos}{kt:Nat}{scope:Scope}{pos:Pos}{cl:List (Str×Addr)}{t t₂:Nat}{g:Src}{f:Ex}(hg:JI2 prog w Γ iter g)(hel:∀C ρ,J prog w (Za9 Γ scope cl C [(x,t),(x₂,t₂)] ρ) elt f)
  (hcell:∀y∈scope.names,y.2≠.cell) (hkind:scope.kind=.function) (hx:scope.names.lookup x=some .local) (hx₂:scope.names.lookup x₂=some .local) (hxx:x≠x₂) (htt:t≠t₂)
  {W:Wd} {ρ:Lc} {H:Hp} {fr:List (Addr×Obj)} {s:Shared} {E:Value→Shared→Prop} {q:List V×Hp} {RR:Value→Addr→Result→Shared→Prop} (r:Rep Γ W ρ H fr s.heap) (hf:((g ρ H).bind fun z=>Zcv z.1 (Zda t t₂) Zbo f ρ z.2.1 0 [] z.2.2)=some q)
  (hR:∀(W':Wd) (h':Heap) (tk':Nat) (C D:Addr) (oC:Obj) (m₂:Str→Option Value) (ys:List Value),W.Le W'→NsObj oC m₂→VRs W' q.1 ys→q.1.length≤LEN→(∀t∈fr,D≠t.1)→(∀t∈fr,C≠t.1)→C≠D→Rep Γ W' ρ q.2 ((C,oC)::(D,lst ys)::fr) h'→RR (.ref D) C (.ok .next) { s with heap:=h',toks:=tk' }):
  wpAny (model prog w) Γ.A (eval iter Γ.env) (fun xv s₁=>wpAny (model prog w) Γ.A (pyIter xv) (fun it s₂=>wpAny (model prog w) Γ.A (newList []) (fun acc s₃=>wpAny (model prog w) Γ.A (newFunctionEnv scope Γ.env.globals cl [] Γ.env.qual none .none (some Γ.env)) (fun cenv s₄=>
   codeAny (model prog w) Γ.A (.compStart (.ListComp elt [⟨.Tuple [.Name x px,.Name x₂ px₂] kt tp,iter,[],0⟩] scope pos) 0 it acc { cenv with scope:=relabel scope Γ.env }) (RR acc cenv.locals) s₄) E s₃) E s₂) E s₁) E s:=by
 obtain⟨z,e1,e2⟩:=Zz0.mp hf
 obtain⟨nx,n,H0⟩:=z
 refine hg W ρ H fr s _ E nx n H0 r e1 fun W1 k1 t1 itv as It fs l1 i1 r1 ap I1 hstart=>?_
 refine wpAny_newObj_type (wpAny_newFunctionEnv hcell (fun y hy=>by simp at hy) (fun h₂ hns hsb=>?_) hkind)
 dsimp only at hns hsb ⊢
 obtain⟨rD,aD⟩:=r1.more (fs:=[(k1.objs.size,lst [])]) (fun b o e=>Heap.get?_push_of_some (lst []) e) (fun q hq=>by rw[List.mem_singleton.mp hq];exact⟨Heap.get?_push_size _ rfl,Nat.le_refl _⟩)
 generalize eH:k1.push { cls:=.type "list",dict:=none,data:=.seq ([]:List Value).toArray } = K at hns hsb ⊢
 have eK:k1.push (lst [])=K:=eH
 rw[eK]at rD
 obtain⟨oC,gC,nC⟩:=ns_obj hns
 have up:∀b o,K.get? b=some o→h₂.get? b=some o:=fun b o e=>hsb.extBut b o (Nat.ne_of_lt (Heap.lt_size e)) (Heap.get?_push_of_some _ e)
 obtain⟨rC,aC⟩:=rD.more (fs:=[(K.objs.size,oC)]) up (fun q hq=>by rw[List.mem_singleton.mp hq];exact⟨gC,Nat.le_refl _⟩)
 have adr0:=I1.adr 0 fs i1
 have offs:∀b∈as,b≠k1.objs.size∧b≠K.objs.size:=fun b hb=>by
  rw[←adr0]at hb
  obtain⟨q,hq,e⟩:=Zz11.mp hb
  exact⟨e▸(aD _ Zz5 q (Zz4 _ hq)).symm,e▸(aC _ Zz5 q (Zz3 _ (Zz4 _ hq))).symm⟩
 have cd:K.objs.size≠k1.objs.size:=aC _ Zz5 (k1.objs.size,lst []) (Zz4 _ Zz5)
 have cfr:∀t∈fr,K.objs.size≠t.1:=fun t ht=>aC _ Zz5 t (Zz3 _ (Zz3 _ ht))
 have dfr:∀t∈fr,k1.objs.size≠t.1:=fun t ht=>aD _ Zz5 t (Zz3 _ ht)
 generalize k1.objs.size=D at *
 generalize K.objs.size=C at *
 have loop:∀s₃:Shared,s₃ = { s with heap:=h₂,toks:=t1+([]:List (Str×Value)).length } →
   codeAny (model prog w) Γ.A (.compLoop (.ListComp elt [⟨.Tuple [.Name x px,.Name x₂ px₂] kt tp,iter,[],0⟩] scope pos) 0 itv (.ref D) (compEnvC scope cl C Γ.env)) (RR (.ref D) C) s₃:=by
  intro s₃ hs₃
  subst hs₃
  refine codeAny_compLoop_pair (ZhK Γ W1 ρ fr C D It nx (Zda t t₂) Zbo f q s) ?_ n ⟨W1,H0,h₂,_,0,fs,[],[],oC,_,rfl,.refl _,i1,nC,.nil,Nat.zero_le _,rC,e2⟩
  rintro k s' ⟨W2,H2,k2,t2,j,fs2,acc,ys,oC2,m₂,rfl,l2,i2,hC2,hv2,hl2,r2,e⟩
  cases k with
  | zero=>cases e
  | succ k=>
   obtain⟨o,e4,e⟩:=Zz0.mp e
   have r2':Rep Γ W2 ρ H2 (fs2++((C,oC2)::(D,lst ys)::fr)) k2:=r2.less fun q hq=>by
    rcases Zz8.mp hq with hq | hq
    ·exact Zz2 _ (Zz2 _ (Zz4 _ hq))
    ·rcases Zz7.mp hq with e | hq
     ·exact e▸List.mem_cons_self
     ·rcases Zz7.mp hq with e | hq
      ·exact e▸List.mem_cons_of_mem _ Zz5
      ·exact Zz2 _ (Zz2 _ (Zz3 _ hq))
   have ap2:∀b∈as,∀t∈(C,oC2)::(D,lst ys)::fr,b≠t.1:=fun b hb t ht=>by
    rcases Zz7.mp ht with e | ht
    ·rw[e]
     exact(offs b hb).2
    ·rcases Zz7.mp ht with e | ht
     ·rw[e]
      exact(offs b hb).1
     ·exact ap b hb t ht
   cases o with
   | none=>
    cases e
    exact I1.done j W2 ρ H2 _ fs2 _ _ _ l2 r2' ap2 i2 e4 fun h' tk' r3=>hR W2 h' tk' C D oC2 m₂ ys (l1.trans l2) hC2 hv2 hl2 dfr cfr cd r3
   | some v=>
    obtain⟨va,vb,ev⟩:=I1.pair j H2 v e4
    subst ev
    refine I1.item j W2 ρ H2 _ fs2 _ _ _ va vb l2 r2' ap2 i2 e4 fun T h3 t3 go=>?_
    obtain⟨ρ3,e5,e⟩:=Zz0.mp e
    cases e5
    refine go _ _ _ _ _ _ rfl fun fs3 k3 y1 y2 i3 r3 htup w1 w2=>?_
    have a3:∀t∈fs3,t.1∈as:=fun t ht=>by
     rw[←I1.adr _ _ i3]
     exact List.mem_map_of_mem ht
    refine assign_Tuple_tuple (s:={ s with heap:=k3,toks:=t3 }) Γ.hh htup rfl rfl fun g₄ he=>?_
    have r3g:=r3.grown (h':=g₄) fun b o e=>he b o (Nat.ne_of_lt (Heap.lt_size e)) e
    have gC3:g₄.get? C=some oC2:=r3g.frAt (q:=(C,oC2)) (Zz3 _ Zz5)
    have nC3:g₄.Ns C m₂:=hC2.ns gC3
    refine assignInOrder_cons (wpAny_assign_Name (wpAny_storeName_local (lookup_relabel_local hx) nC3 (fun h5 hn5 sb5=>?_) (by simp[compEnvC,relabel,hkind])))
    refine assignInOrder_cons (wpAny_assign_Name (wpAny_storeName_local (lookup_relabel_local hx₂) hn5 (fun h4 hn4 sb4=>?_) (by simp[compEnvC,relabel,hkind])))
    refine assignInOrder_nil ?_
    obtain⟨oC4,gC4,nC4⟩:=ns_obj hn4
    have r3':Rep Γ W2 ρ H2 ([(C,oC2)]++((D,lst ys)::(fs3++fr))) g₄:=r3g.less fun q hq=>by
     rcases Zz8.mp hq with hq | hq
     ·rw[List.mem_singleton.mp hq]
      exact Zz3 _ Zz5
     ·rcases Zz7.mp hq with e | hq
      ·exact e▸List.mem_append_right _ (Zz2 _ Zz5)
      ·rcases Zz8.mp hq with hq | hq
       ·exact Zz4 _ hq
       ·exact Zz3 _ (Zz2 _ (Zz2 _ hq))
    have aC3:∀t∈(D,lst ys)::(fs3++fr),C≠t.1:=fun t ht=>by
     rcases Zz7.mp ht with e | ht
     ·rw[e]
      exact cd
     ·rcases Zz8.mp ht with ht | ht
      ·exact(offs _ (a3 t ht)).2.symm
      ·exact cfr t ht
    have aD3:∀t∈fs3++fr,D≠t.1:=fun t ht=>by
     rcases Zz8.mp ht with ht | ht
     ·exact(offs _ (a3 t ht)).1.symm
     ·exact dfr t ht
    have r4:Rep Γ W2 ρ H2 ([(C,oC4)]++((D,lst ys)::(fs3++fr))) h4:=by
     refine r3'.swap (fun q hq t ht=>?_) (fun b o hb e=>sb4.extBut b o (fun z=>hb (by simp[z,compEnvC])) (sb5.extBut b o (fun z=>hb (by simp[z,compEnvC])) e)) fun q hq=>?_
     ·rw[List.mem_singleton.mp hq]
      exact aC3 t ht
     ·rw[List.mem_singleton.mp hq]
      exact⟨gC4,by simp⟩
    have rc:=ZpV (scope:=scope) (cl:=cl) (ts:=[(x,t),(x₂,t₂)]) (ρ:=upd (upd ρ t va) t₂ vb) r4 aC3 nC4 (fun p hp=>by
     rcases Zz7.mp hp with e | hp
     ·rw[e]
      exact⟨va,y1,by simp[upd,htt],by simp[hxx],w1⟩
     ·rw[List.mem_singleton.mp hp]
      exact⟨vb,y2,by simp[upd],by simp,w2⟩) (fun i hi=>by
     have h1:i≠t:=fun e=>hi (x,t) Zz5 e.symm
     have h2:i≠t₂:=fun e=>hi (x₂,t₂) (Zz2 _ Zz5) e.symm
     simp[upd,h1,h2])
    exact ZoS (hel C ρ) aD3 cd l2 i3 hv2 rc e
 refine codeAny_compStart_list (loop _ rfl) ?_
 obtain⟨o0,ho0⟩:=hstart
 exact I1.self 0 W1 ρ H0 (([(C,oC)]++[(D,lst [])])++fr) fs _ _ _ o0 (.refl _) (rC.less fun q hq=>by
  rcases Zz8.mp hq with hq | hq
  ·exact Zz3 _ (Zz3 _ (Zz4 _ hq))
  ·rcases Zz8.mp hq with hq | hq
   ·rcases Zz8.mp hq with hq | hq
    ·exact Zz4 _ hq
    ·exact Zz3 _ (Zz4 _ hq)
   ·exact Zz3 _ (Zz3 _ (Zz3 _ hq))) i1 ho0 (loop _ rfl)
theorem ZvH{elt iter:Expr}{x x₂:Str}{px px₂ tp:Pos}{kt:Nat}{scope:Scope}{pos:Pos}{cl:List (Str×Addr)}{t t₂:Nat}{g:Src}{f:Ex}(hg:JI2 prog w Γ iter g)(hel:∀C ρ,J prog w (Za9 Γ scope cl C [(x,t),(x₂,t₂)] ρ) elt f)
  (hclos:closureFor scope Γ.env=pure cl) (hcell:∀y∈scope.names,y.2≠.cell) (hkind:scope.kind=.function) (hnames:∀y∈scope.names,y.2=.local→scope.names.lookup y.1=some .local) (hx:scope.names.lookup x=some .local) (hx₂:scope.names.lookup x₂=some .local) (hxx:x≠x₂) (htt:t≠t₂) (hs:∀x,foldedSetIterable iter Γ.env x=pure x:=by intro _;rfl):
  J prog w Γ (.ListComp elt [⟨.Tuple [.Name x px,.Name x₂ px₂] kt tp,iter,[],0⟩] scope pos) (Zbm g (Zda t t₂) Zbo f):=by
 intro W ρ H fr s Q E v H' r hf post
 obtain⟨z,e1,hf⟩:=Zz0.mp hf
 obtain⟨q,e2,e3⟩:=Zz1.mp hf
 cases e3
 rw[eval_ListComp]
 refine wpAny_comprehension_free (use:=Option.none) rfl hs hclos hkind hnames ?_
 refine Zon (RR:=fun acc C=>compPost (model prog w) Γ.A E Option.none Q acc C) hg hel hcell hkind hx hx₂ hxx htt r (q:=q) (by rw[e1];exact e2) fun W2 h' tk' C D oC m₂ ys l2 hC hv hl aD aC cd r3=>?_
 refine⟨m₂,hC.ns (r3.frAt (q:=(C,oC)) Zz5),fun h'' sb=>?_⟩
 obtain⟨W5,l5,r5,v5⟩:=Zpi hv hl aD aC cd r3 sb
 exact post W5 h'' tk' _ (l2.trans l5) r5 v5
end
end PM
end
section
namespace PM
open PySem PySem.W PySem.Calls PyProof.Rows PyProof PySem.Spec
theorem ZwU{prog:Program}{w:World}{A A₀:Around}{s:Shared}{base h₀:Heap}{L:Addr}{m:Str→Option Value}{lent:List (Addr×Obj)}{K:Frag}{p:Program}{loose:List Str}{mean:ExcName→Option Value}{mg mb:Str→Option Value}
  {env:Env} {outer:List Env} {R:Result→Shared→Prop} {name qual:Str} {params:Arguments} {body:List Stmt} {scope:Scope} {dV kV doc pm cdv ct oc:Value} {an od:Option Addr} {osl:Array (Option Value)} {f:Addr} {args:Args} {binds:List (Str×Value)}
  (B:Below A₀ base outer h₀) (F:Fr h₀ L s.heap m) (X₀:K.In h₀) (N:News h₀ L s.heap lent) (T:Top p loose mean mg mb h₀) (hA:A.frames=some (env::outer)) (hf:env.frame=some L) (hke:env.scope.kind=.function)
  (ho:K.lookup f=some ⟨oc,od,.func (fnOf name qual params body scope dV kV doc pm an cdv ct),osl⟩) (hcd:codeIn K cdv qual=true) (hroom:A.depth<recursionLimit)
  (hbind:BindsTo s (fnOf name qual params body scope dV kV doc pm an cdv ct) args binds) (hall:(binds.all fun y=>scope.names.lookup y.1 == some .local || scope.names.lookup y.1 == some .cell)=true) (hone:((cellsFrom 0 scope.names []).map (·.1)).Nodup)
  (h:∀g L' h₁ tk cells,(∀b o,s.heap.get? b=some o→b∉lent.map (·.1)→g.get? b=some o)→Fr g L' h₁ (bindL (envOfC qual scope L' f cdv).kindOf binds fun _=>none)→News g L' h₁ (cells++lent)→CellsAre (bindC (envOfC qual scope L' f cdv).kindOf binds fun _=>none) (cellsFrom (L'+1) scope.names []) cells →
   (cellsFrom (L'+1) scope.names []).Pairwise (fun x y=>x.2≠y.2)→(∀n c,(n,c)∈cellsFrom (L'+1) scope.names []→L'<c)→Below A base (env::outer) g→K.In g→Top p loose mean mg mb g→(∀q∈lent,q.1<L')→s.heap.objs.size≤L' →
   wpAny (model prog w) (A.deeper (envOfC qual scope L' f cdv)) (execs body (envOfC qual scope L' f cdv)) (fun fl s'=>LeaveK h₀ L m g R (match fl with | .ret v=>v | _=>.none) s')
    (fun e s'=>wpAny (model prog w) (A.deeper (envOfC qual scope L' f cdv)) (leaving (envOfC qual scope L' f cdv) e) (fun _ s''=>R (.error e) s'') (fun e' s''=>R (.error e') s'') s') { s with heap:=h₁,toks:=tk })
  (hco:scope.isCoroutine=false) (hgen:scope.isGenerator=false) (hk:scope.kind=.function):codeAny (model prog w) A (.call (.ref f) args) R s:=by
 obtain⟨FG,BG,st,lv⟩:=groundX (R:=R) B F N hA hf hke
 have X:=X₀.keeps F.keep
 refine codeAny_call_function (fd:=fnOf name qual params body scope dV kV doc pm an cdv ct) hroom (X _ _ ho) rfl hco hgen rfl (codeRec_of X hcd) (hbind _ _ _ _ ?_)
 refine wpAny_newFunctionEnv_cells hk (kindsX hall _) fun fresh hfr s' inC=>?_
 subst hfr
 have up:=inC.toInCall.keep
 refine⟨(T.nolimit.keeps F.keep).keeps up,codeAny_func ?_⟩
 obtain⟨h₁,tk,hs',_⟩:=inC.done
 subst hs'
 have nod:=cellsFrom_names scope.names 0 (s.heap.objs.size+1) [] [] rfl▸hone
 obtain⟨cells,NC,Y⟩:=Cl.news (h₀:=s.heap) (L:=s.heap.objs.size) (Zz10 _) fun n c hm=>⟨inC.cell n c (lookup_of_mem_nodup nod hm),inC.above n c hm⟩
 have old:∀q∈lent,q.1<s.heap.objs.size:=fun q hq=>Heap.lt_size (N q hq).1
 refine wpAny_mono (h _ s.heap.objs.size h₁ tk cells (fun b o e nb=>hideAll_get _ e nb) ⟨inC.toInCall.ns,fun b o e=>up b o (of_hideAll _ e),Nat.le_of_eq (hideAll_size _ _)⟩ (fun q hq=>?_) Y inC.apart inC.above BG (X₀.keeps st) (T.keeps st) old (Zz10 _)) (fun fl s' hl=>lv _ _ hl) fun _ _ y=>y
 rcases Zz8.mp hq with hq | hq
 ·obtain⟨c1,c2,c3⟩:=NC q hq
  refine⟨c1,c2,?_⟩
  cases e:(hideAll s.heap (lent.map (·.1))).get? q.1 with
  | none=>rfl
  | some o=>
   have z:=of_hideAll _ e
   rw[c3]at z
   cases z
 ·exact⟨up _ _ (N q hq).1,Nat.ne_of_lt (old q hq),hideAll_none _ (List.mem_map_of_mem hq)⟩
section
variable (prog:Program) (w:World) (K:Frag) (p:Program) (loose:List Str) (mean:ExcName→Option Value) (mg mb:Str→Option Value)
def Clr(Γ:Cx)(dp un:Nat): Prop:=∃(gd:Option (List Code)) (cn:Str) (cs:Scope) (a:Addr) (ccd:Value) (cl:List (Str×Addr)) (outer:List Env) (A₀:Around) (base:Heap),
 Γ.A=ktrTop dp un gd cn cs Γ.L a ccd cl outer∧Below A₀ base outer Γ.h₀∧K.In Γ.h₀∧Top p loose mean mg mb Γ.h₀∧cs.kind=.function
def Def(f:Addr)(room:Nat)(F:List V→Hp→Option (V×Hp)): Prop:=∀(Γ:Cx) (dp un:Nat),Clr K p loose mean mg mb Γ dp un→dp+room<recursionLimit→un+10*room+300<cLine →
 ∀(W:Wd) (ρ:Lc) (H:Hp) (fr:List (Addr×Obj)) (s:Shared) (Q E:Value→Shared→Prop) (as:List V) (xs:List Value) (v:V) (H':Hp),
  Rep Γ W ρ H fr s.heap→VRs W as xs→F as H=some (v,H')→ZhI Γ W ρ H' fr s Q v→wpAny (model prog w) Γ.A (call (.ref f) xs) Q E s
end
noncomputable def ZK(n:Nat)(g:Sm): List V→Hp→Option (V×Hp):=fun as H=>if as.length=n then(g (fun i=>as[i]?) H).map fun r=>((r.1.getD .none),r.2.2)else none
theorem Zt5{kindOf:Str→Option NameKind}: ∀{ps:List Str} {xs:List Value} {m:Str→Option Value} {x:Str} {i:Nat} {y:Value},ps.Nodup→ps[i]?=some x→xs[i]?=some y→kindOf x=some .local→bindL kindOf (ps.zip xs) m x=some y:=by
 have skip:∀{ps:List Str} {xs:List Value} {m:Str→Option Value} {x:Str},x∉ps→bindL kindOf (ps.zip xs) m x=m x:=by
  intro ps
  induction ps with
  | nil=>intro xs m x _;rfl
  | cons p ps ih=>
   intro xs m x hx
   cases xs with
   | nil=>rfl
   | cons z xs=>
    simp only[List.zip_cons_cons,bindL]
    rw[ih (fun h=>hx (Zz2 _ h))]
    have:x≠p:=fun e=>hx (e▸List.mem_cons_self)
    split <;> simp[this]
 intro ps
 induction ps with
 | nil=>intro xs m x i y _ h;simp at h
 | cons p ps ih=>
  intro xs m x i y nd hp hx hk
  cases xs with
  | nil=>simp at hx
  | cons z xs=>
   obtain⟨n1,n2⟩:=List.nodup_cons.mp nd
   cases i with
   | zero=>
    simp at hp hx
    subst hp hx
    simp only[List.zip_cons_cons,bindL]
    rw[skip n1,if_pos hk]
    simp
   | succ i=>
    simp at hp hx
    simp only[List.zip_cons_cons,bindL]
    exact ih n2 hp hx hk
theorem Zt6{kindOf:Str→Option NameKind}: ∀{ps:List Str} {xs:List Value} {m:Str→Option Value} {x:Str} {i:Nat} {y:Value},ps.Nodup→ps[i]?=some x→xs[i]?=some y→kindOf x=some .cell→bindC kindOf (ps.zip xs) m x=some y:=by
 have skip:∀{ps:List Str} {xs:List Value} {m:Str→Option Value} {x:Str},x∉ps→bindC kindOf (ps.zip xs) m x=m x:=by
  intro ps
  induction ps with
  | nil=>intro xs m x _;rfl
  | cons p ps ih=>
   intro xs m x hx
   cases xs with
   | nil=>rfl
   | cons z xs=>
    simp only[List.zip_cons_cons,bindC]
    rw[ih (fun h=>hx (Zz2 _ h))]
    have:x≠p:=fun e=>hx (e▸List.mem_cons_self)
    split <;> simp[this]
 intro ps
 induction ps with
 | nil=>intro xs m x i y _ h;simp at h
 | cons p ps ih=>
  intro xs m x i y nd hp hx hk
  cases xs with
  | nil=>simp at hx
  | cons z xs=>
   obtain⟨n1,n2⟩:=List.nodup_cons.mp nd
   cases i with
   | zero=>
    simp at hp hx
    subst hp hx
    simp only[List.zip_cons_cons,bindC]
    rw[skip n1,if_neg (by rw[hk];simp)]
    simp
   | succ i=>
    simp at hp hx
    simp only[List.zip_cons_cons,bindC]
    exact ih n2 hp hx hk
theorem Zhf{cm:Str→Option Value}: ∀{cs:List (Str×Addr)} {cells:List (Addr×Obj)} {x:Str} {c:Addr},CellsAre cm cs cells→(x,c)∈cs→∃o,(c,o)∈cells∧o.data=.cell (cm x)
 | _,_,_,_,.nil,h=>nomatch h
 | _,_,_,_,.cons hd r,h=>by
  rcases Zz7.mp h with e | h
  ·cases e
   exact⟨_,List.mem_cons_self,hd⟩
  ·obtain⟨o,h1,h2⟩:=Zhf r h
   exact⟨o,List.mem_cons_of_mem _ h1,h2⟩
theorem ZpX{cm:Str→Option Value}: ∀{cs:List (Str×Addr)} {cells:List (Addr×Obj)} {q:Addr×Obj},CellsAre cm cs cells→q∈cells→∃x,(x,q.1)∈cs
 | _,_,_,.nil,h=>nomatch h
 | _,_,_,.cons hd r,h=>by
  rcases Zz7.mp h with e | h
  ·cases e
   exact⟨_,List.mem_cons_self⟩
  ·obtain⟨x,h1⟩:=ZpX r h
   exact⟨x,List.mem_cons_of_mem _ h1⟩
theorem Zdj{α β:Type}[BEq α][LawfulBEq α]: ∀{l:List (α×β)} {x:α} {y:β},l.lookup x=some y→(x,y)∈l
 | [],_,_,h=>by simp at h
 | (a,b)::r,x,y,h=>by
  rw[List.lookup_cons]at h
  split at h
  ·rename_i e
   cases h
   have:=eq_of_beq e
   subst this
   exact Zz5
  ·exact Zz2 _ (Zdj h)
end PM
end
section
namespace PM
open PySem PySem.W PySem.Calls PyProof.Rows PyProof PySem.Spec
section
variable {prog:Program} {w:World} {K:Frag} {p:Program} {loose:List Str} {mean:ExcName→Option Value} {mg mb:Str→Option Value}
theorem ZqL{name qual:Str}{params:Arguments}{body:List Stmt}{scope:Scope}{dV kV doc pm cdv ct oc:Value}{an od:Option Addr}{osl:Array (Option Value)}{f:Addr}{names:List Str}{n room:Nat}{g:Sm}
  (ho:K.lookup f=some ⟨oc,od,.func (fnOf name qual params body scope dV kV doc pm an cdv ct),osl⟩) (hcd:codeIn K cdv qual=true) (nd:names.Nodup) (hn:n≤names.length)
  (hbind:∀s xs,xs.length=n→BindsTo s (fnOf name qual params body scope dV kV doc pm an cdv ct) ⟨xs,[]⟩ ((names.take n).zip xs)) (hkinds:∀x∈names.take n,scope.names.lookup x=some .local∨scope.names.lookup x=some .cell) (hone:((cellsFrom 0 scope.names []).map (·.1)).Nodup)
  (hco:scope.isCoroutine=false) (hgen:scope.isGenerator=false) (hk:scope.kind=.function)
  (hbody:∀(dp un:Nat) (gd:Option (List Code)) (L:Addr) (outer:List Env) (h₀:Heap) (hu:un+200<cLine),Clr K p loose mean mg mb (Zbu dp un gd qual scope L f cdv (cellsFrom (L+1) scope.names []) outer h₀ hu names) dp un→dp+room<recursionLimit→un+10*room+300<cLine →
   Ss prog w (Zbu dp un gd qual scope L f cdv (cellsFrom (L+1) scope.names []) outer h₀ hu names) body g):
  Def prog w K p loose mean mg mb f (room+1) (ZK n g):=by
 intro Γ dp un clr hd hu W ρ H fr s Q E as xs v H' r hx hF post
 obtain⟨gd,cn,cs,a,ccd,cl,outer,A₀,base,eA,B,X,T,hke⟩:=clr
 unfold ZK at hF
 split at hF
 ·rename_i hlen
  obtain⟨res,e1,e2⟩:=Zz1.mp hF
  obtain⟨o,ρ',K'⟩:=res
  cases e2
  obtain⟨m,c,led,r⟩:=r
  have hxl:xs.length=n:=by rw[hx.length,hlen]
  have inn:∀q∈led,(q.1∈W.pi∨q.1∈W.tups.map (·.1))↔q∈led.filter (fun q=>decide (q.1∈W.pi∨q.1∈W.tups.map (·.1))):=fun q hq=>⟨fun h=>List.mem_filter.mpr ⟨hq,by simpa using h⟩,fun h=>by simpa using (List.mem_filter.mp h).2⟩
  have isub:∀q∈led.filter (fun q=>decide (q.1∈W.pi∨q.1∈W.tups.map (·.1))),q∈led:=fun q hq=>(List.mem_filter.mp hq).1
  generalize hlent:led.filter (fun q=>decide (q.1∈W.pi∨q.1∈W.tups.map (·.1)))=lent at inn isub
  have notin:∀q∈led,q.1∉W.pi→(∀t∈W.tups,q.1≠t.1)→q.1∉lent.map (·.1):=fun q hq h1 h2 h3=>by
   obtain⟨t,ht,e⟩:=Zz11.mp h3
   rcases(inn t (isub t ht)).mpr ht with z | z
   ·exact h1 (e▸z)
   ·obtain⟨u,hu,e'⟩:=Zz11.mp z
    exact h2 u hu (e▸e'.symm)
  rw[eA]
  refine wpAny_call ?_
  refine ZwU (env:=envX cn cs Γ.L a ccd cl) (lent:=lent) B r.F X (fun q hq=>r.N q (isub q hq)) T rfl rfl hke ho hcd (by show dp<recursionLimit;omega) (hbind s xs hxl) ?_ hone ?_ hco hgen hk
  ·refine List.all_eq_true.mpr fun y hy=>?_
   rcases hkinds y.1 (List.of_mem_zip hy).1 with h | h <;> simp[h]
  intro g0 L' h₁ tk cells stay F' N' Y ap ab B' X' T' old szL
  have hu':(un+3)+200<cLine:=by omega
  have clr':Clr K p loose mean mg mb (Zbu (dp+1) (un+3) gd qual scope L' f cdv (cellsFrom (L'+1) scope.names []) (envX cn cs Γ.L a ccd cl::outer) g0 hu' names) (dp+1) (un+3):=
   ⟨gd,qual,scope,f,cdv,cellsFrom (L'+1) scope.names [],envX cn cs Γ.L a ccd cl::outer,_,base,rfl,B',X',T',hk⟩
  have below:∀q∈cells,L'<q.1:=fun q hq=>by
   obtain⟨x,hx⟩:=ZpX Y hq
   exact ab x _ hx
  have piLt:∀b∈W.pi,b<L':=fun b hb=>by
   obtain⟨o,ho⟩:=r.piIn b hb
   exact Nat.lt_of_lt_of_le (Heap.lt_size (r.get ho)) szL
  have tuLt:∀t∈W.tups,t.1<L':=fun t ht=>Nat.lt_of_lt_of_le (Heap.lt_size (r.get (r.R.tups t ht))) szL
  have scN:W.sc.1∉lent.map (·.1):=fun z=>by
   obtain⟨t,ht,e⟩:=Zz11.mp z
   exact r.notSc t (isub t ht) e
  have tkn:∀{i:Nat} {x:Str} {u:V},names[i]?=some x→as[i]?=some u→(names.take n)[i]?=some x∧∃y,xs[i]?=some y∧VR W u y:=fun {i x u} h1 h2=>by
   have hi:i<n:=by rw[←hlen];exact(Zz6.mp h2).1
   exact⟨by rw[List.getElem?_take_of_lt hi];exact h1,hx.at h2⟩
  have ndt:(names.take n).Nodup:=nd.sublist (List.take_sublist _ _)
  have rep:Rep (Zbu (dp+1) (un+3) gd qual scope L' f cdv (cellsFrom (L'+1) scope.names []) (envX cn cs Γ.L a ccd cl::outer) g0 hu' names) W (fun i=>as[i]?) H [] h₁:=by
   refine⟨_,cells,cells++lent,⟨F',N',⟨r.R.len,r.R.nd,fun i vs e=>?_,fun q hq=>?_,r.R.kind⟩,stay _ _ (r.F.keep _ _ r.sc) scN,r.sc0,fun q hq=>(nomatch hq),fun q hq=>(nomatch hq),fun q hq=>List.mem_append_left _ hq,fun q hq z=>?_,fun q _ t ht=>(nomatch ht),fun q hq=>(nomatch hq),fun q hq t ht=>?_,⟨fun i x u hi hk1 hu1=>?_,fun i x u hi hk1 hu1=>?_,fun x c1 hc=>?_,fun x y c1 h1 h2=>?_⟩⟩⟩
   ·obtain⟨l,b,ys,k,h1,h2,h3⟩:=r.R.lists i vs e
    exact⟨l,b,ys,k,h1,ZdQ h2 fun z=>List.mem_append_right _ ((inn _ z).mp (.inl (List.mem_of_getElem? h1))),h3⟩
   ·exact ZdQ (r.R.tups q hq) fun z=>List.mem_append_right _ ((inn _ z).mp (.inr (List.mem_map_of_mem hq)))
   ·exact absurd (Nat.lt_trans (piLt _ z) (below q hq)) (Nat.lt_irrefl _)
   ·exact Nat.ne_of_gt (Nat.lt_trans (tuLt t ht) (below q hq))
   ·obtain⟨h1,y,h2,h3⟩:=tkn hi hu1
    exact⟨y,Zt5 ndt h1 h2 hk1,h3⟩
   ·obtain⟨h1,y,h2,h3⟩:=tkn hi hu1
    have hs:=cellsFrom_some scope.names (L'+1) [] (.inl hk1)
    obtain⟨c1,hc1⟩:=Option.isSome_iff_exists.mp hs
    obtain⟨o1,ho1,hd1⟩:=Zhf Y (Zdj hc1)
    refine⟨c1,o1,y,hc1,ho1,?_,h3⟩
    rw[hd1,Zt6 ndt h1 h2 hk1]
   ·obtain⟨o1,ho1,hd1⟩:=Zhf Y (Zdj hc)
    exact⟨o1,_,ho1,hd1⟩
   ·exact name_of_addr ap (Zdj h1) (Zdj h2)
  have hb:=hbody (dp+1) (un+3) gd L' (envX cn cs Γ.L a ccd cl::outer) g0 hu' clr' (by omega) (by omega)
  have back:∀(W':Wd) (h':Heap) (tk':Nat) (x:Value),W.Le W'→Rep (Zbu (dp+1) (un+3) gd qual scope L' f cdv (cellsFrom (L'+1) scope.names []) (envX cn cs Γ.L a ccd cl::outer) g0 hu' names) W' ρ' K' [] h'→VR W' (o.getD .none) x →
    LeaveK Γ.h₀ Γ.L m g0 (fun r s'=>match r with | .ok (.ret v)=>Q v s' | .ok _=>False | .error e=>E e s') x { s with heap:=h',toks:=tk' }:=by
   intro W' h' tk' x l' r' x'
   obtain⟨m',c',led',r'⟩:=r'
   refine⟨L',m',led',r'.F,r'.N,fun FG NG=>post W' h' tk' x l' ?_ x'⟩
   have g0at:∀q∈led,q.1∉lent.map (·.1)→g0.get? q.1=some q.2:=fun q hq hn=>stay _ _ (r.N q hq).1 hn
   have frN:∀q∈fr,q.1∉lent.map (·.1):=fun q hq=>notin q (r.frIn q hq) (r.frOff q hq) (r.frTup q hq)
   have clN:∀q∈c,q.1∉lent.map (·.1):=fun q hq=>notin q (r.clIn q hq) (r.clOff q hq) (r.clTup q hq)
   have newN:∀t∈led',g0.get? t.1=none:=fun t ht=>(r'.N t ht).2.2
   have far:∀q∈led,q.1∉lent.map (·.1)→∀t∈W'.sc::led',q.1≠t.1:=fun q hq hn t ht e=>by
    rcases Zz7.mp ht with e2 | ht
    ·rw[e2,l'.sc]at e
     exact r.notSc q hq e
    ·have:=g0at q hq hn
     rw[e,newN t ht]at this
     cases this
   have farPi:∀q∈led,q.1∉lent.map (·.1)→q.1∉W'.pi:=fun q hq hn z=>by
    obtain⟨o2,h2⟩:=r'.piIn _ z
    exact far q hq hn _ h2 rfl
   have keep:∀q∈led,q.1∉lent.map (·.1)→q∈led'++led.filter (fun q=>decide (q.1∉lent.map (·.1))):=fun q hq hn=>List.mem_append_right _ (List.mem_filter.mpr ⟨hq,by simpa using hn⟩)
   refine⟨m,c,led'++led.filter (fun q=>decide (q.1∉lent.map (·.1))),⟨FG,fun q hq=>?_,r'.R.mono fun q hq=>Zfs hq fun x hx=>List.mem_append_left _ hx,l'.sc▸r.sc,r'.sc0,fun q hq=>keep q (r.frIn q hq) (frN q hq),fun q hq=>farPi q (r.frIn q hq) (frN q hq),fun q hq=>keep q (r.clIn q hq) (clN q hq),fun q hq=>farPi q (r.clIn q hq) (clN q hq),r.apart,fun q hq t ht=>far q (r.frIn q hq) (frN q hq) t (r'.R.tups t ht),fun q hq t ht=>far q (r.clIn q hq) (clN q hq) t (r'.R.tups t ht),Γ.mono l' r.own⟩⟩
   rcases Zz8.mp hq with hq | hq
   ·exact NG q hq
   ·obtain⟨h1,h2⟩:=List.mem_filter.mp hq
    exact⟨r'.F.keep _ _ (g0at q h1 (by simpa using h2)),(r.N q h1).2⟩
  refine hb W _ H [] _ _ _ (o,ρ',K') rep e1 ?_
  cases o with
  | none=>exact fun W' h' tk' l' r'=>back W' h' tk' .none l' r' .none
  | some v0=>exact fun W' h' tk' x l' r' x'=>back W' h' tk' x l' r' x'
 ·cases hF
theorem ZvI{Γ:Cx}{dp un:Nat}{x:Str}{np pos:Pos}{f:Addr}{room:Nat}{e:Expr}{es:List Expr}{g:Exs}{o:List V→Hp→Option (V×Hp)}(clr:Clr K p loose mean mg mb Γ dp un)(hn:Nm prog w Γ x (.ref f))(hkeep:keepIn K (.ref f)=true)(D:Def prog w K p loose mean mg mb f room o)(hd:dp+room<recursionLimit)(hu:un+10*room+300<cLine)
  (h:Js prog w Γ (e::es) g) (he:starEach (e::es) Γ.env=(false,eval e Γ.env)::starEach es Γ.env:=by rfl) (hp:∀pos,(backTo pos (starEach es Γ.env)).any (·.1)=false:=by intro _;rfl):J prog w Γ (.Call (.Name x np) (e::es) [] pos) (Z0 o g):=by
 intro W ρ H fr s Q E v H' r hf post
 obtain⟨q,e1,hf⟩:=Zz0.mp hf
 have X:K.In Γ.h₀:=by
  obtain⟨_,_,_,_,_,_,_,_,_,_,_,X,_⟩:=clr
  exact X
 refine wpAny_Call_ofName (hn.use r ?_)
 refine callWith_K (first:=[]) X hkeep (h pos W ρ H fr s _ E _ _ r e1 fun W1 k1 t1 xs l1 r1 x1=>⟨?_,?_⟩) he (hp pos)
 ·obtain⟨m,c,led,r1⟩:=r1
  exact X.keeps r1.F.keep
 ·exact D Γ dp un clr hd hu W1 ρ _ fr _ Q E _ xs v H' r1 x1 hf fun W2 k2 t2 y l2 r2 y2=>post W2 k2 t2 y (l1.trans l2) r2 y2
theorem ZcB{Γ:Cx}{dp un:Nat}{scope:Scope}{cl:List (Str×Addr)}{C:Addr}{ts:List (Str×Nat)}{ρ0:Lc}(h:Clr K p loose mean mg mb Γ dp un): Clr K p loose mean mg mb (Za9 Γ scope cl C ts ρ0) dp un:=h
end
end PM
end
section
namespace PM
open PySem PySem.W PySem.Calls PyProof.Rows PyProof PySem.Spec
theorem ZjY{lo:Nat}: ∀(names:List (Str×NameKind)) (n:Nat) (acc:List (Str×Addr)),acc.Pairwise (fun x y=>x.2≠y.2)→(∀q∈acc,lo<q.2∧q.2<n)→lo<n→(cellsFrom n names acc).Pairwise (fun x y=>x.2≠y.2)∧∀q∈cellsFrom n names acc,lo<q.2
 | [],n,acc,h1,h2,_=>⟨h1,fun q hq=>(h2 q hq).1⟩
 | (y,k)::r,n,acc,h1,h2,h3=>by
  unfold cellsFrom
  by_cases hk:(k == .cell)=true
  ·rw[if_pos hk]
   refine ZjY r (n+1) ((y,n)::acc) (List.pairwise_cons.mpr ⟨fun q hq=>Nat.ne_of_gt (h2 q hq).2,h1⟩) (fun q hq=>?_) (Nat.lt_succ_of_lt h3)
   rcases Zz7.mp hq with e | hq
   ·rw[e]
    exact⟨h3,Nat.lt_succ_self n⟩
   ·exact⟨(h2 q hq).1,Nat.lt_succ_of_lt (h2 q hq).2⟩
  ·rw[if_neg hk]
   exact ZjY r n acc h1 h2 h3
theorem Zt7{P:Params}{h:Heap}{a:Addr}{ns:List Int}(w1:Well P h (.ref a) (ofPy (.list (ns.map PyData.int))))(W:Wd): ∃vs,h.get? a=some (ZbD vs 0)∧VRs W (ns.map V.int) vs:=by
 have key:∀{ns:List Int} {vs:List Value} {xs:List WData},xs=(ns.map PyData.int).map ofPy→WellAll P h vs xs→VRs W (ns.map V.int) vs:=by
  intro ns
  induction ns with
  | nil=>intro vs xs e h;subst e;cases h;exact .nil
  | cons n ns ih=>
   intro vs xs e h
   subst e
   cases h with
   | cons h1 h2=>
    cases h1 with
    | int i t=>exact .cons (.int _ _) (ih rfl h2)
 have e:ofPy (.list (ns.map PyData.int))=.list ((ns.map PyData.int).map ofPy):=by rw[ofPy,ofPys_eq]
 rw[e]at w1
 cases w1 with
 | list hg ha=>exact⟨_,hg,key rfl ha⟩
section
variable {prog:Program} {w:World} {K:Frag} {p:Program} {loose:List Str} {mean:ExcName→Option Value} {mg mb:Str→Option Value}
theorem ZvJ{P:Params}{h₀:Heap}{s:Shared}{sa fa:Addr}{cd:Value}{ns:List Int}{qual pname:Str}{scope:Scope}{body:List Stmt}{names:List Str}{g:Sm}{cells:List (Addr×Obj)}{Q:Flow→Shared→Prop}{E:Value→Shared→Prop}{room:Nat}{H':Hp}
  (hbody:∀(dp un:Nat) (gd:Option (List Code)) (L a:Addr) (ccd:Value) (outer:List Env) (h₀:Heap) (hu:un+200<cLine),Clr K p loose mean mg mb (Zbu dp un gd qual scope L a ccd (cellsFrom (L+1) scope.names []) outer h₀ hu names) dp un→dp+room<recursionLimit→un+10*room+300<cLine →
   Ss prog w (Zbu dp un gd qual scope L a ccd (cellsFrom (L+1) scope.names []) outer h₀ hu names) body g)
  (hd:callerA.depth+1+room<recursionLimit) (hun:callerA.units+3+10*room+300<cLine) (hk:scope.kind=.function) (h0:names[0]?=some pname)
  (KX:K.In h₀) (T:Top p loose mean mg mb h₀) (w1:Well P h₀ (.ref sa) (ofPy (.list (ns.map PyData.int)))) (hlen:ns.length≤LEN)
  (F:Fr h₀ h₀.objs.size s.heap (bindL (envOfC qual scope h₀.objs.size fa cd).kindOf [(pname,.ref sa)] fun _=>none)) (N:News h₀ h₀.objs.size s.heap cells) (X0:CellsAre (bindC (envOfC qual scope h₀.objs.size fa cd).kindOf [(pname,.ref sa)] fun _=>none) (cellsFrom (h₀.objs.size+1) scope.names []) cells)
  (hg:ZK 1 g [.ref 0] [ns.map V.int]=some (.bool true,H')) (post:∀h' tk' m',Fr h₀ h₀.objs.size h' m'→Q (.ret (.bool true)) { s with heap:=h',toks:=tk' }):
  wpAny (model prog w) (callerA.deeper (envOfC qual scope h₀.objs.size fa cd)) (execs body (envOfC qual scope h₀.objs.size fa cd)) Q E s:=by
 have hu':(callerA.units+3)+200<cLine:=by omega
 have clr:Clr K p loose mean mg mb (Zbu (callerA.depth+1) (callerA.units+3) callerA.guards qual scope h₀.objs.size fa cd (cellsFrom (h₀.objs.size+1) scope.names []) [] h₀ hu' names) (callerA.depth+1) (callerA.units+3):=
  ⟨callerA.guards,qual,scope,fa,cd,cellsFrom (h₀.objs.size+1) scope.names [],[],_,_,rfl,below_caller h₀,KX,T,hk⟩
 have hb:=hbody (callerA.depth+1) (callerA.units+3) callerA.guards h₀.objs.size fa cd [] h₀ hu' clr hd hun
 obtain⟨vs,hsc,hv⟩:=Zt7 w1 ⟨[sa],[],(sa,ZbD [] 0)⟩
 have hv':VRs ⟨[sa],[],(sa,ZbD vs 0)⟩ (ns.map V.int) vs:=by
  clear hg post w1 hlen hsc
  generalize ns.map V.int=us at hv
  have key:∀{us:List V} {xs:List Value},VRs ⟨[sa],[],(sa,ZbD [] 0)⟩ us xs→VRs ⟨[sa],[],(sa,ZbD vs 0)⟩ us xs:=by
   intro us
   induction us with
   | nil=>intro xs h;cases h;exact .nil
   | cons u us ih=>
    intro xs h
    cases h with
    | cons a b=>
     refine .cons ?_ (ih b)
     cases a with
     | none=>exact .none
     | bool b=>exact .bool b
     | int i t=>exact .int i t
     | str s t=>exact .str s t
     | tup hm _ _=>exact nomatch hm
     | ref e=>exact .ref e
  exact key hv
 have far:=ZjY (lo:=h₀.objs.size) scope.names (h₀.objs.size+1) [] .nil (fun q hq=>nomatch hq) (Nat.lt_succ_self _)
 unfold ZK at hg
 rw[if_pos (show([V.ref 0]:List V).length=1 from rfl)]at hg
 obtain⟨res,e1,e2⟩:=Zz1.mp hg
 obtain⟨o,ρ',K'⟩:=res
 have eo:o=some (.bool true):=by
  cases o with
  | none=>simp at e2
  | some v=>simp at e2;rw[e2.1]
 subst eo
 have pick:∀{i:Nat} {x:Str} {u:V},names[i]?=some x→([V.ref 0]:List V)[i]?=some u→x=pname∧u=.ref 0:=fun {i x u} h1 h2=>by
  have hi:i<1:=(Zz6.mp h2).1
  have:i=0:=by omega
  subst this
  rw[h0]at h1
  simp at h1 h2
  exact⟨h1.symm,h2.symm⟩
 have rep:Rep (Zbu (callerA.depth+1) (callerA.units+3) callerA.guards qual scope h₀.objs.size fa cd (cellsFrom (h₀.objs.size+1) scope.names []) [] h₀ hu' names) ⟨[sa],[],(sa,ZbD vs 0)⟩ (fun i=>[V.ref 0][i]?) [ns.map V.int] [] s.heap:=by
  refine⟨_,cells,cells,⟨F,N,⟨rfl,by simp,fun i us e=>?_,fun q hq=>(nomatch hq),fun q hq=>(nomatch hq)⟩,hsc,rfl,fun q hq=>(nomatch hq),fun q hq=>(nomatch hq),fun q hq=>hq,fun q hq z=>?_,fun q _ t ht=>(nomatch ht),fun q hq=>(nomatch hq),fun q hq t ht=>(nomatch ht),⟨fun i x u hi hk1 hu1=>?_,fun i x u hi hk1 hu1=>?_,fun x c1 hc=>?_,fun x y c1 h1 h2=>?_⟩⟩⟩
  ·have hi:i<1:=(Zz6.mp e).1
   have:i=0:=by omega
   subst this
   simp at e
   subst e
   exact⟨by simpa using hlen,sa,vs,0,rfl,List.mem_cons_self,hv'⟩
  ·have:=(N q hq).2.2
   rw[List.mem_singleton.mp z,hsc]at this
   cases this
  ·obtain⟨e3,e4⟩:=pick hi hu1
   subst e3 e4
   refine⟨.ref sa,?_,.ref rfl⟩
   show bindL _ _ _ _=_
   unfold bindL bindL
   rw[if_pos (show(envOfC qual scope h₀.objs.size fa cd).kindOf x=some .local from hk1)]
   simp
  ·obtain⟨e3,e4⟩:=pick hi hu1
   subst e3 e4
   have hs:=cellsFrom_some scope.names (h₀.objs.size+1) [] (.inl hk1)
   obtain⟨c1,hc1⟩:=Option.isSome_iff_exists.mp hs
   obtain⟨o1,ho1,hd1⟩:=Zhf X0 (Zdj hc1)
   refine⟨c1,o1,.ref sa,hc1,ho1,?_,.ref rfl⟩
   rw[hd1]
   unfold bindC bindC
   rw[if_neg (show ¬(envOfC qual scope h₀.objs.size fa cd).kindOf x=some .local by show ¬scope.names.lookup x=some .local;rw[hk1];simp)]
   simp
  ·obtain⟨o1,ho1,hd1⟩:=Zhf X0 (Zdj hc)
   exact⟨o1,_,ho1,hd1⟩
  ·exact name_of_addr far.1 (Zdj h1) (Zdj h2)
 refine hb _ _ _ [] s Q E _ rep e1 ?_
 intro W' h' tk' x l' r' x'
 cases x' with
 | bool _=>
  obtain⟨m',c',led',r'⟩:=r'
  exact post h' tk' m' r'.F
end
end PM
end
section
namespace PM
open PySem PySem.W PySem.Calls PyProof.Rows PyProof PyProof.Rows.LCg PyProof.Rows.LSm
theorem Rep.listAt{Γ:Cx}{W:Wd}{ρ:Lc}{H:Hp}{fr:List (Addr×Obj)}{h h':Heap}{vs:List V}{xs:List Value}{k:Nat}(r:Rep Γ W ρ H fr h)(up:∀b o,h.get? b=some o→h'.get? b=some o)(hg:h'.get? h.objs.size=some (ZbD xs k))(hv:VRs W vs xs)(hl:vs.length≤LEN):
  ∃W',W.Le W'∧Rep Γ W' ρ (H++[vs]) fr h'∧VR W' (.ref H.length) (.ref h.objs.size):=by
 obtain⟨r2,ap⟩:=r.more (fs:=[(h.objs.size,ZbD xs k)]) up (fun q hq=>by rw[List.mem_singleton.mp hq];exact⟨hg,Nat.le_refl _⟩)
 exact ZgN r2 (fun t ht=>ap _ Zz5 t ht) hv hl
noncomputable def Zem: List V→Hp→Option (V×Hp)
 | [.ref a],H=>H[a]?.map fun vs=>(.ref H.length,H++[vs])
 | [.tup vs],H=>some (.ref H.length,H++[vs])
 | _,_=>none
noncomputable def Zfc: List V→Hp→Option (V×Hp)
 | [.ref a],H=>H[a]?.map fun vs=>(.tup vs,H)
 | [.tup vs],H=>some (.tup vs,H)
 | _,_=>none
noncomputable def Zfd: List V→Option (List Bool)
 | []=>some []
 | .bool b::vs=>(Zfd vs).map fun bs=>b::bs
 | _::_=>none
noncomputable def Zyu: List V→Hp→Option (V×Hp)
 | [.ref a],H=>H[a]?.bind fun vs=>(Zfd vs).map fun bs=>(.bool (bs.all id),H)
 | _,_=>none
noncomputable def ZjD: List V→Hp→Option (V×Hp)
 | [.ref a],H=>H[a]?.bind fun vs=>(Zfd vs).map fun bs=>(.bool (bs.any id),H)
 | _,_=>none
theorem Zs2{W:Wd}: ∀{vs:List V} {xs:List Value} {bs:List Bool},VRs W vs xs→Zfd vs=some bs→BoolsAre xs bs:=by
 intro vs
 induction vs with
 | nil=>intro xs bs h e;cases h;cases e;exact .nil
 | cons v vs ih=>
  intro xs bs h e
  cases h with
  | cons a b=>
   cases v with
   | bool c=>
    obtain⟨cs,e1,e2⟩:=Zz1.mp e
    subst e2
    cases a
    exact .cons _ (ih b e1)
   | none=>cases e
   | int _=>cases e
   | str _=>cases e
   | tup _=>cases e
   | ref _=>cases e
section
variable {prog:Program} {w:World}
theorem ZlF: OpN prog w (fun xs=>call (.type "list") xs) Zem:=by
 intro Γ W ρ H fr s Q E as xs v H' r hx ho post
 unfold Zem at ho
 split at ho
 ·obtain⟨vs,e1,e2⟩:=Zz1.mp ho
  cases e2
  obtain⟨x,ex,rx⟩:=hx.one
  subst ex
  cases rx with
  | @ref _ a ea=>
   obtain⟨hl,ys,k,hg,hv⟩:=r.at e1 ea
   refine call_list_seq (hsz:=Zcz (by rw[List.size_toArray,hv.length];exact hl)) a (.inl rfl) hg rfl rfl fun h' c' up hg'=>?_
   obtain⟨W2,l2,r2,v2⟩:=r.listAt up hg' hv hl
   exact post W2 h' s.toks _ l2 r2 v2
 ·cases ho
  obtain⟨x,ex,rx⟩:=hx.one
  subst ex
  cases rx with
  | @tup _ a ys k hm hl hv=>
   refine call_list_seq (hsz:=Zcz (by rw[List.size_toArray,hv.length];exact hl)) a (.inr rfl) (r.tupAt hm) rfl rfl fun h' c' up hg'=>?_
   obtain⟨W2,l2,r2,v2⟩:=r.listAt up hg' hv hl
   exact post W2 h' s.toks _ l2 r2 v2
 ·cases ho
theorem Zt8: OpN prog w (fun xs=>call (.type "tuple") xs) Zfc:=by
 intro Γ W ρ H fr s Q E as xs v H' r hx ho post
 unfold Zfc at ho
 split at ho
 ·obtain⟨vs,e1,e2⟩:=Zz1.mp ho
  cases e2
  obtain⟨x,ex,rx⟩:=hx.one
  subst ex
  cases rx with
  | @ref _ a ea=>
   obtain⟨hl,ys,k,hg,hv⟩:=r.at e1 ea
   have isl:s.heap.IsList a ys.toArray:=⟨_,hg,rfl,k,rfl⟩
   refine call_tuple_list isl (fun h' up=>?_) (Zcz (by rw[List.size_toArray,hv.length];exact hl))
   obtain⟨W2,l2,r2,v2⟩:=(r.grown up).tuple (k:=0) hv hl
   exact post W2 _ s.toks _ l2 r2 v2
 ·cases ho
  obtain⟨x,ex,rx⟩:=hx.one
  subst ex
  cases rx with
  | @tup _ a ys k hm hl hv=>
   have it:IsTup s.heap a ys.toArray:=⟨_,r.tupAt hm,rfl,k,rfl⟩
   exact call_tuple_tup it (post W s.heap s.toks _ (.refl W) r (.tup hm hl hv))
 ·cases ho
theorem ZwV: OpN prog w (fun xs=>call (.builtin "any") xs) ZjD:=by
 intro Γ W ρ H fr s Q E as xs v H' r hx ho post
 unfold ZjD at ho
 split at ho
 ·obtain⟨vs,e1,e2⟩:=Zz0.mp ho
  obtain⟨bs,e3,e4⟩:=Zz1.mp e2
  cases e4
  obtain⟨x,ex,rx⟩:=hx.one
  subst ex
  cases rx with
  | @ref _ a ea=>
   obtain⟨hl,ys,k,hg,hv⟩:=r.at e1 ea
   have isl:s.heap.IsList a ys.toArray:=⟨_,hg,rfl,k,rfl⟩
   obtain⟨m,c,led,r'⟩:=r
   exact any_bools r'.F r'.N Γ.hh isl (Zs2 hv e3) fun h' tk F' N'=>post W h' tk _ (.refl W) (r'.same F' N') (.bool _)
 ·cases ho
end
section
variable {prog:Program} {w:World} {K:Frag} {p:Program} {loose:List Str} {mean:ExcName→Option Value} {mg mb:Str→Option Value} {Γ:Cx} {dp un:Nat}
theorem ZwW{x:Str}{v:Value}(clr:Clr K p loose mean mg mb Γ dp un)(e:nsIn K mainGlobals x=some (some v))(hg:Γ.env.globals=mainGlobals)(hk:Γ.env.scope.kind=.function)(hx:Γ.env.kindOf x=some .globalImplicit)(hd:(x == ("__debug__":Str))=false): Nm prog w Γ x v:=by
 obtain⟨_,_,_,_,_,_,_,_,_,_,_,X,T,_⟩:=clr
 intro pos m s Q E F q
 exact Name_function_global hk hx (loadGlobal_global (env:=Γ.env) (by rw[hg];exact T.g.keeps F.keep) (mg_of X T.g e) q) hd
theorem ZuJ{x:Str}{v:Value}(clr:Clr K p loose mean mg mb Γ dp un)(e:nsIn K mainGlobals x=some none)(hv:bootBuiltins x=some v)(hn:x≠"__name__")(hg:Γ.env.globals=mainGlobals)(hb:Γ.env.builtins=builtinsNs)(hk:Γ.env.scope.kind=.function)(hx:Γ.env.kindOf x=some .globalImplicit)(hd:(x == ("__debug__":Str))=false): Nm prog w Γ x v:=by
 obtain⟨_,_,_,_,_,_,_,_,_,_,_,X,T,_⟩:=clr
 intro pos m s Q E F q
 exact Name_function_global hk hx (loadGlobal_builtin (env:=Γ.env) (by rw[hg];exact T.g.keeps F.keep) (mg_none_of X T.g e) (by rw[hb];exact T.b.keeps F.keep) ((T.builtins x hn).trans hv) q) hd
end
section
variable {prog:Program} {w:World} {Γ:Cx} {scope:Scope} {cl:List (Str×Addr)} {C:Addr} {ts:List (Str×Nat)} {ρ0:Lc}
theorem ZvK{x:Str}{t:Nat}(hm:(x,t)∈ts)(hk:scope.kind=.function)(hl:(compEnvC scope cl C Γ.env).kindOf x=some .local)(hd:(x == ("__debug__":Str))=false): Rd prog w (Za9 Γ scope cl C ts ρ0) x t:=by
 intro W ρ H fr s Q E v pos r e q
 obtain⟨m,c,led,r⟩:=r
 obtain⟨oC,m₂,cs,ec,h0,h1,h2,h3,h4⟩:=r.own
 obtain⟨v',y,e1,e2,e3⟩:=h2 _ hm
 rw[e]at e1
 cases e1
 exact LCgL.ld_own r.N (r.clIn _ (by rw[ec];exact Zz5)) h1 e2 (q y e3) hk hl hd
end
section
variable {prog:Program} {w:World} {dp un:Nat} {gd:Option (List Code)} {cn:Str} {cs:Scope} {L a:Addr} {ccd:Value} {clf:List (Str×Addr)} {outer:List Env} {h₀:Heap} {hu:un+200<cLine} {names:List Str} {scope:Scope} {cl:List (Str×Addr)} {C:Addr} {ts:List (Str×Nat)} {ρ0:Lc}
theorem ZvL{x:Str}{i:Nat}(hi:names[i]?=some x)(hx:cs.names.lookup x=some .cell)(hne:∀p∈ts,p.2≠i)(hcl:cl.lookup x=clf.lookup x)(hk:scope.kind=.function)(hl:(compEnvC scope cl C (envX cn cs L a ccd clf)).kindOf x=some .cell)(hd:(x == ("__debug__":Str))=false):
  Rd prog w (Za9 (Zbu dp un gd cn cs L a ccd clf outer h₀ hu names) scope cl C ts ρ0) x i:=by
 intro W ρ H fr s Q E v pos r e q
 obtain⟨m,c,led,r⟩:=r
 obtain⟨oC,m₂,cs',ec,h0,h1,h2,h3,h4⟩:=r.own
 rw[h3 i hne]at e
 obtain⟨d,o,y,g1,g2,g3,g4⟩:=h4.cel i x v hi hx e
 exact kcf_cell r.N (hcl.trans g1) (r.clIn _ (by rw[ec];exact Zz2 _ g2)) g3 (q y g4) hk hl hd
end
end PM
end
section
namespace My
open PySem PySem.W PySem.Calls PyProof.Rows PySem.Spec
structure Cell(v:Int): Prop where
 bits:Builtin.Int.intBits v≤2 ^ 20
theorem bits_zero: Builtin.Int.intBits 0≤2 ^ 20:=by unfold Builtin.Int.intBits;simp
theorem cell_at{ns:List Int}(h:PyData.layable0 (.list (ns.map .int))=true)(i:Int): Cell (cellAt ns i 0):=by
 refine⟨?_⟩
 rw[cellAt_def,List.getD_eq_getElem?_getD]
 cases e:ns[i.toNat]? with
 | none=>exact bits_zero
 | some v=>exact PyData.bits_item_of_ints h (List.mem_of_getElem? e)
section
variable {prog:Program} {w:World} {A:Around} {E:Value→Shared→Prop} {s:Shared} {x y:Int} {t u:Tok} {Q:Value→Shared→Prop}
@[irreducible] noncomputable def T9: Int:=10 ^ 9
theorem T9_eq: T9=1000000000:=by unfold T9;decide +kernel
end
end My
end
section
/-! Reckoning with the plain machine. -/
namespace PM
open PySem PySem.W PyProof.Rows
section
variable (ρ:Lc) (H:Hp)
@[simp] theorem ZuK: Zfu ρ H=some (none,H):=rfl
@[simp] theorem ZuL(f:Ex): Zfv f ρ H=(f ρ H).map fun p=>(some p.1,p.2):=rfl
end
section
variable (a b:Int) (H:Hp)
end
def Ext(H H':Hp): Prop:=∃X,H'=H++X
theorem Ext.trans{H H' H'':Hp}(a:Ext H H')(b:Ext H' H''): Ext H H'':=by
 obtain⟨X,rfl⟩:=a
 obtain⟨Y,rfl⟩:=b
 exact⟨X++Y,by simp⟩
theorem Ext.at{H H':Hp}(h:Ext H H'){i:Nat}{vs:List V}(e:H[i]?=some vs): H'[i]?=some vs:=by
 obtain⟨X,rfl⟩:=h
 rw[List.getElem?_append_left (Zz6.mp e).1]
 exact e
theorem Ext.one(H:Hp)(vs:List V): Ext H (H++[vs]):=⟨[vs],rfl⟩
theorem Zrm{b:Int}(hb:0≤b): Builtin.Range.rangeSize 0 b 1=b:=by
 unfold Builtin.Range.rangeSize
 rw[if_pos (by decide)]
 by_cases h:(0:Int)<b
 ·rw[if_pos h]
  omega
 ·rw[if_neg h]
  omega
theorem ZwX{b:Int}{H:Hp}(hb:0≤b)(hb9:b≤1000): Zb8 0 b 1 H=some (Zfb 0 1 b.toNat,b.toNat+1,H):=by
 unfold Zb8 rngN
 rw[Zrm hb,if_pos]
 refine⟨by decide,?_,hb,by rw[Za6];omega,?_⟩
 ·unfold Builtin.Range.small
  rw[Zrm hb]
  simp only[Builtin.Range.rangeFitsLong,Bool.and_eq_true,Bool.or_eq_true,decide_eq_true_eq,beq_iff_eq]
  rw[if_pos (by decide)]
  simp only[Bool.and_eq_true,decide_eq_true_eq]
  by_cases h:(0:Int)<b
  ·refine⟨⟨⟨⟨?_,?_⟩,?_⟩,?_⟩,Or.inr ?_⟩ <;> omega
  ·refine⟨⟨⟨⟨?_,?_⟩,?_⟩,?_⟩,?_⟩ <;> first | omega | (left;omega)
 ·exact PyProof.noPylong_small (by omega)
end PM
end
section
namespace PM
open PySem PySem.W PyProof.Rows My
theorem Zpj{a b:Int}(h:IntMulOk a b): mulOk a b=true:=by
 unfold IntMulOk at h
 unfold mulOk
 cases e:(decide (Builtin.Int.intBits a>shortFactorBits) && decide (Builtin.Int.intBits b>shortFactorBits) && Builtin.Int.intTooBig (Builtin.Int.intBits a+Builtin.Int.intBits b))with
 | true=>exact absurd e h
 | false=>rfl
theorem ZmE{a b:Int}{H:Hp}(h:0≤b∧(Builtin.Int.intBits a:Int)*b≤2 ^ 27): oPow (.int a) (.int b) H=some (.int (a ^ b.toNat),H):=by simp only[oPow];rw[if_pos h]
theorem ZxV(H:Hp): oPow (.int 10) (.int 9) H=some (.int T9,H):=by rw[ZmE (by decide +kernel)];unfold T9;rfl
end PM
end
section
namespace PM
open PySem PySem.W PyProof.Rows My
section
variable {ρ ρ1 ρ2:Lc} {H H1 H2 H3:Hp}
theorem ZwY{k:Int}: ZJ k ρ H=some (.int k,H):=rfl
theorem ZvM{f g:Ex}{a:Nat}{k:Int}{n:Nat}{vs:List V}(h1:f ρ H=some (.ref a,H1))(h2:g ρ H1=some (.int k,H2))(e:H2[a]?=some vs)(hk:k=(n:Int)): ZdH f (Zfv g) Zfu ρ H=some (.ref H2.length,H2++[vs.drop n]):=by
 simp only[ZdH,h1,Option.bind_some,ZuL,h2,Option.map_some,ZuK,ZhB,e]
 rw[ZoR vs hk]
end
end PM
end
section
/-! Forward reckoning: what comes, told by a claim. -/
namespace PM
open PySem PySem.W PyProof.Rows My
def Ok(c:Option (V×Hp))(Q:V→Hp→Prop): Prop:=∃v H,c=some (v,H)∧Q v H
def Okl(c:Option (List V×Hp))(Q:List V→Hp→Prop): Prop:=∃v H,c=some (v,H)∧Q v H
def Okt(c:Option (Bool×Hp))(Q:Bool→Hp→Prop): Prop:=∃v H,c=some (v,H)∧Q v H
def Oks(c:Option (Option V×Lc×Hp))(R:V→Hp→Prop)(N:Lc→Hp→Prop): Prop:=∃o ρ H,c=some (o,ρ,H)∧(∀v,o=some v→R v H)∧(o=none→N ρ H)
theorem Ok.mono{c:Option (V×Hp)}{Q Q':V→Hp→Prop}(h:Ok c Q)(k:∀v H,Q v H→Q' v H): Ok c Q':=by
 obtain⟨v,H,a,b⟩:=h;exact⟨v,H,a,k v H b⟩
theorem Okl.mono{c:Option (List V×Hp)}{Q Q':List V→Hp→Prop}(h:Okl c Q)(k:∀v H,Q v H→Q' v H): Okl c Q':=by
 obtain⟨v,H,a,b⟩:=h;exact⟨v,H,a,k v H b⟩
theorem Okt.mono{c:Option (Bool×Hp)}{Q Q':Bool→Hp→Prop}(h:Okt c Q)(k:∀v H,Q v H→Q' v H): Okt c Q':=by
 obtain⟨v,H,a,b⟩:=h;exact⟨v,H,a,k v H b⟩
theorem Oks.mono{c:Option (Option V×Lc×Hp)}{R R':V→Hp→Prop}{N N':Lc→Hp→Prop}(h:Oks c R N)(k:∀v H,R v H→R' v H)(l:∀ρ H,N ρ H→N' ρ H): Oks c R' N':=by
 obtain⟨o,ρ,H,a,b,d⟩:=h;exact⟨o,ρ,H,a,fun v e=>k v H (b v e),fun e=>l ρ H (d e)⟩
theorem Zys{c:Option (V×Hp)}{Q:V→Hp→Prop}{v:V}{H:Hp}(h:c=some (v,H))(k:Q v H): Ok c Q:=⟨v,H,h,k⟩
section
variable {ρ:Lc} {H:Hp} {Q:V→Hp→Prop} {L:List V→Hp→Prop} {T:Bool→Hp→Prop} {R:V→Hp→Prop} {N:Lc→Hp→Prop}
variable {a b:Int}
theorem ZqM{i:Nat}{X:Hp}{vs:List V}(e:H[i]?=some vs): (H++X)[i]?=some vs:=Ext.at ⟨X,rfl⟩ e
end
end PM
end
section
namespace PM
open PySem PySem.W PyProof.Rows PyProof
noncomputable def ZhD(f:Ex)(k:Nat): Ex:=fun ρ H=>(f ρ H).bind fun p=>match p.1 with
 | .ref i=>p.2[i]?.bind fun vs=>some (.ref p.2.length,p.2++[vs.drop k])
 | .tup vs=>if 1≤k∧k≤vs.length then some (.tup (vs.drop k),p.2)else none
 | _=>none
section
variable {prog:Program} {w:World} {Γ:Cx}
theorem Zi8{e lo:Expr}{p pos:Pos}{f:Ex}{k:Nat}(h:J prog w Γ e f)(hlo:J prog w Γ lo (ZJ k))(ht:∀o r,letTemporaryGo e o r=pure ():=by intro _ _;rfl): J prog w Γ (.Subscript e (.Slice (Option.some lo) Option.none Option.none p) pos) (ZhD f k):=by
 intro W ρ H fr s Q E v H' r hf post
 obtain⟨⟨v1,H1⟩,e1,hf⟩:=Zz0.mp hf
 cases v1 with
 | none=>cases hf
 | bool _=>cases hf
 | int _=>cases hf
 | str _=>cases hf
 | ref i=>
  obtain⟨vs,e2,e3⟩:=Zz0.mp hf
  refine ZvC h (JP.some hlo) JP.none ht W ρ H fr s Q E v H' r ?_ post
  rw[ZvM (n:=k) e1 ZwY e2 rfl]
  exact e3
 | tup vs=>
  simp only at hf
  by_cases c:1≤k∧k≤vs.length
  ·rw[if_pos c]at hf
   cases hf
   refine wpAny_Subscript_Slice (T:="tuple") slot_tuple_getitem.lookup (h W ρ H fr s _ E _ _ r e1 fun W1 k1 t1 x l1 r1 x1=>?_) ht
   refine wpAny_Slice ?_
   refine wpAny_evalPart_some (hlo W1 ρ _ fr _ _ E _ _ r1 rfl fun W2 k2 t2 y l2 r2 y2=>?_)
   refine wpAny_evalPart_none ?_
   refine wpAny_evalPart_none ?_
   cases y2 with
   | int _ u=>
    have x2:=x1.mono l2
    cases x2 with
    | @tup _ a ys kk hm hl hs=>
     have it:IsTup k2 a ys.toArray:=⟨_,r2.tupAt hm,rfl,kk,rfl⟩
     have it':IsTup (k2.push { cls:=.type "slice",data:=.fields #[.int k u,.none,.none] }) a ys.toArray:=it.keeps fun _ _ e=>Heap.get?_push_of_some _ e
     have hlen:=hs.length
     rw[Za6]at hl
     refine⟨it'.typeIs,getItem_tuple_from it' (Heap.IsSliceOf.new ..) c.1 (by simp[hlen];exact c.2) ?_ (Zcz (by simp[hlen];rw[Za6];exact hl))⟩
     obtain⟨W4,l4,r4,v4⟩:=(r2.push { cls:=.type "slice",data:=.fields #[.int k u,.none,.none] }).tuple (k:=0) (hs.drop k) (by rw[Za6];simp;omega)
     have:=post W4 _ t2 _ ((l1.trans l2).trans l4) r4 v4
     simpa using this
  ·rw[if_neg c]at hf
   cases hf
end
section
variable {ρ:Lc} {H:Hp} {Q:V→Hp→Prop}
theorem Zrn{a b c:Int}(hc:0<c)(hb:a<b): Builtin.Range.rangeSize a b c=(b-a-1) / c+1:=by
 unfold Builtin.Range.rangeSize
 rw[if_pos hc,if_pos hb]
theorem ZwZ{a b c:Int}{H:Hp}(ha:0≤a)(hb:a<b)(hb9:b≤1000)(hc:0<c)(hc9:c≤1000): Zb8 a b c H=some (Zfb a c (rngN a b c),rngN a b c+1,H):=by
 have e:=Zrn hc hb
 have h0:0≤(b-a-1) / c:=Int.ediv_nonneg (by omega) (by omega)
 have h2:(b-a-1) / c≤b-a-1:=Int.ediv_le_self _ (by omega)
 unfold Zb8
 rw[if_pos]
 refine⟨by omega,?_,by omega,by unfold rngN;rw[Za6];omega,PyProof.noPylong_small (by omega)⟩
 unfold Builtin.Range.small
 rw[e]
 simp only[Builtin.Range.rangeFitsLong,Bool.and_eq_true,Bool.or_eq_true,decide_eq_true_eq,beq_iff_eq]
 rw[if_pos hc]
 simp only[Bool.and_eq_true,decide_eq_true_eq]
 refine⟨⟨⟨⟨?_,?_⟩,?_⟩,?_⟩,?_⟩ <;> first | omega | (left;omega) | (right;omega)
end
end PM
end
section
namespace PM
open PySem PySem.W PyProof.Rows PyProof My
section
variable {ρ:Lc} {H:Hp} {Q:V→Hp→Prop} {L:List V→Hp→Prop}
end
noncomputable def oi: Option Int→V
 | none=>.none
 | some k=>.int k
def Grid(H:Hp)(p:Nat)(as:List Nat)(B:List (List (Option Int))): Prop:=H[p]?=some (as.map V.ref)∧as.length=B.length∧∀(i a:Nat) (row:List (Option Int)),as[i]?=some a→B[i]?=some row→H[a]?=some (row.map oi)
theorem Zyn{H X:Hp}{p:Nat}{as:List Nat}{B:List (List (Option Int))}(g:Grid H p as B): Grid (H++X) p as B:=⟨ZqM g.1,g.2.1,fun i a row h1 h2=>ZqM (g.2.2 i a row h1 h2)⟩
noncomputable def od: Option Int→PyData
 | none=>.none
 | some k=>.int k
theorem ZnR{a:Int}{k:Nat}(h:Builtin.Int.intBits a≤k): a.natAbs<2 ^ k:=by
 unfold Builtin.Int.intBits at h
 by_cases z:a=0
 ·subst z
  exact Nat.two_pow_pos k
 ·rw[if_neg (by simpa using z)]at h
  exact Nat.lt_of_lt_of_le Nat.lt_log2_self (Nat.pow_le_pow_right (by decide) h)
theorem ZuM{a b:Int}{k:Nat}(ha:Builtin.Int.intBits a≤k)(hb:Builtin.Int.intBits b≤k): Builtin.Int.intBits (a+b)≤k+1:=by
 refine PyProof.Rows.intBits_le ?_
 have h1:=ZnR ha
 have h2:=ZnR hb
 rw[Nat.pow_succ]
 omega
theorem Zpk{a b:Int}(ha:Builtin.Int.intBits a≤2 ^ 21)(hb:Builtin.Int.intBits b≤2 ^ 21): mulOk a b=true:=by
 have e:(2:Nat) ^ 21=2097152:=by decide
 have h:Builtin.Int.intTooBig (Builtin.Int.intBits a+Builtin.Int.intBits b)=false:=by
  unfold Builtin.Int.intTooBig bitsLine
  exact decide_eq_false (by omega)
 unfold mulOk
 rw[h]
 simp
theorem Zt9{a b:Int}(h1:-(2 ^ 64)<b)(h2:b<2 ^ 64): mulOk a b=true:=Zpj (IntMulOk.of_right (intBits_le_64 h1 h2))
theorem Ztr{a b:Int}(h1:-(2 ^ 64)<a)(h2:a<2 ^ 64): mulOk a b=true:=Zpj (IntMulOk.of_left (intBits_le_64 h1 h2))
@[irreducible] noncomputable def M9: Int:=48271 ^ Int.toNat 9
@[irreducible] noncomputable def T40: Int:=10 ^ Int.toNat 40
theorem Zw0(H:Hp): oPow (.int 48271) (.int 9) H=some (.int M9,H):=by rw[ZmE (by decide +kernel)];unfold M9;rfl
theorem Zw1(H:Hp): oPow (.int 10) (.int 40) H=some (.int T40,H):=by rw[ZmE (by decide +kernel)];unfold T40;rfl
theorem Zi9: T40=10000000000000000000000000000000000000000:=by unfold T40;decide +kernel
theorem ZvN: Builtin.Int.intBits M9≤2 ^ 21:=by
 unfold M9
 exact Nat.le_trans (PyProof.Rows.intBits_le (k:=256) (by decide +kernel)) (by decide)
section
variable {H:Hp} {Q:V→Hp→Prop} {a b:Int}
end
end PM
end
section
/-! The tree machine: values without places; lists that nobody else holds may be changed. -/
namespace TM
open PySem PM
inductive T where
 | none
 | bool (b:Bool)
 | int (i:Int)
 | str (s:Str)
 | tup (ts:List T)
 | lst (ts:List T)
mutual
inductive RF(H:Hp): V→T→List Nat→Prop where
 | none:RF H .none .none []
 | bool (b:Bool):RF H (.bool b) (.bool b) []
 | int (i:Int):RF H (.int i) (.int i) []
 | str (s:Str):RF H (.str s) (.str s) []
 | tup {vs:List V} {ts:List T} {F:List Nat}:RFs H vs ts F→RF H (.tup vs) (.tup ts) F
 | ref {a:Nat} {vs:List V} {ts:List T} {F:List Nat}:H[a]?=some vs→RFs H vs ts F→RF H (.ref a) (.lst ts) (a::F)
inductive RFs(H:Hp): List V→List T→List Nat→Prop where
 | nil:RFs H [] [] []
 | cons {v:V} {t:T} {F:List Nat} {vs:List V} {ts:List T} {G:List Nat}:RF H v t F→RFs H vs ts G→RFs H (v::vs) (t::ts) (F++G)
end
mutual
theorem RF.frame{H H':Hp}{v:V}{t:T}{F:List Nat}(r:RF H v t F)(h:∀a∈F,H'[a]?=H[a]?): RF H' v t F:=by
 cases r with
 | none=>exact .none
 | bool b=>exact .bool b
 | int i=>exact .int i
 | str s=>exact .str s
 | tup hs=>exact .tup (RFs.frame hs h)
 | ref e hs=>exact .ref ((h _ Zz5).trans e) (RFs.frame hs fun a m=>h a (Zz2 _ m))
theorem RFs.frame{H H':Hp}{vs:List V}{ts:List T}{F:List Nat}(r:RFs H vs ts F)(h:∀a∈F,H'[a]?=H[a]?): RFs H' vs ts F:=by
 cases r with
 | nil=>exact .nil
 | cons a b=>exact .cons (RF.frame a fun x m=>h x (Zz4 _ m)) (RFs.frame b fun x m=>h x (Zz3 _ m))
end
mutual
theorem RF.lt{H:Hp}{v:V}{t:T}{F:List Nat}(r:RF H v t F): ∀a∈F,a<H.length:=by
 cases r with
 | none=>intro a m;cases m
 | bool b=>intro a m;cases m
 | int i=>intro a m;cases m
 | str s=>intro a m;cases m
 | tup hs=>exact RFs.lt hs
 | ref e hs=>
  intro x m
  rcases Zz7.mp m with rfl | m
  ·exact(Zz6.mp e).1
  ·exact RFs.lt hs x m
theorem RFs.lt{H:Hp}{vs:List V}{ts:List T}{F:List Nat}(r:RFs H vs ts F): ∀a∈F,a<H.length:=by
 cases r with
 | nil=>intro a m;cases m
 | cons a b=>
  intro x m
  rcases Zz8.mp m with m | m
  ·exact RF.lt a x m
  ·exact RFs.lt b x m
end
theorem RF.ext{H:Hp}{v:V}{t:T}{F:List Nat}(r:RF H v t F)(X:Hp): RF (H++X) v t F:=r.frame fun a m=>List.getElem?_append_left (r.lt a m)
theorem RFs.ext{H:Hp}{vs:List V}{ts:List T}{F:List Nat}(r:RFs H vs ts F)(X:Hp): RFs (H++X) vs ts F:=r.frame fun a m=>List.getElem?_append_left (r.lt a m)
theorem RFs.length{H:Hp}: ∀{vs:List V} {ts:List T} {F:List Nat},RFs H vs ts F→vs.length=ts.length
 | _,_,_,.nil=>rfl
 | _,_,_,.cons _ r=>by rw[List.length_cons,List.length_cons,r.length]
theorem RFs.append{H:Hp}: ∀{vs us:List V} {ts ss:List T} {F G:List Nat},RFs H vs ts F→RFs H us ss G→RFs H (vs++us) (ts++ss) (F++G)
 | _,_,_,_,_,_,.nil,h=>h
 | _,_,_,_,_,_,.cons a r,h=>by rw[List.append_assoc];exact .cons a (r.append h)
theorem RFs.one{H:Hp}{v:V}{t:T}{F:List Nat}(r:RF H v t F): RFs H [v] [t] F:=by
 have:=RFs.cons r RFs.nil
 rwa [List.append_nil]at this
theorem RFs.snoc{H:Hp}{vs:List V}{ts:List T}{F G:List Nat}{v:V}{t:T}(r:RFs H vs ts F)(x:RF H v t G): RFs H (vs++[v]) (ts++[t]) (F++G):=r.append (.one x)
theorem RFs.at{H:Hp}: ∀{vs:List V} {ts:List T} {F:List Nat} {i:Nat} {t:T},RFs H vs ts F→ts[i]?=some t→∃v G,vs[i]?=some v∧RF H v t G∧G.Sublist F
 | _,_,_,_,_,.nil,e=>by simp at e
 | _,_,_,0,_,.cons a _,e=>by
  simp at e
  exact⟨_,_,by simp,e▸a,List.sublist_append_left _ _⟩
 | _,_,_,i+1,_,.cons _ r,e=>by
  simp at e
  obtain⟨x,G,hx,hr,hs⟩:=r.at e
  exact⟨x,G,by simpa using hx,hr,hs.trans (List.sublist_append_right _ _)⟩
theorem RFs.drop{H:Hp}: ∀{vs:List V} {ts:List T} {F:List Nat} (i:Nat),RFs H vs ts F→∃G,RFs H (vs.drop i) (ts.drop i) G∧G.Sublist F
 | _,_,_,0,h=>⟨_,h,List.Sublist.refl _⟩
 | _,_,_,_+1,.nil=>⟨_,.nil,List.Sublist.refl _⟩
 | _,_,_,i+1,.cons _ r=>by
  obtain⟨G,h1,h2⟩:=r.drop i
  exact⟨G,h1,h2.trans (List.sublist_append_right _ _)⟩
theorem RFs.split{H:Hp}: ∀{vs:List V} {ts:List T} {F:List Nat} {i:Nat} {t:T},RFs H vs ts F→ts[i]?=some t →
  ∃v G F1 F2,vs[i]?=some v∧RF H v t G∧F=F1++(G++F2)∧∀(H':Hp) (w:V) (t':T) (G':List Nat),RF H' w t' G'→(∀a∈F1,H'[a]?=H[a]?)→(∀a∈F2,H'[a]?=H[a]?)→RFs H' (vs.set i w) (ts.set i t') (F1++(G'++F2))
 | _,_,_,_,_,.nil,e=>by simp at e
 | _,_,_,0,_,.cons (G:=G1) a r,e=>by
  simp at e
  subst e
  exact⟨_,_,[],G1,by simp,a,by simp,fun H' w t' G' x _ h2=>by simpa using RFs.cons x (r.frame h2)⟩
 | _,_,_,i+1,_,.cons (F:=F0) a r,e=>by
  simp at e
  obtain⟨v,G,F1,F2,h1,h2,h3,h4⟩:=r.split e
  refine⟨v,G,F0++F1,F2,by simpa using h1,h2,by rw[h3];simp,fun H' w t' G' x k1 k2=>?_⟩
  have:=RFs.cons (a.frame fun b m=>k1 b (Zz4 _ m)) (h4 H' w t' G' x (fun b m=>k1 b (Zz3 _ m)) k2)
  simpa using this
theorem Zpl{α:Type}{xs:List α}{i:Nat}{x:α}(h:xs[i]?=some x): xs.set i x=xs:=by
 obtain⟨hi,e⟩:=Zz6.mp h
 rw[←e]
 exact List.set_getElem_self hi
theorem nd3{F1 G F2 G' Gn:List Nat}(nd:(F1++(G++F2)).Nodup)(n':G'.Nodup)(sub:∀a∈G',a∈G∨a∈Gn)(ds:∀a∈Gn,a∉F1++(G++F2)): (F1++(G'++F2)).Nodup:=by
 rw[List.nodup_append,List.nodup_append]at nd ⊢
 obtain⟨a1,⟨a2,a3,a4⟩,a5⟩:=nd
 refine⟨a1,⟨n',a3,fun x hx y hy e=>?_⟩,fun x hx y hy e=>?_⟩
 ·rcases sub x hx with m | m
  ·exact a4 x m y hy e
  ·exact ds x m (Zz3 _ (Zz3 _ (e▸hy)))
 ·rcases Zz8.mp hy with m | m
  ·rcases sub y m with q | q
   ·exact a5 x hx y (Zz4 _ q) e
   ·exact ds y q (Zz4 _ (e▸hx))
  ·exact a5 x hx y (Zz3 _ m) e
theorem in3{F1 G F2 G' Gn:List Nat}(sub:∀a∈G',a∈G∨a∈Gn): ∀a∈F1++(G'++F2),a∈F1++(G++F2)∨a∈Gn:=by
 intro a m
 rcases Zz8.mp m with m | m
 ·exact .inl (Zz4 _ m)
 ·rcases Zz8.mp m with m | m
  ·exact(sub a m).imp (fun q=>List.mem_append_right _ (Zz4 _ q)) id
  ·exact .inl (Zz3 _ (Zz3 _ m))
mutual
noncomputable def T.flat: T→Bool
 | .lst _=>false
 | .tup ts=>T.flats ts
 | .none=>true
 | .bool _=>true
 | .int _=>true
 | .str _=>true
noncomputable def T.flats: List T→Bool
 | []=>true
 | t::ts=>t.flat && T.flats ts
end
mutual
theorem RF.flat{H:Hp}{v:V}{t:T}{F:List Nat}(r:RF H v t F)(h:t.flat=true): F=[]:=by
 cases r with
 | none=>rfl
 | bool b=>rfl
 | int i=>rfl
 | str s=>rfl
 | tup hs=>exact RFs.flats hs (by simpa [T.flat]using h)
 | ref e hs=>simp[T.flat]at h
theorem RFs.flats{H:Hp}{vs:List V}{ts:List T}{F:List Nat}(r:RFs H vs ts F)(h:T.flats ts=true): F=[]:=by
 cases r with
 | nil=>rfl
 | cons a b=>
  simp only[T.flats,Bool.and_eq_true]at h
  rw[RF.flat a h.1,RFs.flats b h.2]
  rfl
end
noncomputable def T.flatIn: T→Bool
 | .lst ts=>T.flats ts
 | t=>t.flat
noncomputable def Zdw(f:List T→Option (List T)): List Int→T→Option T
 | [],.lst ts=>(f ts).map .lst
 | k::ks,.lst ts=>(seqIndex? k ts.length).bind fun j=>ts[j]?.bind fun t=>(Zdw f ks t).map fun u=>.lst (ts.set j u)
 | k::ks,.tup ts=>(seqIndex? k ts.length).bind fun j=>ts[j]?.bind fun t=>(Zdw f ks t).map fun u=>.tup (ts.set j u)
 | _,_=>none
inductive Lead(H:Hp): List Int→V→Nat→Prop where
 | nil {a:Nat}:Lead H [] (.ref a) a
 | ref {k:Int} {ks:List Int} {b:Nat} {vs:List V} {j:Nat} {v:V} {a:Nat}:H[b]?=some vs→seqIndex? k vs.length=some j→vs[j]?=some v→Lead H ks v a→Lead H (k::ks) (.ref b) a
 | tup {k:Int} {ks:List Int} {vs:List V} {j:Nat} {v:V} {a:Nat}:seqIndex? k vs.length=some j→vs[j]?=some v→Lead H ks v a→Lead H (k::ks) (.tup vs) a
theorem Zfj{H:Hp}{Gn:List Nat}{f:List T→Option (List T)}: ∀(ks:List Int) {v:V} {t t':T} {F:List Nat},RF H v t F→F.Nodup→(∀a∈Gn,a∉F)→Zdw f ks t=some t' →
  ∃a vs ts ts' G,Lead H ks v a∧a∈F∧H[a]?=some vs∧RFs H vs ts G∧f ts=some ts'∧G.Nodup∧a∉G∧(∀x∈G,x∈F) ∧
   ∀vs' G',RFs H vs' ts' G'→G'.Nodup→a∉G'→(∀x∈G',x∈G∨x∈Gn)→∃F',RF (H.set a vs') v t' F'∧F'.Nodup∧∀x∈F',x∈F∨x∈Gn
 | [],v,t,t',F,r,nd,ds,e=>by
  cases r with
  | @ref a vs ts G e1 hs=>
   obtain⟨ts',h1,h2⟩:=Zz1.mp e
   subst h2
   rw[List.nodup_cons]at nd
   refine⟨a,vs,ts,ts',G,.nil,List.mem_cons_self,e1,hs,h1,nd.2,nd.1,fun x m=>List.mem_cons_of_mem _ m,fun vs' G' r' n' na sub=>⟨a::G',?_,?_,?_⟩⟩
   ·have ha:=(Zz6.mp e1).1
    refine .ref (List.getElem?_set_self ha) (r'.frame fun b m=>List.getElem?_set_ne ?_)
    intro q
    subst q
    exact na m
   ·exact List.nodup_cons.mpr ⟨na,n'⟩
   ·intro x m
    rcases Zz7.mp m with rfl | m
    ·exact .inl Zz5
    ·exact(sub x m).imp (Zz2 _) id
  | none=>cases e
  | bool _=>cases e
  | int _=>cases e
  | str _=>cases e
  | tup _=>cases e
 | k::ks,v,t,t',F,r,nd,ds,e=>by
  cases r with
  | none=>cases e
  | bool _=>cases e
  | int _=>cases e
  | str _=>cases e
  | @tup vs ts _ hs=>
   obtain⟨j,e1,e⟩:=Zz0.mp e
   obtain⟨u,e2,e⟩:=Zz0.mp e
   obtain⟨u',e3,e⟩:=Zz1.mp e
   subst e
   obtain⟨w,G1,F1,F2,e4,g1,eF,rb⟩:=hs.split e2
   subst eF
   have nd1:G1.Nodup:=(List.nodup_append.mp (List.nodup_append.mp nd).2.1).1
   have hin:∀x∈G1,x∈F1++(G1++F2):=fun x m=>List.mem_append_right _ (Zz4 _ m)
   obtain⟨a,us,qs,qs',G,l,am,ea,hq,hf,gn,na,gs,go⟩:=Zfj ks g1 nd1 (fun b m q=>ds b m (hin b q)) e3
   refine⟨a,us,qs,qs',G,.tup (by rw[hs.length];exact e1) e4 l,hin a am,ea,hq,hf,gn,na,fun x m=>hin x (gs x m),fun vs' G' r' n' na' sub=>?_⟩
   obtain⟨G2,f1,f2,f3⟩:=go vs' G' r' n' na' sub
   obtain⟨a1,a2,a5⟩:=List.nodup_append.mp nd
   obtain⟨_,a3,a4⟩:=List.nodup_append.mp a2
   have:=rb (H.set a vs') w u' G2 f1 (fun b m=>List.getElem?_set_ne fun q=>a5 b m a (Zz4 _ am) q.symm) (fun b m=>List.getElem?_set_ne fun q=>a4 a am b m q)
   rw[Zpl e4]at this
   exact⟨_,.tup this,nd3 nd f2 f3 ds,in3 f3⟩
  | @ref b vs ts F' e0 hs=>
   obtain⟨j,e1,e⟩:=Zz0.mp e
   obtain⟨u,e2,e⟩:=Zz0.mp e
   obtain⟨u',e3,e⟩:=Zz1.mp e
   subst e
   obtain⟨w,G1,F1,F2,e4,g1,eF,rb⟩:=hs.split e2
   subst eF
   rw[List.nodup_cons]at nd
   obtain⟨nb,nd⟩:=nd
   have nd1:G1.Nodup:=(List.nodup_append.mp (List.nodup_append.mp nd).2.1).1
   have hin:∀x∈G1,x∈F1++(G1++F2):=fun x m=>List.mem_append_right _ (Zz4 _ m)
   have ds':∀a∈Gn,a∉F1++(G1++F2):=fun a m q=>ds a m (Zz2 _ q)
   obtain⟨a,us,qs,qs',G,l,am,ea,hq,hf,gn,na,gs,go⟩:=Zfj ks g1 nd1 (fun b m q=>ds' b m (hin b q)) e3
   refine⟨a,us,qs,qs',G,.ref e0 (by rw[hs.length];exact e1) e4 l,List.mem_cons_of_mem _ (hin a am),ea,hq,hf,gn,na,fun x m=>List.mem_cons_of_mem _ (hin x (gs x m)),fun vs' G' r' n' na' sub=>?_⟩
   obtain⟨G2,f1,f2,f3⟩:=go vs' G' r' n' na' sub
   obtain⟨a1,a2,a5⟩:=List.nodup_append.mp nd
   obtain⟨_,a3,a4⟩:=List.nodup_append.mp a2
   have:=rb (H.set a vs') w u' G2 f1 (fun b m=>List.getElem?_set_ne fun q=>a5 b m a (Zz4 _ am) q.symm) (fun b m=>List.getElem?_set_ne fun q=>a4 a am b m q)
   rw[Zpl e4]at this
   have hab:a≠b:=fun q=>nb (hin b (q▸am))
   refine⟨_,.ref ((List.getElem?_set_ne hab).trans e0) this,List.nodup_cons.mpr ⟨fun q=>?_,nd3 nd f2 f3 ds'⟩,fun x m=>?_⟩
   ·rcases in3 f3 b q with m | m
    ·exact nb m
    ·exact ds b m Zz5
   ·rcases Zz7.mp m with rfl | m
    ·exact .inl Zz5
    ·exact(in3 f3 x m).imp (Zz2 _) id
end TM
end
section
namespace TM
open PySem PM
noncomputable abbrev TL:=Nat→Option T
noncomputable abbrev PE:=TL→Option T
noncomputable abbrev PEs:=TL→Option (List T)
noncomputable abbrev PB:=TL→Option Bool
noncomputable abbrev PG:=TL→Option (List T)
noncomputable def ZO(σ:TL)(i:Nat)(t:T): TL:=fun j=>if j=i then some t else σ j
structure Ctx where
 H0:Hp
 F0:List Nat
 P:Nat→Prop
structure St(c:Ctx)(O:List Nat)(ρ:Lc)(σ:TL)(H:Hp)(Φ:Nat→List Nat): Prop where
 slot:∀i t,σ i=some t→∃v,ρ i=some v∧RF H v t (Φ i)
 src:∀i t,σ i=some t→∀a∈Φ i,c.H0.length≤a∨c.P a
 own:∀i∈O,∀t,σ i=some t→(Φ i).Nodup∧(∀a∈Φ i,c.H0.length≤a∨a∈c.F0)∧∀j u,j≠i→σ j=some u→∀a∈Φ i,a∉Φ j
 len:c.H0.length≤H.length
 keep:∀a,a<c.H0.length→a∉c.F0→H[a]?=c.H0[a]?
 pos:0<c.H0.length
 f0:0∉c.F0
theorem St.ext{c:Ctx}{O:List Nat}{ρ:Lc}{σ:TL}{H:Hp}{Φ:Nat→List Nat}(s:St c O ρ σ H Φ)(X:Hp): St c O ρ σ (H++X) Φ:=
 ⟨fun i t e=>by obtain⟨v,h1,h2⟩:=s.slot i t e;exact⟨v,h1,h2.ext X⟩,s.src,s.own,by have:=s.len;rw[List.length_append];omega,fun a ha hn=>by
  rw[List.getElem?_append_left (Nat.lt_of_lt_of_le ha s.len)];exact s.keep a ha hn,s.pos,s.f0⟩
theorem St.less{c:Ctx}{O O':List Nat}{ρ:Lc}{σ:TL}{H:Hp}{Φ:Nat→List Nat}(s:St c O ρ σ H Φ)(h:∀i∈O',i∈O): St c O' ρ σ H Φ:=⟨s.slot,s.src,fun i hi=>s.own i (h i hi),s.len,s.keep,s.pos,s.f0⟩
def From(H:Hp)(N:List Nat)(σ:TL)(Φ:Nat→List Nat)(a:Nat): Prop:=H.length≤a∨∃i∈N,(∃t,σ i=some t)∧a∈Φ i
theorem From.mono{H:Hp}{N N':List Nat}{σ:TL}{Φ:Nat→List Nat}{a:Nat}(f:From H N σ Φ a)(h:∀i∈N,i∈N'): From H N' σ Φ a:=f.imp id fun⟨i,hi,q⟩=>⟨i,h i hi,q⟩
theorem From.back{H X:Hp}{N:List Nat}{σ:TL}{Φ:Nat→List Nat}{a:Nat}(f:From (H++X) N σ Φ a): From H N σ Φ a:=f.imp (fun h=>by rw[List.length_append]at h;omega) id
theorem From.nil{H:Hp}{σ:TL}{Φ:Nat→List Nat}{a:Nat}(f:From H [] σ Φ a): H.length≤a:=f.elim id fun⟨_,hi,_⟩=>by cases hi
def E(O N:List Nat)(u:Bool)(e:Ex)(p:PE): Prop:=∀(c:Ctx) (ρ:Lc) (σ:TL) (H:Hp) (Φ:Nat→List Nat) (t:T),St c O ρ σ H Φ→p σ=some t →
 ∃v X F,e ρ H=some (v,H++X)∧RF (H++X) v t F∧(∀a∈F,From H N σ Φ a)∧(u=true→F.Nodup)
def Es(O N:List Nat)(u:Bool)(n:Nat)(e:Exs)(p:PEs): Prop:=∀(c:Ctx) (ρ:Lc) (σ:TL) (H:Hp) (Φ:Nat→List Nat) (ts:List T),St c O ρ σ H Φ→p σ=some ts →
 ts.length=n∧∃vs X F,e ρ H=some (vs,H++X)∧RFs (H++X) vs ts F∧(∀a∈F,From H N σ Φ a)∧(u=true→F.Nodup)
def Bt(O:List Nat)(e:Ts)(p:PB): Prop:=∀(c:Ctx) (ρ:Lc) (σ:TL) (H:Hp) (Φ:Nat→List Nat) (b:Bool),St c O ρ σ H Φ→p σ=some b→∃X,e ρ H=some (b,H++X)
section
variable {O N:List Nat} {u:Bool}
theorem Zbc{O':List Nat}{e:Ex}{p:PE}(x:E O' N u e p)(h:∀i∈O',i∈O:=by decide): E O N u e p:=fun c ρ σ H Φ t s=>x c ρ σ H Φ t (s.less h)
theorem Zyp{O':List Nat}{e:Ts}{p:PB}(x:Bt O' e p)(h:∀i∈O',i∈O): Bt O e p:=fun c ρ σ H Φ t s=>x c ρ σ H Φ t (s.less h)
theorem E.sh{e:Ex}{p:PE}(x:E O N u e p): E O N false e p:=fun c ρ σ H Φ t s q=>by
 obtain⟨v,X,F,a1,a2,a3,a4⟩:=x c ρ σ H Φ t s q
 exact⟨v,X,F,a1,a2,a3,by simp⟩
noncomputable def Zv(k:Int): PE:=fun _=>some (.int k)
noncomputable def Zaz: PE:=fun _=>some .none
noncomputable def Zev(b:Bool): PE:=fun _=>some (.bool b)
noncomputable def ZhL(x:Str): PE:=fun _=>some (.str x)
noncomputable def Ze(i:Nat): PE:=fun σ=>σ i
theorem Zc(k:Int): E O [] true (ZJ k) (Zv k):=fun c ρ σ H Φ t s q=>by
 cases q;exact⟨_,[],[],by simp[ZJ],.int k,by simp,by simp⟩
theorem ZM: E O [] true ZaF Zaz:=fun c ρ σ H Φ t s q=>by
 cases q;exact⟨_,[],[],by simp[ZaF],.none,by simp,by simp⟩
theorem E.bool(k:Bool): E O [] true (Zft k) (Zev k):=fun c ρ σ H Φ t s q=>by
 cases q;exact⟨_,[],[],by simp[Zft],.bool k,by simp,by simp⟩
theorem E.str(k:Str): E O [] true (ZeC k) (ZhL k):=fun c ρ σ H Φ t s q=>by
 cases q;exact⟨_,[],[],by simp[ZeC],.str k,by simp,by simp⟩
theorem Za(i:Nat): E O [i] false (Zl i) (Ze i):=fun c ρ σ H Φ t s q=>by
 obtain⟨v,h1,h2⟩:=s.slot i t q
 exact⟨v,[],Φ i,by simp[Zl,h1],by simpa using h2,fun a m=>.inr ⟨i,List.mem_cons_self,⟨t,q⟩,m⟩,by simp⟩
theorem E.own{i:Nat}(hi:i∈O): E O [i] true (Zl i) (Ze i):=fun c ρ σ H Φ t s q=>by
 obtain⟨v,h1,h2⟩:=s.slot i t q
 exact⟨v,[],Φ i,by simp[Zl,h1],by simpa using h2,fun a m=>.inr ⟨i,List.mem_cons_self,⟨t,q⟩,m⟩,fun _=>(s.own i hi t q).1⟩
noncomputable def Zc6(p:PE): PE:=fun σ=>(p σ).bind fun t=>if t.flat then some t else none
theorem E.flat{e:Ex}{p:PE}(x:E O N u e p): E O [] true e (Zc6 p):=fun c ρ σ H Φ t s q=>by
 obtain⟨t',e1,e2⟩:=Zz0.mp q
 by_cases h:t'.flat=true
 ·rw[if_pos h]at e2
  cases e2
  obtain⟨v,X,F,a1,a2,a3,a4⟩:=x c ρ σ H Φ t s e1
  have:=a2.flat h
  subst this
  exact⟨v,X,[],a1,a2,by simp,by simp⟩
 ·rw[if_neg h]at e2;cases e2
noncomputable def ZL: PEs:=fun _=>some []
noncomputable def Zr(p:PE)(q:PEs): PEs:=fun σ=>(p σ).bind fun t=>(q σ).bind fun ts=>some (t::ts)
theorem Zd: Es O [] true 0 ZZ ZL:=fun c ρ σ H Φ ts s q=>by
 cases q;exact⟨rfl,[],[],[],by simp[ZZ],.nil,by simp,by simp⟩
theorem Zb{M:List Nat}{u':Bool}{n:Nat}{e:Ex}{p:PE}{es:Exs}{ps:PEs}(x:E O N u e p)(y:Es O M u' n es ps): Es O (N++M) false (n+1) (Zz e es) (Zr p ps):=fun c ρ σ H Φ ts s q=>by
 obtain⟨t,e1,q⟩:=Zz0.mp q
 obtain⟨rs,e2,q⟩:=Zz0.mp q
 cases q
 obtain⟨v,X,F,a1,a2,a3,a4⟩:=x c ρ σ H Φ t s e1
 obtain⟨hl,vs,Y,G,b1,b2,b3,b4⟩:=y c ρ σ (H++X) Φ rs (s.ext X) e2
 refine⟨by simp[hl],v::vs,X++Y,F++G,by simp[Zz,a1,b1],?_,fun a m=>?_,by simp⟩
 ·rw[←List.append_assoc];exact .cons (a2.ext Y) b2
 ·rcases Zz8.mp m with m | m
  ·exact(a3 a m).mono fun i hi=>List.mem_append_left _ hi
  ·exact(b3 a m).back.mono fun i hi=>List.mem_append_right _ hi
theorem ZlG{M:List Nat}{n:Nat}{e:Ex}{p:PE}{es:Exs}{ps:PEs}(x:E O N true e p)(y:Es O M true n es ps)(hN:∀i∈N,i∈O)(hM:∀i∈N,i∉M): Es O (N++M) true (n+1) (Zz e es) (Zr p ps):=fun c ρ σ H Φ ts s q=>by
 obtain⟨t,e1,q⟩:=Zz0.mp q
 obtain⟨rs,e2,q⟩:=Zz0.mp q
 cases q
 obtain⟨v,X,F,a1,a2,a3,a4⟩:=x c ρ σ H Φ t s e1
 obtain⟨hl,vs,Y,G,b1,b2,b3,b4⟩:=y c ρ σ (H++X) Φ rs (s.ext X) e2
 refine⟨by simp[hl],v::vs,X++Y,F++G,by simp[Zz,a1,b1],?_,fun a m=>?_,fun _=>?_⟩
 ·rw[←List.append_assoc];exact .cons (a2.ext Y) b2
 ·rcases Zz8.mp m with m | m
  ·exact(a3 a m).mono fun i hi=>List.mem_append_left _ hi
  ·exact(b3 a m).back.mono fun i hi=>List.mem_append_right _ hi
 ·rw[List.nodup_append]
  refine⟨a4 rfl,b4 rfl,fun a ha b hb e=>?_⟩
  subst e
  have hlt:=a2.lt a ha
  rcases b3 a hb with h | ⟨j,hj,⟨tj,ej⟩,mj⟩
  ·omega
  ·obtain⟨vj,_,rj⟩:=s.slot j tj ej
   have:=rj.lt a mj
   rcases a3 a ha with h | ⟨i,hi,⟨ti,ei⟩,mi⟩
   ·omega
   ·exact(s.own i (hN i hi) ti ei).2.2 j tj (fun q=>hM i hi (q▸hj)) ej a mi mj
theorem Zyq{O':List Nat}{n:Nat}{e:Exs}{p:PEs}(x:Es O' N u n e p)(h:∀i∈O',i∈O): Es O N u n e p:=fun c ρ σ H Φ t s=>x c ρ σ H Φ t (s.less h)
noncomputable def ZfC(p:PEs): PE:=fun σ=>(p σ).map .tup
noncomputable def ZdN(p:PEs): PE:=fun σ=>(p σ).map .lst
theorem E.tup{n:Nat}{e:Exs}{p:PEs}(x:Es O N u n e p)(hn:n≤LEN:=by decide): E O N u (Zc8 e) (ZfC p):=fun c ρ σ H Φ t s q=>by
 obtain⟨ts,e1,e2⟩:=Zz1.mp q
 subst e2
 obtain⟨hl,vs,Y,G,b1,b2,b3,b4⟩:=x c ρ σ H Φ ts s e1
 have:=b2.length
 refine⟨.tup vs,Y,G,?_,.tup b2,b3,b4⟩
 simp only[Zc8,b1,Option.bind_some]
 rw[if_pos (by omega)]
theorem E.list{n:Nat}{e:Exs}{p:PEs}(x:Es O N u n e p)(hn:n≤LEN:=by decide): E O N u (Zet e) (ZdN p):=fun c ρ σ H Φ t s q=>by
 obtain⟨ts,e1,e2⟩:=Zz1.mp q
 subst e2
 obtain⟨hl,vs,Y,G,b1,b2,b3,b4⟩:=x c ρ σ H Φ ts s e1
 have:=b2.length
 refine⟨.ref (H++Y).length,Y++[vs],(H++Y).length::G,?_,?_,fun a m=>?_,fun hu=>?_⟩
 ·simp only[Zet,b1,Option.bind_some]
  rw[if_pos (by omega),List.append_assoc]
 ·rw[←List.append_assoc];exact .ref (by simp) (b2.ext _)
 ·rcases Zz7.mp m with rfl | m
  ·exact .inl (by simp)
  ·exact b3 a m
 ·rw[List.nodup_cons]
  exact⟨fun m=>Nat.lt_irrefl _ (b2.lt _ m),b4 hu⟩
def OA2(o:V→V→Hp→Option (V×Hp))(q:T→T→Option T): Prop:=∀(H:Hp) (v1 v2:V) (t1 t2 t:T) (F1 F2:List Nat),RF H v1 t1 F1→RF H v2 t2 F2→q t1 t2=some t→∃v,o v1 v2 H=some (v,H)∧RF H v t []
def OI2(o:V→V→Hp→Option (V×Hp))(q:T→T→Option T): Prop:=∀(H:Hp) (v1 v2:V) (t1 t2 t:T) (F1 F2:List Nat),RF H v1 t1 F1→RF H v2 t2 F2→q t1 t2=some t→∃v F,o v1 v2 H=some (v,H)∧RF H v t F∧F.Sublist F1
def OC2(o:V→V→Hp→Option (V×Hp))(q:T→T→Option T): Prop:=∀(H:Hp) (v1 v2:V) (t1 t2 t:T) (F1 F2:List Nat),RF H v1 t1 F1→RF H v2 t2 F2→q t1 t2=some t→∃v X F,o v1 v2 H=some (v,H++X)∧RF (H++X) v t F∧(∀a∈F,H.length≤a∨a∈F1∨a∈F2)∧(t.flatIn=true→F.Nodup∧∀a∈F,H.length≤a)
def OA1(o:V→Hp→Option (V×Hp))(q:T→Option T): Prop:=∀(H:Hp) (v1:V) (t1 t:T) (F1:List Nat),RF H v1 t1 F1→q t1=some t→∃v,o v1 H=some (v,H)∧RF H v t []
def OAn(o:List V→Hp→Option (V×Hp))(q:List T→Option T): Prop:=∀(H:Hp) (vs:List V) (ts:List T) (t:T) (F:List Nat),RFs H vs ts F→q ts=some t→∃v,o vs H=some (v,H)∧RF H v t []
def OCn(o:List V→Hp→Option (V×Hp))(q:List T→Option T): Prop:=∀(H:Hp) (vs:List V) (ts:List T) (t:T) (F1:List Nat),0<H.length→RFs H vs ts F1→q ts=some t→∃v X F,o vs H=some (v,H++X)∧RF (H++X) v t F∧(∀a∈F,H.length≤a∨a∈F1)∧(t.flatIn=true→F.Nodup∧∀a∈F,H.length≤a)
noncomputable def Zm(q:T→T→Option T)(p1 p2:PE): PE:=fun σ=>(p1 σ).bind fun x=>(p2 σ).bind fun y=>q x y
noncomputable def pUn(q:T→Option T)(p1:PE): PE:=fun σ=>(p1 σ).bind fun x=>q x
noncomputable def ZT(q:List T→Option T)(ps:PEs): PE:=fun σ=>(ps σ).bind fun xs=>q xs
noncomputable def pFl(p:PE): PE:=fun σ=>(p σ).bind fun t=>if t.flatIn then some t else none
theorem Zit{M:List Nat}{u':Bool}{e1 e2:Ex}{p1 p2:PE}{q:T→T→Option T}{o:V→V→Hp→Option (V×Hp)}{c:Ctx}{ρ:Lc}{σ:TL}{H:Hp}{Φ:Nat→List Nat}{t:T}(x:E O N u e1 p1)(y:E O M u' e2 p2)(s:St c O ρ σ H Φ)(h:Zm q p1 p2 σ=some t):
  ∃t1 t2 v1 v2 X F1 F2,q t1 t2=some t∧RF (H++X) v1 t1 F1∧RF (H++X) v2 t2 F2∧(∀a∈F1,From H N σ Φ a)∧(∀a∈F2,From H M σ Φ a)∧(u=true→F1.Nodup)∧Zy o e1 e2 ρ H=o v1 v2 (H++X):=by
 obtain⟨t1,h1,h⟩:=Zz0.mp h
 obtain⟨t2,h2,h⟩:=Zz0.mp h
 obtain⟨v,X,F,a1,a2,a3,a4⟩:=x c ρ σ H Φ t1 s h1
 obtain⟨w,Y,G,b1,b2,b3,b4⟩:=y c ρ σ (H++X) Φ t2 (s.ext X) h2
 rw[List.append_assoc]at b1 b2
 refine⟨t1,t2,v,w,X++Y,F,G,h,?_,b2,a3,fun a m=>(b3 a m).back,a4,by simp only[Zy,a1,b1,Option.bind_some]⟩
 rw[←List.append_assoc];exact a2.ext Y
theorem Zk{M:List Nat}{u':Bool}{e1 e2:Ex}{p1 p2:PE}{q:T→T→Option T}{o:V→V→Hp→Option (V×Hp)}(k:OA2 o q)(x:E O N u e1 p1)(y:E O M u' e2 p2): E O [] true (Zy o e1 e2) (Zm q p1 p2):=fun c ρ σ H Φ t s h=>by
 obtain⟨t1,t2,v1,v2,X,F1,F2,hq,r1,r2,_,_,_,e⟩:=Zit (o:=o) x y s h
 obtain⟨v,h1,h2⟩:=k _ v1 v2 t1 t2 t F1 F2 r1 r2 hq
 exact⟨v,X,[],e.trans h1,h2,by simp,by simp⟩
theorem Zg{M:List Nat}{u':Bool}{e1 e2:Ex}{p1 p2:PE}{q:T→T→Option T}{o:V→V→Hp→Option (V×Hp)}(k:OI2 o q)(x:E O N u e1 p1)(y:E O M u' e2 p2): E O N u (Zy o e1 e2) (Zm q p1 p2):=fun c ρ σ H Φ t s h=>by
 obtain⟨t1,t2,v1,v2,X,F1,F2,hq,r1,r2,h1,_,hu,e⟩:=Zit (o:=o) x y s h
 obtain⟨v,F,k1,k2,k3⟩:=k _ v1 v2 t1 t2 t F1 F2 r1 r2 hq
 exact⟨v,X,F,e.trans k1,k2,fun a m=>h1 a (k3.subset m),fun h=>(hu h).sublist k3⟩
theorem ZV{M:List Nat}{u':Bool}{e1 e2:Ex}{p1 p2:PE}{q:T→T→Option T}{o:V→V→Hp→Option (V×Hp)}(k:OC2 o q)(x:E O N u e1 p1)(y:E O M u' e2 p2): E O (N++M) false (Zy o e1 e2) (Zm q p1 p2):=fun c ρ σ H Φ t s h=>by
 obtain⟨t1,t2,v1,v2,X,F1,F2,hq,r1,r2,h1,h2,hu,e⟩:=Zit (o:=o) x y s h
 obtain⟨v,Y,F,k1,k2,k3,k4⟩:=k _ v1 v2 t1 t2 t F1 F2 r1 r2 hq
 rw[List.append_assoc]at k1 k2
 refine⟨v,X++Y,F,e.trans k1,k2,fun a m=>?_,by simp⟩
 rcases k3 a m with h | h | h
 ·exact .inl (by rw[List.length_append]at h;omega)
 ·exact(h1 a h).mono fun i hi=>List.mem_append_left _ hi
 ·exact(h2 a h).mono fun i hi=>List.mem_append_right _ hi
theorem Zmn{M:List Nat}{u':Bool}{e1 e2:Ex}{p1 p2:PE}{q:T→T→Option T}{o:V→V→Hp→Option (V×Hp)}(k:OC2 o q)(x:E O N u e1 p1)(y:E O M u' e2 p2): E O [] true (Zy o e1 e2) (pFl (Zm q p1 p2)):=fun c ρ σ H Φ t s h=>by
 obtain⟨t',h,hf⟩:=Zz0.mp h
 by_cases fl:t'.flatIn=true
 ·rw[if_pos fl]at hf
  cases hf
  obtain⟨t1,t2,v1,v2,X,F1,F2,hq,r1,r2,h1,h2,hu,e⟩:=Zit (o:=o) x y s h
  obtain⟨v,Y,F,k1,k2,k3,k4⟩:=k _ v1 v2 t1 t2 t F1 F2 r1 r2 hq
  rw[List.append_assoc]at k1 k2
  exact⟨v,X++Y,F,e.trans k1,k2,fun a m=>.inl (by have:=(k4 fl).2 a m;rw[List.length_append]at this;omega),fun _=>(k4 fl).1⟩
 ·rw[if_neg fl]at hf;cases hf
theorem Za7{e1:Ex}{p1:PE}{q:T→Option T}{o:V→Hp→Option (V×Hp)}(k:OA1 o q)(x:E O N u e1 p1): E O [] true (eUn o e1) (pUn q p1):=fun c ρ σ H Φ t s h=>by
 obtain⟨t1,h1,h⟩:=Zz0.mp h
 obtain⟨v,X,F,a1,a2,a3,a4⟩:=x c ρ σ H Φ t1 s h1
 obtain⟨w,b1,b2⟩:=k _ v t1 t F a2 h
 exact⟨w,X,[],by simp only[eUn,a1,Option.bind_some,b1],b2,by simp,by simp⟩
theorem Z8{n:Nat}{es:Exs}{ps:PEs}{q:List T→Option T}{o:List V→Hp→Option (V×Hp)}(k:OAn o q)(x:Es O N u n es ps): E O [] true (Z0 o es) (ZT q ps):=fun c ρ σ H Φ t s h=>by
 obtain⟨ts,h1,h⟩:=Zz0.mp h
 obtain⟨_,vs,X,F,a1,a2,a3,a4⟩:=x c ρ σ H Φ ts s h1
 obtain⟨w,b1,b2⟩:=k _ vs ts t F a2 h
 exact⟨w,X,[],by simp only[Z0,a1,Option.bind_some,b1],b2,by simp,by simp⟩
theorem ZiM{n:Nat}{es:Exs}{ps:PEs}{q:List T→Option T}{o:List V→Hp→Option (V×Hp)}(k:OCn o q)(x:Es O N u n es ps): E O N false (Z0 o es) (ZT q ps):=fun c ρ σ H Φ t s h=>by
 obtain⟨ts,h1,h⟩:=Zz0.mp h
 obtain⟨_,vs,X,F,a1,a2,a3,a4⟩:=x c ρ σ H Φ ts s h1
 have hp:0<(H++X).length:=by have:=s.pos;have:=s.len;rw[List.length_append];omega
 obtain⟨w,Y,G,b1,b2,b3,b4⟩:=k _ vs ts t F hp a2 h
 rw[List.append_assoc]at b1 b2
 refine⟨w,X++Y,G,by simp only[Z0,a1,Option.bind_some,b1],b2,fun a m=>?_,by simp⟩
 rcases b3 a m with h | h
 ·exact .inl (by rw[List.length_append]at h;omega)
 ·exact a3 a h
theorem Zec{n:Nat}{es:Exs}{ps:PEs}{q:List T→Option T}{o:List V→Hp→Option (V×Hp)}(k:OCn o q)(x:Es O N u n es ps): E O [] true (Z0 o es) (pFl (ZT q ps)):=fun c ρ σ H Φ t s h=>by
 obtain⟨t',h,hf⟩:=Zz0.mp h
 by_cases fl:t'.flatIn=true
 ·rw[if_pos fl]at hf
  cases hf
  obtain⟨ts,h1,h⟩:=Zz0.mp h
  obtain⟨_,vs,X,F,a1,a2,a3,a4⟩:=x c ρ σ H Φ ts s h1
  have hp:0<(H++X).length:=by have:=s.pos;have:=s.len;rw[List.length_append];omega
  obtain⟨w,Y,G,b1,b2,b3,b4⟩:=k _ vs ts t F hp a2 h
  rw[List.append_assoc]at b1 b2
  exact⟨w,X++Y,G,by simp only[Z0,a1,Option.bind_some,b1],b2,fun a m=>.inl (by have:=(b4 fl).2 a m;rw[List.length_append]at this;omega),fun _=>(b4 fl).1⟩
 ·rw[if_neg fl]at hf;cases hf
def SimF(fr:Bool)(f:List V→Hp→Option (V×Hp))(p:List T→Option T): Prop:=∀(H:Hp) (vs:List V) (ts:List T) (t:T) (F1:List Nat),0<H.length→RFs H vs ts F1→p ts=some t→∃v X F,f vs H=some (v,H++X)∧RF (H++X) v t F∧(∀a∈F,H.length≤a∨a∈F1)∧(fr=true→F.Nodup∧∀a∈F,H.length≤a)
theorem Zu{fr:Bool}{n:Nat}{es:Exs}{ps:PEs}{q:List T→Option T}{o:List V→Hp→Option (V×Hp)}(k:SimF fr o q)(x:Es O N u n es ps): E O N false (Z0 o es) (ZT q ps):=fun c ρ σ H Φ t s h=>by
 obtain⟨ts,h1,h⟩:=Zz0.mp h
 obtain⟨_,vs,X,F,a1,a2,a3,a4⟩:=x c ρ σ H Φ ts s h1
 have hp:0<(H++X).length:=by have:=s.pos;have:=s.len;rw[List.length_append];omega
 obtain⟨w,Y,G,b1,b2,b3,b4⟩:=k _ vs ts t F hp a2 h
 rw[List.append_assoc]at b1 b2
 refine⟨w,X++Y,G,by simp only[Z0,a1,Option.bind_some,b1],b2,fun a m=>?_,by simp⟩
 rcases b3 a m with h | h
 ·exact .inl (by rw[List.length_append]at h;omega)
 ·exact a3 a h
theorem Zbn{n:Nat}{es:Exs}{ps:PEs}{q:List T→Option T}{o:List V→Hp→Option (V×Hp)}(k:SimF true o q)(x:Es O N u n es ps): E O [] true (Z0 o es) (ZT q ps):=fun c ρ σ H Φ t s h=>by
 obtain⟨ts,h1,h⟩:=Zz0.mp h
 obtain⟨_,vs,X,F,a1,a2,a3,a4⟩:=x c ρ σ H Φ ts s h1
 have hp:0<(H++X).length:=by have:=s.pos;have:=s.len;rw[List.length_append];omega
 obtain⟨w,Y,G,b1,b2,b3,b4⟩:=k _ vs ts t F hp a2 h
 rw[List.append_assoc]at b1 b2
 exact⟨w,X++Y,G,by simp only[Z0,a1,Option.bind_some,b1],b2,fun a m=>.inl (by have:=(b4 rfl).2 a m;rw[List.length_append]at this;omega),fun _=>(b4 rfl).1⟩
noncomputable def ZbB: T→Option Bool
 | .bool b=>some b
 | .none=>some false
 | .int i=>some (i != 0)
 | _=>none
theorem ZdD{H:Hp}{v:V}{t:T}{F:List Nat}{b:Bool}(r:RF H v t F)(h:ZbB t=some b): Zcu v H=some b:=by
 cases r <;> first | (cases h;rfl) | cases h
noncomputable def Z5(p:PE): PB:=fun σ=>(p σ).bind ZbB
noncomputable def ZdT(p:PB): PB:=fun σ=>(p σ).map fun b=>!b
noncomputable def Zas: PB:=fun _=>some true
noncomputable def Zfk: PB:=fun _=>some false
noncomputable def Zbp(p q:PB): PB:=fun σ=>(p σ).bind fun b=>if b then q σ else some false
noncomputable def bOr(p q:PB): PB:=fun σ=>(p σ).bind fun b=>if b then some true else q σ
noncomputable def bIf(p q r:PB): PB:=fun σ=>(p σ).bind fun b=>if b then q σ else r σ
theorem Zq{e:Ex}{p:PE}(x:E O N u e p): Bt O (Zak e) (Z5 p):=fun c ρ σ H Φ b s h=>by
 obtain⟨t,h1,h⟩:=Zz0.mp h
 obtain⟨v,X,F,a1,a2,a3,a4⟩:=x c ρ σ H Φ t s h1
 exact⟨X,by simp only[Zak,a1,Option.bind_some,ZdD a2 h,Option.map_some]⟩
theorem ZbI{e:Ts}{p:PB}(x:Bt O e p): Bt O (Zjx e) (ZdT p):=fun c ρ σ H Φ b s h=>by
 obtain⟨t,h1,h⟩:=Zz1.mp h
 subst h
 obtain⟨X,a1⟩:=x c ρ σ H Φ t s h1
 exact⟨X,by simp only[Zjx,a1,Option.map_some]⟩
theorem Zaj: Bt O Zbo Zas:=fun c ρ σ H Φ b s h=>by
 cases h;exact⟨[],by simp[Zbo]⟩
theorem ZbX: Bt O Zhn Zfk:=fun c ρ σ H Φ b s h=>by
 cases h;exact⟨[],by simp[Zhn]⟩
theorem Zah{e f:Ts}{p q:PB}(x:Bt O e p)(y:Bt O f q): Bt O (Zco e f) (Zbp p q):=fun c ρ σ H Φ b s h=>by
 obtain⟨t,h1,h⟩:=Zz0.mp h
 obtain⟨X,a1⟩:=x c ρ σ H Φ t s h1
 cases t with
 | true=>
  obtain⟨Y,b1⟩:=y c ρ σ (H++X) Φ b (s.ext X) (by simpa using h)
  exact⟨X++Y,by simp[Zco,a1,b1]⟩
 | false=>cases h;exact⟨X,by simp[Zco,a1]⟩
theorem ZaM{e f:Ts}{p q:PB}(x:Bt O e p)(y:Bt O f q): Bt O (tOr e f) (bOr p q):=fun c ρ σ H Φ b s h=>by
 obtain⟨t,h1,h⟩:=Zz0.mp h
 obtain⟨X,a1⟩:=x c ρ σ H Φ t s h1
 cases t with
 | false=>
  obtain⟨Y,b1⟩:=y c ρ σ (H++X) Φ b (s.ext X) (by simpa using h)
  exact⟨X++Y,by simp[tOr,a1,b1]⟩
 | true=>cases h;exact⟨X,by simp[tOr,a1]⟩
theorem Zyr{e f g:Ts}{p q r:PB}(x:Bt O e p)(y:Bt O f q)(z:Bt O g r): Bt O (tIf e f g) (bIf p q r):=fun c ρ σ H Φ b s h=>by
 obtain⟨t,h1,h⟩:=Zz0.mp h
 obtain⟨X,a1⟩:=x c ρ σ H Φ t s h1
 cases t with
 | true=>
  obtain⟨Y,b1⟩:=y c ρ σ (H++X) Φ b (s.ext X) (by simpa using h)
  exact⟨X++Y,by simp[tIf,a1,b1]⟩
 | false=>
  obtain⟨Y,b1⟩:=z c ρ σ (H++X) Φ b (s.ext X) (by simpa using h)
  exact⟨X++Y,by simp[tIf,a1,b1]⟩
noncomputable def pIf(b:PB)(p q:PE): PE:=fun σ=>(b σ).bind fun x=>if x then p σ else q σ
noncomputable def ZmY(p:PE): PE:=fun σ=>(p σ).bind fun t=>(ZbB t).map fun b=>.bool !b
noncomputable def ZeF(p q:PE): PE:=fun σ=>(p σ).bind fun t=>(ZbB t).bind fun b=>if b then q σ else some t
noncomputable def pOr(p q:PE): PE:=fun σ=>(p σ).bind fun t=>(ZbB t).bind fun b=>if b then some t else q σ
theorem Zew{M:List Nat}{b:Ts}{pb:PB}{e f:Ex}{p q:PE}(z:Bt O b pb)(x:E O N u e p)(y:E O M u f q): E O (N++M) u (eIf b e f) (pIf pb p q):=fun c ρ σ H Φ t s h=>by
 obtain⟨b',h1,h⟩:=Zz0.mp h
 obtain⟨X,a1⟩:=z c ρ σ H Φ b' s h1
 cases b' with
 | true=>
  obtain⟨v,Y,F,b1,b2,b3,b4⟩:=x c ρ σ (H++X) Φ t (s.ext X) (by simpa using h)
  exact⟨v,X++Y,F,by simp[eIf,a1,b1],by rw[←List.append_assoc];exact b2,fun a m=>(b3 a m).back.mono fun i hi=>List.mem_append_left _ hi,b4⟩
 | false=>
  obtain⟨v,Y,F,b1,b2,b3,b4⟩:=y c ρ σ (H++X) Φ t (s.ext X) (by simpa using h)
  exact⟨v,X++Y,F,by simp[eIf,a1,b1],by rw[←List.append_assoc];exact b2,fun a m=>(b3 a m).back.mono fun i hi=>List.mem_append_right _ hi,b4⟩
theorem ZmF{e:Ex}{p:PE}(x:E O N u e p): E O [] true (ZmV e) (ZmY p):=fun c ρ σ H Φ t s h=>by
 obtain⟨t1,h1,h⟩:=Zz0.mp h
 obtain⟨b,h2,h⟩:=Zz1.mp h
 subst h
 obtain⟨v,X,F,a1,a2,a3,a4⟩:=x c ρ σ H Φ t1 s h1
 exact⟨.bool !b,X,[],by simp only[ZmV,a1,Option.bind_some,ZdD a2 h2,Option.map_some],.bool _,by simp,by simp⟩
theorem Zc7{M:List Nat}{e f:Ex}{p q:PE}(x:E O N u e p)(y:E O M u f q): E O (N++M) u (ZdR e f) (ZeF p q):=fun c ρ σ H Φ t s h=>by
 obtain⟨t1,h1,h⟩:=Zz0.mp h
 obtain⟨b,h2,h⟩:=Zz0.mp h
 obtain⟨v,X,F,a1,a2,a3,a4⟩:=x c ρ σ H Φ t1 s h1
 cases b with
 | true=>
  obtain⟨w,Y,F',b1,b2,b3,b4⟩:=y c ρ σ (H++X) Φ t (s.ext X) (by simpa using h)
  exact⟨w,X++Y,F',by simp[ZdR,a1,ZdD a2 h2,b1],by rw[←List.append_assoc];exact b2,fun a m=>(b3 a m).back.mono fun i hi=>List.mem_append_right _ hi,b4⟩
 | false=>
  cases h
  exact⟨v,X,F,by simp[ZdR,a1,ZdD a2 h2],a2,fun a m=>(a3 a m).mono fun i hi=>List.mem_append_left _ hi,a4⟩
theorem ZhM{M:List Nat}{e f:Ex}{p q:PE}(x:E O N u e p)(y:E O M u f q): E O (N++M) u (eOr e f) (pOr p q):=fun c ρ σ H Φ t s h=>by
 obtain⟨t1,h1,h⟩:=Zz0.mp h
 obtain⟨b,h2,h⟩:=Zz0.mp h
 obtain⟨v,X,F,a1,a2,a3,a4⟩:=x c ρ σ H Φ t1 s h1
 cases b with
 | false=>
  obtain⟨w,Y,F',b1,b2,b3,b4⟩:=y c ρ σ (H++X) Φ t (s.ext X) (by simpa using h)
  exact⟨w,X++Y,F',by simp[eOr,a1,ZdD a2 h2,b1],by rw[←List.append_assoc];exact b2,fun a m=>(b3 a m).back.mono fun i hi=>List.mem_append_right _ hi,b4⟩
 | true=>
  cases h
  exact⟨v,X,F,by simp[eOr,a1,ZdD a2 h2],a2,fun a m=>(a3 a m).mono fun i hi=>List.mem_append_left _ hi,a4⟩
noncomputable def ZlV: T→String
 | .none=>"NoneType"
 | .bool _=>"bool"
 | .int _=>"int"
 | .str _=>"str"
 | .tup _=>"tuple"
 | .lst _=>"list"
end
end TM
end
section
namespace TM
open PySem PM
section
variable {O N:List Nat} {u:Bool}
noncomputable def ZiN(K:String)(t:T): Bool:=ZlV t == K || (K == "int" && ZlV t == "bool")
noncomputable def pIs(K:String)(p:PE): PE:=fun σ=>(p σ).map fun t=>.bool (ZiN K t)
theorem ZvO{H:Hp}{v:V}{t:T}{F:List Nat}(r:RF H v t F): ZlU v=ZlV t:=by cases r <;> rfl
theorem Zdx{K:String}{e:Ex}{p:PE}(x:E O N u e p): E O [] true (eIs K e) (pIs K p):=fun c ρ σ H Φ t s h=>by
 obtain⟨t1,h1,h⟩:=Zz1.mp h
 subst h
 obtain⟨v,X,F,a1,a2,a3,a4⟩:=x c ρ σ H Φ t1 s h1
 exact⟨.bool (ZiN K t1),X,[],by simp only[eIs,a1,Option.map_some,Zmk,ZiN,ZvO a2],.bool _,by simp,by simp⟩
noncomputable def ZcW: T→T→Option T
 | .int a,.int b=>some (.int (a-b))
 | _,_=>none
noncomputable def ZjE: T→T→Option T
 | .int a,.int b=>if b≠0∧Builtin.divisionGoesByPylong a b=false then some (.int (a.fdiv b))else none
 | _,_=>none
noncomputable def ZjF: T→T→Option T
 | .int a,.int b=>if b≠0 then some (.int (a.fmod b))else none
 | _,_=>none
noncomputable def ZdU: T→T→Option T
 | .int a,.int b=>if 0≤b∧(Builtin.Int.intBits a:Int)*b≤2 ^ 27 then some (.int (a ^ b.toNat))else none
 | _,_=>none
noncomputable def ZcX: T→Option T
 | .int a=>some (.int (-a))
 | _=>none
noncomputable def ZjG(p:Int→Int→Bool): T→T→Option T
 | .int a,.int b=>some (.bool (p a b))
 | _,_=>none
noncomputable def qLt:=ZjG fun a b=>decide (a<b)
noncomputable def qLe:=ZjG fun a b=>decide (a≤b)
noncomputable def qGt:=ZjG fun a b=>decide (b<a)
theorem Za4: OA2 ZeD ZcW:=fun H v1 v2 t1 t2 t F1 F2 r1 r2 h=>by
 cases r1 <;> first | (cases h;done) | (cases r2 <;> first | (cases h;done) | (cases h;exact⟨_,rfl,.int _⟩))
theorem ZcI: OA2 oDiv ZjE:=fun H v1 v2 t1 t2 t F1 F2 r1 r2 h=>by
 cases r1 <;> first | (cases h;done) | skip
 cases r2 <;> first | (cases h;done) | skip
 simp only[ZjE]at h
 split at h
 ·rename_i hc;cases h;exact⟨_,by simp only[oDiv];rw[if_pos hc],.int _⟩
 ·cases h
theorem ZaW: OA2 oMod ZjF:=fun H v1 v2 t1 t2 t F1 F2 r1 r2 h=>by
 cases r1 <;> first | (cases h;done) | skip
 cases r2 <;> first | (cases h;done) | skip
 simp only[ZjF]at h
 split at h
 ·rename_i hc;cases h;exact⟨_,by simp only[oMod];rw[if_pos hc],.int _⟩
 ·cases h
theorem ZmG: OA2 oPow ZdU:=fun H v1 v2 t1 t2 t F1 F2 r1 r2 h=>by
 cases r1 <;> first | (cases h;done) | skip
 cases r2 <;> first | (cases h;done) | skip
 simp only[ZdU]at h
 split at h
 ·rename_i hc;cases h;exact⟨_,by simp only[oPow];rw[if_pos hc],.int _⟩
 ·cases h
theorem Za8: OA1 ZfA ZcX:=fun H v1 t1 t F1 r1 h=>by
 cases r1 <;> first | (cases h;done) | (cases h;exact⟨_,rfl,.int _⟩)
theorem ZmH(p:Int→Int→Bool): OA2 (Zjz p) (ZjG p):=fun H v1 v2 t1 t2 t F1 F2 r1 r2 h=>by
 cases r1 <;> first | (cases h;done) | (cases r2 <;> first | (cases h;done) | (cases h;exact⟨_,rfl,.bool _⟩))
theorem Zb1: OA2 oLt qLt:=ZmH _
theorem ZhN: OA2 oLe qLe:=ZmH _
theorem Zcw: OA2 oGt qGt:=ZmH _
noncomputable def Zex(f:T→Option PyData): List T→Option (List PyData)
 | []=>some []
 | v::vs=>(f v).bind fun d=>(Zex f vs).bind fun ds=>some (d::ds)
noncomputable def Zcp: Nat→T→Option PyData
 | _,.none=>some .none
 | _,.bool b=>some (.bool b)
 | _,.int i=>some (.int i)
 | _,.str x=>some (.str x)
 | n+1,.tup vs=>(Zex (Zcp n) vs).map .tuple
 | n+1,.lst vs=>(Zex (Zcp n) vs).map .list
 | 0,.tup _=>none
 | 0,.lst _=>none
theorem ZlW{H:Hp}{f:V→Option PyData}{g:T→Option PyData}(h:∀v t F,RF H v t F→f v=g t): ∀{vs:List V} {ts:List T} {F:List Nat},RFs H vs ts F→ZfB f vs=Zex g ts
 | _,_,_,.nil=>rfl
 | _,_,_,.cons a b=>by simp only[ZfB,Zex,h _ _ _ a,ZlW h b]
theorem Zja{H:Hp}: ∀(n:Nat) (v:V) (t:T) (F:List Nat),RF H v t F→toD H n v=Zcp n t:=by
 intro n
 induction n with
 | zero=>intro v t F r;cases r <;> rfl
 | succ n ih=>
  intro v t F r
  cases r with
  | none=>rfl
  | bool=>rfl
  | int=>rfl
  | str=>rfl
  | tup hs=>simp only[toD,Zcp,ZlW ih hs]
  | ref e hs=>simp only[toD,Zcp,e,Option.bind_some,ZlW ih hs]
noncomputable def Zdb(a b:T): Option Bool:=(Zcp ZbE a).bind fun d=>(Zcp ZbE b).bind fun e=>if SeqAt.shaped d=true∧SeqAt.shaped e=true then some (PyData.eqv d e)else none
noncomputable def qEq(a b:T): Option T:=(Zdb a b).map .bool
noncomputable def qNe(a b:T): Option T:=(Zdb a b).map fun c=>.bool !c
theorem ZqN{H:Hp}{v1 v2:V}{t1 t2:T}{F1 F2:List Nat}(r1:RF H v1 t1 F1)(r2:RF H v2 t2 F2): ZjA v1 v2 H=Zdb t1 t2:=by
 simp only[ZjA,Zdb,Zja ZbE _ _ _ r1,Zja ZbE _ _ _ r2]
theorem Z6: OA2 oEq qEq:=fun H v1 v2 t1 t2 t F1 F2 r1 r2 h=>by
 obtain⟨c,h1,h⟩:=Zz1.mp h
 subst h
 exact⟨_,by simp only[oEq,ZqN r1 r2,h1,Option.map_some],.bool _⟩
theorem Zbi: OA2 oNe qNe:=fun H v1 v2 t1 t2 t F1 F2 r1 r2 h=>by
 obtain⟨c,h1,h⟩:=Zz1.mp h
 subst h
 exact⟨_,by simp only[oNe,ZqN r1 r2,h1,Option.map_some],.bool _⟩
noncomputable def qIs: T→T→Option T
 | .none,.none=>some (.bool true)
 | _,.none=>some (.bool false)
 | _,_=>none
noncomputable def ZcR: T→T→Option T
 | .none,.none=>some (.bool false)
 | _,.none=>some (.bool true)
 | _,_=>none
theorem Za0: OA2 oIs qIs:=fun H v1 v2 t1 t2 t F1 F2 r1 r2 h=>by
 cases r1 <;> cases r2 <;> first | (cases h;done) | (cases h;exact⟨_,rfl,.bool _⟩)
theorem Zbg: OA2 Zmj ZcR:=fun H v1 v2 t1 t2 t F1 F2 r1 r2 h=>by
 cases r1 <;> cases r2 <;> first | (cases h;done) | (cases h;exact⟨_,rfl,.bool _⟩)
noncomputable def ZA: T→T→Option T
 | .lst ts,.int k=>(seqIndex? k ts.length).bind fun j=>ts[j]?
 | .tup ts,.int k=>(seqIndex? k ts.length).bind fun j=>ts[j]?
 | _,_=>none
theorem Zf: OI2 ZY ZA:=fun H v1 v2 t1 t2 t F1 F2 r1 r2 h=>by
 cases r1 with
 | none=>cases h
 | bool=>cases h
 | int=>cases h
 | str=>cases h
 | tup hs=>
  cases r2 <;> first | (cases h;done) | skip
  obtain⟨j,h1,h2⟩:=Zz0.mp h
  obtain⟨v,G,e1,e2,e3⟩:=hs.at h2
  exact⟨v,G,by simp only[ZY,hs.length,h1,Option.bind_some,e1,Option.map_some],e2,e3⟩
 | ref e hs=>
  cases r2 <;> first | (cases h;done) | skip
  obtain⟨j,h1,h2⟩:=Zz0.mp h
  obtain⟨v,G,e1,e2,e3⟩:=hs.at h2
  exact⟨v,G,by simp only[ZY,e,Option.bind_some,hs.length,h1,e1,Option.map_some],e2,e3.trans (List.sublist_cons_self _ _)⟩
noncomputable def Za1: List T→Option T
 | [.lst ts]=>some (.int ts.length)
 | [.tup ts]=>some (.int ts.length)
 | _=>none
theorem RFs.one_inv{H:Hp}{vs:List V}{t:T}{F:List Nat}(r:RFs H vs [t] F): ∃v,vs=[v]∧RF H v t F:=by
 cases r with
 | cons a b=>cases b;rw[List.append_nil];exact⟨_,rfl,a⟩
theorem RFs.two_inv{H:Hp}{vs:List V}{t t':T}{F:List Nat}(r:RFs H vs [t,t'] F): ∃v v' F1 F2,vs=[v,v']∧RF H v t F1∧RF H v' t' F2∧F=F1++F2:=by
 cases r with
 | cons a b=>obtain⟨v',h1,h2⟩:=b.one_inv;subst h1;exact⟨_,_,_,_,rfl,a,h2,rfl⟩
theorem Zam: OAn ZbO Za1:=fun H vs ts t F r h=>by
 unfold Za1 at h
 split at h
 ·obtain⟨v,rfl,r'⟩:=r.one_inv
  cases r' with
  | ref e hs=>cases h;exact⟨_,by simp only[ZbO,e,Option.map_some,hs.length],.int _⟩
 ·obtain⟨v,rfl,r'⟩:=r.one_inv
  cases r' with
  | tup hs=>cases h;exact⟨_,by simp only[ZbO,hs.length],.int _⟩
 ·cases h
noncomputable def ZhO: List T→Option T
 | [.int a]=>some (.int (if a<0 then -a else a))
 | _=>none
theorem ZcJ: OAn ZhJ ZhO:=fun H vs ts t F r h=>by
 unfold ZhO at h
 split at h
 ·obtain⟨v,rfl,r'⟩:=r.one_inv
  cases r';cases h;exact⟨_,rfl,.int _⟩
 ·cases h
noncomputable def ZmI: List T→Option T
 | [.int a,.int b]=>some (.int (if b>a then b else a))
 | _=>none
noncomputable def ZmJ: List T→Option T
 | [.int a,.int b]=>some (.int (if b<a then b else a))
 | _=>none
theorem Zw2: OAn ZmD ZmI:=fun H vs ts t F r h=>by
 unfold ZmI at h
 split at h
 ·obtain⟨v,w,F1,F2,rfl,r1,r2,_⟩:=r.two_inv
  cases r1;cases r2;cases h;exact⟨_,rfl,.int _⟩
 ·cases h
theorem Zw3: OAn ZxT ZmJ:=fun H vs ts t F r h=>by
 unfold ZmJ at h
 split at h
 ·obtain⟨v,w,F1,F2,rfl,r1,r2,_⟩:=r.two_inv
  cases r1;cases r2;cases h;exact⟨_,rfl,.int _⟩
 ·cases h
noncomputable def ZcU: List T→Option (List Int)
 | []=>some []
 | .int k::vs=>(ZcU vs).map fun ks=>k::ks
 | _::_=>none
noncomputable def Zfl: List T→Option (List Bool)
 | []=>some []
 | .bool k::vs=>(Zfl vs).map fun ks=>k::ks
 | _::_=>none
theorem ZiO{H:Hp}: ∀{vs:List V} {ts:List T} {F:List Nat} {ks:List Int},RFs H vs ts F→ZcU ts=some ks→Zc2 vs=some ks
 | _,_,_,_,.nil,h=>h
 | _,_,_,_,.cons a b,h=>by
  cases a <;> first | (cases h;done) | skip
  obtain⟨js,h1,h2⟩:=Zz1.mp h
  subst h2
  simp only[Zc2,ZiO b h1,Option.map_some]
theorem Zpm{H:Hp}: ∀{vs:List V} {ts:List T} {F:List Nat} {ks:List Bool},RFs H vs ts F→Zfl ts=some ks→Zfd vs=some ks
 | _,_,_,_,.nil,h=>h
 | _,_,_,_,.cons a b,h=>by
  cases a <;> first | (cases h;done) | skip
  obtain⟨js,h1,h2⟩:=Zz1.mp h
  subst h2
  simp only[Zfd,Zpm b h1,Option.map_some]
noncomputable def ZmZ: List T→Option T
 | [.lst ts]=>(ZcU ts).map fun ks=>.int ks.sum
 | _=>none
noncomputable def ZjH: List T→Option T
 | [.lst ts]=>(Zfl ts).map fun bs=>.bool (bs.any id)
 | _=>none
theorem ZxW: OAn ZjB ZmZ:=fun H vs ts t F r h=>by
 unfold ZmZ at h
 split at h
 ·obtain⟨v,rfl,r'⟩:=r.one_inv
  cases r' with
  | ref e hs=>
   obtain⟨ks,h1,h2⟩:=Zz1.mp h
   subst h2
   exact⟨_,by simp only[ZjB,e,Option.bind_some,ZiO hs h1,Option.map_some],.int _⟩
 ·cases h
theorem ZxX: OAn ZjD ZjH:=fun H vs ts t F r h=>by
 unfold ZjH at h
 split at h
 ·obtain⟨v,rfl,r'⟩:=r.one_inv
  cases r' with
  | ref e hs=>
   obtain⟨ks,h1,h2⟩:=Zz1.mp h
   subst h2
   exact⟨_,by simp only[ZjD,e,Option.bind_some,Zpm hs h1,Option.map_some],.bool _⟩
 ·cases h
theorem ZdV{H:Hp}{vs:List V}{ts:List T}{F:List Nat}(r:RFs H vs ts F): RF (H++[vs]) (.ref H.length) (.lst ts) (H.length::F):=.ref (by simp) (r.ext _)
theorem Ze1{H:Hp}{vs:List V}{ts:List T}{F:List Nat}(r:RFs H vs ts F)(h:T.flatIn (.lst ts)=true): (H.length::F).Nodup∧∀a∈H.length::F,H.length≤a:=by
 rw[r.flats (by simpa [T.flatIn]using h)]
 simp
theorem ZuN{H:Hp}{v:V}{t:T}{F:List Nat}(r:RF H v t F)(h:F=[]): F.Nodup∧∀a∈F,H.length≤a:=by subst h;simp
noncomputable def ZhP(ts:List T): Nat→List T
 | 0=>[]
 | n+1=>ZhP ts n++ts
noncomputable def ZaJ: T→T→Option T
 | .int a,.int b=>some (.int (a+b))
 | .lst a,.lst b=>if(a++b).length≤LEN then some (.lst (a++b))else none
 | .tup a,.tup b=>if(a++b).length≤LEN then some (.tup (a++b))else none
 | _,_=>none
noncomputable def Zb2: T→T→Option T
 | .int a,.int b=>if mulOk a b=true then some (.int (a*b))else none
 | .lst a,.int k=>if a.length*k.toNat≤LEN∧-(2 ^ 63:Int)≤k∧k<2 ^ 63 then some (.lst (ZhP a k.toNat))else none
 | _,_=>none
theorem ZqO{H:Hp}{vs:List V}{ts:List T}{F:List Nat}(r:RFs H vs ts F): ∀n,∃G,RFs H (ZeE vs n) (ZhP ts n) G∧∀a∈G,a∈F
 | 0=>⟨_,.nil,by simp⟩
 | n+1=>by
  obtain⟨G,h1,h2⟩:=ZqO r n
  exact⟨_,h1.append r,fun a m=>(Zz8.mp m).elim (h2 a) id⟩
theorem Zab: OC2 Zbh ZaJ:=fun H v1 v2 t1 t2 t F1 F2 r1 r2 h=>by
 cases r1 with
 | none=>cases h
 | bool=>cases h
 | str=>cases h
 | int a=>
  cases r2 <;> first | (cases h;done) | skip
  cases h;exact⟨_,[],[],by simp[Zbh],.int _,by simp,by simp⟩
 | tup hs1=>
  cases r2 with
  | none=>cases h
  | bool=>cases h
  | str=>cases h
  | int=>cases h
  | ref=>cases h
  | tup hs2=>
   simp only[ZaJ]at h
   split at h
   ·rename_i hl
    cases h
    refine⟨_,[],_,?_,.tup (by simpa using hs1.append hs2),fun a m=>.inr (Zz8.mp m),fun hf=>ZuN (H:=H) (.tup (hs1.append hs2)) ((RF.tup (hs1.append hs2)).flat (by simpa [T.flatIn]using hf))⟩
    simp only[Zbh,List.append_nil]
    rw[if_pos (by rw[List.length_append]at hl ⊢;rw[hs1.length,hs2.length];exact hl)]
   ·cases h
 | ref e1 hs1=>
  cases r2 with
  | none=>cases h
  | bool=>cases h
  | str=>cases h
  | int=>cases h
  | tup=>cases h
  | ref e2 hs2=>
   simp only[ZaJ]at h
   split at h
   ·rename_i hl
    cases h
    refine⟨_,_,_,?_,ZdV (hs1.append hs2),fun a m=>?_,Ze1 (hs1.append hs2)⟩
    ·simp only[Zbh,e1,e2,Option.bind_some]
     rw[if_pos (by rw[List.length_append]at hl ⊢;rw[hs1.length,hs2.length];exact hl)]
    ·rcases Zz7.mp m with rfl | m
     ·exact .inl (Zz10 _)
     ·rcases Zz8.mp m with m | m
      ·exact .inr (.inl (Zz2 _ m))
      ·exact .inr (.inr (Zz2 _ m))
   ·cases h
theorem ZaX: OC2 ZdS Zb2:=fun H v1 v2 t1 t2 t F1 F2 r1 r2 h=>by
 cases r1 with
 | none=>cases h
 | bool=>cases h
 | str=>cases h
 | tup=>cases h
 | int a=>
  cases r2 <;> first | (cases h;done) | skip
  simp only[Zb2]at h
  split at h
  ·rename_i hm
   cases h;exact⟨_,[],[],by simp only[ZdS];rw[if_pos hm];simp,.int _,by simp,by simp⟩
  ·cases h
 | ref e1 hs1=>
  cases r2 with
  | none=>cases h
  | bool=>cases h
  | str=>cases h
  | tup=>cases h
  | ref=>cases h
  | int k=>
   simp only[Zb2]at h
   split at h
   ·rename_i hl
    cases h
    obtain⟨G,h1,h2⟩:=ZqO hs1 k.toNat
    refine⟨_,_,_,?_,ZdV h1,fun a m=>?_,Ze1 h1⟩
    ·simp only[ZdS,e1,Option.bind_some]
     rw[if_pos (by rw[hs1.length];exact hl)]
    ·rcases Zz7.mp m with rfl | m
     ·exact .inl (Zz10 _)
     ·exact .inr (.inl (Zz2 _ (h2 a m)))
   ·cases h
noncomputable def Zds: List T→Option T
 | [.lst ts]=>some (.lst ts)
 | [.tup ts]=>some (.lst ts)
 | _=>none
noncomputable def ZiQ: List T→Option T
 | [.lst ts]=>some (.tup ts)
 | [.tup ts]=>some (.tup ts)
 | _=>none
theorem Zdo: OCn Zem Zds:=fun H vs ts t F hp r h=>by
 unfold Zds at h
 split at h
 ·obtain⟨v,rfl,r'⟩:=r.one_inv
  cases r' with
  | ref e hs=>cases h;exact⟨_,_,_,by simp only[Zem,e,Option.map_some],ZdV hs,fun a m=>(Zz7.mp m).imp (fun q=>Nat.le_of_eq q.symm) (Zz2 _),Ze1 hs⟩
 ·obtain⟨v,rfl,r'⟩:=r.one_inv
  cases r' with
  | tup hs=>cases h;exact⟨_,_,_,by simp only[Zem],ZdV hs,fun a m=>(Zz7.mp m).imp (fun q=>Nat.le_of_eq q.symm) id,Ze1 hs⟩
 ·cases h
end
end TM
end
section
namespace TM
open PySem PM
theorem St.from_src{c:Ctx}{O N:List Nat}{ρ:Lc}{σ:TL}{H:Hp}{Φ:Nat→List Nat}(s:St c O ρ σ H Φ){a:Nat}(f:From H N σ Φ a): c.H0.length≤a∨c.P a:=by
 rcases f with h | ⟨i,hi,⟨t,e⟩,m⟩
 ·exact .inl (Nat.le_trans s.len h)
 ·exact s.src i t e a m
theorem St.from_off{c:Ctx}{O N:List Nat}{ρ:Lc}{σ:TL}{H:Hp}{Φ:Nat→List Nat}(s:St c O ρ σ H Φ)(hN:∀i∈N,i∉O){a:Nat}(f:From H N σ Φ a){i:Nat}(hi:i∈O){t:T}(e:σ i=some t): a∉Φ i:=by
 intro m
 obtain⟨v,_,r⟩:=s.slot i t e
 have hl:=r.lt a m
 rcases f with h | ⟨j,hj,⟨t',e'⟩,m'⟩
 ·omega
 ·exact(s.own i hi t e).2.2 j t' (fun q=>hN j hj (q▸hi)) e' a m m'
noncomputable abbrev PPt:=TL→Option (Option Int)
noncomputable def Zho: PPt:=fun _=>some none
noncomputable def Zhp(p:PE): PPt:=fun σ=>(p σ).bind fun t=>match t with
 | .int k=>some (some k)
 | _=>none
def Pe(O:List Nat)(f:Pt)(p:PPt): Prop:=∀(c:Ctx) (ρ:Lc) (σ:TL) (H:Hp) (Φ:Nat→List Nat) (k:Option Int),St c O ρ σ H Φ→p σ=some k→∃o X,f ρ H=some (o,H++X)∧ZhB o=some k
section
variable {O N:List Nat} {u:Bool}
theorem Pe.none: Pe O PM.Zfu Zho:=fun c ρ σ H Φ k s h=>by
 cases h;exact⟨Option.none,[],by simp[PM.Zfu],rfl⟩
theorem Pe.some{e:Ex}{p:PE}(x:E O N u e p): Pe O (Zfv e) (Zhp p):=fun c ρ σ H Φ k s h=>by
 obtain⟨t,h1,h⟩:=Zz0.mp h
 obtain⟨v,X,F,a1,a2,a3,a4⟩:=x c ρ σ H Φ t s h1
 cases a2 <;> first | (cases h;done) | skip
 rename_i k'
 cases h
 exact⟨Option.some (.int k'),X,by simp only[Zfv,a1,Option.map_some],rfl⟩
noncomputable def Zfm(p:PE)(lo hi:PPt): PE:=fun σ=>(p σ).bind fun t=>(lo σ).bind fun a=>(hi σ).bind fun b=>match t with
 | .lst ts=>Option.some (.lst (Zbt ts a b))
 | _=>Option.none
theorem RFs.pick{H:Hp}{vs:List V}{ts:List T}{F:List Nat}(h:RFs H vs ts F)(l:List Nat): ∃G,RFs H (l.filterMap fun i=>vs[i]?) (l.filterMap fun i=>ts[i]?) G∧∀a∈G,a∈F:=by
 induction l with
 | nil=>exact⟨_,.nil,by simp⟩
 | cons i l ih=>
  obtain⟨G,h1,h2⟩:=ih
  simp only[List.filterMap_cons]
  have hl:=h.length
  cases e:ts[i]? with
  | none=>
   have:vs[i]?=none:=by rw[List.getElem?_eq_none_iff]at e ⊢;omega
   rw[this]
   exact⟨G,h1,h2⟩
  | some t=>
   obtain⟨x,G',hx,hr,hs⟩:=h.at e
   rw[hx]
   exact⟨_,.cons hr h1,fun a m=>(Zz8.mp m).elim (fun q=>hs.subset q) (h2 a)⟩
theorem Zts{c:Ctx}{ρ:Lc}{σ:TL}{H:Hp}{Φ:Nat→List Nat}{t:T}{e:Ex}{p:PE}{lo hi:Pt}{plo phi:PPt}(x:E O N u e p)(y:Pe O lo plo)(z:Pe O hi phi)(s:St c O ρ σ H Φ)(h:Zfm p plo phi σ=Option.some t):
  ∃v X F,ZdH e lo hi ρ H=Option.some (v,H++X)∧RF (H++X) v t F∧(∀a∈F,From H N σ Φ a)∧(t.flatIn=true→F.Nodup∧∀a∈F,H.length≤a):=by
 obtain⟨t1,h1,h⟩:=Zz0.mp h
 obtain⟨a,h2,h⟩:=Zz0.mp h
 obtain⟨b,h3,h⟩:=Zz0.mp h
 obtain⟨v,X,F,a1,a2,a3,a4⟩:=x c ρ σ H Φ t1 s h1
 obtain⟨o1,Y,b1,b2⟩:=y c ρ σ (H++X) Φ a (s.ext X) h2
 obtain⟨o2,Z,c1,c2⟩:=z c ρ σ (H++X++Y) Φ b ((s.ext X).ext Y) h3
 cases a2 with
 | none=>cases h
 | bool=>cases h
 | int=>cases h
 | str=>cases h
 | tup=>cases h
 | @ref i vs ts F e1 hs=>
 cases h
 have e3:((H++X)++(Y++Z))[i]?=Option.some vs:=by rw[List.getElem?_append_left (Zz6.mp e1).1];exact e1
 have hs':=hs.ext (Y++Z)
 have hlen:=hs.length
 obtain⟨G,g1,g2⟩:=hs'.pick (sliceRange (sliceBounds a b none vs.length).1 (sliceBounds a b none vs.length).2.1 (sliceBounds a b none vs.length).2.2)
 have g1':RFs (H++X++(Y++Z)) (Zbt vs a b) (Zbt ts a b) G:=by unfold Zbt;rw[←hlen];exact g1
 refine⟨.ref (H++X++(Y++Z)).length,X++(Y++Z)++[Zbt vs a b],(H++X++(Y++Z)).length::G,?_,?_,fun q m=>?_,fun hf=>?_⟩
 ·simp only[ZdH,a1,Option.bind_some,b1,c1,b2,c2]
  rw[List.append_assoc (H++X),e3]
  simp
 ·have:=ZdV g1'
  simpa using this
 ·rcases Zz7.mp m with rfl | m
  ·exact .inl (by simp)
  ·exact a3 q (Zz2 _ (g2 q m))
 ·have:=Ze1 g1' hf
  exact⟨this.1,fun q m=>by have:=this.2 q m;simp at this;omega⟩
theorem ZvP{e:Ex}{p:PE}{lo hi:Pt}{plo phi:PPt}(x:E O N u e p)(y:Pe O lo plo)(z:Pe O hi phi): E O N false (ZdH e lo hi) (Zfm p plo phi):=fun c ρ σ H Φ t s h=>by
 obtain⟨v,X,F,a1,a2,a3,a4⟩:=Zts x y z s h
 exact⟨v,X,F,a1,a2,a3,by simp⟩
noncomputable def Zfw(p:PE)(k:Nat): PE:=fun σ=>(p σ).bind fun t=>match t with
 | .lst ts=>Option.some (.lst (ts.drop k))
 | .tup ts=>if 1≤k∧k≤ts.length then Option.some (.tup (ts.drop k))else Option.none
 | _=>Option.none
theorem Zua{c:Ctx}{ρ:Lc}{σ:TL}{H:Hp}{Φ:Nat→List Nat}{t:T}{e:Ex}{p:PE}{k:Nat}(x:E O N u e p)(s:St c O ρ σ H Φ)(h:Zfw p k σ=Option.some t):
  ∃v X F,ZhD e k ρ H=Option.some (v,H++X)∧RF (H++X) v t F∧(∀a∈F,From H N σ Φ a)∧(t.flatIn=true→F.Nodup∧∀a∈F,H.length≤a):=by
 obtain⟨t1,h1,h⟩:=Zz0.mp h
 obtain⟨v,X,F,a1,a2,a3,a4⟩:=x c ρ σ H Φ t1 s h1
 cases a2 with
 | none=>cases h
 | bool=>cases h
 | int=>cases h
 | str=>cases h
 | tup hs=>
  simp only at h
  split at h
  ·rename_i hc
   cases h
   obtain⟨G,g1,g2⟩:=hs.drop k
   refine⟨_,X,G,?_,.tup g1,fun a m=>a3 a (g2.subset m),fun hf=>?_⟩
   ·simp only[ZhD,a1,Option.bind_some]
    rw[if_pos (by rw[hs.length];exact hc)]
   ·rw[g1.flats (by simpa [T.flatIn,T.flat]using hf)]
    simp
  ·cases h
 | @ref b vs1 ts1 F1 e1 hs=>
  cases h
  obtain⟨G,g1,g2⟩:=hs.drop k
  refine⟨.ref (H++X).length,X++[vs1.drop k],(H++X).length::G,?_,?_,fun a m=>?_,fun hf=>?_⟩
  ·simp only[ZhD,a1,Option.bind_some,e1,List.append_assoc]
  ·rw[←List.append_assoc];exact ZdV g1
  ·rcases Zz7.mp m with rfl | m
   ·exact .inl (by simp)
   ·exact a3 a (Zz2 _ (g2.subset m))
  ·have:=Ze1 g1 hf
   exact⟨this.1,fun q m=>by have:=this.2 q m;simp at this;omega⟩
theorem Zhq{e:Ex}{p:PE}{k:Nat}(x:E O N u e p): E O N false (ZhD e k) (Zfw p k):=fun c ρ σ H Φ t s h=>by
 obtain⟨v,X,F,a1,a2,a3,a4⟩:=Zua x s h
 exact⟨v,X,F,a1,a2,a3,by simp⟩
end
def Gs(O N:List Nat)(g:Src)(q:PG): Prop:=∀(c:Ctx) (ρ:Lc) (σ:TL) (H:Hp) (Φ:Nat→List Nat) (ts:List T),St c O ρ σ H Φ→q σ=some ts →
 ∃(nx:Nx) (X:Hp) (vs:List V) (F G:List Nat),g ρ H=some (nx,ts.length+1,H++X)∧RFs (H++X) vs ts F∧(∀a∈F,a∈G)∧(∀a∈G,a<(H++X).length∧From H N σ Φ a)∧∀K:Hp,(∀a∈G,K[a]?=(H++X)[a]?)→∀i,i≤vs.length→nx i K=some vs[i]?
section
variable {O N M:List Nat} {u u':Bool}
noncomputable def ZaT(p:PE): PG:=fun σ=>(p σ).bind fun t=>match t with
 | .lst ts=>some ts
 | .tup ts=>some ts
 | _=>none
theorem Gs.seq{e:Ex}{p:PE}(x:E O N u e p): Gs O N (ZcM e) (ZaT p):=fun c ρ σ H Φ ts s h=>by
 obtain⟨t1,h1,h⟩:=Zz0.mp h
 obtain⟨v,X,F,a1,a2,a3,a4⟩:=x c ρ σ H Φ t1 s h1
 have hlt:=a2.lt
 cases a2 with
 | none=>cases h
 | bool=>cases h
 | int=>cases h
 | str=>cases h
 | @tup vs _ _ hs=>
  cases h
  exact⟨ZqK vs,X,vs,F,F,by simp only[ZcM,a1,Option.bind_some,hs.length],hs,fun _ m=>m,fun a m=>⟨hlt a m,a3 a m⟩,fun K _ i hi=>rfl⟩
 | @ref b vs _ F' e1 hs=>
  cases h
  refine⟨Zml b,X,vs,F',b::F',by simp only[ZcM,a1,Option.bind_some,e1,Option.map_some,hs.length],hs,fun _ m=>List.mem_cons_of_mem _ m,fun a m=>⟨hlt a m,a3 a m⟩,fun K hK i hi=>?_⟩
  simp only[Zml,hK b Zz5,e1,Option.map_some]
noncomputable def Zb3(a b c:Int): Option (List T):=if c≠0∧Builtin.Range.small a b c=true∧0≤Builtin.Range.rangeSize a b c∧rngN a b c≤LEN∧Builtin.divisionGoesByPylong (b-a) c=false then some ((List.range (rngN a b c)).map fun(i:Nat)=>.int (a+(i:Int)*c))else none
noncomputable def ZbC(p:PEs): PG:=fun σ=>(p σ).bind fun ts=>match ts with
 | [.int b]=>Zb3 0 b 1
 | [.int a,.int b]=>Zb3 a b 1
 | [.int a,.int b,.int c]=>Zb3 a b c
 | _=>none
theorem Zpn(H:Hp)(a c:Int): ∀(l:List Nat),RFs H (l.map fun(i:Nat)=>.int (a+(i:Int)*c)) (l.map fun(i:Nat)=>.int (a+(i:Int)*c)) []
 | []=>.nil
 | i::l=>by have:=RFs.cons (RF.int (H:=H) (a+i*c)) (Zpn H a c l);exact this
theorem ZlH{a b c:Int}{H:Hp}{ts:List T}(h:Zb3 a b c=some ts): ∃(nx:Nx) (vs:List V),Zb8 a b c H=some (nx,ts.length+1,H)∧RFs H vs ts []∧∀K:Hp,∀i,i≤vs.length→nx i K=some vs[i]?:=by
 unfold Zb3 at h
 split at h
 ·rename_i hc
  cases h
  refine⟨Zfb a c (rngN a b c),(List.range (rngN a b c)).map fun(i:Nat)=>.int (a+(i:Int)*c),?_,Zpn H a c _,fun K i hi=>?_⟩
  ·unfold Zb8
   rw[if_pos hc]
   simp
  ·simp only[Zfb,List.getElem?_map]
   by_cases q:i<rngN a b c
   ·rw[if_pos q,List.getElem?_range q];rfl
   ·rw[if_neg q,List.getElem?_eq_none (by simpa using Nat.le_of_not_lt q)];rfl
 ·cases h
theorem RFs.three_inv{H:Hp}{vs:List V}{t t' t'':T}{F:List Nat}(r:RFs H vs [t,t',t''] F): ∃v v' v'' F1 F2 F3,vs=[v,v',v'']∧RF H v t F1∧RF H v' t' F2∧RF H v'' t'' F3:=by
 cases r with
 | cons a b=>obtain⟨v',v'',F2,F3,h1,h2,h3,_⟩:=b.two_inv;subst h1;exact⟨_,_,_,_,_,_,rfl,a,h2,h3⟩
theorem Gs.range{n:Nat}{e:Exs}{p:PEs}(x:Es O N u n e p): Gs O [] (Zca e) (ZbC p):=fun c ρ σ H Φ ts s h=>by
 obtain⟨t1,h1,h⟩:=Zz0.mp h
 obtain⟨_,vs,X,F,a1,a2,a3,a4⟩:=x c ρ σ H Φ t1 s h1
 split at h
 ·obtain⟨v,rfl,r⟩:=a2.one_inv
  cases r
  obtain⟨nx,us,q1,q2,q3⟩:=ZlH (H:=H++X) h
  exact⟨nx,X,us,[],[],by simp only[Zca,a1,Option.bind_some,q1],q2,by simp,by simp,fun K _=>q3 K⟩
 ·obtain⟨v,v',F1,F2,rfl,r,r',_⟩:=a2.two_inv
  cases r;cases r'
  obtain⟨nx,us,q1,q2,q3⟩:=ZlH (H:=H++X) h
  exact⟨nx,X,us,[],[],by simp only[Zca,a1,Option.bind_some,q1],q2,by simp,by simp,fun K _=>q3 K⟩
 ·obtain⟨v,v',v'',F1,F2,F3,rfl,r,r',r''⟩:=a2.three_inv
  cases r;cases r';cases r''
  obtain⟨nx,us,q1,q2,q3⟩:=ZlH (H:=H++X) h
  exact⟨nx,X,us,[],[],by simp only[Zca,a1,Option.bind_some,q1],q2,by simp,by simp,fun K _=>q3 K⟩
 ·cases h
noncomputable def ZjI(p q:PE): PG:=fun σ=>(p σ).bind fun t=>(q σ).bind fun s=>match t,s with
 | .lst ts,.lst ss=>some (List.zipWith (fun x y=>.tup [x,y]) ts ss)
 | _,_=>none
theorem RFs.zip{H:Hp}: ∀{vs us:List V} {ts ss:List T} {F G:List Nat},RFs H vs ts F→RFs H us ss G→∃D,RFs H (List.zipWith (fun x y=>.tup [x,y]) vs us) (List.zipWith (fun x y=>.tup [x,y]) ts ss) D∧∀a∈D,a∈F∨a∈G
 | _,_,_,_,_,_,.nil,_=>⟨_,.nil,by simp⟩
 | _,_,_,_,_,_,.cons _ _,.nil=>⟨_,.nil,by simp⟩
 | _,_,_,_,_,_,.cons a b,.cons a' b'=>by
  obtain⟨D,h1,h2⟩:=b.zip b'
  refine⟨_,.cons (.tup (.cons a (.one a'))) h1,fun x m=>?_⟩
  rcases Zz8.mp m with m | m
  ·rcases Zz8.mp m with m | m
   ·exact .inl (Zz4 _ m)
   ·exact .inr (Zz4 _ m)
  ·exact(h2 x m).imp (Zz3 _) (Zz3 _)
theorem Gs.zip{e1 e2:Ex}{p1 p2:PE}(x:E O N u e1 p1)(y:E O M u' e2 p2): Gs O (N++M) (ZjC e1 e2) (ZjI p1 p2):=fun c ρ σ H Φ ts s h=>by
 obtain⟨t1,h1,h⟩:=Zz0.mp h
 obtain⟨t2,h2,h⟩:=Zz0.mp h
 obtain⟨v,X,F,a1,a2,a3,a4⟩:=x c ρ σ H Φ t1 s h1
 obtain⟨w,Y,G,b1,b2,b3,b4⟩:=y c ρ σ (H++X) Φ t2 (s.ext X) h2
 have a2:=a2.ext Y
 have l1:=a2.lt
 have l2:=b2.lt
 rw[List.append_assoc]at a2 b2 l1 l2 b1
 cases a2 with
 | none=>cases h
 | bool=>cases h
 | int=>cases h
 | str=>cases h
 | tup=>cases b2 <;> cases h
 | @ref a vs _ F' e1 hs=>
  cases b2 with
  | none=>cases h
  | bool=>cases h
  | int=>cases h
  | str=>cases h
  | tup=>cases h
  | @ref b us _ G' e2 hs2=>
   cases h
   obtain⟨D,d1,d2⟩:=hs.zip hs2
   refine⟨ZhC a b,X++Y,_,D,a::b::D,?_,d1,fun q m=>List.mem_cons_of_mem _ (Zz2 _ m),fun q m=>?_,fun K hK i hi=>?_⟩
   ·simp only[ZjC,a1,Option.bind_some,b1,e1,e2,Option.map_some,List.length_zipWith,hs.length,hs2.length]
   ·rcases Zz7.mp m with rfl | m
    ·exact⟨l1 _ Zz5,(a3 _ Zz5).mono fun i hi=>List.mem_append_left _ hi⟩
    ·rcases Zz7.mp m with rfl | m
     ·exact⟨l2 _ Zz5,(b3 _ Zz5).back.mono fun i hi=>List.mem_append_right _ hi⟩
     ·rcases d2 q m with m | m
      ·exact⟨l1 _ (Zz2 _ m),(a3 _ (Zz2 _ m)).mono fun i hi=>List.mem_append_left _ hi⟩
      ·exact⟨l2 _ (Zz2 _ m),(b3 _ (Zz2 _ m)).back.mono fun i hi=>List.mem_append_right _ hi⟩
   ·simp only[ZhC,hK a Zz5,hK b (Zz2 _ Zz5),e1,e2,Option.bind_some,List.getElem?_zipWith]
    rw[List.length_zipWith]at hi
    by_cases q:i<min vs.length us.length
    ·rw[List.getElem?_eq_getElem (show i<vs.length by omega),List.getElem?_eq_getElem (show i<us.length by omega)]
    ·have q':i=min vs.length us.length:=by omega
     by_cases q2:i<vs.length
     ·rw[List.getElem?_eq_getElem q2,List.getElem?_eq_none (show us.length≤i by omega)]
      simp[q']
     ·rw[List.getElem?_eq_none (show vs.length≤i by omega)]
      simp[q']
end
def PutOk(O J:List Nat)(put:V→Lc→Option Lc)(q:T→TL→Option TL): Prop:=∀(c:Ctx) (ρ:Lc) (σ:TL) (H:Hp) (Φ:Nat→List Nat) (v:V) (t:T) (F:List Nat) (σ1:TL),St c O ρ σ H Φ→RF H v t F→(∀a∈F,c.H0.length≤a∨c.P a)→(∀i∈O,∀t',σ i=some t'→∀a∈Φ i,a∉F)→q t σ=some σ1 →
 ∃ρ1 Φ1,put v ρ=some ρ1∧St c O ρ1 σ1 H Φ1∧(∀i,i∉J→σ1 i=σ i∧Φ1 i=Φ i)∧∀i∈J,∀a∈Φ1 i,a∈F
noncomputable def Zac(Φ:Nat→List Nat)(j:Nat)(F:List Nat): Nat→List Nat:=fun i=>if i=j then F else Φ i
theorem St.put{c:Ctx}{O:List Nat}{ρ:Lc}{σ:TL}{H:Hp}{Φ:Nat→List Nat}{v:V}{t:T}{F:List Nat}{j:Nat}(s:St c O ρ σ H Φ)(hj:j∉O)(r:RF H v t F)(hs:∀a∈F,c.H0.length≤a∨c.P a)(ho:∀i∈O,∀t',σ i=some t'→∀a∈Φ i,a∉F): St c O (upd ρ j v) (ZO σ j t) H (Zac Φ j F):=by
 refine⟨fun i u e=>?_,fun i u e=>?_,fun i hi u e=>?_,s.len,s.keep,s.pos,s.f0⟩
 ·by_cases q:i=j
  ·subst q
   simp[ZO]at e
   subst e
   exact⟨v,by simp[upd],by simpa [Zac]using r⟩
  ·simp[ZO,q]at e
   simpa [upd,Zac,q]using s.slot i u e
 ·by_cases q:i=j
  ·subst q;simpa [Zac]using hs
  ·simp[ZO,q]at e
   simpa [Zac,q]using s.src i u e
 ·have q:i≠j:=fun q=>hj (q▸hi)
  simp[ZO,q]at e
  obtain⟨h1,h2,h3⟩:=s.own i hi u e
  refine⟨by simpa [Zac,q]using h1,by simpa [Zac,q]using h2,fun k w hk ek=>?_⟩
  by_cases q2:k=j
  ·subst q2
   simpa [Zac,q]using ho i hi u e
  ·simp[ZO,q2]at ek
   simpa [Zac,q,q2]using h3 k w hk ek
noncomputable def Zag(j:Nat): T→TL→Option TL:=fun t σ=>some (ZO σ j t)
noncomputable def Zey(i j:Nat): T→TL→Option TL
 | .tup [a,b],σ=>some (ZO (ZO σ i a) j b)
 | _,_=>none
theorem PutOk.one{O:List Nat}{j:Nat}(hj:j∉O:=by decide): PutOk O [j] (put1 j) (Zag j):=fun c ρ σ H Φ v t F σ1 s r hs ho h=>by
 cases h
 refine⟨_,_,rfl,s.put hj r hs ho,fun i hi=>?_,fun i hi a m=>?_⟩
 ·have:i≠j:=fun q=>hi (by simp[q])
  simp[ZO,Zac,this]
 ·simp at hi;subst hi;simpa [Zac]using m
theorem PutOk.two{O:List Nat}{i j:Nat}(hi:i∉O:=by decide)(hj:j∉O:=by decide)(hij:i≠j:=by decide): PutOk O [i,j] (Zda i j) (Zey i j):=fun c ρ σ H Φ v t F σ1 s r hs ho h=>by
 unfold Zey at h
 split at h
 ·cases h
  cases r with
  | tup hh=>
   obtain⟨v1,v2,F1,F2,rfl,r1,r2,rfl⟩:=hh.two_inv
   have s1:=s.put hi r1 (fun a m=>hs a (Zz4 _ m)) (fun k hk t' e a m q=>ho k hk t' e a m (Zz4 _ q))
   have s2:=s1.put hj r2 (fun a m=>hs a (Zz3 _ m)) (fun k hk t' e a m q=>by
    have:k≠i:=fun q=>hi (q▸hk)
    simp[ZO,Zac,this]at e m
    exact ho k hk t' e a m (Zz3 _ q))
   refine⟨_,_,rfl,s2,fun k hk=>?_,fun k hk a m=>?_⟩
   ·simp at hk
    simp[ZO,Zac,hk.1,hk.2]
   ·simp at hk
    rcases hk with rfl | rfl
    ·simp[Zac,hij]at m
     exact Zz4 _ m
    ·simp[Zac]at m
     exact Zz3 _ m
 ·cases h
noncomputable def ZbZ(put:T→TL→Option TL)(c:PB)(f:PE)(σ:TL): List T→Option (List T)
 | []=>some []
 | t::ts=>(put t σ).bind fun σ1=>(c σ1).bind fun b=>if b then(f σ1).bind fun x=>(ZbZ put c f σ ts).map fun xs=>x::xs else ZbZ put c f σ ts
noncomputable def ZaC(g:PG)(put:T→TL→Option TL)(c:PB)(f:PE): PE:=fun σ=>(g σ).bind fun ts=>if ts.length≤LEN then(ZbZ put c f σ ts).map .lst else none
section
variable {O Ns Ne J:List Nat} {u:Bool}
theorem comp_core{put:V→Lc→Option Lc}{pput:T→TL→Option TL}{tc:Ts}{pc:PB}{f:Ex}{pf:PE}(hj:PutOk O J put pput)(hN:∀i∈Ns,i∉O)(hc:Bt O tc pc)(hf:E O Ne u f pf)(hu:u=true→Ne=[])
  {c:Ctx} {ρ:Lc} {σ:TL} {Φ:Nat→List Nat} {H0 H1:Hp} {nx:Nx} {vs:List V} {G:List Nat} (h0:H0.length≤H1.length)
  (hG:∀a∈G,a<H1.length∧From H0 Ns σ Φ a) (hoff:∀a∈G,∀i∈O,∀t,σ i=some t→a∉Φ i) (hsrc:∀a∈G,c.H0.length≤a∨c.P a) (hnx:∀K:Hp,(∀a∈G,K[a]?=H1[a]?)→∀i,i≤vs.length→nx i K=some vs[i]?):
  ∀(rs:List T) (ws:List V) (i:Nat) (acc:List V) (K:Hp) (Fr:List Nat) (out:List T),(∀j,vs[i+j]?=ws[j]?)→i+ws.length=vs.length→St c O ρ σ K Φ→H1.length≤K.length→(∀a∈G,K[a]?=H1[a]?)→RFs K ws rs Fr→(∀a∈Fr,a∈G)→acc.length+rs.length≤LEN→ZbZ pput pc pf σ rs=some out →
   ∃xs X F,Zcv nx put tc f ρ (rs.length+1) i acc K=some (acc++xs,K++X)∧RFs (K++X) xs out F∧(∀a∈F,(u=true→K.length≤a)∧From H0 (Ns++Ne) σ Φ a)∧(u=true→F.Nodup)
 | [],ws,i,acc,K,Fr,out,hat,hlen,s,hl,hk,r,hfr,hacc,h=>by
  cases r
  cases h
  have e:=hnx K hk i (by simp at hlen;omega)
  have e2:vs[i]?=none:=by have:=hat 0;simpa using this
  refine⟨[],[],[],?_,.nil,by simp,by simp⟩
  simp[Zcv,e,e2]
 | t::rs,ws0,i,acc,K,Fr0,out,hat,hlen,s,hl,hk,r,hfr,hacc,h=>by
  cases r with
  | @cons v _ F1 ws _ F2 a b=>
  simp only[List.length_cons]at hlen hacc
  obtain⟨σ1,h1,h⟩:=Zz0.mp h
  obtain⟨bb,h2,h⟩:=Zz0.mp h
  have e:=hnx K hk i (by omega)
  have e2:vs[i]?=some v:=by have:=hat 0;simpa using this
  have hat':∀j,vs[i+1+j]?=ws[j]?:=fun j=>by have:=hat (j+1);rw[show i+1+j=i+(j+1)by omega,this];simp
  obtain⟨ρ1,Φ1,p1,s1,p3,p4⟩:=hj c ρ σ K Φ v t F1 σ1 s a (fun x m=>hsrc x (hfr x (Zz4 _ m))) (fun k hk t' e x m q=>hoff x (hfr x (Zz4 _ q)) k hk t' e m) h1
  obtain⟨X1,c1⟩:=hc c ρ1 σ1 K Φ1 bb s1 h2
  cases bb with
  | true=>
   obtain⟨y,h3,h⟩:=Zz0.mp h
   obtain⟨ys,h4,h⟩:=Zz1.mp h
   subst h
   obtain⟨w,X2,Fw,d1,d2,d3,d4⟩:=hf c ρ1 σ1 (K++X1) Φ1 y (s1.ext X1) h3
   have hext:∀a∈G,(K++X1++X2)[a]?=H1[a]?:=fun a m=>by
    have:=(hG a m).1
    rw[List.append_assoc,List.getElem?_append_left (by omega)];exact hk a m
   obtain⟨xs,X3,F3,f1,f2,f3,f4⟩:=comp_core hj hN hc hf hu h0 hG hoff hsrc hnx rs ws (i+1) (acc++[w]) (K++X1++X2) F2 ys hat' (by omega) ((s.ext X1).ext X2) (by simp;omega) hext (by rw[List.append_assoc];exact b.ext _) (fun x m=>hfr x (Zz3 _ m)) (by simp;omega) h4
   refine⟨w::xs,X1++X2++X3,Fw++F3,?_,?_,fun x m=>?_,fun hu'=>?_⟩
   ·rw[List.length_cons,Zcv,e,e2]
    simp only[Option.bind_some,p1,c1,d1,if_true]
    rw[if_pos (by omega)]
    simpa using f1
   ·have:=RFs.cons (d2.ext X3) f2
    simpa using this
   ·rcases Zz8.mp m with m | m
    ·refine⟨fun hu'=>?_,?_⟩
     ·have hne:=hu hu'
      subst hne
      have:=(d3 x m).nil
      simp at this;omega
     ·rcases d3 x m with q | ⟨k,hk1,⟨tk,ek⟩,mk⟩
      ·exact .inl (by simp at q;omega)
      ·by_cases hkJ:k∈J
       ·exact(hG x (hfr x (Zz4 _ (p4 k hkJ x mk)))).2.mono fun i hi=>List.mem_append_left _ hi
       ·obtain⟨q1,q2⟩:=p3 k hkJ
        exact .inr ⟨k,List.mem_append_right _ hk1,⟨tk,q1▸ek⟩,q2▸mk⟩
    ·obtain⟨g1,g2⟩:=f3 x m
     exact⟨fun hu'=>by have:=g1 hu';simp at this;omega,g2⟩
   ·rw[List.nodup_append]
    refine⟨d4 hu',f4 hu',fun x hx y hy e=>?_⟩
    have l1:=d2.lt x hx
    have l2:=(f3 y hy).1 hu'
    omega
  | false=>
   have hext:∀a∈G,(K++X1)[a]?=H1[a]?:=fun a m=>by
    have:=(hG a m).1
    rw[List.getElem?_append_left (by omega)];exact hk a m
   obtain⟨xs,X3,F3,f1,f2,f3,f4⟩:=comp_core hj hN hc hf hu h0 hG hoff hsrc hnx rs ws (i+1) acc (K++X1) F2 out hat' (by omega) (s.ext X1) (by simp;omega) hext (b.ext _) (fun x m=>hfr x (Zz3 _ m)) (by omega) (by simpa using h)
   refine⟨xs,X1++X3,F3,?_,by simpa using f2,fun x m=>?_,f4⟩
   ·rw[List.length_cons,Zcv,e,e2]
    simp only[Option.bind_some,p1,c1]
    simpa using f1
   ·obtain⟨g1,g2⟩:=f3 x m
    exact⟨fun hu'=>by have:=g1 hu';simp at this;omega,g2⟩
theorem ZqP{g:Src}{q:PG}{put:V→Lc→Option Lc}{pput:T→TL→Option TL}{tc:Ts}{pc:PB}{f:Ex}{pf:PE}(hg:Gs O Ns g q)(hj:PutOk O J put pput)(hN:∀i∈Ns,i∉O)(hc:Bt O tc pc)(hf:E O Ne u f pf)(hu:u=true→Ne=[]): E O (if u then []else Ns++Ne) u (Zbm g put tc f) (ZaC q pput pc pf):=fun c ρ σ H Φ t s h=>by
 obtain⟨ts,h1,h⟩:=Zz0.mp h
 split at h
 ·rename_i hl
  obtain⟨out,h2,h⟩:=Zz1.mp h
  subst h
  obtain⟨nx,X,vs,F,G,g1,g2,g3,g4,g5⟩:=hg c ρ σ H Φ ts s h1
  obtain⟨xs,Y,F',d1,d2,d3,d4⟩:=comp_core hj hN hc hf hu (H0:=H) (H1:=H++X) (by simp) g4 (fun a m i hi t e=>s.from_off hN (g4 a m).2 hi e) (fun a m=>s.from_src (g4 a m).2) g5 ts vs 0 [] (H++X) F out (by simp) (by simp) (s.ext X) (Zz10 _) (fun _ _=>rfl) g2 g3 (by simpa using hl) h2
  refine⟨.ref (H++X++Y).length,X++Y++[xs],(H++X++Y).length::F',?_,?_,fun a m=>?_,fun hu'=>?_⟩
  ·simp only[Zbm,g1,Option.bind_some,d1,Option.map_some,List.nil_append,List.append_assoc]
  ·have:=ZdV d2
   simpa using this
  ·rcases Zz7.mp m with rfl | m
   ·exact .inl (by simp)
   ·obtain⟨q1,q2⟩:=d3 a m
    cases u with
    | true=>exact .inl (by have:=q1 rfl;simp at this;omega)
    | false=>exact q2
  ·rw[List.nodup_cons]
   exact⟨fun m=>Nat.lt_irrefl _ (d2.lt _ m),d4 hu'⟩
 ·cases h
end
end TM
end
section
namespace TM
open PySem PM
noncomputable abbrev PS:=TL→Option (Option T×TL)
noncomputable def Zcm(σ:TL)(N:List Nat): TL:=fun j=>if j∈N then none else σ j
def Held(O:List Nat)(σ:TL)(Φ:Nat→List Nat)(a:Nat): Prop:=∃j∈O,(∃t,σ j=some t)∧a∈Φ j
def Aft(c:Ctx)(O O' R:List Nat)(fr:Bool)(σ:TL)(H:Hp)(Φ:Nat→List Nat)(g:Option (Option V×Lc×Hp))(r:Option T×TL): Prop:=
 ∃ρ' H' Φ',H.length≤H'.length∧(∀a,a<H.length→¬Held O σ Φ a→H'[a]?=H[a]?) ∧
  ((r.1=none∧g=some (none,ρ',H')∧St c O' ρ' r.2 H' Φ'∧∀a,Held O' r.2 Φ' a→H.length≤a∨Held O σ Φ a) ∨
  ∃t v F,r.1=some t∧g=some (some v,ρ',H')∧RF H' v t F∧St c R ρ' r.2 H' Φ'∧(∀a∈F,c.H0.length≤a∨c.P a)∧(fr=true→F.Nodup∧∀a∈F,c.H0.length≤a∨a∈c.F0))
def S(O O' R:List Nat)(fr:Bool)(g:Sm)(q:PS): Prop:=∀(c:Ctx) (ρ:Lc) (σ:TL) (H:Hp) (Φ:Nat→List Nat) (r:Option T×TL),St c O ρ σ H Φ→q σ=some r→Aft c O O' R fr σ H Φ (g ρ H) r
theorem Held.mono{O O':List Nat}{σ:TL}{Φ:Nat→List Nat}{a:Nat}(h:Held O σ Φ a)(s:∀i∈O,i∈O'): Held O' σ Φ a:=by
 obtain⟨j,hj,q⟩:=h;exact⟨j,s j hj,q⟩
section
variable {O O' R:List Nat} {fr:Bool}
theorem Zyt{O0:List Nat}{g:Sm}{q:PS}(x:S O0 O' R fr g q)(h:∀i∈O0,i∈O): S O O' R fr g q:=fun c ρ σ H Φ r s e=>by
 obtain⟨ρ',H',Φ',h1,h2,h3⟩:=x c ρ σ H Φ r (s.less h) e
 refine⟨ρ',H',Φ',h1,fun a ha hn=>h2 a ha fun q=>hn (q.mono h),?_⟩
 rcases h3 with⟨k1,k2,k3,k4⟩ | k
 ·exact .inl ⟨k1,k2,k3,fun a m=>(k4 a m).imp id fun q=>q.mono h⟩
 ·exact .inr k
noncomputable def ZaD: PS:=fun σ=>some (none,σ)
theorem ZG: S O O R fr ZaP ZaD:=fun c ρ σ H Φ r s e=>by
 cases e
 exact⟨ρ,H,Φ,Nat.le_refl _,fun _ _ _=>rfl,.inl ⟨rfl,rfl,s,fun a m=>.inr m⟩⟩
noncomputable def Z3(a b:PS): PS:=fun σ=>(a σ).bind fun r=>match r.1 with
 | some _=>some r
 | none=>b r.2
theorem Zj{O1:List Nat}{a b:Sm}{p q:PS}(x:S O O1 R fr a p)(y:S O1 O' R fr b q): S O O' R fr (Z9 a b) (Z3 p q):=fun c ρ σ H Φ r s e=>by
 obtain⟨r1,e1,e⟩:=Zz0.mp e
 obtain⟨ρ1,H1,Φ1,h1,h2,h3⟩:=x c ρ σ H Φ r1 s e1
 rcases h3 with⟨k1,k2,k3,k4⟩ | ⟨t,v,F,k1,k2,k3⟩
 ·rw[k1]at e
  obtain⟨ρ2,H2,Φ2,g1,g2,g3⟩:=y c ρ1 r1.2 H1 Φ1 r k3 e
  refine⟨ρ2,H2,Φ2,Nat.le_trans h1 g1,fun a ha hn=>?_,?_⟩
  ·rw[g2 a (by omega) fun q=>(k4 a q).elim (fun q=>by omega) hn,h2 a ha hn]
  ·have eg:Z9 a b ρ H=b ρ1 H1:=by simp only[Z9,k2,Option.bind_some]
   rw[eg]
   rcases g3 with⟨l1,l2,l3,l4⟩ | l
   ·refine .inl ⟨l1,l2,l3,fun a m=>?_⟩
    rcases l4 a m with q | q
    ·exact .inl (by omega)
    ·exact k4 a q
   ·exact .inr l
 ·rw[k1]at e
  cases e
  exact⟨ρ1,H1,Φ1,h1,h2,.inr ⟨t,v,F,k1,by simp only[Z9,k2,Option.bind_some],k3⟩⟩
noncomputable def Zav(p:PE): PS:=fun σ=>(p σ).map fun t=>(some t,σ)
theorem Zw{N:List Nat}{u:Bool}{e:Ex}{p:PE}(x:E O N u e p)(hR:∀i∈R,i∈O:=by decide): S O O' R false (Zau e) (Zav p):=fun c ρ σ H Φ r s q=>by
 obtain⟨t,h1,h⟩:=Zz1.mp q
 subst h
 obtain⟨v,X,F,a1,a2,a3,a4⟩:=x c ρ σ H Φ t s h1
 refine⟨ρ,H++X,Φ,by simp,fun a ha _=>List.getElem?_append_left ha,.inr ⟨t,v,F,rfl,by simp only[Zau,a1,Option.map_some],a2,(s.ext X).less hR,fun a m=>s.from_src (a3 a m),by simp⟩⟩
theorem ZaS{N:List Nat}{e:Ex}{p:PE}(x:E O N true e p)(hN:∀i∈N,i∈O:=by decide)(hR:∀i∈R,i∈O:=by decide): S O O' R fr (Zau e) (Zav p):=fun c ρ σ H Φ r s q=>by
 obtain⟨t,h1,h⟩:=Zz1.mp q
 subst h
 obtain⟨v,X,F,a1,a2,a3,a4⟩:=x c ρ σ H Φ t s h1
 refine⟨ρ,H++X,Φ,by simp,fun a ha _=>List.getElem?_append_left ha,.inr ⟨t,v,F,rfl,by simp only[Zau,a1,Option.map_some],a2,(s.ext X).less hR,fun a m=>s.from_src (a3 a m),fun _=>⟨a4 rfl,fun a m=>?_⟩⟩⟩
 rcases a3 a m with q | ⟨i,hi,⟨t',e'⟩,m'⟩
 ·exact .inl (Nat.le_trans s.len q)
 ·exact(s.own i (hN i hi) t' e').2.1 a m'
noncomputable def ZaE(i:Nat)(p:PE): PS:=fun σ=>(p σ).map fun t=>(none,ZO σ i t)
theorem ZE{N:List Nat}{u:Bool}{i:Nat}{e:Ex}{p:PE}(x:E O N u e p)(hi:i∉O':=by decide)(hN:∀j∈N,j∉O':=by decide)(hO:∀j∈O',j∈O:=by decide): S O O' R fr (ZaI i e) (ZaE i p):=fun c ρ σ H Φ r s q=>by
 obtain⟨t,h1,h⟩:=Zz1.mp q
 subst h
 obtain⟨v,X,F,a1,a2,a3,a4⟩:=x c ρ σ H Φ t s h1
 have s':=s.less hO
 refine⟨upd ρ i v,H++X,Zac Φ i F,by simp,fun a ha _=>List.getElem?_append_left ha,.inl ⟨rfl,by simp only[ZaI,a1,Option.map_some],(s'.ext X).put hi a2 (fun a m=>s.from_src (a3 a m)) (fun k hk t' e' a m q=>?_),fun a m=>?_⟩⟩
 ·exact s'.from_off hN (a3 a q) hk e' m
 ·obtain⟨k,hk,⟨t',e'⟩,m⟩:=m
  have:k≠i:=fun q=>hi (q▸hk)
  simp[ZO,this]at e'
  simp[Zac,this]at m
  exact .inr ⟨k,hO k hk,⟨t',e'⟩,m⟩
theorem Zcb{i:Nat}{e:Ex}{p:PE}(x:E O [] true e p)(hO:∀j∈O',j∈O∨j=i:=by decide): S O O' R fr (ZaI i e) (ZaE i p):=fun c ρ σ H Φ r s q=>by
 obtain⟨t,h1,h⟩:=Zz1.mp q
 subst h
 obtain⟨v,X,F,a1,a2,a3,a4⟩:=x c ρ σ H Φ t s h1
 have hnew:∀a∈F,H.length≤a:=fun a m=>(a3 a m).nil
 have hold:∀k t',σ k=some t'→∀a∈Φ k,a<H.length:=fun k t' e a m=>by
  obtain⟨_,_,r⟩:=s.slot k t' e
  exact r.lt a m
 refine⟨upd ρ i v,H++X,Zac Φ i F,by simp,fun a ha _=>List.getElem?_append_left ha,.inl ⟨rfl,by simp only[ZaI,a1,Option.map_some],⟨fun k t' e'=>?_,fun k t' e'=>?_,fun k hk t' e'=>?_,(s.ext X).len,(s.ext X).keep,s.pos,s.f0⟩,fun a m=>?_⟩⟩
 ·by_cases q:k=i
  ·subst q
   simp[ZO]at e'
   subst e'
   exact⟨v,by simp[upd],by simpa [Zac]using a2⟩
  ·simp[ZO,q]at e'
   simpa [upd,Zac,q]using (s.ext X).slot k t' e'
 ·by_cases q:k=i
  ·subst q;simpa [Zac]using fun a m=>s.from_src (a3 a m)
  ·simp[ZO,q]at e'
   simpa [Zac,q]using s.src k t' e'
 ·by_cases q:k=i
  ·subst q
   simp only[Zac,if_true]
   refine⟨a4 rfl,fun a m=>.inl (Nat.le_trans s.len (hnew a m)),fun j w hj ej a m q=>?_⟩
   simp[ZO,hj]at ej
   rw[if_neg hj]at q
   have:=hold j w ej a q
   have:=hnew a m
   omega
  ·have hk':=(hO k hk).resolve_right q
   simp[ZO,q]at e'
   obtain⟨o1,o2,o3⟩:=s.own k hk' t' e'
   refine⟨by simpa [Zac,q]using o1,by simpa [Zac,q]using o2,fun j w hj ej a m=>?_⟩
   simp[Zac,q]at m
   by_cases q2:j=i
   ·subst q2
    simp only[Zac,if_true]
    intro m2
    have:=hold k t' e' a m
    have:=hnew a m2
    omega
   ·simp[ZO,q2]at ej
    simpa [Zac,q2]using o3 j w hj ej a m
 ·obtain⟨k,hk,⟨t',e'⟩,m⟩:=m
  by_cases q:k=i
  ·subst q
   simp[Zac]at m
   exact .inl (hnew a m)
  ·simp[ZO,q]at e'
   simp[Zac,q]at m
   exact .inr ⟨k,(hO k hk).resolve_right q,⟨t',e'⟩,m⟩
noncomputable def qIf(b:PB)(p q:PS): PS:=fun σ=>(b σ).bind fun x=>if x then p σ else q σ
theorem Aft.grow{c:Ctx}{σ:TL}{H X:Hp}{Φ:Nat→List Nat}{g:Option (Option V×Lc×Hp)}{r:Option T×TL}(h:Aft c O O' R fr σ (H++X) Φ g r): Aft c O O' R fr σ H Φ g r:=by
 obtain⟨ρ',H',Φ',h1,h2,h3⟩:=h
 rw[List.length_append]at h1
 refine⟨ρ',H',Φ',by omega,fun a ha hn=>?_,?_⟩
 ·rw[h2 a (by rw[List.length_append];omega) hn,List.getElem?_append_left ha]
 ·rcases h3 with⟨k1,k2,k3,k4⟩ | k
  ·exact .inl ⟨k1,k2,k3,fun a m=>(k4 a m).imp (fun q=>by rw[List.length_append]at q;omega) id⟩
  ·exact .inr k
theorem ZF{t:Ts}{pb:PB}{a b:Sm}{p q:PS}(z:Bt O t pb)(x:S O O' R fr a p)(y:S O O' R fr b q): S O O' R fr (sIf t a b) (qIf pb p q):=fun c ρ σ H Φ r s e=>by
 obtain⟨bb,e1,e⟩:=Zz0.mp e
 obtain⟨X,h1⟩:=z c ρ σ H Φ bb s e1
 cases bb with
 | true=>
  have:=x c ρ σ (H++X) Φ r (s.ext X) (by simpa using e)
  have eg:sIf t a b ρ H=a ρ (H++X):=by simp[sIf,h1]
  rw[eg]
  exact this.grow
 | false=>
  have:=y c ρ σ (H++X) Φ r (s.ext X) (by simpa using e)
  have eg:sIf t a b ρ H=b ρ (H++X):=by simp[sIf,h1]
  rw[eg]
  exact this.grow
noncomputable def qNo: PS:=fun _=>none
noncomputable def sNo: Sm:=fun _ _=>none
theorem Zyj{g:Sm}: S O O' R fr g qNo:=fun c ρ σ H Φ r s q=>by cases q
noncomputable def follow(H:Hp): List Int→V→Option V
 | [],v=>some v
 | k::ks,v=>(ZY v (.int k) H).bind fun q=>follow H ks q.1
theorem Lead.follow{H:Hp}{ks:List Int}{v:V}{a:Nat}(l:Lead H ks v a): follow H ks v=some (.ref a):=by
 induction l with
 | nil=>rfl
 | ref h1 h2 h3 _ ih=>simp only[TM.follow,ZY,h1,Option.bind_some,h2,h3,Option.map_some,ih]
 | tup h2 h3 _ ih=>simp only[TM.follow,ZY,Option.bind_some,h2,h3,Option.map_some,ih]
theorem Zld{H:Hp}{v w z:V}{K:Hp}(h:ZY v z H=some (w,K))(X:Hp): K=H∧ZY v z (H++X)=some (w,H++X):=by
 unfold ZY at h
 split at h
 ·obtain⟨vs,e1,h⟩:=Zz0.mp h
  obtain⟨j,e2,h⟩:=Zz0.mp h
  obtain⟨x,e3,h⟩:=Zz1.mp h
  cases h
  exact⟨rfl,by simp only[ZY,List.getElem?_append_left (Zz6.mp e1).1,e1,Option.bind_some,e2,e3,Option.map_some]⟩
 ·obtain⟨j,e2,h⟩:=Zz0.mp h
  obtain⟨x,e3,h⟩:=Zz1.mp h
  cases h
  exact⟨rfl,by simp only[ZY,Option.bind_some,e2,e3,Option.map_some]⟩
 ·cases h
theorem ZnS{H:Hp}{k:Int}: ∀{ks:List Int} {v:V},follow H (ks++[k]) v=(follow H ks v).bind fun w=>(ZY w (.int k) H).map (·.1)
 | [],v=>by
  simp only[List.nil_append,follow,Option.bind_some]
  cases ZY v (.int k) H <;> rfl
 | j::ks,v=>by
  simp only[List.cons_append,follow]
  cases ZY v (.int j) H with
  | none=>rfl
  | some q=>simp only[Option.bind_some];exact ZnS
noncomputable abbrev PPa:=TL→Option (List Int)
noncomputable def ZbK: PPa:=fun _=>some []
noncomputable def Zjb(p:PPa)(i:PE): PPa:=fun σ=>(p σ).bind fun ks=>(i σ).bind fun t=>match t with
 | .int k=>some (ks++[k])
 | _=>none
def Pa(O:List Nat)(x:Nat)(e:Ex)(p:PPa): Prop:=∀(c:Ctx) (ρ:Lc) (σ:TL) (H:Hp) (Φ:Nat→List Nat) (ks:List Int) (v w:V),St c O ρ σ H Φ→p σ=some ks→ρ x=some v→follow H ks v=some w→∃X,e ρ H=some (w,H++X)
theorem Zbs{x:Nat}: Pa O x (Zl x) ZbK:=fun c ρ σ H Φ ks v w s h e f=>by
 cases h;cases f
 exact⟨[],by simp[Zl,e]⟩
theorem Zen{x:Nat}{N:List Nat}{u:Bool}{e i:Ex}{p:PPa}{pi:PE}(y:Pa O x e p)(z:E O N u i pi): Pa O x (Zy ZY e i) (Zjb p pi):=fun c ρ σ H Φ ks v w s h ev f=>by
 obtain⟨ks0,h1,h⟩:=Zz0.mp h
 obtain⟨t,h2,h⟩:=Zz0.mp h
 cases t <;> first | (cases h;done) | skip
 rename_i k
 cases h
 rw[ZnS]at f
 obtain⟨w0,f1,f⟩:=Zz0.mp f
 obtain⟨⟨w1,K⟩,f2,f⟩:=Zz1.mp f
 cases f
 obtain⟨X,a1⟩:=y c ρ σ H Φ ks0 v w0 s h1 ev f1
 obtain⟨vi,Y,F,b1,b2,b3,b4⟩:=z c ρ σ (H++X) Φ _ (s.ext X) h2
 cases b2
 refine⟨X++Y,?_⟩
 simp only[Zy,a1,Option.bind_some,b1]
 have:=(Zld f2 (X++Y)).2
 rw[List.append_assoc]
 exact this
theorem ZqQ{c:Ctx}{ρ:Lc}{σ:TL}{H:Hp}{Φ:Nat→List Nat}{N:List Nat}{x a b:Nat}{t t':T}{v:V}{Fw F':List Nat}{vs':List V}(s:St c O ρ σ H Φ)(hx:x∈O)(ex:σ x=some t)(ev:ρ x=some v)(hb:c.H0.length≤b)(hlow:∀k t,σ k=some t→∀a∈Φ k,a<b)
  (hFw:∀a∈Fw,b≤a∨∃j∈N,(∃t,σ j=some t)∧a∈Φ j) (hN:∀j∈N,j∈O∧j≠x) (ha:a∈Φ x) (r:RF (H.set a vs') v t' F') (nd:F'.Nodup) (sub:∀y∈F',y∈Φ x∨y∈Fw) (hO:∀j∈O',j∈O∧j∉N):
  St c O' ρ (Zcm (ZO σ x t') N) (H.set a vs') (Zac Φ x F')∧(∀y,Held O' (Zcm (ZO σ x t') N) (Zac Φ x F') y→b≤y∨Held O σ Φ y):=by
 obtain⟨o1,o2,o3⟩:=s.own x hx t ex
 have old:∀k u,k≠x→Zcm (ZO σ x t') N k=some u→σ k=some u∧k∉N:=fun k u hk e=>by
  unfold Zcm at e
  split at e
  ·cases e
  ·rename_i hn
   simp[ZO,hk]at e
   exact⟨e,hn⟩
 have self:∀u,Zcm (ZO σ x t') N x=some u→u=t':=fun u e=>by
  unfold Zcm at e
  split at e
  ·cases e
  ·simp[ZO]at e;exact e.symm
 have foff:∀y∈F',∀k u,k≠x→σ k=some u→k∉N→y∉Φ k:=fun y hy k u hk e hkn m=>by
  rcases sub y hy with q | q
  ·exact o3 k u hk e y q m
  ·rcases hFw y q with q | ⟨j,hj,⟨tj,ej⟩,mj⟩
   ·have:=hlow k u e y m;omega
   ·exact(s.own j (hN j hj).1 tj ej).2.2 k u (fun q=>hkn (q▸hj)) e y mj m
 refine⟨⟨fun k u e=>?_,fun k u e=>?_,fun k hk u e=>?_,by simpa using s.len,fun y hy hn=>?_,s.pos,s.f0⟩,fun y hy=>?_⟩
 ·by_cases q:k=x
  ·subst q
   have:=self u e
   subst this
   exact⟨v,ev,by simpa [Zac]using r⟩
  ·obtain⟨e1,e2⟩:=old k u q e
   obtain⟨w,h1,h2⟩:=s.slot k u e1
   refine⟨w,h1,?_⟩
   simp only[Zac,q,if_false]
   refine h2.frame fun y hy=>List.getElem?_set_ne fun q'=>?_
   exact o3 k u q e1 a ha (q'▸hy)
 ·by_cases q:k=x
  ·subst q
   simp only[Zac,if_true]
   intro y hy
   rcases sub y hy with q | q
   ·exact s.src k t ex y q
   ·rcases hFw y q with q | ⟨j,hj,⟨tj,ej⟩,mj⟩
    ·exact .inl (by omega)
    ·exact s.src j tj ej y mj
  ·obtain⟨e1,e2⟩:=old k u q e
   simpa [Zac,q]using s.src k u e1
 ·by_cases q:k=x
  ·subst q
   simp only[Zac,if_true]
   refine⟨nd,fun y hy=>?_,fun j w hj ej y hy=>?_⟩
   ·rcases sub y hy with q | q
    ·exact o2 y q
    ·rcases hFw y q with q | ⟨j,hj,⟨tj,ej⟩,mj⟩
     ·exact .inl (by omega)
     ·exact(s.own j (hN j hj).1 tj ej).2.1 y mj
   ·obtain⟨e1,e2⟩:=old j w hj ej
    simpa [hj]using foff y hy j w hj e1 e2
  ·obtain⟨e1,e2⟩:=old k u q e
   obtain⟨p1,p2,p3⟩:=s.own k (hO k hk).1 u e1
   simp only[Zac,q,if_false]
   refine⟨p1,p2,fun j w hj ej y hy=>?_⟩
   by_cases q2:j=x
   ·subst q2
    simp only[if_true]
    exact fun m=>foff y m k u q e1 e2 hy
   ·obtain⟨f1,f2⟩:=old j w q2 ej
    simpa [q2]using p3 j w hj f1 y hy
 ·have:a≠y:=fun q=>by
   subst q
   rcases o2 a ha with q | q
   ·omega
   ·exact hn q
  rw[List.getElem?_set_ne this]
  exact s.keep y hy hn
 ·obtain⟨k,hk,⟨u,e⟩,m⟩:=hy
  by_cases q:k=x
  ·subst q
   simp only[Zac,if_true]at m
   rcases sub y m with q | q
   ·exact .inr ⟨k,hx,⟨t,ex⟩,q⟩
   ·rcases hFw y q with q | ⟨j,hj,q⟩
    ·exact .inl q
    ·exact .inr ⟨j,(hN j hj).1,q⟩
  ·obtain⟨e1,e2⟩:=old k u q e
   simp only[Zac,q,if_false]at m
   exact .inr ⟨k,(hO k hk).1,⟨u,e1⟩,m⟩
theorem ZlX{c:Ctx}{ρ:Lc}{σ:TL}{H:Hp}{Φ:Nat→List Nat}{x a:Nat}{t:T}(s:St c O ρ σ H Φ)(hx:x∈O)(ex:σ x=some t)(ha:a∈Φ x): a≠0:=by
 have:=s.pos
 rcases(s.own x hx t ex).2.1 a ha with q | q
 ·omega
 ·exact fun e=>s.f0 (e▸q)
noncomputable def ZjJ(w:T)(ts:List T): Option (List T):=if ts.length<LEN then some (ts++[w])else none
noncomputable def ZjK(k:Int)(w:T)(ts:List T): Option (List T):=if 0≤k∧k<ts.length then some (ts.set k.toNat w)else none
noncomputable def ZfD(x:Nat)(N:List Nat)(po:PPa)(p:PE): PS:=fun σ=>(po σ).bind fun ks=>(p σ).bind fun w=>(σ x).bind fun t=>(Zdw (ZjJ w) ks t).map fun t'=>(none,Zcm (ZO σ x t') N)
noncomputable def Zcq(x:Nat)(N:List Nat)(p:PE)(po:PPa)(pi:PE): PS:=fun σ=>(p σ).bind fun w=>(po σ).bind fun ks=>(pi σ).bind fun k=>match k with
 | .int k=>(σ x).bind fun t=>(Zdw (ZjK k w) ks t).map fun t'=>(none,Zcm (ZO σ x t') N)
 | _=>none
theorem Zgw{H:Hp}(X:Hp): ∀{ks:List Int} {v w:V},follow H ks v=some w→follow (H++X) ks v=some w
 | [],_,_,h=>h
 | k::ks,v,w,h=>by
  obtain⟨⟨w1,K⟩,h1,h2⟩:=Zz0.mp h
  simp only[follow,(Zld h1 X).2,Option.bind_some]
  exact Zgw X h2
theorem ZmK{x:Nat}{N:List Nat}{o e:Ex}{po:PPa}{p:PE}(hx:x∈O)(y:Pa O x o po)(z:E O N true e p)(hN:∀j∈N,j∈O∧j≠x)(hO:∀j∈O',j∈O∧j∉N): S O O' R fr (ZcV (ZiK o e)) (ZfD x N po p):=fun c ρ σ H Φ r s q=>by
 obtain⟨ks,h1,q⟩:=Zz0.mp q
 obtain⟨w,h2,q⟩:=Zz0.mp q
 obtain⟨t,h3,q⟩:=Zz0.mp q
 obtain⟨t',h4,q⟩:=Zz1.mp q
 subst q
 obtain⟨v,ev,rv⟩:=s.slot x t h3
 have hlow:∀k t,σ k=some t→∀a∈Φ k,a<H.length:=fun k t e a m=>by
  obtain⟨_,_,r⟩:=s.slot k t e
  exact r.lt a m
 obtain⟨o1,o2,o3⟩:=s.own x hx t h3
 obtain⟨a,vs0,ts0,ts0',G0,l0,_⟩:=Zfj (Gn:=[]) ks rv o1 (by simp) h4
 obtain⟨X,a1⟩:=y c ρ σ H Φ ks v (.ref a) s h1 ev l0.follow
 obtain⟨vw,Y,Fw,b1,b2,b3,b4⟩:=z c ρ σ (H++X) Φ w (s.ext X) h2
 have s2:=(s.ext X).ext Y
 have rv2:RF (H++X++Y) v t (Φ x):=(rv.ext X).ext Y
 have hFw:∀a∈Fw,H.length≤a∨∃j∈N,(∃t,σ j=some t)∧a∈Φ j:=fun a m=>(b3 a m).back
 have dsj:∀a∈Fw,a∉Φ x:=fun a m q=>by
  rcases hFw a m with h | ⟨j,hj,⟨tj,ej⟩,mj⟩
  ·have:=hlow x t h3 a q;omega
  ·exact o3 j tj (hN j hj).2 ej a q mj
 obtain⟨a',vs,ts,ts',G,l,am,ea,hs,hf,gn,na,gs,go⟩:=Zfj (Gn:=Fw) ks rv2 o1 dsj h4
 have haa:a'=a:=by
  have f2:=Zgw Y (Zgw X l0.follow)
  rw[l.follow]at f2
  cases f2
  rfl
 subst haa
 unfold ZjJ at hf
 split at hf
 ·rename_i hl
  cases hf
  obtain⟨F',r',n',sub'⟩:=go (vs++[vw]) (G++Fw) (hs.snoc b2) (by
   rw[List.nodup_append]
   exact⟨gn,b4 rfl,fun y hy z hz e=>dsj z hz (e▸gs y hy)⟩) (fun m=>(Zz8.mp m).elim na fun m=>dsj _ m am) (fun y m=>List.mem_append.mp m)
  obtain⟨st,com⟩:=ZqQ (O':=O') (b:=H.length) s2 hx h3 ev s.len hlow hFw hN am r' n' sub' hO
  refine⟨ρ,(H++X++Y).set a' (vs++[vw]),Zac Φ x F',by simp,fun y hy hn=>?_,.inl ⟨rfl,?_,st,com⟩⟩
  ·have:a'≠y:=fun q=>hn ⟨x,hx,⟨t,h3⟩,q▸am⟩
   rw[List.getElem?_set_ne this,List.append_assoc,List.getElem?_append_left hy]
  ·simp only[ZcV,ZiK,a1,Option.bind_some,b1,Zhe,ea]
   rw[if_pos ⟨ZlX s hx h3 am,by rw[hs.length];exact hl⟩]
   rfl
 ·cases hf
theorem S.put{x:Nat}{N M:List Nat}{u:Bool}{o e i:Ex}{po:PPa}{p pi:PE}(hx:x∈O)(z:E O N true e p)(y:Pa O x o po)(zi:E O M u i pi)(hN:∀j∈N,j∈O∧j≠x)(hO:∀j∈O',j∈O∧j∉N): S O O' R fr (Zc9 e o i) (Zcq x N p po pi):=fun c ρ σ H Φ r s q=>by
 obtain⟨w,h2,q⟩:=Zz0.mp q
 obtain⟨ks,h1,q⟩:=Zz0.mp q
 obtain⟨tk,h5,q⟩:=Zz0.mp q
 cases tk <;> first | (cases q;done) | skip
 rename_i k
 obtain⟨t,h3,q⟩:=Zz0.mp q
 obtain⟨t',h4,q⟩:=Zz1.mp q
 subst q
 obtain⟨v,ev,rv⟩:=s.slot x t h3
 have hlow:∀k t,σ k=some t→∀a∈Φ k,a<H.length:=fun k t e a m=>by
  obtain⟨_,_,r⟩:=s.slot k t e
  exact r.lt a m
 obtain⟨o1,o2,o3⟩:=s.own x hx t h3
 obtain⟨vw,X,Fw,b1,b2,b3,b4⟩:=z c ρ σ H Φ w s h2
 obtain⟨a,vs0,ts0,ts0',G0,l0,_⟩:=Zfj (Gn:=[]) ks (rv.ext X) o1 (by simp) h4
 obtain⟨Y,a1⟩:=y c ρ σ (H++X) Φ ks v (.ref a) (s.ext X) h1 ev l0.follow
 obtain⟨vk,Z,Fk,d1,d2,d3,d4⟩:=zi c ρ σ (H++X++Y) Φ _ ((s.ext X).ext Y) h5
 cases d2
 have s2:=((s.ext X).ext Y).ext Z
 have rv2:RF (H++X++Y++Z) v t (Φ x):=((rv.ext X).ext Y).ext Z
 have hFw:∀a∈Fw,H.length≤a∨∃j∈N,(∃t,σ j=some t)∧a∈Φ j:=b3
 have dsj:∀a∈Fw,a∉Φ x:=fun a m q=>by
  rcases hFw a m with h | ⟨j,hj,⟨tj,ej⟩,mj⟩
  ·have:=hlow x t h3 a q;omega
  ·exact o3 j tj (hN j hj).2 ej a q mj
 obtain⟨a',vs,ts,ts',G,l,am,ea,hs,hf,gn,na,gs,go⟩:=Zfj (Gn:=Fw) ks rv2 o1 dsj h4
 have haa:a'=a:=by
  have f2:=Zgw Z (Zgw Y l0.follow)
  rw[l.follow]at f2
  cases f2
  rfl
 subst haa
 unfold ZjK at hf
 split at hf
 ·rename_i hl
  cases hf
  have hk:k.toNat<ts.length:=by omega
  obtain⟨v0,Gk,F1,F2,e0,r0,eG,rb⟩:=hs.split (List.getElem?_eq_getElem hk)
  have b2':RF (H++X++Y++Z) vw w Fw:=(b2.ext Y).ext Z
  have rs:=rb (H++X++Y++Z) vw w Fw b2' (fun _ _=>rfl) (fun _ _=>rfl)
  have sub0:∀a∈Fw,a∈Gk∨a∈Fw:=fun a m=>.inr m
  subst eG
  obtain⟨F',r',n',sub'⟩:=go _ _ rs (nd3 gn (b4 rfl) sub0 fun a m q=>dsj a m (gs a q)) (fun m=>by
   rcases in3 (G:=Gk) sub0 _ m with m | m
   ·exact na m
   ·exact dsj _ m am) (in3 sub0)
  obtain⟨st,com⟩:=ZqQ (O':=O') (b:=H.length) s2 hx h3 ev s.len hlow hFw hN am r' n' sub' hO
  refine⟨ρ,(H++X++Y++Z).set a' (vs.set k.toNat vw),Zac Φ x F',by simp,fun y hy hn=>?_,.inl ⟨rfl,?_,st,com⟩⟩
  ·have:a'≠y:=fun q=>hn ⟨x,hx,⟨t,h3⟩,q▸am⟩
   rw[List.getElem?_set_ne this,List.append_assoc,List.append_assoc,List.getElem?_append_left hy]
  ·simp only[Zc9,b1,Option.bind_some,a1,d1,ZmW,ea]
   rw[if_pos ⟨ZlX s hx h3 am,by rw[hs.length];exact hl⟩]
   rfl
 ·cases hf
noncomputable def ZeG(put:T→TL→Option TL)(b:PS): TL→List T→Option (Option T×TL)
 | σ,[]=>some (none,σ)
 | σ,t::ts=>(put t σ).bind fun σ1=>(b σ1).bind fun r=>match r.1 with
  | some _=>some r
  | none=>ZeG put b r.2 ts
noncomputable def Zbq(g:PG)(put:T→TL→Option TL)(b:PS): PS:=fun σ=>(g σ).bind fun ts=>ZeG put b σ ts
theorem ZlI{J:List Nat}{put:V→Lc→Option Lc}{pput:T→TL→Option TL}{b:Sm}{qb:PS}(hj:PutOk O J put pput)(hJ:∀i∈J,i∉O)(hb:S O O R fr b qb){c:Ctx}{nx:Nx}{vs:List V}{G:List Nat}{H1:Hp}(hG:∀a∈G,a<H1.length)(hsrc:∀a∈G,c.H0.length≤a∨c.P a)(hnx:∀K:Hp,(∀a∈G,K[a]?=H1[a]?)→∀i,i≤vs.length→nx i K=some vs[i]?):
  ∀(rs:List T) (ws:List V) (i:Nat) (ρ:Lc) (σ:TL) (K:Hp) (Φ:Nat→List Nat) (Fr:List Nat) (r:Option T×TL),(∀j,vs[i+j]?=ws[j]?)→i+ws.length=vs.length→St c O ρ σ K Φ→H1.length≤K.length→(∀a∈G,K[a]?=H1[a]?)→(∀a∈G,¬Held O σ Φ a)→RFs K ws rs Fr→(∀a∈Fr,a∈G)→ZeG pput qb σ rs=some r →
   Aft c O O R fr σ K Φ (ZcT nx put b (rs.length+1) i ρ K) r
 | [],ws,i,ρ,σ,K,Φ,Fr,r,hat,hlen,s,hl,hk,hoff,rr,hfr,h=>by
  cases rr
  cases h
  have e:=hnx K hk i (by simp at hlen;omega)
  have e2:vs[i]?=none:=by have:=hat 0;simpa using this
  exact⟨ρ,K,Φ,Nat.le_refl _,fun _ _ _=>rfl,.inl ⟨rfl,by simp[ZcT,e,e2],s,fun a m=>.inr m⟩⟩
 | t::rs,ws0,i,ρ,σ,K,Φ,Fr0,r,hat,hlen,s,hl,hk,hoff,rr,hfr,h=>by
  cases rr with
  | @cons v _ F1 ws _ F2 a b'=>
  simp only[List.length_cons]at hlen
  obtain⟨σ1,h1,h⟩:=Zz0.mp h
  obtain⟨r1,h2,h⟩:=Zz0.mp h
  have e:=hnx K hk i (by omega)
  have e2:vs[i]?=some v:=by have:=hat 0;simpa using this
  have hat':∀j,vs[i+1+j]?=ws[j]?:=fun j=>by have:=hat (j+1);rw[show i+1+j=i+(j+1)by omega,this];simp
  obtain⟨ρ1,Φ1,p1,s1,p3,p4⟩:=hj c ρ σ K Φ v t F1 σ1 s a (fun x m=>hsrc x (hfr x (Zz4 _ m))) (fun k hk t' e x m q=>hoff x (hfr x (Zz4 _ q)) ⟨k,hk,⟨t',e⟩,m⟩) h1
  have hh:∀x,Held O σ1 Φ1 x→Held O σ Φ x:=fun x ⟨k,hk,⟨t',e⟩,m⟩=>by
   obtain⟨q1,q2⟩:=p3 k fun q=>hJ k q hk
   exact⟨k,hk,⟨t',q1▸e⟩,q2▸m⟩
  obtain⟨ρ2,K2,Φ2,g1,g2,g3⟩:=hb c ρ1 σ1 K Φ1 r1 s1 h2
  have estep:ZcT nx put b ((t::rs).length+1) i ρ K=(b ρ1 K).bind fun q=>match q.1 with
    | some _=>some q
    | none=>ZcT nx put b (rs.length+1) (i+1) q.2.1 q.2.2:=by
   rw[List.length_cons]
   show(nx i K).bind _=_
   rw[e,e2]
   first | (simp only[Option.bind_some,p1];done) | (simp only[Option.bind_some,p1];rfl)
  rcases g3 with⟨k1,k2,k3,k4⟩ | ⟨t',v',F',k1,k2,k3⟩
  ·rw[k1]at h
   have hG2:∀a∈G,K2[a]?=K[a]?:=fun x m=>g2 x (by have:=hG x m;omega) fun q=>hoff x m (hh x q)
   have hoff2:∀a∈G,¬Held O r1.2 Φ2 a:=fun x m q=>by
    rcases k4 x q with q | q
    ·have:=hG x m;omega
    ·exact hoff x m (hh x q)
   have ih:=ZlI hj hJ hb hG hsrc hnx rs ws (i+1) ρ2 r1.2 K2 Φ2 F2 r hat' (by omega) k3 (by omega) (fun x m=>(hG2 x m).trans (hk x m)) hoff2 (b'.frame fun x m=>hG2 x (hfr x (Zz3 _ m))) (fun x m=>hfr x (Zz3 _ m)) h
   rw[estep,k2]
   simp only[Option.bind_some]
   obtain⟨ρ3,K3,Φ3,l1,l2,l3⟩:=ih
   refine⟨ρ3,K3,Φ3,by omega,fun x hx hn=>?_,?_⟩
   ·rw[l2 x (by omega) fun q=>(k4 x q).elim (fun q=>by omega) fun q=>hn (hh x q),g2 x hx fun q=>hn (hh x q)]
   ·rcases l3 with⟨m1,m2,m3,m4⟩ | l
    ·refine .inl ⟨m1,m2,m3,fun x q=>?_⟩
     rcases m4 x q with q | q
     ·exact .inl (by omega)
     ·exact(k4 x q).imp id (hh x)
    ·exact .inr l
  ·rw[k1]at h
   cases h
   refine⟨ρ2,K2,Φ2,g1,fun x hx hn=>g2 x hx fun q=>hn (hh x q),.inr ⟨t',v',F',k1,?_,k3⟩⟩
   rw[estep,k2]
   rfl
theorem ZaG{J Ns:List Nat}{g:Src}{q:PG}{put:V→Lc→Option Lc}{pput:T→TL→Option TL}{b:Sm}{qb:PS}(hg:Gs O Ns g q)(hj:PutOk O J put pput)(hJ:∀i∈J,i∉O)(hN:∀i∈Ns,i∉O)(hb:S O O R fr b qb): S O O R fr (ZbS g put b) (Zbq q pput qb):=fun c ρ σ H Φ r s h=>by
 obtain⟨ts,h1,h⟩:=Zz0.mp h
 obtain⟨nx,X,vs,F,G,g1,g2,g3,g4,g5⟩:=hg c ρ σ H Φ ts s h1
 have:=ZlI hj hJ hb (H1:=H++X) (fun a m=>(g4 a m).1) (fun a m=>s.from_src (g4 a m).2) g5 ts vs 0 ρ σ (H++X) Φ F r (by simp) (by simp) (s.ext X) (Zz10 _) (fun _ _=>rfl) (fun a m ⟨k,hk,⟨t,e⟩,q⟩=>s.from_off hN (g4 a m).2 hk e q) g2 g3 h
 have eg:ZbS g put b ρ H=ZcT nx put b (ts.length+1) 0 ρ (H++X):=by simp only[ZbS,g1,Option.bind_some]
 rw[eg]
 exact this.grow
noncomputable def Zfn(t:PB)(b:PS): Nat→PS
 | 0=>fun _=>none
 | n+1=>fun σ=>(t σ).bind fun p=>if p then(b σ).bind fun q=>(match q.1 with
   | some _=>some q
   | none=>Zfn t b n q.2)else some (none,σ)
theorem Zfe{t:Ts}{pt:PB}{b:Sm}{qb:PS}(z:Bt O t pt)(y:S O O R fr b qb): ∀n,S O O R fr (Zel t b n) (Zfn pt qb n)
 | 0=>fun c ρ σ H Φ r s h=>by cases h
 | n+1=>fun c ρ σ H Φ r s h=>by
  obtain⟨p,h1,h⟩:=Zz0.mp h
  obtain⟨X,a1⟩:=z c ρ σ H Φ p s h1
  cases p with
  | false=>
   cases h
   exact⟨ρ,H++X,Φ,by simp,fun a ha _=>List.getElem?_append_left ha,.inl ⟨rfl,by simp[Zel,a1],s.ext X,fun a m=>.inr m⟩⟩
  | true=>
   simp only[if_true]at h
   obtain⟨r1,h2,h⟩:=Zz0.mp h
   have b1:=(y c ρ σ (H++X) Φ r1 (s.ext X) h2).grow
   have eg:Zel t b (n+1) ρ H=(b ρ (H++X)).bind fun q=>(match q.1 with
    | some _=>some q
    | none=>Zel t b n q.2.1 q.2.2):=by
    show(t ρ H).bind _=_
    rw[a1]
    rfl
   rw[eg]
   obtain⟨ρ1,H1,Φ1,g1,g2,g3⟩:=b1
   rcases g3 with⟨k1,k2,k3,k4⟩ | ⟨t',v',F',k1,k2,k3⟩
   ·rw[k1]at h
    obtain⟨ρ3,K3,Φ3,l1,l2,l3⟩:=Zfe z y n c ρ1 r1.2 H1 Φ1 r k3 h
    rw[k2]
    simp only[Option.bind_some]
    refine⟨ρ3,K3,Φ3,by omega,fun x hx hn=>?_,?_⟩
    ·rw[l2 x (by omega) fun q=>(k4 x q).elim (fun q=>by omega) hn,g2 x hx hn]
    ·rcases l3 with⟨m1,m2,m3,m4⟩ | l
     ·refine .inl ⟨m1,m2,m3,fun x q=>?_⟩
      rcases m4 x q with q | q
      ·exact .inl (by omega)
      ·exact k4 x q
     ·exact .inr l
   ·rw[k1]at h
    cases h
    exact⟨ρ1,H1,Φ1,g1,g2,.inr ⟨t',v',F',k1,by rw[k2];rfl,k3⟩⟩
end
noncomputable def ZN(n:Nat)(q:PS): List T→Option T:=fun ts=>if ts.length=n then(q fun i=>ts[i]?).map fun r=>r.1.getD .none else none
theorem RFs.slots{H:Hp}: ∀{vs:List V} {ts:List T} {F:List Nat},RFs H vs ts F→∃Φ:Nat→List Nat,∀i t,ts[i]?=some t→∃v,vs[i]?=some v∧RF H v t (Φ i)∧∀a∈Φ i,a∈F
 | _,_,_,.nil=>⟨fun _=>[],fun i t e=>by simp at e⟩
 | _,_,_,.cons (F:=F1) a b=>by
  obtain⟨Φ,h⟩:=b.slots
  refine⟨fun i=>match i with | 0=>F1 | i+1=>Φ i,fun i t e=>?_⟩
  cases i with
  | zero=>simp at e;subst e;exact⟨_,by simp,a,fun x m=>List.mem_append_left _ m⟩
  | succ i=>
   simp at e
   obtain⟨v,h1,h2,h3⟩:=h i t e
   exact⟨v,by simpa using h1,h2,fun x m=>List.mem_append_right _ (h3 x m)⟩
theorem Zoo{H H':Hp}(hl:H.length≤H'.length)(h:∀a,a<H.length→H'[a]?=H[a]?): H'=H++H'.drop H.length:=by
 conv=>lhs;rw[←List.take_append_drop H.length H']
 congr 1
 refine List.ext_getElem? fun i=>?_
 by_cases q:i<H.length
 ·rw[List.getElem?_take_of_lt q,h i q]
 ·rw[List.getElem?_eq_none (by simp;omega),List.getElem?_eq_none (by omega)]
theorem ZU{O':List Nat}{fr:Bool}{n:Nat}{g:Sm}{q:PS}(h:S [] O' [] fr g q): SimF fr (ZK n g) (ZN n q):=fun H vs ts t F1 hp r e=>by
 unfold ZN at e
 split at e
 ·rename_i hl
  obtain⟨r1,e1,e2⟩:=Zz1.mp e
  obtain⟨Φ,hΦ⟩:=r.slots
  have st:St ⟨H,[],fun a=>a∈F1⟩ [] (fun i=>vs[i]?) (fun i=>ts[i]?) H Φ:=
   ⟨(fun i t e=>by obtain⟨v,h1,h2,_⟩:=hΦ i t e;exact⟨v,h1,h2⟩),fun i t e a m=>(by obtain⟨v,h1,h2,h3⟩:=hΦ i t e;exact .inr (h3 a m)),(fun i hi=>nomatch hi),Nat.le_refl _,fun a _ _=>rfl,hp,by simp⟩
  obtain⟨ρ',H',Φ',h1,h2,h3⟩:=h _ _ _ _ _ _ st e1
  rcases h3 with⟨k1,k2,k3,k4⟩ | ⟨t',v',F',k1,k2,k3,k4,k5,k6⟩
  ·have eh:=Zoo k3.len fun a ha=>k3.keep a ha (by simp)
   refine⟨.none,H'.drop H.length,[],?_,?_,by simp,by simp⟩
   ·have hv:vs.length=n:=r.length.trans hl
    simp only[ZK,hv,if_true,k2,Option.map_some,Option.getD_none]
    rw[←eh]
   ·rw[k1]at e2
    subst e2
    exact .none
  ·have eh:=Zoo k4.len fun a ha=>k4.keep a ha (by simp)
   refine⟨v',H'.drop H.length,F',?_,?_,k5,fun hf=>⟨(k6 hf).1,fun a m=>((k6 hf).2 a m).elim id fun q=>by cases q⟩⟩
   ·have hv:vs.length=n:=r.length.trans hl
    simp only[ZK,hv,if_true,k2,Option.map_some,Option.getD_some]
    rw[←eh]
   ·rw[k1]at e2
    subst e2
    rw[←eh]
    exact k3
 ·cases e
theorem Zub{f:List V→Hp→Option (V×Hp)}{p:List T→Option T}{fr:Bool}(h:SimF fr f p)(ns:List Int)(e:p [.lst (ns.map T.int)]=some (.bool true)): ∃H',f [.ref 0] [ns.map V.int]=some (.bool true,H'):=by
 have intsAre:∀l:List Int,RFs [ns.map V.int] (l.map V.int) (l.map T.int) []:=fun l=>by
  induction l with
  | nil=>exact .nil
  | cons a l ih=>exact .cons (.int a) ih
 obtain⟨v,X,F,h1,h2,_⟩:=h [ns.map V.int] [.ref 0] [.lst (ns.map T.int)] _ _ (by simp) (.one (.ref rfl (intsAre ns))) e
 cases h2
 exact⟨_,h1⟩
end TM
end
section
namespace TM
open PySem PM
structure XS(O O' R:List Nat)(fr:Bool) where
 g:Sm
 q:PS
 h:S O O' R fr g q
end TM
end
section
namespace TM
open PySem PM
section
variable {O Ns Ne J:List Nat}
theorem ZbA{u:Bool}{g:Src}{q:PG}{put:V→Lc→Option Lc}{pput:T→TL→Option TL}{tc:Ts}{pc:PB}{f:Ex}{pf:PE}(hg:Gs O Ns g q)(hj:PutOk O J put pput)(hN:∀i∈Ns,i∉O)(hc:Bt O tc pc)(hf:E O Ne u f pf): E O (Ns++Ne) false (Zbm g put tc f) (ZaC q pput pc pf):=
 ZqP hg hj hN hc hf.sh (by simp)
theorem ZcY{g:Src}{q:PG}{put:V→Lc→Option Lc}{pput:T→TL→Option TL}{tc:Ts}{pc:PB}{f:Ex}{pf:PE}(hg:Gs O Ns g q)(hj:PutOk O J put pput)(hN:∀i∈Ns,i∉O)(hc:Bt O tc pc)(hf:E O [] true f pf): E O [] true (Zbm g put tc f) (ZaC q pput pc pf):=
 ZqP hg hj hN hc hf (by simp)
end
end TM
end
section
/-! Forward reckoning over trees. -/
namespace TM
open PySem PM
noncomputable def dec(P:Prop): Bool:=@decide P (Classical.propDecidable P)
theorem dec_iff{P:Prop}: dec P=true↔P:=by unfold dec;exact @decide_eq_true_iff P (Classical.propDecidable P)
theorem Zap{P:Prop}(h:P): dec P=true:=dec_iff.mpr h
theorem Zaq{P:Prop}(h:¬P): dec P=false:=by
 cases e:dec P with
 | true=>exact absurd (dec_iff.mp e) h
 | false=>rfl
theorem ZdC{P Q:Prop}(h:P↔Q): dec P=dec Q:=by
 by_cases p:P
 ·rw[Zap p,Zap (h.mp p)]
 ·rw[Zaq p,Zaq fun q=>p (h.mpr q)]
theorem Zmo{P:Prop}{b:Bool}(h:b=true↔P): dec P=b:=by
 cases b with
 | true=>exact Zap (h.mp rfl)
 | false=>exact Zaq fun p=>by simpa using h.mpr p
theorem ZeU{P:Prop}[i:Decidable P]: decide P=dec P:=by
 unfold dec;congr
noncomputable def tab{α:Type}(n:Nat)(f:Nat→α): List α:=(List.range n).map f
theorem Zai{α:Type}{n:Nat}{f:Nat→α}: (tab n f).length=n:=by simp[tab]
theorem Zbj{α:Type}{n:Nat}{f:Nat→α}{i:Nat}(h:i<n): (tab n f)[i]?=some (f i):=by simp[tab,h]
theorem Zw4{α:Type}{n:Nat}{f:Nat→α}{i:Nat}(h:n≤i): (tab n f)[i]?=none:=by simp[tab,h]
theorem Zdn{α:Type}{n:Nat}{f:Nat→α}: tab n f++[f n]=tab (n+1) f:=by simp[tab,List.range_succ]
theorem ZiR{α:Type}{n:Nat}{xs:List α}{f:Nat→α}(hl:xs.length=n)(h:∀i,i<n→xs[i]?=some (f i)): xs=tab n f:=by
 refine List.ext_getElem? fun i=>?_
 by_cases q:i<n
 ·rw[h i q,Zbj q]
 ·rw[List.getElem?_eq_none (by omega),Zw4 (by omega)]
theorem ZaZ{α:Type}{n:Nat}{f g:Nat→α}(h:∀i,i<n→f i=g i): tab n f=tab n g:=by
 refine ZiR Zai fun i hi=>?_
 rw[Zbj hi,h i hi]
theorem ZiS{α:Type}{n k:Nat}{f:Nat→α}{v:α}: (tab n f).set k v=tab n fun i=>if i=k then v else f i:=by
 refine ZiR (by rw[List.length_set,Zai]) fun i hi=>?_
 by_cases q:i=k
 ·subst q
  rw[List.getElem?_set_self (by rw[Zai];exact hi),if_pos rfl]
 ·rw[List.getElem?_set_ne (Ne.symm q),Zbj hi,if_neg q]
theorem tab_map{α β:Type}{n:Nat}{f:Nat→α}{g:α→β}: (tab n f).map g=tab n fun i=>g (f i):=by simp[tab]
noncomputable def cn{α:Type}(a:α)(f:Nat→α): Nat→α
 | 0=>a
 | i+1=>f i
theorem ZuO{α:Type}{n:Nat}{a:α}{f:Nat→α}: a::tab n f=tab (n+1) (cn a f):=by
 refine ZiR (by rw[List.length_cons,Zai]) fun i hi=>?_
 cases i with
 | zero=>rfl
 | succ i=>rw[List.getElem?_cons_succ,Zbj (by omega)];rfl
theorem ZpY{α β γ:Type}{n m:Nat}{f:Nat→α}{g:Nat→β}{h:α→β→γ}: List.zipWith h (tab n f) (tab m g)=tab (min n m) fun i=>h (f i) (g i):=by
 refine ZiR (by rw[List.length_zipWith,Zai,Zai]) fun i hi=>?_
 rw[List.getElem?_zipWith,Zbj (show i<n by omega),Zbj (show i<m by omega)]
def Pk(c:Option T)(Q:T→Prop): Prop:=∃t,c=some t∧Q t
def Pl(c:Option (List T))(Q:List T→Prop): Prop:=∃t,c=some t∧Q t
def Pb(c:Option Bool)(Q:Bool→Prop): Prop:=∃t,c=some t∧Q t
def Psk(c:Option (Option T×TL))(R:T→Prop)(N:TL→Prop): Prop:=∃o σ,c=some (o,σ)∧(∀t,o=some t→R t)∧(o=none→N σ)
theorem Zn{c:Option T}{Q:T→Prop}{t:T}(h:c=some t)(k:Q t): Pk c Q:=⟨t,h,k⟩
theorem Pk.eq{c:Option T}{t:T}(h:Pk c fun v=>v=t): c=some t:=by obtain⟨v,e,rfl⟩:=h;exact e
theorem Pk.mono{c:Option T}{Q Q':T→Prop}(h:Pk c Q)(k:∀t,Q t→Q' t): Pk c Q':=by obtain⟨v,e,q⟩:=h;exact⟨v,e,k v q⟩
theorem Psk.mono{c:Option (Option T×TL)}{R R':T→Prop}{N N':TL→Prop}(h:Psk c R N)(k:∀t,R t→R' t)(l:∀σ,N σ→N' σ): Psk c R' N':=by
 obtain⟨o,σ,a,b,d⟩:=h;exact⟨o,σ,a,fun v e=>k v (b v e),fun e=>l σ (d e)⟩
section
variable {σ:TL} {Q:T→Prop} {L:List T→Prop} {B:Bool→Prop} {R:T→Prop} {N:TL→Prop}
theorem Zw5{k:Int}(h:Q (.int k)): Pk (Zv k σ) Q:=⟨_,rfl,h⟩
theorem Zw6(h:Q .none): Pk (Zaz σ) Q:=⟨_,rfl,h⟩
theorem ZvQ{k:Bool}(h:Q (.bool k)): Pk (Zev k σ) Q:=⟨_,rfl,h⟩
theorem Zw7{k:Str}(h:Q (.str k)): Pk (ZhL k σ) Q:=⟨_,rfl,h⟩
theorem Zw8{i:Nat}{t:T}(e:σ i=some t)(h:Q t): Pk (Ze i σ) Q:=⟨_,e,h⟩
theorem Zw9{q:T→T→Option T}{f g:PE}(h:Pk (f σ) fun x=>Pk (g σ) fun y=>Pk (q x y) Q): Pk (Zm q f g σ) Q:=by
 obtain⟨x,a,y,b,z,c,k⟩:=h
 exact⟨z,by simp only[Zm,a,b,Option.bind_some,c],k⟩
theorem ZxY{q:T→Option T}{f:PE}(h:Pk (f σ) fun x=>Pk (q x) Q): Pk (pUn q f σ) Q:=by
 obtain⟨x,a,z,c,k⟩:=h
 exact⟨z,by simp only[pUn,a,Option.bind_some,c],k⟩
theorem ZvR{q:List T→Option T}{f:PEs}(h:Pl (f σ) fun x=>Pk (q x) Q): Pk (ZT q f σ) Q:=by
 obtain⟨x,a,z,c,k⟩:=h
 exact⟨z,by simp only[ZT,a,Option.bind_some,c],k⟩
theorem Zxa(h:L []): Pl (ZL σ) L:=⟨_,rfl,h⟩
theorem ZvS{f:PE}{g:PEs}(h:Pk (f σ) fun x=>Pl (g σ) fun xs=>L (x::xs)): Pl (Zr f g σ) L:=by
 obtain⟨x,a,y,b,k⟩:=h
 exact⟨_,by simp only[Zr,a,b,Option.bind_some],k⟩
theorem Zxb{g:PEs}(h:Pl (g σ) fun xs=>Q (.tup xs)): Pk (ZfC g σ) Q:=by
 obtain⟨x,a,k⟩:=h;exact⟨_,by simp only[ZfC,a,Option.map_some],k⟩
theorem ZvT{g:PEs}(h:Pl (g σ) fun xs=>Q (.lst xs)): Pk (ZdN g σ) Q:=by
 obtain⟨x,a,k⟩:=h;exact⟨_,by simp only[ZdN,a,Option.map_some],k⟩
theorem ZvU{f:PE}(h:Pk (f σ) fun t=>t.flat=true∧Q t): Pk (Zc6 f σ) Q:=by
 obtain⟨x,a,b,k⟩:=h;exact⟨_,by simp only[Zc6,a,Option.bind_some,b,if_true],k⟩
theorem ZxZ{f:PE}(h:Pk (f σ) fun t=>t.flatIn=true∧Q t): Pk (pFl f σ) Q:=by
 obtain⟨x,a,b,k⟩:=h;exact⟨_,by simp only[pFl,a,Option.bind_some,b,if_true],k⟩
theorem Zx0{b:PB}{f g:PE}(h:Pb (b σ) fun x=>(x=true→Pk (f σ) Q)∧(x=false→Pk (g σ) Q)): Pk (pIf b f g σ) Q:=by
 obtain⟨x,a,h1,h2⟩:=h
 cases x with
 | true=>obtain⟨t,c,q⟩:=h1 rfl;exact⟨t,by simp[pIf,a,c],q⟩
 | false=>obtain⟨t,c,q⟩:=h2 rfl;exact⟨t,by simp[pIf,a,c],q⟩
theorem Zxc{f:PE}(h:Pk (f σ) fun x=>Pb (ZbB x) fun b=>Q (.bool (!b))): Pk (ZmY f σ) Q:=by
 obtain⟨x,a,b,e,q⟩:=h;exact⟨_,by simp only[ZmY,a,Option.bind_some,e,Option.map_some],q⟩
theorem Zxd{f g:PE}(h:Pk (f σ) fun x=>Pb (ZbB x) fun b=>(b=true→Pk (g σ) Q)∧(b=false→Q x)): Pk (ZeF f g σ) Q:=by
 obtain⟨x,a,b,e,h1,h2⟩:=h
 cases b with
 | true=>obtain⟨t,c,q⟩:=h1 rfl;exact⟨t,by simp[ZeF,a,e,c],q⟩
 | false=>exact⟨x,by simp[ZeF,a,e],h2 rfl⟩
theorem Zx1{f g:PE}(h:Pk (f σ) fun x=>Pb (ZbB x) fun b=>(b=true→Q x)∧(b=false→Pk (g σ) Q)): Pk (pOr f g σ) Q:=by
 obtain⟨x,a,b,e,h1,h2⟩:=h
 cases b with
 | false=>obtain⟨t,c,q⟩:=h2 rfl;exact⟨t,by simp[pOr,a,e,c],q⟩
 | true=>exact⟨x,by simp[pOr,a,e],h1 rfl⟩
theorem Zx2{K:String}{f:PE}(h:Pk (f σ) fun x=>Q (.bool (ZiN K x))): Pk (pIs K f σ) Q:=by
 obtain⟨x,a,q⟩:=h;exact⟨_,by simp only[pIs,a,Option.map_some],q⟩
theorem Zxe{f:PE}(h:Pk (f σ) fun x=>Pb (ZbB x) B): Pb (Z5 f σ) B:=by
 obtain⟨x,a,b,e,q⟩:=h;exact⟨_,by simp only[Z5,a,Option.bind_some,e],q⟩
theorem ZvV{f:PB}(h:Pb (f σ) fun b=>B (!b)): Pb (ZdT f σ) B:=by
 obtain⟨x,a,q⟩:=h;exact⟨_,by simp only[ZdT,a,Option.map_some],q⟩
theorem ZvW(h:B true): Pb (Zas σ) B:=⟨_,rfl,h⟩
theorem ZuP(h:B false): Pb (Zfk σ) B:=⟨_,rfl,h⟩
theorem ZvX{f g:PB}(h:Pb (f σ) fun b=>(b=true→Pb (g σ) B)∧(b=false→B false)): Pb (Zbp f g σ) B:=by
 obtain⟨x,a,h1,h2⟩:=h
 cases x with
 | true=>obtain⟨t,c,q⟩:=h1 rfl;exact⟨t,by simp[Zbp,a,c],q⟩
 | false=>exact⟨_,by simp[Zbp,a],h2 rfl⟩
theorem Zxf{f g:PB}(h:Pb (f σ) fun b=>(b=true→B true)∧(b=false→Pb (g σ) B)): Pb (bOr f g σ) B:=by
 obtain⟨x,a,h1,h2⟩:=h
 cases x with
 | false=>obtain⟨t,c,q⟩:=h2 rfl;exact⟨t,by simp[bOr,a,c],q⟩
 | true=>exact⟨_,by simp[bOr,a],h1 rfl⟩
theorem Ztt{b:Bool}(h:B b): Pb (ZbB (.bool b)) B:=⟨_,rfl,h⟩
theorem ZvY(h:N σ): Psk (ZaD σ) R N:=⟨_,_,rfl,by simp,fun _=>h⟩
theorem Zxg{f:PE}(h:Pk (f σ) R): Psk (Zav f σ) R N:=by
 obtain⟨x,a,q⟩:=h;exact⟨some x,σ,by simp only[Zav,a,Option.map_some],fun t e=>by cases e;exact q,by simp⟩
theorem Zeo{i:Nat}{f:PE}(h:Pk (f σ) fun t=>N (ZO σ i t)): Psk (ZaE i f σ) R N:=by
 obtain⟨x,a,q⟩:=h;exact⟨none,ZO σ i x,by simp only[ZaE,a,Option.map_some],by simp,fun _=>q⟩
theorem ZcF{a b:PS}(h:Psk (a σ) R fun σ1=>Psk (b σ1) R N): Psk (Z3 a b σ) R N:=by
 obtain⟨o,σ1,e,h1,h2⟩:=h
 cases o with
 | some t=>exact⟨some t,σ1,by simp only[Z3,e,Option.bind_some],h1,by simp⟩
 | none=>
  obtain⟨o2,σ2,e2,k1,k2⟩:=h2 rfl
  exact⟨o2,σ2,by simp only[Z3,e,Option.bind_some,e2],k1,k2⟩
theorem Zmp{b:PB}{f g:PS}(h:Pb (b σ) fun x=>(x=true→Psk (f σ) R N)∧(x=false→Psk (g σ) R N)): Psk (qIf b f g σ) R N:=by
 obtain⟨x,a,h1,h2⟩:=h
 cases x with
 | true=>obtain⟨o,s,c,q⟩:=h1 rfl;exact⟨o,s,by simp[qIf,a,c],q⟩
 | false=>obtain⟨o,s,c,q⟩:=h2 rfl;exact⟨o,s,by simp[qIf,a,c],q⟩
theorem Zep{n:Nat}{q:PS}{ts:List T}(hn:ts.length=n)(h:Psk (q fun i=>ts[i]?) Q fun _=>Q .none): Pk (ZN n q ts) Q:=by
 obtain⟨o,s,e,h1,h2⟩:=h
 cases o with
 | some t=>exact⟨t,by simp only[ZN,hn,if_true,e,Option.map_some,Option.getD_some],h1 t rfl⟩
 | none=>exact⟨.none,by simp only[ZN,hn,if_true,e,Option.map_some,Option.getD_none],h2 rfl⟩
theorem Zxh{b:Bool}{A C:Prop}(h:b=true)(k:A): (b=true→A)∧(b=false→C):=⟨fun _=>k,fun e=>(by rw[h]at e;cases e)⟩
theorem Zxi{b:Bool}{A C:Prop}(h:b=false)(k:C): (b=true→A)∧(b=false→C):=⟨fun e=>(by rw[h]at e;cases e),fun _=>k⟩
theorem ZqR{a b:Int}(h:Q (.int (a+b))): Pk (ZaJ (.int a) (.int b)) Q:=⟨_,rfl,h⟩
theorem Zxj{a b:Int}(h:Q (.int (a-b))): Pk (ZcW (.int a) (.int b)) Q:=⟨_,rfl,h⟩
theorem Zxk{a:Int}(h:Q (.int (-a))): Pk (ZcX (.int a)) Q:=⟨_,rfl,h⟩
theorem Zx3{a b:Int}(h:Q (.bool (decide (a<b)))): Pk (qLt (.int a) (.int b)) Q:=⟨_,rfl,h⟩
theorem Zx4{a b:Int}(h:Q (.bool (decide (a≤b)))): Pk (qLe (.int a) (.int b)) Q:=⟨_,rfl,h⟩
theorem Zx5{a b:Int}(h:Q (.bool (decide (b<a)))): Pk (qGt (.int a) (.int b)) Q:=⟨_,rfl,h⟩
theorem Zxl{a b:Int}(hb:b≠0)(h:Q (.int (a.fmod b))): Pk (ZjF (.int a) (.int b)) Q:=⟨_,by simp only[ZjF];rw[if_pos hb],h⟩
theorem ZcG{a b:Int}(hb:b≠0)(hd:Builtin.divisionGoesByPylong a b=false)(h:Q (.int (a.fdiv b))): Pk (ZjE (.int a) (.int b)) Q:=⟨_,by simp only[ZjE];rw[if_pos ⟨hb,hd⟩],h⟩
theorem Zbk{a b:Int}(hm:mulOk a b=true)(h:Q (.int (a*b))): Pk (Zb2 (.int a) (.int b)) Q:=⟨_,by simp only[Zb2];rw[if_pos hm],h⟩
theorem Zxm{a:Int}(h:Q (.int (if a<0 then -a else a))): Pk (ZhO [.int a]) Q:=⟨_,rfl,h⟩
theorem Zxn{a b:Int}(h:Q (.int (if b>a then b else a))): Pk (ZmI [.int a,.int b]) Q:=⟨_,rfl,h⟩
theorem Zxo{a b:Int}(h:Q (.int (if b<a then b else a))): Pk (ZmJ [.int a,.int b]) Q:=⟨_,rfl,h⟩
theorem ZiT(a b:Int): Zdb (.int a) (.int b)=some (decide (a=b)):=by
 simp[Zdb,Zcp,SeqAt.shaped,PyData.canLay0,PyData.depth,PyData.eqv]
 by_cases h:a=b <;> simp[h]
theorem Zx6{a b:Int}(h:Q (.bool (decide (a=b)))): Pk (qEq (.int a) (.int b)) Q:=⟨_,by simp only[qEq,ZiT,Option.map_some],h⟩
theorem Zx7{a b:Int}(h:Q (.bool (decide (a≠b)))): Pk (qNe (.int a) (.int b)) Q:=⟨.bool (decide (a≠b)),by simp only[qNe,ZiT,Option.map_some];simp,h⟩
theorem ZuQ(a b:Bool): Zdb (.bool a) (.bool b)=some (a == b):=by
 cases a <;> cases b <;> simp[Zdb,Zcp,SeqAt.shaped,PyData.canLay0,PyData.depth,PyData.eqv]
theorem Zxp{a b:Bool}(h:Q (.bool (a == b))): Pk (qEq (.bool a) (.bool b)) Q:=⟨_,by simp only[qEq,ZuQ,Option.map_some],h⟩
theorem Zxq(h:Q (.bool true)): Pk (qIs .none .none) Q:=⟨_,rfl,h⟩
theorem Zxr{a:Int}(h:Q (.bool false)): Pk (qIs (.int a) .none) Q:=⟨_,rfl,h⟩
theorem Zxs{a:List T}(h:Q (.bool false)): Pk (qIs (.lst a) .none) Q:=⟨_,rfl,h⟩
theorem Zxt{a:List T}(h:Q (.bool false)): Pk (qIs (.tup a) .none) Q:=⟨_,rfl,h⟩
theorem ZvZ(h:Q (.bool false)): Pk (ZcR .none .none) Q:=⟨_,rfl,h⟩
theorem Zv0{a:Int}(h:Q (.bool true)): Pk (ZcR (.int a) .none) Q:=⟨_,rfl,h⟩
theorem Zv1{a:List T}(h:Q (.bool true)): Pk (ZcR (.tup a) .none) Q:=⟨_,rfl,h⟩
theorem Zv2{n:Nat}{f:Nat→T}(h:Q (.int n)): Pk (Za1 [.lst (tab n f)]) Q:=⟨_,by simp only[Za1,Zai],h⟩
theorem Zxu{ts:List T}(h:Q (.int ts.length)): Pk (Za1 [.lst ts]) Q:=⟨_,rfl,h⟩
theorem Zv3{ts:List T}(h:Q (.int ts.length)): Pk (Za1 [.tup ts]) Q:=⟨_,rfl,h⟩
theorem ZhE{k:Int}{n:Nat}(h0:0≤k)(h1:k<n): seqIndex? k n=some k.toNat:=by
 unfold seqIndex?
 have:¬k<0:=by omega
 simp[this]
 omega
theorem Zv4{n i:Nat}{f:Nat→T}(hi:i<n)(h:Q (f i)): Pk (ZA (.lst (tab n f)) (.int (i:Nat))) Q:=⟨_,by
 simp only[ZA,Zai,ZhE (show(0:Int)≤(i:Int)by omega) (show(i:Int)<(n:Int)by omega),Option.bind_some,Int.toNat_natCast]
 exact Zbj hi,h⟩
theorem Zv5{n:Nat}{k:Int}{f:Nat→T}(h0:0≤k)(h1:k<n)(h:Q (f k.toNat)): Pk (ZA (.lst (tab n f)) (.int k)) Q:=⟨_,by
 simp only[ZA,Zai,ZhE h0 h1,Option.bind_some]
 exact Zbj (by omega),h⟩
theorem ZiU{ts:List T}{k:Int}{t:T}(h0:0≤k)(e:ts[k.toNat]?=some t)(h:Q t): Pk (ZA (.lst ts) (.int k)) Q:=⟨_,by
 simp only[ZA]
 rw[ZhE h0 (by have:=(Zz6.mp e).1;omega)]
 exact e,h⟩
theorem Zv6{ts:List T}{k:Int}{t:T}(h0:0≤k)(e:ts[k.toNat]?=some t)(h:Q t): Pk (ZA (.tup ts) (.int k)) Q:=⟨_,by
 simp only[ZA]
 rw[ZhE h0 (by have:=(Zz6.mp e).1;omega)]
 exact e,h⟩
theorem ZpZ{n:Nat}{a:T}{f:Nat→T}(hn:n<10000)(h:Q (.lst (tab (n+1) (cn a f)))): Pk (ZaJ (.lst [a]) (.lst (tab n f))) Q:=⟨_,by
 simp only[ZaJ]
 rw[if_pos (by rw[Za6,List.length_append,Zai];simp;omega),List.singleton_append,ZuO],h⟩
theorem ZuR{ts:List T}(h:Q (.lst ts)): Pk (Zds [.lst ts]) Q:=⟨_,rfl,h⟩
theorem Zv7{ts:List T}(h:Q (.tup ts)): Pk (ZiQ [.lst ts]) Q:=⟨_,rfl,h⟩
theorem Zuc{n:Nat}{f:Nat→Bool}: Zfl (tab n fun i=>.bool (f i))=some (tab n f):=by
 have:∀l:List Bool,Zfl (l.map T.bool)=some l:=fun l=>by
  induction l with
  | nil=>rfl
  | cons a l ih=>simp only[List.map_cons,Zfl,ih,Option.map_some]
 rw[show(tab n fun i=>T.bool (f i))=(tab n f).map T.bool from tab_map.symm]
 exact this _
theorem ZuS{n:Nat}{f:Nat→Int}: ZcU (tab n fun i=>.int (f i))=some (tab n f):=by
 have:∀l:List Int,ZcU (l.map T.int)=some l:=fun l=>by
  induction l with
  | nil=>rfl
  | cons a l ih=>simp only[List.map_cons,ZcU,ih,Option.map_some]
 rw[show(tab n fun i=>T.int (f i))=(tab n f).map T.int from tab_map.symm]
 exact this _
theorem Zxv{n:Nat}{P:Nat→Prop}(h:Q (.bool (dec (∃i,i<n∧P i)))): Pk (ZjH [.lst (tab n fun i=>.bool (dec (P i)))]) Q:=⟨_,by
 simp only[ZjH,Zuc,Option.map_some]
 congr 2
 symm
 apply Zmo
 rw[List.any_eq_true]
 constructor
 ·rintro⟨x,hx,h⟩
  obtain⟨i,hi,e⟩:=List.getElem_of_mem hx
  rw[Zai]at hi
  have:=Zbj (f:=fun i=>dec (P i)) hi
  rw[List.getElem?_eq_getElem (by rw[Zai];exact hi)]at this
  rw[←e,Option.some.inj this]at h
  exact⟨i,hi,dec_iff.mp h⟩
 ·rintro⟨i,hi,h⟩
  exact⟨_,List.mem_of_getElem? (Zbj hi),Zap h⟩,h⟩
def SqP(x:T)(L:List T→Prop): Prop:=∃ts,(x=.lst ts∨x=.tup ts)∧L ts
theorem Zhg{f:PE}(h:Pk (f σ) fun t=>SqP t L): Pl (ZaT f σ) L:=by
 obtain⟨t,a,ts,rfl | rfl,q⟩:=h <;> exact⟨_,by simp only[ZaT,a,Option.bind_some],q⟩
theorem Sq.lst{ts:List T}(h:L ts): SqP (.lst ts) L:=⟨ts,.inl rfl,h⟩
theorem Sq.tup{ts:List T}(h:L ts): SqP (.tup ts) L:=⟨ts,.inr rfl,h⟩
theorem ZqS{a b c:Int}{H:Hp}{z:Nx×Nat×Hp}(h:Zb8 a b c H=some z): Zb3 a b c=some ((List.range (rngN a b c)).map fun(i:Nat)=>.int (a+(i:Int)*c)):=by
 unfold Zb8 at h
 split at h
 ·rename_i hc
  unfold Zb3
  rw[if_pos hc]
 ·cases h
theorem ZuT{n:Nat}(hn:n≤1000): Zb3 0 n 1=some (tab n fun i=>.int i):=by
 rw[ZqS (ZwX (H:=[]) (b:=n) (by omega) (by omega))]
 have e:rngN 0 n 1=n:=by
  unfold rngN Builtin.Range.rangeSize
  by_cases q:(0:Int)<n
  ·rw[if_pos (by decide),if_pos (by omega)];omega
  ·rw[if_pos (by decide),if_neg (by omega)];omega
 rw[e]
 simp[tab]
theorem Zp0{a n:Nat}(ha:0<n)(hn:a+n≤1000): Zb3 a (a+n) 1=some (tab n fun i=>.int (a+i)):=by
 rw[ZqS (ZwZ (H:=[]) (a:=a) (b:=a+n) (c:=1) (by omega) (by omega) (by omega) (by omega) (by omega))]
 have e:rngN a (a+n) 1=n:=by
  unfold rngN
  rw[Zrn (by omega) (by omega)]
  omega
 rw[e]
 simp[tab]
theorem Zv8{g:PEs}{b:Int}{o:Option (List T)}(e:g σ=some [.int b])(h:Zb3 0 b 1=o): ZbC g σ=o:=by
 subst h;unfold ZbC;rw[e];rfl
theorem Zhh{g:PEs}{a b:Int}{o:Option (List T)}(e:g σ=some [.int a,.int b])(h:Zb3 a b 1=o): ZbC g σ=o:=by
 subst h;unfold ZbC;rw[e];rfl
def RnP(xs:List T)(L:List T→Prop): Prop:=(∃n:Nat,xs=[.int n]∧n≤1000∧L (tab n fun i=>.int i))∨∃(a:Nat) (n:Nat),xs=[.int a,.int (a+n)]∧0<n∧a+n≤1000∧L (tab n fun i=>.int (a+i))
theorem ZuU{g:PEs}(h:Pl (g σ) fun xs=>RnP xs L): Pl (ZbC g σ) L:=by
 obtain⟨xs,e,h⟩:=h
 rcases h with⟨n,h0,h1,q⟩ | ⟨a,n,h0,h1,h2,q⟩
 ·subst h0;exact⟨_,Zv8 e (ZuT h1),q⟩
 ·subst h0;exact⟨_,Zhh e (Zp0 h1 h2),q⟩
theorem Rn.one{n:Nat}(hn:n≤1000)(h:L (tab n fun i=>.int i)): RnP [.int n] L:=.inl ⟨n,rfl,hn,h⟩
theorem Zju{k:Int}(n:Nat)(e:k=n)(hn:n≤1000)(h:L (tab n fun i=>.int i)): RnP [.int k] L:=.inl ⟨n,by rw[e],hn,h⟩
theorem Rn.two{k l:Int}(a n:Nat)(e0:l=a)(e:k=a+n)(ha:0<n)(hn:a+n≤1000)(h:L (tab n fun i=>.int (a+i))): RnP [.int l,.int k] L:=.inr ⟨a,n,by rw[e,e0],ha,hn,h⟩
def ZiP(x y:T)(L:List T→Prop): Prop:=∃xs ys,x=.lst xs∧y=.lst ys∧L (List.zipWith (fun a b=>.tup [a,b]) xs ys)
theorem Zmq{f g:PE}(h:Pk (f σ) fun x=>Pk (g σ) fun y=>ZiP x y L): Pl (ZjI f g σ) L:=by
 obtain⟨x,a,y,b,xs,ys,rfl,rfl,q⟩:=h;exact⟨_,by simp only[ZjI,a,b,Option.bind_some],q⟩
theorem Zi.eq{n:Nat}{f g:Nat→T}(h:L (tab n fun i=>.tup [f i,g i])): ZiP (.lst (tab n f)) (.lst (tab n g)) L:=⟨_,_,rfl,rfl,by rw[ZpY,Nat.min_self];exact h⟩
theorem ZoT{j:Nat}{f:PE}{h:T→T}: ∀{ts:List T},(∀t∈ts,f (ZO σ j t)=some (h t))→ZbZ (Zag j) Zas f σ ts=some (ts.map h)
 | [],_=>rfl
 | t::ts,k=>by
  simp only[ZbZ,Zag,Zas,Option.bind_some,if_true,k t Zz5,ZoT fun t m=>k t (Zz2 _ m),Option.map_some,List.map_cons]
theorem ZlY{put:T→TL→Option TL}{f:PE}: ∀{ts us:List T},us.length=ts.length→(∀(i:Nat) t u,ts[i]?=some t→us[i]?=some u→∃σ1,put t σ=some σ1∧f σ1=some u)→ZbZ put Zas f σ ts=some us
 | [],us,hl,_=>by cases us with
  | nil=>rfl
  | cons _ _=>simp at hl
 | t::ts,us,hl,k=>by
  cases us with
  | nil=>simp at hl
  | cons u us=>
   obtain⟨σ1,h1,h2⟩:=k 0 t u (by simp) (by simp)
   have:=ZlY (ts:=ts) (us:=us) (f:=f) (put:=put) (by simpa using hl) fun i t' u' h3 h4=>k (i+1) t' u' (by simpa using h3) (by simpa using h4)
   simp only[ZbZ,h1,Zas,Option.bind_some,if_true,h2,this,Option.map_some]
theorem ZbR{g:PG}{j n:Nat}{a b:Nat→T}{f:PE}(hn:n<10000)(hg:Pl (g σ) fun ts=>ts=tab n a)(hf:∀i,i<n→Pk (f (ZO σ j (a i))) fun t=>t=b i)(h:Q (.lst (tab n b))): Pk (ZaC g (Zag j) Zas f σ) Q:=by
 obtain⟨ts,e,rfl⟩:=hg
 refine⟨_,?_,h⟩
 simp only[ZaC,e,Option.bind_some,Zai]
 rw[if_pos (by rw[Za6];omega),ZlY (us:=tab n b) (by rw[Zai,Zai]) fun i t u h1 h2=>?_]
 ·rfl
 ·have hi:i<n:=by have:=(Zz6.mp h1).1;rwa [Zai]at this
  rw[Zbj hi]at h1 h2
  cases h1;cases h2
  exact⟨_,rfl,(hf i hi).eq⟩
theorem ZlJ{g:PG}{j k n:Nat}{a b c:Nat→T}{f:PE}(hn:n<10000)(hg:Pl (g σ) fun ts=>ts=tab n fun i=>.tup [a i,b i])(hf:∀i,i<n→Pk (f (ZO (ZO σ j (a i)) k (b i))) fun t=>t=c i)(h:Q (.lst (tab n c))): Pk (ZaC g (Zey j k) Zas f σ) Q:=by
 obtain⟨ts,e,rfl⟩:=hg
 refine⟨_,?_,h⟩
 simp only[ZaC,e,Option.bind_some,Zai]
 rw[if_pos (by rw[Za6];omega),ZlY (us:=tab n c) (by rw[Zai,Zai]) fun i t u h1 h2=>?_]
 ·rfl
 ·have hi:i<n:=by have:=(Zz6.mp h1).1;rwa [Zai]at this
  rw[Zbj hi]at h1 h2
  cases h1;cases h2
  exact⟨_,rfl,(hf i hi).eq⟩
theorem Zjc{put:T→TL→Option TL}{b:PS}: ∀{ts:List T} (P:Nat→TL→Prop) {σ:TL},P 0 σ→(∀(i:Nat) t σ,ts[i]?=some t→P i σ→∃σ1,put t σ=some σ1∧Psk (b σ1) R (P (i+1)))→(∀σ,P ts.length σ→N σ)→Psk (ZeG put b σ ts) R N
 | [],P,σ,h0,_,h2=>⟨_,_,rfl,by simp,fun _=>h2 _ h0⟩
 | t::ts,P,σ,h0,h1,h2=>by
  obtain⟨σ1,e1,o,σ2,e2,k1,k2⟩:=h1 0 t σ (by simp) h0
  cases o with
  | some v=>exact⟨some v,σ2,by simp only[ZeG,e1,Option.bind_some,e2],k1,by simp⟩
  | none=>
   obtain⟨o3,σ3,e3,l1,l2⟩:=Zjc (ts:=ts) (fun i=>P (i+1)) (k2 rfl) (fun i t' σ' h3 h4=>h1 (i+1) t' σ' (by simpa using h3) h4) (fun σ' h=>h2 σ' (by simpa using h))
   exact⟨o3,σ3,by simp only[ZeG,e1,Option.bind_some,e2,e3],l1,l2⟩
theorem ZaO{g:PG}{j n:Nat}{a:Nat→T}{b:PS}(hg:Pl (g σ) fun ts=>ts=tab n a)(P:Nat→TL→Prop)(h0:P 0 σ)(h1:∀i σ,i<n→P i σ→Psk (b (ZO σ j (a i))) R (P (i+1)))(h2:∀σ,P n σ→N σ): Psk (Zbq g (Zag j) b σ) R N:=by
 obtain⟨ts,e,rfl⟩:=hg
 have:=Zjc (R:=R) (N:=N) (put:=Zag j) (b:=b) (ts:=tab n a) P h0 (fun i t σ' h3 h4=>by
  have hi:i<n:=by have:=(Zz6.mp h3).1;rwa [Zai]at this
  rw[Zbj hi]at h3
  cases h3
  exact⟨_,rfl,h1 i σ' hi h4⟩) (by rw[Zai];exact h2)
 obtain⟨o,s,e2,q⟩:=this
 exact⟨o,s,by simp only[Zbq,e,Option.bind_some,e2],q⟩
theorem ZiV{g:PG}{j k n:Nat}{a c:Nat→T}{b:PS}(hg:Pl (g σ) fun ts=>ts=tab n fun i=>.tup [a i,c i])(P:Nat→TL→Prop)(h0:P 0 σ)(h1:∀i σ,i<n→P i σ→Psk (b (ZO (ZO σ j (a i)) k (c i))) R (P (i+1)))(h2:∀σ,P n σ→N σ): Psk (Zbq g (Zey j k) b σ) R N:=by
 obtain⟨ts,e,rfl⟩:=hg
 have:=Zjc (R:=R) (N:=N) (put:=Zey j k) (b:=b) (ts:=tab n fun i=>.tup [a i,c i]) P h0 (fun i t σ' h3 h4=>by
  have hi:i<n:=by have:=(Zz6.mp h3).1;rwa [Zai]at this
  rw[Zbj hi]at h3
  cases h3
  exact⟨_,rfl,h1 i σ' hi h4⟩) (by rw[Zai];exact h2)
 obtain⟨o,s,e2,q⟩:=this
 exact⟨o,s,by simp only[Zbq,e,Option.bind_some,e2],q⟩
theorem ZlZ{g:PG}{j:Nat}{ts:List T}{b:PS}(hg:Pl (g σ) fun us=>us=ts)(P:Nat→TL→Prop)(h0:P 0 σ)(h1:∀(i:Nat) t σ,ts[i]?=some t→P i σ→Psk (b (ZO σ j t)) R (P (i+1)))(h2:∀σ,P ts.length σ→N σ): Psk (Zbq g (Zag j) b σ) R N:=by
 obtain⟨us,e,rfl⟩:=hg
 obtain⟨o,s,e2,q⟩:=Zjc (R:=R) (N:=N) (put:=Zag j) (b:=b) (ts:=us) P h0 (fun i t σ' h3 h4=>⟨_,rfl,h1 i t σ' h3 h4⟩) h2
 exact⟨o,s,by simp only[Zbq,e,Option.bind_some,e2],q⟩
theorem Ze6{t:PB}{b:PS}(P:Nat→TL→Prop)(R:T→Prop)(N:TL→Prop)(h:∀m σ,P m σ→Pb (t σ) fun x=>(x=true→Psk (b σ) R fun σ1=>∃m',m'<m∧P m' σ1)∧(x=false→N σ)): ∀(n:Nat) {m:Nat} {σ:TL},P m σ→m<n→Psk (Zfn t b n σ) R N
 | 0,_,_,_,hm=>by omega
 | n+1,m,σ,hp,hm=>by
  obtain⟨x,e,h1,h2⟩:=h m σ hp
  cases x with
  | false=>exact⟨none,σ,by simp[Zfn,e],by simp,fun _=>h2 rfl⟩
  | true=>
   obtain⟨o,σ1,e1,k1,k2⟩:=h1 rfl
   cases o with
   | some v=>exact⟨some v,σ1,by simp[Zfn,e,e1],k1,by simp⟩
   | none=>
    obtain⟨m',hm',hp'⟩:=k2 rfl
    obtain⟨o2,σ2,e2,l1,l2⟩:=Ze6 P R N h n hp' (by omega)
    exact⟨o2,σ2,by simp[Zfn,e,e1,e2],l1,l2⟩
theorem Zle: Zcm σ []=σ:=by funext i;simp[Zcm]
def AppP(σ:TL)(x:Nat)(w:T)(N:TL→Prop): Prop:=∃ts,σ x=some (.lst ts)∧ts.length<10000∧N (ZO σ x (.lst (ts++[w])))
theorem Zv9{x:Nat}{w:T}{ts:List T}(e:σ x=some (.lst ts))(hl:ts.length<10000)(h:N (ZO σ x (.lst (ts++[w])))): AppP σ x w N:=⟨ts,e,hl,h⟩
theorem Zxw{x:Nat}{f:PE}(h:Pk (f σ) fun w=>AppP σ x w N): Psk (ZfD x [] ZbK f σ) R N:=by
 obtain⟨w,e,ts,h1,h2,q⟩:=h
 refine⟨none,_,?_,by simp,fun _=>q⟩
 simp only[ZfD,ZbK,Option.bind_some,e,h1,Zdw,ZjJ]
 rw[if_pos (by rw[Za6];omega)]
 simp only[Option.map_some,Zle]
def AppQ(σ:TL)(x y:Nat)(w:T)(N:TL→Prop): Prop:=∃ts,σ x=some (.lst ts)∧ts.length<10000∧N (Zcm (ZO σ x (.lst (ts++[w]))) [y])
theorem Zwa{x y:Nat}{w:T}{ts:List T}(e:σ x=some (.lst ts))(hl:ts.length<10000)(h:N (Zcm (ZO σ x (.lst (ts++[w]))) [y])): AppQ σ x y w N:=⟨ts,e,hl,h⟩
theorem Zwb{x y:Nat}{f:PE}(h:Pk (f σ) fun w=>AppQ σ x y w N): Psk (ZfD x [y] ZbK f σ) R N:=by
 obtain⟨w,e,ts,h1,h2,q⟩:=h
 refine⟨none,_,?_,by simp,fun _=>q⟩
 simp only[ZfD,ZbK,Option.bind_some,e,h1,Zdw,ZjJ]
 rw[if_pos (by rw[Za6];omega)]
 simp only[Option.map_some]
def PutP(σ:TL)(x:Nat)(w k:T)(N:TL→Prop): Prop:=∃ts m,k=.int m∧σ x=some (.lst ts)∧0≤m∧m<ts.length∧N (ZO σ x (.lst (ts.set m.toNat w)))
theorem ZuV{x n i:Nat}{w:T}{f:Nat→T}(e:σ x=some (.lst (TM.tab n f)))(hi:i<n)(h:N (ZO σ x (.lst (TM.tab n fun k=>if k=i then w else f k)))): PutP σ x w (.int i) N:=⟨_,_,rfl,e,by omega,by rw[Zai];omega,by rw[Int.toNat_natCast,ZiS];exact h⟩
theorem Zlf{x n:Nat}{k:Int}{w:T}{f:Nat→T}(e:σ x=some (.lst (TM.tab n f)))(h0:0≤k)(hi:k<n)(h:N (ZO σ x (.lst (TM.tab n fun i=>if i=k.toNat then w else f i)))): PutP σ x w (.int k) N:=⟨_,_,rfl,e,h0,by rw[Zai];omega,by rw[ZiS];exact h⟩
theorem Zxx{x:Nat}{f i:PE}(h:Pk (f σ) fun w=>Pk (i σ) fun k=>PutP σ x w k N): Psk (Zcq x [] f ZbK i σ) R N:=by
 obtain⟨w,e,k,e2,ts,m,rfl,h1,h2,h3,q⟩:=h
 refine⟨none,_,?_,by simp,fun _=>q⟩
 simp only[Zcq,ZbK,Option.bind_some,e,e2,h1,Zdw,ZjK]
 rw[if_pos ⟨h2,h3⟩]
 simp only[Option.map_some,Zle]
def Put2(σ:TL)(x:Nat)(w a k:T)(N:TL→Prop): Prop:=∃ts us l m,a=.int l∧k=.int m∧σ x=some (.lst ts)∧0≤l∧ts[l.toNat]?=some (.lst us)∧0≤m∧m<us.length∧N (ZO σ x (.lst (ts.set l.toNat (.lst (us.set m.toNat w)))))
theorem Zpo{x n m i j:Nat}{w:T}{f:Nat→Nat→T}(e:σ x=some (.lst (TM.tab n fun a=>.lst (TM.tab m (f a)))))(hi:i<n)(hj:j<m)(h:N (ZO σ x (.lst (TM.tab n fun a=>.lst (TM.tab m fun b=>if a=i∧b=j then w else f a b))))): Put2 σ x w (.int i) (.int j) N:=by
 refine⟨_,TM.tab m (f i),i,j,rfl,rfl,e,by omega,?_,by omega,by rw[Zai];omega,?_⟩
 ·rw[Int.toNat_natCast,Zbj hi]
 ·rw[Int.toNat_natCast,Int.toNat_natCast,ZiS,ZiS]
  have:(TM.tab n fun a=>if a=i then T.lst (TM.tab m fun b=>if b=j then w else f i b)else T.lst (TM.tab m (f a)))=TM.tab n fun a=>.lst (TM.tab m fun b=>if a=i∧b=j then w else f a b):=ZaZ fun a _=>by
   by_cases q:a=i
   ·subst q;simp
   ·simp[q]
  rw[this];exact h
theorem Zwc{x:Nat}{f i j:PE}(h:Pk (f σ) fun w=>Pk (i σ) fun a=>Pk (j σ) fun k=>Put2 σ x w a k N): Psk (Zcq x [] f (Zjb ZbK i) j σ) R N:=by
 obtain⟨w,e,a,e1,k,e2,ts,us,l,m,rfl,rfl,h1,h0,h4,h2,h3,q⟩:=h
 refine⟨none,_,?_,by simp,fun _=>q⟩
 have hl:=(Zz6.mp h4).1
 simp only[Zcq,ZbK,Zjb,Option.bind_some,e,e1,e2,h1,List.nil_append,Zdw,ZjK,ZhE h0 (show l<ts.length by omega),h4]
 rw[if_pos ⟨h2,h3⟩]
 simp only[Option.map_some,Zle]
theorem Zwd{i j:Nat}{t:T}{o:Option T}(h:j≠i)(e:σ j=o): ZO σ i t j=o:=by simp[ZO,h,e]
theorem ZuW{j:Nat}{J:List Nat}{o:Option T}(h:j∉J)(e:σ j=o): Zcm σ J j=o:=by simp[Zcm,h,e]
end
end TM
end
section
namespace TM
open PySem PM
inductive Pln: Nat→T→Prop where
 | none {n:Nat}:Pln n .none
 | int {n:Nat} {i:Int}:Pln n (.int i)
 | str {n:Nat} {x:Str}:PyData.strOk x=true→Pln n (.str x)
 | tup {n:Nat} {ts:List T}:(∀t∈ts,Pln n t)→Pln (n+1) (.tup ts)
 | lst {n:Nat} {ts:List T}:(∀t∈ts,Pln n t)→Pln (n+1) (.lst ts)
mutual
noncomputable def dd: T→PyData
 | .none=>.none
 | .bool b=>.bool b
 | .int i=>.int i
 | .str x=>.str x
 | .tup ts=>.tuple (dds ts)
 | .lst ts=>.list (dds ts)
noncomputable def dds: List T→List PyData
 | []=>[]
 | t::ts=>dd t::dds ts
end
theorem ZlK{f:T→Option PyData}: ∀{ts:List T},(∀t∈ts,f t=some (dd t))→Zex f ts=some (dds ts)
 | [],_=>rfl
 | t::ts,h=>by simp only[Zex,h t Zz5,ZlK fun t m=>h t (Zz2 _ m),Option.bind_some,dds]
theorem Zl0: ∀{ts:List T},(∀t∈ts,PyData.canLay0 (dd t)=true)→PyData.canLayAll0 (dds ts)=true
 | [],_=>rfl
 | t::ts,h=>by simp only[dds,PyData.canLayAll0,h t Zz5,Zl0 fun t m=>h t (Zz2 _ m),Bool.and_self]
theorem Zl1{n:Nat}: ∀{ts:List T},(∀t∈ts,PyData.depth (dd t)≤n)→PyData.depthAll (dds ts)≤n
 | [],_=>by simp[dds,PyData.depthAll]
 | t::ts,h=>by
  have h1:=h t Zz5
  have h2:=Zl1 fun t m=>h t (Zz2 _ m)
  simp only[dds,PyData.depthAll]
  omega
theorem Pln.dat{n:Nat}{t:T}(h:Pln n t): Zcp n t=some (dd t)∧PyData.canLay0 (dd t)=true∧PyData.depth (dd t)≤n:=by
 induction h with
 | @none n=>cases n <;> exact⟨rfl,rfl,by simp[dd,PyData.depth]⟩
 | @int n i=>cases n <;> exact⟨rfl,rfl,by simp[dd,PyData.depth]⟩
 | @str n x h=>cases n <;> exact⟨rfl,by simpa [dd,PyData.canLay0]using h,by simp[dd,PyData.depth]⟩
 | @tup n ts _ ih=>
  refine⟨?_,?_,?_⟩
  ·simp only[Zcp,ZlK fun t m=>(ih t m).1,Option.map_some,dd]
  ·simp only[dd,PyData.canLay0];exact Zl0 fun t m=>(ih t m).2.1
  ·simp only[dd,PyData.depth]
   have:=Zl1 fun t m=>(ih t m).2.2
   omega
 | @lst n ts _ ih=>
  refine⟨?_,?_,?_⟩
  ·simp only[Zcp,ZlK fun t m=>(ih t m).1,Option.map_some,dd]
  ·simp only[dd,PyData.canLay0];exact Zl0 fun t m=>(ih t m).2.1
  ·simp only[dd,PyData.depth]
   have:=Zl1 fun t m=>(ih t m).2.2
   omega
theorem Zl2: ∀{ts us:List T},(∀t∈ts,∀u∈us,(PyData.eqv (dd t) (dd u)=true↔t=u))→(PyData.eqvAll (dds ts) (dds us)=true↔ts=us)
 | [],[],_=>by simp[dds,PyData.eqvAll]
 | [],_::_,_=>by simp[dds,PyData.eqvAll]
 | _::_,[],_=>by simp[dds,PyData.eqvAll]
 | t::ts,u::us,h=>by
  simp only[dds,PyData.eqvAll,Bool.and_eq_true,h t Zz5 u Zz5,Zl2 fun t m u n=>h t (Zz2 _ m) u (Zz2 _ n),List.cons.injEq]
theorem Pln.eqv{n:Nat}{t:T}(h:Pln n t): ∀{m:Nat} {u:T},Pln m u→(PyData.eqv (dd t) (dd u)=true↔t=u):=by
 induction h with
 | none=>intro m u h;cases h <;> simp[dd,PyData.eqv]
 | int=>intro m u h;cases h <;> simp[dd,PyData.eqv]
 | str _=>intro m u h;cases h <;> simp[dd,PyData.eqv]
 | tup hs ih=>
  intro m u h
  cases h with
  | tup hu=>simp only[dd,PyData.eqv,T.tup.injEq];exact Zl2 fun t a u b=>ih t a (hu u b)
  | none=>simp[dd,PyData.eqv]
  | int=>simp[dd,PyData.eqv]
  | str=>simp[dd,PyData.eqv]
  | lst=>simp[dd,PyData.eqv]
 | lst hs ih=>
  intro m u h
  cases h with
  | lst hu=>simp only[dd,PyData.eqv,T.lst.injEq];exact Zl2 fun t a u b=>ih t a (hu u b)
  | none=>simp[dd,PyData.eqv]
  | int=>simp[dd,PyData.eqv]
  | str=>simp[dd,PyData.eqv]
  | tup=>simp[dd,PyData.eqv]
theorem Pln.mono{n:Nat}{t:T}(h:Pln n t): ∀{m:Nat},n≤m→Pln m t:=by
 induction h with
 | none=>intro m _;exact .none
 | int=>intro m _;exact .int
 | str h=>intro m _;exact .str h
 | tup hs ih=>
  intro m hm
  cases m with
  | zero=>omega
  | succ m=>exact .tup fun t a=>ih t a (by omega)
 | lst hs ih=>
  intro m hm
  cases m with
  | zero=>omega
  | succ m=>exact .lst fun t a=>ih t a (by omega)
theorem Zp1{n m:Nat}{a b:T}(ha:Pln n a)(hb:Pln m b)(hn:n≤8:=by decide)(hm:m≤8:=by decide): Zdb a b=some (dec (a=b)):=by
 have ha:=ha.mono hn
 have hb:=hb.mono hm
 obtain⟨a1,a2,a3⟩:=ha.dat
 obtain⟨b1,b2,b3⟩:=hb.dat
 unfold Zdb ZbE
 rw[a1,b1]
 simp only[Option.bind_some]
 rw[if_pos ⟨by simp only[SeqAt.shaped,a2,Bool.true_and,decide_eq_true_eq];omega,by simp only[SeqAt.shaped,b2,Bool.true_and,decide_eq_true_eq];omega⟩,Zmo (ha.eqv hb)]
section
variable {Q:T→Prop}
theorem Zbb{n m:Nat}{a b:T}(ha:Pln n a)(hb:Pln m b)(h:Q (.bool (dec (a=b))))(hn:n≤8:=by decide)(hm:m≤8:=by decide): Pk (qEq a b) Q:=⟨_,by simp only[qEq,Zp1 ha hb hn hm,Option.map_some],h⟩
theorem Zxy{n m:Nat}{a b:T}(ha:Pln n a)(hb:Pln m b)(h:Q (.bool (!dec (a=b))))(hn:n≤8:=by decide)(hm:m≤8:=by decide): Pk (qNe a b) Q:=⟨_,by simp only[qNe,Zp1 ha hb hn hm,Option.map_some],h⟩
end
theorem Zci{α:Type}{n:Nat}{f:Nat→α}{x:α}(h:x∈tab n f): ∃i,i<n∧x=f i:=by
 obtain⟨i,hi,e⟩:=Zz11.mp h
 exact⟨i,List.mem_range.mp hi,e.symm⟩
theorem ZoU{n:Nat}{f:Nat→T}(h:∀i,i<n→(f i).flat=true): T.flats (tab n f)=true:=by
 have key:∀l:List T,(∀t∈l,t.flat=true)→T.flats l=true:=fun l=>by
  induction l with
  | nil=>intro _;rfl
  | cons t l ih=>intro h;simp only[T.flats,h t Zz5,ih fun t m=>h t (Zz2 _ m),Bool.and_self]
 exact key _ fun t m=>by obtain⟨i,hi,rfl⟩:=Zci m;exact h i hi
theorem Zop{n:Nat}{f:Nat→T}(h:∀i,i<n→(f i).flat=true): T.flatIn (.lst (tab n f))=true:=ZoU h
noncomputable def oT: Option Int→T
 | none=>.none
 | some x=>.int x
noncomputable def ZD(q:Int×Int): T:=.tup [.int q.1,.int q.2]
noncomputable def Zan(n:Nat)(x:Nat→Int): T:=.lst (tab n fun i=>.int (x i))
noncomputable def Zad(n:Nat)(b:Nat→Option Int): T:=.lst (tab n fun j=>oT (b j))
noncomputable def ZH(n:Nat)(G:Nat→Nat→Option Int): T:=.lst (tab n fun i=>Zad n (G i))
noncomputable def ZaH(n:Nat)(R:Nat→Int×Int): T:=.lst (tab n fun i=>ZD (R i))
noncomputable def Zo(n:Nat)(G:Nat→Nat→Option Int)(R:Nat→Int×Int): T:=.tup [ZH (n+1) G,ZaH n R]
theorem ZaN: oT none=.none:=rfl
theorem Zaa{c:Int}: oT (some c)=.int c:=rfl
theorem Zed{b:Option Int}: (oT b).flat=true:=by cases b <;> rfl
theorem ZiC{q:Int×Int}: (ZD q).flat=true:=rfl
theorem oT_inj{a b:Option Int}: oT a=oT b↔a=b:=by cases a <;> cases b <;> simp[oT]
theorem Zp2{a b:Int×Int}: ZD a=ZD b↔a=b:=by cases a;cases b;simp[ZD]
theorem ZdJ{n k:Nat}{f:Nat→T}(h:∀i,i<k→Pln n (f i)): Pln (n+1) (.lst (tab k f)):=.lst fun t m=>by obtain⟨i,hi,rfl⟩:=Zci m;exact h i hi
theorem ZhF{n:Nat}{b:Option Int}: Pln n (oT b):=by cases b;exact .none;exact .int
theorem Zfo{n:Nat}{q:Int×Int}: Pln (n+1) (ZD q):=.tup fun t m=>by
 simp at m;rcases m with rfl | rfl <;> exact .int
theorem Zp3{n:Nat}{b:Nat→Option Int}: Pln 1 (Zad n b):=ZdJ fun _ _=>ZhF
theorem ZuX{n:Nat}{G:Nat→Nat→Option Int}: Pln 2 (ZH n G):=ZdJ fun _ _=>Zp3
theorem ZuY{n:Nat}{R:Nat→Int×Int}: Pln 2 (ZaH n R):=ZdJ fun _ _=>Zfo
theorem ZuZ{n:Nat}{G:Nat→Nat→Option Int}{R:Nat→Int×Int}: Pln 3 (Zo n G R):=.tup fun t m=>by
 simp at m;rcases m with rfl | rfl
 ·exact ZuX
 ·exact ZuY
theorem Zbr{σ:TL}{i:Nat}{t:T}: ZO σ i t i=some t:=by simp[ZO]
end TM
end
section
namespace PM
open PySem PySem.W PySem.Calls PyProof.Rows PyProof PyProof.Rows.LCg PyProof.Rows.LCp
noncomputable def sNo: Sm:=fun _ _=>none
noncomputable def inD(d:PyData): PyData→Option Bool
 | .list xs=>if PyData.canLayAll0 xs=true∧d.canLay0=true∧d.depth≤64 then some (xs.any fun y=>PyData.eqv y d)else none
 | .tuple xs=>if PyData.canLayAll0 xs=true∧d.canLay0=true∧d.depth≤64 then some (xs.any fun y=>PyData.eqv y d)else none
 | _=>none
noncomputable def Zm0(a b:V)(H:Hp): Option Bool:=(toD H ZbE a).bind fun d=>(toD H ZbE b).bind fun e=>inD d e
noncomputable def oIn(a b:V)(H:Hp): Option (V×Hp):=(Zm0 a b H).map fun c=>(.bool c,H)
noncomputable def Zhr(a:Nat): Nx:=fun i H=>H[a]?.bind fun vs=>match vs[i]? with
 | some x=>some (some (.tup [.int i,x]))
 | none=>if i=vs.length then some none else none
noncomputable def ZmL(f:Ex): Src:=fun ρ H=>(f ρ H).bind fun p=>match p.1 with
 | .ref a=>p.2[a]?.map fun vs=>(Zhr a,vs.length+1,p.2)
 | _=>none
section
variable {prog:Program} {w:World} {Γ:Cx}
theorem Zx8{st:Stmt}: S1 prog w Γ st sNo:=fun W ρ H fr s Q E r rp hf post=>by cases hf
theorem ZmM: Op2 prog w (compareOp .In) oIn:=by
 intro Γ W ρ H fr s Q E a b x y v H' r hx hy ho post
 obtain⟨c,e1,e2⟩:=Zz1.mp ho
 cases e2
 obtain⟨d,h1,e1⟩:=Zz0.mp e1
 obtain⟨e,h2,e1⟩:=Zz0.mp e1
 obtain⟨as,R1⟩:=Ze0 r ZbE a x d hx h1
 obtain⟨bs,R2⟩:=Ze0 r ZbE b y e hy h2
 have hu:=Γ.hu
 unfold inD at e1
 split at e1
 ·split at e1
  ·rename_i hs
   cases e1
   exact SeqAt.in_list_reads R2 R1 hs.1 hs.2.1 (by omega) (post W s.heap s.toks _ (.refl W) r (.bool _))
  ·cases e1
 ·split at e1
  ·rename_i hs
   cases e1
   exact SeqAt.in_tuple_reads R2 R1 hs.1 hs.2.1 (by omega) (post W s.heap s.toks _ (.refl W) r (.bool _))
  ·cases e1
 ·cases e1
def ES(e it l:Addr)(i:Nat)(h:Heap): Prop:=(∃old,IsEnum h e it i old)∧h.IsListIter it l i
theorem ES.at{e it l:Addr}{i:Nat}{h h':Heap}(x:ES e it l i h)(k:∀a∈[e,it],∀o,h.get? a=some o→h'.get? a=some o): ES e it l i h':=by
 obtain⟨⟨old,h1⟩,h2⟩:=x
 exact⟨⟨old,k e (by simp) _ h1⟩,h2.at fun o x=>k it (by simp) o x⟩
theorem ES.have{e it l:Addr}{i:Nat}{h:Heap}(x:ES e it l i h): ∀a∈[e,it],∃o,h.get? a=some o:=by
 obtain⟨⟨old,h1⟩,o,h2,_⟩:=x
 intro a ha
 simp at ha
 rcases ha with rfl | rfl
 ·exact⟨_,h1⟩
 ·exact⟨_,h2⟩
def EIt(e it l:Addr)(i:Nat)(fs:List (Addr×Obj)): Prop:=fs.map (·.1)=[e,it]∧∀h:Heap,(∀q∈fs,h.get? q.1=some q.2)→ES e it l i h
theorem Zp4{e it l:Addr}{i:Nat}{h:Heap}(x:ES e it l i h): ∃fs,EIt e it l i fs∧∀q∈fs,h.get? q.1=some q.2:=by
 obtain⟨fs,h1,h2⟩:=ZmX h [e,it] x.have
 refine⟨fs,⟨h1,fun h' k=>x.at fun a ha o ho=>?_⟩,h2⟩
 rw[←h1]at ha
 obtain⟨q,hq,eq⟩:=Zz11.mp ha
 have:=h2 q hq
 rw[eq,ho]at this
 cases this
 exact eq▸k q hq
theorem Zwe{W0:Wd}{e it l:Addr}{a:Nat}(ea:W0.pi[a]?=some l)(hei:e≠it)(hle:l≠e)(hli:l≠it):
  Itr2 prog w Γ W0 (.ref e) [e,it] (EIt e it l) (Zhr a):=by
 refine⟨fun i fs h=>h.1,?_,?_,?_,?_⟩
 ·intro i H v hh
  obtain⟨vs,e1,hh⟩:=Zz0.mp hh
  split at hh
  ·cases hh
   exact⟨_,_,rfl⟩
  ·split at hh <;> cases hh
 ·intro i W ρ H fr fs s Q E va vb le r ap hit hn post
  obtain⟨vs,e1,hh⟩:=Zz0.mp hn
  have hv:va=.int i∧vs[i]?=some vb:=by
   split at hh
   ·rename_i x h1
    cases hh
    exact⟨rfl,h1⟩
   ·split at hh <;> cases hh
  obtain⟨_,xs,k1,g1,v1⟩:=r.at e1 (le.at ea)
  obtain⟨x,hx,rx⟩:=v1.at hv.2
  have st:ES e it l i s.heap:=hit.2 _ fun q hq=>r.frAt (Zz4 _ hq)
  have Wk:=WalksT.enumerate (prog:=prog) (w:=w) (A:=Γ.A) Γ.hh e it l hei hle hli xs.toArray
  have isl1:s.heap.IsList l xs.toArray:=⟨_,g1,rfl,k1,rfl⟩
  have hi:i<xs.toArray.size:=by
   have h1:=(Zz6.mp hx).1
   simpa using h1
  refine Wk.item i s Q E hi ⟨st.1,st.2,isl1⟩ fun T vals h1 t1 hp hT hTup hmid keep1=>post T h1 t1 ?_
  intro elts k pos s1 Q1 E1 es1 q1
  subst es1
  have hTw:=Wk.apart i T _ hmid
  refine Wk.go elts k pos i T _ Q1 E1 hmid fun h2 st2 keep2=>?_
  obtain⟨tk,x',hx',ev⟩:=hp
  have ex:x'=x:=by
   have:xs[i]?=some x':=by simpa using hx'
   rw[hx]at this
   exact(Option.some.inj this).symm
  subst ex ev
  obtain⟨fs',hit',at'⟩:=Zp4 (h:=h2) (⟨st2.1,st2.2.1⟩:ES e it l (i+1) h2)
  obtain⟨oT,gT,cT,nT,dT⟩:=hTup
  refine q1 fs' h2 (.int i tk) x' hit' ?_ ⟨oT,keep2 T oT hTw gT,cT,nT,dT⟩ (by rw[hv.1];exact .int _ _) rx
  refine r.swap (fs':=fs') (fun q hq t ht=>?_) (fun c o hc e=>?_) fun q hq=>⟨at' q hq,?_⟩
  ·exact ap _ (hit.1▸List.mem_map_of_mem hq) t ht
  ·rw[hit.1]at hc
   exact keep2 c o hc (keep1 c o hc e)
  ·rw[hit.1,←hit'.1]
   exact List.mem_map_of_mem hq
 ·intro i W ρ H fr fs s Q E le r ap hit hn post
  obtain⟨vs,e1,hh⟩:=Zz0.mp hn
  obtain⟨_,xs,k1,g1,v1⟩:=r.at e1 (le.at ea)
  have hi:i=vs.length:=by
   split at hh
   ·cases hh
   ·split at hh
    ·assumption
    ·cases hh
  have st:ES e it l i s.heap:=hit.2 _ fun q hq=>r.frAt (Zz4 _ hq)
  have Wk:=WalksT.enumerate (prog:=prog) (w:=w) (A:=Γ.A) Γ.hh e it l hei hle hli xs.toArray
  have hm:xs.toArray.size=i:=by simp[v1.length,hi]
  refine Wk.done s Q E (by rw[hm];exact⟨st.1,st.2,⟨_,g1,rfl,k1,rfl⟩⟩) fun h' tk keep=>post h' tk ?_
  have:=r.swap (fs':=[]) (fun q hq t ht=>ap _ (hit.1▸List.mem_map_of_mem hq) t ht) (fun c o hc e=>keep c o (by rw[hit.1]at hc;exact hc) e) (fun q hq=>nomatch hq)
  exact this
 ·intro i W ρ H fr fs s Q E o le r hit hn q
  obtain⟨vs,e1,hh⟩:=Zz0.mp hn
  obtain⟨_,xs,k1,g1,v1⟩:=r.at e1 (le.at ea)
  have st:ES e it l i s.heap:=hit.2 _ fun q hq=>r.frAt (Zz4 _ hq)
  have Wk:=WalksT.enumerate (prog:=prog) (w:=w) (A:=Γ.A) Γ.hh e it l hei hle hli xs.toArray
  exact Wk.self i s Q E ⟨st.1,st.2,⟨_,g1,rfl,k1,rfl⟩⟩ q
theorem Zu0{x:Str}{np pos:Pos}{e1:Expr}{f:Ex}(hn:Nm prog w Γ x (.type "enumerate"))(h1:J prog w Γ e1 f)
  (he:starEach [e1] Γ.env=(false,eval e1 Γ.env)::starEach [] Γ.env:=by rfl) (hp:∀pos,(backTo pos (starEach [] Γ.env)).any (·.1)=false:=by intro _;rfl):JI2 prog w Γ (.Call (.Name x np) [e1] [] pos) (ZmL f):=by
 intro W ρ H fr s Q E nx n H' r hf post
 obtain⟨p,a1,hf⟩:=Zz0.mp hf
 refine wpAny_Call_ofName (hn.use r ?_)
 refine PySem.Pv.callWith_type1 (wpAny_items_cons (h1 W ρ H fr s _ E _ _ r a1 fun W1 k1 t1 y1 l1 r1 v1=>wpAny_items_nil ?_) he) he (hp pos)
 obtain⟨u1,H1⟩:=p
 simp only at hf v1 r1
 cases u1 <;> first | (cases hf;done) | skip
 rename_i b1
 obtain⟨vs,c1,c3⟩:=Zz1.mp hf
 cases c3
 cases v1 with
 | @ref _ m1 ea=>
 obtain⟨_,xs,n1,g1,w1⟩:=r1.at c1 ea
 have isl1:k1.IsList m1 xs.toArray:=⟨_,g1,rfl,n1,rfl⟩
 refine call_enumerate_list (s:={ s with heap:=k1,toks:=t1 }) isl1 fun h₁ hE hI hsz up=>?_
 have hlt:m1<k1.objs.size:=Heap.lt_size g1
 have Wk:=WalksT.enumerate (prog:=prog) (w:=w) (A:=Γ.A) Γ.hh (k1.objs.size+1) k1.objs.size m1 (Nat.succ_ne_self _) (Nat.ne_of_lt (Nat.lt_succ_of_lt hlt)) (Nat.ne_of_lt hlt) xs.toArray
 have zs:ES (k1.objs.size+1) k1.objs.size m1 0 h₁:=⟨⟨_,hE⟩,hI⟩
 refine Wk.self 0 _ _ _ ⟨⟨_,hE⟩,hI,isl1.at fun o e=>up _ o e⟩ ?_
 obtain⟨fs,hit,at'⟩:=Zp4 zs
 obtain⟨r3,ap3⟩:=r1.more (fs:=fs) (h':=h₁) (fun b o e=>up b o e) (fun q hq=>⟨at' q hq,by
  have:q.1∈fs.map (·.1):=List.mem_map_of_mem hq
  rw[hit.1]at this
  simp at this
  rcases this with e | e <;> rw[e] <;> omega⟩)
 refine post W1 h₁ t1 _ _ _ fs l1 hit r3 (fun b hb t ht=>?_) (Zwe ea (Nat.succ_ne_self _) (Nat.ne_of_lt (Nat.lt_succ_of_lt hlt)) (Nat.ne_of_lt hlt)) ?_
 ·rw[←hit.1]at hb
  obtain⟨q,hq,e⟩:=Zz11.mp hb
  exact e▸ap3 q hq t ht
 ·simp only[Zhr,c1,Option.bind_some]
  cases q:vs[0]? with
  | some x=>exact⟨_,rfl⟩
  | none=>
   have:vs.length=0:=by simpa using q
   simp[this]
theorem ZqT{e1 e2 e3:Expr}{es:List Expr}{pos:Pos}{f g:Ex}(h1:J prog w Γ e1 f)(h2:J prog w Γ (.BoolOp .And (e2::e3::es) pos) g) (he:eval (.BoolOp .And (e1::e2::e3::es) pos) Γ.env=(do
  let v ←eval e1 Γ.env
  standAt pos
  let t ←holding [v] (truthy v)
  match BoolOp.And,t with
  | .And,false | .Or,true=>pure v
  | _,_=>eval (.BoolOp .And (e2::e3::es) pos) Γ.env):=by rfl):J prog w Γ (.BoolOp .And (e1::e2::e3::es) pos) (ZdR f g):=by
 intro W ρ H fr s Q E v H' r hf post
 obtain⟨p,a1,hf⟩:=Zz0.mp hf
 obtain⟨b,a2,a3⟩:=Zz0.mp hf
 rw[he]
 refine wpAny_bind (wpAny_mono (h1 W ρ H fr s (fun x s₁=>wpAny (model prog w) Γ.A (truthy x) (fun t s₂=>if t then wpAny (model prog w) Γ.A (eval (.BoolOp .And (e2::e3::es) pos) Γ.env) Q E s₂ else Q x s₂) E s₁) E _ _ r a1 fun W1 k1 t1 x l1 r1 x1=>?_) (fun v s₁ h₁=>wpAny_bind (wpAny_standAt (wpAny_bind (wpAny_holding (wpAny_mono h₁ (fun t s₂ h₂=>?_) fun _ _ x=>x))))) fun _ _ x=>x)
 ·refine truth Γ W1 ρ _ fr _ _ E _ x b r1 x1 a2 fun W2 k2 t2 l2 r2=>?_
  cases b with
  | true=>exact h2 W2 ρ _ fr _ Q E _ H' r2 a3 fun W3 k3 t3 z l3 r3 z3=>post W3 k3 t3 z ((l1.trans l2).trans l3) r3 z3
  | false=>
   cases a3
   exact post W2 k2 t2 x (l1.trans l2) r2 (x1.mono l2)
 ·cases t with
  | false=>exact wpAny_pure h₂
  | true=>exact h₂
theorem Zx9{e1 e2 e3:Expr}{es:List Expr}{pos:Pos}{f g:Ex}(h1:J prog w Γ e1 f)(h2:J prog w Γ (.BoolOp .Or (e2::e3::es) pos) g) (he:eval (.BoolOp .Or (e1::e2::e3::es) pos) Γ.env=(do
  let v ←eval e1 Γ.env
  standAt pos
  let t ←holding [v] (truthy v)
  match BoolOp.Or,t with
  | .And,false | .Or,true=>pure v
  | _,_=>eval (.BoolOp .Or (e2::e3::es) pos) Γ.env):=by rfl):J prog w Γ (.BoolOp .Or (e1::e2::e3::es) pos) (eOr f g):=by
 intro W ρ H fr s Q E v H' r hf post
 obtain⟨p,a1,hf⟩:=Zz0.mp hf
 obtain⟨b,a2,a3⟩:=Zz0.mp hf
 rw[he]
 refine wpAny_bind (wpAny_mono (h1 W ρ H fr s (fun x s₁=>wpAny (model prog w) Γ.A (truthy x) (fun t s₂=>if t then Q x s₂ else wpAny (model prog w) Γ.A (eval (.BoolOp .Or (e2::e3::es) pos) Γ.env) Q E s₂) E s₁) E _ _ r a1 fun W1 k1 t1 x l1 r1 x1=>?_) (fun v s₁ h₁=>wpAny_bind (wpAny_standAt (wpAny_bind (wpAny_holding (wpAny_mono h₁ (fun t s₂ h₂=>?_) fun _ _ x=>x))))) fun _ _ x=>x)
 ·refine truth Γ W1 ρ _ fr _ _ E _ x b r1 x1 a2 fun W2 k2 t2 l2 r2=>?_
  cases b with
  | false=>exact h2 W2 ρ _ fr _ Q E _ H' r2 a3 fun W3 k3 t3 z l3 r3 z3=>post W3 k3 t3 z ((l1.trans l2).trans l3) r3 z3
  | true=>
   cases a3
   exact post W2 k2 t2 x (l1.trans l2) r2 (x1.mono l2)
 ·cases t with
  | false=>exact h₂
  | true=>exact wpAny_pure h₂
end
end PM
end
section
namespace TM
open PySem PM
noncomputable def ZhQ(a b:T): Option Bool:=(Zcp ZbE a).bind fun d=>(Zcp ZbE b).bind fun e=>inD d e
noncomputable def qIn(a b:T): Option T:=(ZhQ a b).map .bool
theorem Zxz{H:Hp}{v1 v2:V}{t1 t2:T}{F1 F2:List Nat}(r1:RF H v1 t1 F1)(r2:RF H v2 t2 F2): Zm0 v1 v2 H=ZhQ t1 t2:=by
 simp only[Zm0,ZhQ,Zja ZbE _ _ _ r1,Zja ZbE _ _ _ r2]
theorem ZeH: OA2 oIn qIn:=fun H v1 v2 t1 t2 t F1 F2 r1 r2 h=>by
 obtain⟨c,h1,h⟩:=Zz1.mp h
 subst h
 exact⟨_,by simp only[oIn,Zxz r1 r2,h1,Option.map_some],.bool _⟩
theorem ZqU{d:T}: ∀{ts:List T},(∀t∈ts,(PyData.eqv (dd t) (dd d)=true↔t=d))→((dds ts).any fun y=>PyData.eqv y (dd d))=dec (d∈ts)
 | [],_=>by simp[dds,Zaq]
 | t::ts,h=>by
  have ih:=ZqU (d:=d) (ts:=ts) fun t m=>h t (Zz2 _ m)
  simp only[dds,List.any_cons,ih]
  symm
  apply Zmo
  rw[Bool.or_eq_true,h t Zz5,dec_iff]
  simp[eq_comm]
theorem ZxA{n m:Nat}{a:T}{ts:List T}(ha:Pln n a)(hb:Pln m (.lst ts))(hn:n≤8:=by decide)(hm:m≤8:=by decide): ZhQ a (.lst ts)=some (dec (a∈ts)):=by
 have ha:=ha.mono hn
 have hb:=hb.mono hm
 obtain⟨a1,a2,a3⟩:=ha.dat
 obtain⟨b1,b2,b3⟩:=hb.dat
 unfold ZhQ ZbE
 rw[a1,b1]
 simp only[Option.bind_some,dd,inD]
 simp only[dd,PyData.canLay0]at b2
 rw[if_pos ⟨b2,a2,by omega⟩,ZqU]
 intro t m
 cases hb with
 | lst hs=>exact(hs t m).eqv ha
section
variable {Q:T→Prop}
theorem Zfx{n m:Nat}{a:T}{ts:List T}(ha:Pln n a)(hb:Pln m (.lst ts))(h:Q (.bool (dec (a∈ts))))(hn:n≤8:=by decide)(hm:m≤8:=by decide): Pk (qIn a (.lst ts)) Q:=⟨_,by simp only[qIn,ZxA ha hb hn hm,Option.map_some],h⟩
end
noncomputable def Zez(ts:List T): List T:=List.zipWith (fun i t=>.tup [.int (i:Nat),t]) (List.range ts.length) ts
noncomputable def ZmN(p:PE): PG:=fun σ=>(p σ).bind fun t=>match t with
 | .lst ts=>some (Zez ts)
 | _=>none
theorem Zu1{ts:List T}: (Zez ts).length=ts.length:=by simp[Zez]
theorem Zpp{H:Hp}: ∀{vs:List V} {ts:List T} {F:List Nat} (k:Nat),RFs H vs ts F→RFs H (List.zipWith (fun i v=>V.tup [.int (i:Nat),v]) (List.range' k ts.length) vs) (List.zipWith (fun i t=>T.tup [.int (i:Nat),t]) (List.range' k ts.length) ts) F
 | _,_,_,_,.nil=>.nil
 | _,_,_,k,.cons a b=>by
  rw[List.length_cons,List.range'_succ]
  have h1:RF H (V.tup [.int (k:Nat),_]) (T.tup [.int (k:Nat),_]) _:=.tup (.cons (.int _) (.one a))
  simpa using RFs.cons h1 (Zpp (k+1) b)
theorem Zwf{O N:List Nat}{u:Bool}{e:Ex}{p:PE}(x:E O N u e p): Gs O N (ZmL e) (ZmN p):=fun c ρ σ H Φ ts s h=>by
 obtain⟨t1,h1,h⟩:=Zz0.mp h
 obtain⟨v,X,F,a1,a2,a3,a4⟩:=x c ρ σ H Φ t1 s h1
 have hlt:=a2.lt
 cases a2 with
 | none=>cases h
 | bool=>cases h
 | int=>cases h
 | str=>cases h
 | tup=>cases h
 | @ref b vs us F' e1 hs=>
  cases h
  have hl:=hs.length
  refine⟨Zhr b,X,List.zipWith (fun i v=>V.tup [.int (i:Nat),v]) (List.range us.length) vs,F',b::F',by simp only[ZmL,a1,Option.bind_some,e1,Option.map_some,Zu1,hl],?_,fun _ m=>List.mem_cons_of_mem _ m,fun a m=>⟨hlt a m,a3 a m⟩,fun K hK i hi=>?_⟩
  ·have:=Zpp 0 hs
   unfold Zez
   rw[List.range_eq_range']
   exact this
  ·simp only[Zhr,hK b Zz5,e1,Option.bind_some,List.getElem?_zipWith]
   simp only[List.length_zipWith,List.length_range]at hi
   by_cases q:i<vs.length
   ·rw[List.getElem?_eq_getElem q,List.getElem?_range (by omega)]
   ·rw[List.getElem?_eq_none (by omega),List.getElem?_eq_none (by simp;omega)]
    simp
    omega
theorem Zu2{n:Nat}{f:Nat→T}: Zez (tab n f)=tab n fun i=>.tup [.int (i:Nat),f i]:=by
 unfold Zez
 rw[Zai]
 have:List.range n=tab n fun i=>i:=by simp[tab]
 rw[this,ZpY,Nat.min_self]
section
variable {σ:TL} {L:List T→Prop}
def EnP(x:T)(L:List T→Prop): Prop:=∃ts,x=.lst ts∧L (Zez ts)
theorem Zwg{f:PE}(h:Pk (f σ) fun t=>EnP t L): Pl (ZmN f σ) L:=by
 obtain⟨t,a,ts,rfl,q⟩:=h;exact⟨_,by simp only[ZmN,a,Option.bind_some],q⟩
theorem Zwh{n:Nat}{f:Nat→T}(h:L (TM.tab n fun i=>.tup [.int (i:Nat),f i])): EnP (.lst (TM.tab n f)) L:=⟨_,rfl,by rw[Zu2];exact h⟩
end
noncomputable def ZmO(g:PG)(put:T→TL→Option TL)(b:PS): PS:=fun σ=>(g σ).bind fun ts=>if ts=[]then none else ZeG put b σ ts
end TM
end
section
namespace PM
open PySem PySem.W PySem.Calls PyProof.Rows PyProof
noncomputable def Zjd(o1 o2:V→V→Hp→Option (V×Hp))(f g h:Ex): Ts:=fun ρ H=>(f ρ H).bind fun p=>(g ρ p.2).bind fun q=>(o1 p.1 q.1 q.2).bind fun u=>(Zcu u.1 u.2).bind fun b=>if b then(h ρ u.2).bind fun x=>(o2 q.1 x.1 x.2).bind fun y=>(Zcu y.1 y.2).map fun c=>(c,y.2)else some (false,u.2)
section
variable {prog:Program} {w:World} {Γ:Cx}
theorem Zu3{e1 e2 e3:Expr}{op1 op2:CmpOp}{pos:Pos}{f g h:Ex}{o1 o2:V→V→Hp→Option (V×Hp)}(h1:J prog w Γ e1 f)(h2:J prog w Γ e2 g)(h3:J prog w Γ e3 h)(k1:Op2 prog w (compareOp op1) o1)(k2:Op2 prog w (compareOp op2) o2)(hm:lastMarks [op1,op2] [e2,e3]=false:=by with_unfolding_all rfl): JT prog w Γ (.Compare e1 [op1,op2] [e2,e3] pos) (Zjd o1 o2 f g h):=by
 intro W ρ H fr s Q E b H' r hf post
 obtain⟨p,a1,hf⟩:=Zz0.mp hf
 obtain⟨q,a2,hf⟩:=Zz0.mp hf
 obtain⟨u,a3,hf⟩:=Zz0.mp hf
 obtain⟨c,a4,hf⟩:=Zz0.mp hf
 refine isTrue_chain (h1 W ρ H fr s _ E _ _ r a1 fun W1 n1 t1 x l1 r1 x1=>?_) hm
 refine test_link (h2 W1 ρ _ fr _ _ E _ _ r1 a2 fun W2 n2 t2 y l2 r2 y2=>?_)
 refine k1 Γ W2 ρ _ fr _ _ E _ _ x y _ _ r2 (x1.mono l2) y2 a3 fun W3 n3 t3 z l3 r3 z3=>?_
 refine truth Γ W3 ρ _ fr _ _ E _ z c r3 z3 a4 fun W4 n4 t4 l4 r4=>?_
 cases c with
 | false=>
  cases hf
  exact post W4 n4 t4 (((l1.trans l2).trans l3).trans l4) r4
 | true=>
  simp only[if_true]at hf
  obtain⟨v,a5,hf⟩:=Zz0.mp hf
  obtain⟨v2,a6,hf⟩:=Zz0.mp hf
  obtain⟨d,a7,a8⟩:=Zz1.mp hf
  cases a8
  refine test_last (h3 W4 ρ _ fr _ _ E _ _ r4 a5 fun W5 n5 t5 y5 l5 r5 x5=>?_)
  refine k2 Γ W5 ρ _ fr _ _ E _ _ y y5 _ _ r5 (((y2.mono l3).mono l4).mono l5) x5 a6 fun W6 n6 t6 z6 l6 r6 x6=>?_
  exact truth Γ W6 ρ _ fr _ _ E _ z6 b r6 x6 a7 fun W7 n7 t7 l7 r7=>post W7 n7 t7 ((((((l1.trans l2).trans l3).trans l4).trans l5).trans l6).trans l7) r7
end
end PM
end
section
namespace TM
open PySem PM
section
variable {O N M K:List Nat} {u u' u'':Bool}
noncomputable def Zje(q1 q2:T→T→Option T)(p1 p2 p3:PE): PB:=fun σ=>(p1 σ).bind fun x=>(p2 σ).bind fun y=>(q1 x y).bind fun z=>(ZbB z).bind fun b=>if b then(p3 σ).bind fun v=>(q2 y v).bind ZbB else some false
theorem Zu4{e1 e2 e3:Ex}{p1 p2 p3:PE}{q1 q2:T→T→Option T}{o1 o2:V→V→Hp→Option (V×Hp)}(k1:OA2 o1 q1)(k2:OA2 o2 q2)(x:E O N u e1 p1)(y:E O M u' e2 p2)(z:E O K u'' e3 p3): Bt O (Zjd o1 o2 e1 e2 e3) (Zje q1 q2 p1 p2 p3):=fun c ρ σ H Φ b s h=>by
 obtain⟨t1,h1,h⟩:=Zz0.mp h
 obtain⟨t2,h2,h⟩:=Zz0.mp h
 obtain⟨t3,h3,h⟩:=Zz0.mp h
 obtain⟨b0,h4,h⟩:=Zz0.mp h
 obtain⟨v1,X,F,a1,a2,_,_⟩:=x c ρ σ H Φ t1 s h1
 obtain⟨v2,Y,G,b1,b2,_,_⟩:=y c ρ σ (H++X) Φ t2 (s.ext X) h2
 obtain⟨v3,c1,c2⟩:=k1 _ v1 v2 t1 t2 t3 F G (a2.ext Y) b2 h3
 have d1:=ZdD c2 h4
 cases b0 with
 | false=>
  cases h
  exact⟨X++Y,by simp only[Zjd,a1,b1,Option.bind_some,c1,d1];simp⟩
 | true=>
  simp only[if_true]at h
  obtain⟨t5,h5,h⟩:=Zz0.mp h
  obtain⟨t6,h6,h⟩:=Zz0.mp h
  obtain⟨v5,Z,F5,e1,e2,_,_⟩:=z c ρ σ (H++X++Y) Φ t5 ((s.ext X).ext Y) h5
  obtain⟨v6,f1,f2⟩:=k2 _ v2 v5 t2 t5 t6 G F5 (b2.ext Z) e2 h6
  have g1:=ZdD f2 h
  exact⟨X++Y++Z,by simp only[Zjd,a1,b1,Option.bind_some,c1,d1,if_true,e1,f1,g1,Option.map_some];simp⟩
def OIn(o:List V→Hp→Option (V×Hp))(q:List T→Option T): Prop:=∀(H:Hp) (vs:List V) (ts:List T) (t:T) (F1:List Nat),RFs H vs ts F1→q ts=some t→∃v F,o vs H=some (v,H)∧RF H v t F∧F.Sublist F1
theorem Zwi{n:Nat}{es:Exs}{ps:PEs}{q:List T→Option T}{o:List V→Hp→Option (V×Hp)}(k:OIn o q)(x:Es O N u n es ps): E O N u (Z0 o es) (ZT q ps):=fun c ρ σ H Φ t s h=>by
 obtain⟨ts,h1,h⟩:=Zz0.mp h
 obtain⟨_,vs,X,F,a1,a2,a3,a4⟩:=x c ρ σ H Φ ts s h1
 obtain⟨w,G,b1,b2,b3⟩:=k _ vs ts t F a2 h
 exact⟨w,X,G,by simp only[Z0,a1,Option.bind_some,b1],b2,fun a m=>a3 a (b3.subset m),fun hu=>(a4 hu).sublist b3⟩
theorem Zu5: OIn Zfc ZiQ:=fun H vs ts t F r h=>by
 unfold ZiQ at h
 split at h
 ·obtain⟨v,rfl,r'⟩:=r.one_inv
  cases r' with
  | @ref a vs1 _ F1 e hs=>cases h;exact⟨.tup vs1,F1,by simp only[Zfc,e,Option.map_some],.tup hs,List.sublist_cons_self _ _⟩
 ·obtain⟨v,rfl,r'⟩:=r.one_inv
  cases r' with
  | @tup vs1 _ _ hs=>cases h;exact⟨.tup vs1,_,by simp only[Zfc],.tup hs,List.Sublist.refl _⟩
 ·cases h
end
theorem ZxB{O O1 R J Ns:List Nat}{fr:Bool}{g:Src}{q:PG}{put:V→Lc→Option Lc}{pput:T→TL→Option TL}{b:Sm}{qb:PS}(hg:Gs O Ns g q)(hj:PutOk O J put pput)(hj1:PutOk O1 J put pput)(hJ:∀i∈J,i∉O)(hJ1:∀i∈J,i∉O1)(hN:∀i∈Ns,i∉O)(hb:S O O1 R fr b qb)(hb1:S O1 O1 R fr b qb): S O O1 R fr (ZbS g put b) (ZmO q pput qb):=fun c ρ σ H Φ r s h=>by
 obtain⟨ts,h1,h⟩:=Zz0.mp h
 obtain⟨nx,X,vs,F,G,g1,g2,g3,g4,g5⟩:=hg c ρ σ H Φ ts s h1
 split at h
 ·cases h
 ·rename_i hne
  cases ts with
  | nil=>exact absurd rfl hne
  | cons t rs=>
   cases g2 with
   | @cons v _ F1 ws _ F2 a b'=>
   have sx:=s.ext X
   have hsrc:∀a∈G,c.H0.length≤a∨c.P a:=fun a m=>s.from_src (g4 a m).2
   have hoff:∀a∈G,¬Held O σ Φ a:=fun a m ⟨k,hk,⟨t,e⟩,q⟩=>s.from_off hN (g4 a m).2 hk e q
   obtain⟨σ1,p0,h⟩:=Zz0.mp h
   obtain⟨r1,h2,h⟩:=Zz0.mp h
   obtain⟨ρ1,Φ1,p1,s1,p3,p4⟩:=hj c ρ σ (H++X) Φ v t F1 σ1 sx a (fun x m=>hsrc x (g3 x (Zz4 _ m))) (fun k hk t' e x m q=>hoff x (g3 x (Zz4 _ q)) ⟨k,hk,⟨t',e⟩,m⟩) p0
   have hh:∀x,Held O σ1 Φ1 x→Held O σ Φ x:=fun x ⟨k,hk,⟨t',e⟩,m⟩=>by
    obtain⟨q1,q2⟩:=p3 k fun q=>hJ k q hk
    exact⟨k,hk,⟨t',q1▸e⟩,q2▸m⟩
   obtain⟨ρ2,K2,Φ2,w1,w2,w3⟩:=hb c ρ1 σ1 (H++X) Φ1 r1 s1 h2
   have e0:nx 0 (H++X)=some (some v):=by have:=g5 (H++X) (fun _ _=>rfl) 0 (Nat.zero_le _);simpa using this
   have estep:ZbS g put b ρ H=(b ρ1 (H++X)).bind fun q=>match q.1 with
     | some _=>some q
     | none=>ZcT nx put b (rs.length+1) 1 q.2.1 q.2.2:=by
    simp only[ZbS,g1,Option.bind_some,List.length_cons]
    show(nx 0 (H++X)).bind _=_
    rw[e0]
    first | (simp only[Option.bind_some,p1];done) | (simp only[Option.bind_some,p1];rfl)
   rw[estep]
   refine Aft.grow (X:=X) ?_
   rcases w3 with⟨k1,k2,k3,k4⟩ | ⟨t',v',F',k1,k2,k3⟩
   ·rw[k1]at h
    have hG2:∀a∈G,K2[a]?=(H++X)[a]?:=fun x m=>w2 x (g4 x m).1 fun q=>hoff x m (hh x q)
    have hoff2:∀a∈G,¬Held O1 r1.2 Φ2 a:=fun x m q=>by
     rcases k4 x q with q | q
     ·have:=(g4 x m).1;omega
     ·exact hoff x m (hh x q)
    have ih:=ZlI hj1 hJ1 hb1 (H1:=H++X) (fun a m=>(g4 a m).1) hsrc g5 rs ws 1 ρ2 r1.2 K2 Φ2 F2 r (fun j=>by rw[Nat.add_comm];simp) (by simp;omega) k3 w1 hG2 hoff2 (b'.frame fun x m=>hG2 x (g3 x (Zz3 _ m))) (fun x m=>g3 x (Zz3 _ m)) h
    rw[k2]
    simp only[Option.bind_some]
    obtain⟨ρ3,K3,Φ3,l1,l2,l3⟩:=ih
    refine⟨ρ3,K3,Φ3,by omega,fun x hx hn=>?_,?_⟩
    ·rw[l2 x (by omega) fun q=>(k4 x q).elim (fun q=>by omega) fun q=>hn (hh x q),w2 x hx fun q=>hn (hh x q)]
    ·rcases l3 with⟨m1,m2,m3,m4⟩ | l
     ·refine .inl ⟨m1,m2,m3,fun x q=>?_⟩
      rcases m4 x q with q | q
      ·exact .inl (by omega)
      ·exact(k4 x q).imp id (hh x)
     ·exact .inr l
   ·rw[k1]at h
    cases h
    refine⟨ρ2,K2,Φ2,w1,fun x hx hn=>w2 x hx fun q=>hn (hh x q),.inr ⟨t',v',F',k1,?_,k3⟩⟩
    rw[k2]
    rfl
section
variable {σ:TL} {Q:T→Prop} {B:Bool→Prop} {R:T→Prop} {N:TL→Prop}
theorem Zu6{q1 q2:T→T→Option T}{f g h:PE}(k:Pk (f σ) fun x=>Pk (g σ) fun y=>Pk (q1 x y) fun z=>Pb (ZbB z) fun b=>(b=true→Pk (h σ) fun v=>Pk (q2 y v) fun w=>Pb (ZbB w) B)∧(b=false→B false)): Pb (Zje q1 q2 f g h σ) B:=by
 obtain⟨x,a1,y,a2,z,a3,b,a4,k1,k2⟩:=k
 cases b with
 | false=>exact⟨false,by simp[Zje,a1,a2,a3,a4],k2 rfl⟩
 | true=>
  obtain⟨v,b1,w,b2,c,b3,q⟩:=k1 rfl
  exact⟨c,by simp[Zje,a1,a2,a3,a4,b1,b2,b3],q⟩
theorem Zwj{g:PG}{j n:Nat}{a:Nat→T}{b:PS}(hn:0<n)(hg:Pl (g σ) fun ts=>ts=tab n a)(P:Nat→TL→Prop)(h0:P 0 σ)(h1:∀i σ,i<n→P i σ→Psk (b (ZO σ j (a i))) R (P (i+1)))(h2:∀σ,P n σ→N σ): Psk (ZmO g (Zag j) b σ) R N:=by
 obtain⟨o,s,e,q⟩:=ZaO (R:=R) (N:=N) (b:=b) (j:=j) hg P h0 h1 h2
 obtain⟨ts,e1,rfl⟩:=hg
 refine⟨o,s,?_,q⟩
 have hne:tab n a≠[]:=fun h=>by have:=congrArg List.length h;rw[Zai]at this;simp at this;omega
 simp only[ZmO,e1,Option.bind_some,hne,if_false]
 simpa only[Zbq,e1,Option.bind_some]using e
end
end TM
end
section
namespace TM
open PySem PM
theorem Zud{fr:Bool}: SimF fr (fun _ _=>none) (fun _=>none):=by
 intro H vs ts t F1 hp r h
 cases h
end TM
end
section
namespace TM
open PySem PM
def Keep0(g:Sm): Prop:=∀ρ H r,g ρ H=some r→r.2.1 0=ρ 0
theorem Keep0.next: Keep0 ZaP:=fun ρ H r h=>by cases h;rfl
theorem Zlg{e:Ex}: Keep0 (ZcV e):=fun ρ H r h=>by
 obtain⟨_,_,q⟩:=Zz1.mp h
 subst q;rfl
theorem Keep0.ret{e:Ex}: Keep0 (Zau e):=fun ρ H r h=>by
 obtain⟨_,_,q⟩:=Zz1.mp h
 subst q;rfl
theorem Keep0.put{f o i:Ex}: Keep0 (Zc9 f o i):=fun ρ H r h=>by
 obtain⟨_,_,h⟩:=Zz0.mp h
 obtain⟨_,_,h⟩:=Zz0.mp h
 obtain⟨_,_,h⟩:=Zz0.mp h
 obtain⟨_,_,q⟩:=Zz1.mp h
 subst q;rfl
theorem Keep0.seq{a b:Sm}(x:Keep0 a)(y:Keep0 b): Keep0 (Z9 a b):=fun ρ H r h=>by
 obtain⟨r1,e1,h⟩:=Zz0.mp h
 have h1:=x ρ H r1 e1
 split at h
 ·cases h;exact h1
 ·exact(y _ _ _ h).trans h1
theorem Zlh{t:Ts}{a b:Sm}(x:Keep0 a)(y:Keep0 b): Keep0 (sIf t a b):=fun ρ H r h=>by
 obtain⟨p,_,h⟩:=Zz0.mp h
 split at h
 ·exact x _ _ _ h
 ·exact y _ _ _ h
theorem Keep0.set{i:Nat}{e:Ex}(hi:0≠i): Keep0 (ZaI i e):=fun ρ H r h=>by
 obtain⟨_,_,q⟩:=Zz1.mp h
 subst q
 simp[upd,hi]
def SimM(f:List V→Hp→Option (V×Hp))(p:List T→Option T): Prop:=∀(H:Hp) (v:V) (vs:List V) (t:T) (ts:List T) (t':T) (F0 F1:List Nat),0<H.length→RF H v t F0→F0.Nodup→0∉F0→RFs H vs ts F1→(∀a∈F0,a∉F1)→p (t::ts)=some t' →
 ∃w H' F',f (v::vs) H=some (w,H')∧H.length≤H'.length∧(∀a,a<H.length→a∉F0→H'[a]?=H[a]?)∧RF H' v t' F'∧F'.Nodup∧∀a∈F',H.length≤a∨a∈F0
noncomputable def ZeI(n:Nat)(q:PS): List T→Option T:=fun ts=>if ts.length=n then(q fun i=>ts[i]?).bind fun r=>r.2 0 else none
theorem Zl3{O':List Nat}{n:Nat}{g:Sm}{q:PS}(h:S [0] O' [0] false g q)(h0:0∈O')(hk:Keep0 g): SimM (ZK n g) (ZeI n q):=fun H v vs t ts t' F0 F1 hp r0 nd n0 rs dj e=>by
 unfold ZeI at e
 split at e
 ·rename_i hl
  obtain⟨r1,e1,e2⟩:=Zz0.mp e
  obtain⟨Φ,hΦ⟩:=rs.slots
  have st:St ⟨H,F0,fun a=>a∈F0∨a∈F1⟩ [0] (fun i=>(v::vs)[i]?) (fun i=>(t::ts)[i]?) H (fun i=>match i with | 0=>F0 | i+1=>Φ i):=by
   refine⟨fun i u e=>?_,fun i u e a m=>?_,fun i hi u e=>?_,Nat.le_refl _,fun a _ _=>rfl,hp,n0⟩
   ·cases i with
    | zero=>simp at e;subst e;exact⟨v,rfl,r0⟩
    | succ i=>
     simp at e
     obtain⟨w,h1,h2,_⟩:=hΦ i u e
     exact⟨w,by simpa using h1,h2⟩
   ·cases i with
    | zero=>exact .inr (.inl m)
    | succ i=>
     simp at e
     obtain⟨w,h1,h2,h3⟩:=hΦ i u e
     exact .inr (.inr (h3 a m))
   ·have:i=0:=by simpa using hi
    subst this
    refine⟨nd,fun a m=>.inr m,fun j u' hj ej a m=>?_⟩
    cases j with
    | zero=>exact absurd rfl hj
    | succ j=>
     simp at ej
     obtain⟨w,h1,h2,h3⟩:=hΦ j u' ej
     exact fun q=>dj a m (h3 a q)
  obtain⟨ρ',H',Φ',h1,h2,h3⟩:=h _ _ _ _ _ _ st e1
  have hv:(v::vs).length=n:=by rw[←hl];simp[rs.length]
  have go:∀(o:Option V) (O2:List Nat),0∈O2→g (fun i=>(v::vs)[i]?) H=some (o,ρ',H')→St ⟨H,F0,fun a=>a∈F0∨a∈F1⟩ O2 ρ' r1.2 H' Φ'→∃w H' F',ZK n g (v::vs) H=some (w,H')∧H.length≤H'.length∧(∀a,a<H.length→a∉F0→H'[a]?=H[a]?)∧RF H' v t' F'∧F'.Nodup∧∀a∈F',H.length≤a∨a∈F0:=by
   intro o O2 hO eg s2
   obtain⟨v',ev,rv⟩:=s2.slot 0 t' e2
   have kk:=hk _ _ _ eg
   have:v'=v:=by
    have k2:ρ' 0=some v:=kk
    rw[ev]at k2
    cases k2
    rfl
   subst this
   obtain⟨o1,o2,_⟩:=s2.own 0 hO t' e2
   exact⟨o.getD .none,H',Φ' 0,by simp only[ZK,hv,if_true,eg,Option.map_some],h1,s2.keep,rv,o1,o2⟩
  rcases h3 with⟨k1,k2,k3,k4⟩ | ⟨u,v',F',k1,k2,k3,k4,k5,k6⟩
  ·exact go none O' h0 k2 k3
  ·exact go (some v') [0] List.mem_cons_self k2 k4
 ·cases e
noncomputable def ZfE(x:Nat)(p:List T→Option T)(ps:PEs): PS:=fun σ=>(ps σ).bind fun ts=>(σ x).bind fun t=>(p (t::ts)).map fun t'=>(none,ZO σ x t')
section
variable {O O' R N:List Nat} {fr u:Bool}
theorem Zhs{x n:Nat}{f:List V→Hp→Option (V×Hp)}{p:List T→Option T}{es:Exs}{ps:PEs}(hx:x∈O)(k:SimM f p)(y:Es O N u n es ps)(hN:x∉N)(hO:∀j∈O',j∈O): S O O' R fr (ZcV (Z0 f (Zz (Zl x) es))) (ZfE x p ps):=fun c ρ σ H Φ r s q=>by
 obtain⟨ts,h1,q⟩:=Zz0.mp q
 obtain⟨t,h2,q⟩:=Zz0.mp q
 obtain⟨t',h3,q⟩:=Zz1.mp q
 subst q
 obtain⟨v,ev,rv⟩:=s.slot x t h2
 obtain⟨o1,o2,o3⟩:=s.own x hx t h2
 have hlow:∀k t,σ k=some t→∀a∈Φ k,a<H.length:=fun k t e a m=>by
  obtain⟨_,_,r⟩:=s.slot k t e
  exact r.lt a m
 obtain⟨_,vs,X,F,a1,a2,a3,_⟩:=y c ρ σ H Φ ts s h1
 have hp:0<(H++X).length:=by have:=s.pos;have:=s.len;rw[List.length_append];omega
 have hlen:(H++X).length=H.length+X.length:=List.length_append
 have dj:∀a∈Φ x,a∉F:=fun a m q=>by
  rcases a3 a q with h | ⟨j,hj,⟨tj,ej⟩,mj⟩
  ·have:=hlow x t h2 a m;omega
  ·exact o3 j tj (fun e=>hN (e▸hj)) ej a m mj
 obtain⟨w,H',F',b1,b2,b3,b4,b5,b6⟩:=k (H++X) v vs t ts t' (Φ x) F hp (rv.ext X) o1 (fun m=>ZlX s hx h2 m rfl) a2 dj h3
 have same:∀a,a<H.length→a∉Φ x→H'[a]?=H[a]?:=fun a ha hn=>by
  rw[b3 a (by omega) hn,List.getElem?_append_left ha]
 have eg:ZcV (Z0 f (Zz (Zl x) es)) ρ H=some (none,ρ,H'):=by
  simp only[ZcV,Z0,Zz,Zl,ev,Option.map_some,Option.bind_some,a1,b1]
 refine⟨ρ,H',Zac Φ x F',by omega,fun a ha hn=>same a ha fun m=>hn ⟨x,hx,⟨t,h2⟩,m⟩,.inl ⟨rfl,eg,⟨fun i u' e=>?_,fun i u' e a m=>?_,fun i hi u' e=>?_,by have:=s.len;omega,fun a ha hn=>?_,s.pos,s.f0⟩,fun a hh=>?_⟩⟩
 ·by_cases c1:i=x
  ·subst c1
   simp only[ZO,if_true,Option.some.injEq]at e
   subst e
   exact⟨v,ev,by simpa [Zac]using b4⟩
  ·simp only[ZO,c1,if_false]at e
   obtain⟨v2,e2,r2⟩:=s.slot i u' e
   refine⟨v2,e2,?_⟩
   simp only[Zac,c1,if_false]
   exact r2.frame fun a m=>same a (hlow i u' e a m) fun q=>o3 i u' c1 e a q m
 ·by_cases c1:i=x
  ·subst c1
   simp only[Zac,if_true]at m
   rcases b6 a m with h | h
   ·exact .inl (by have:=s.len;omega)
   ·exact s.src i t h2 a h
  ·simp only[ZO,c1,if_false]at e
   simp only[Zac,c1,if_false]at m
   exact s.src i u' e a m
 ·by_cases c1:i=x
  ·subst c1
   refine⟨by simpa [Zac]using b5,fun a m=>?_,fun j u2 hj ej a m=>?_⟩
   ·simp only[Zac,if_true]at m
    rcases b6 a m with h | h
    ·exact .inl (by have:=s.len;omega)
    ·exact o2 a h
   ·simp only[Zac,if_true]at m
    simp only[ZO,hj,if_false]at ej
    simp only[Zac,hj,if_false]
    intro q
    have hq:=hlow j u2 ej a q
    rcases b6 a m with h | h
    ·omega
    ·exact o3 j u2 hj ej a h q
  ·simp only[ZO,c1,if_false]at e
   obtain⟨q1,q2,q3⟩:=s.own i (hO i hi) u' e
   refine⟨by simpa [Zac,c1]using q1,fun a m=>?_,fun j u2 hj ej a m=>?_⟩
   ·simp only[Zac,c1,if_false]at m
    exact q2 a m
   ·simp only[Zac,c1,if_false]at m
    by_cases c2:j=x
    ·subst c2
     simp only[Zac,if_true]
     intro q
     have hm:=hlow i u' e a m
     rcases b6 a q with h | h
     ·omega
     ·exact q3 j t hj h2 a m h
    ·simp only[ZO,c2,if_false]at ej
     simp only[Zac,c2,if_false]
     exact q3 j u2 hj ej a m
 ·have hs:=s.keep a ha hn
  rw[same a (by have:=s.len;omega) fun m=>?_]
  ·exact hs
  ·rcases o2 a m with h | h
   ·omega
   ·exact hn h
 ·obtain⟨j,hj,⟨u',e⟩,m⟩:=hh
  by_cases c1:j=x
  ·subst c1
   simp only[Zac,if_true]at m
   rcases b6 a m with h | h
   ·exact .inl (by omega)
   ·exact .inr ⟨j,hx,⟨t,h2⟩,h⟩
  ·simp only[ZO,c1,if_false]at e
   simp only[Zac,c1,if_false]at m
   exact .inr ⟨j,hO j hj,⟨u',e⟩,m⟩
end
section
variable {σ:TL} {R:T→Prop} {N:TL→Prop}
theorem Zht{x:Nat}{p:List T→Option T}{ps:PEs}{t:T}(e:σ x=some t)(h:Pl (ps σ) fun ts=>Pk (p (t::ts)) fun t'=>N (ZO σ x t')): Psk (ZfE x p ps σ) R N:=by
 obtain⟨ts,e1,t',e2,q⟩:=h
 exact⟨none,ZO σ x t',by simp only[ZfE,e1,e,Option.bind_some,e2,Option.map_some],by simp,fun _=>q⟩
theorem Zl4{n:Nat}{q:PS}{ts:List T}{Q:T→Prop}(hn:ts.length=n)(h:Psk (q fun i=>ts[i]?) (fun _=>False) fun σ=>∃t,σ 0=some t∧Q t): Pk (ZeI n q ts) Q:=by
 obtain⟨o,s,e,h1,h2⟩:=h
 cases o with
 | none=>
  obtain⟨t,e2,q2⟩:=h2 rfl
  exact⟨t,by simp only[ZeI,hn,if_true,e,Option.bind_some,e2],q2⟩
 | some u=>exact absurd (h1 u rfl) (by simp)
end
end TM
end
section
namespace PM
open PySem PySem.W PySem.Calls PyProof.Rows PyProof PyProof.Rows.LCg PyProof.Rows.LCp
section
variable {prog:Program} {w:World} {Γ:Cx}
theorem Zs3{elt iter:Expr}{x x₂ y:Str}{px px₂ tp py pos spos:Pos}{kt:Nat}{scope:Scope}{cl:List (Str×Addr)}{t t₂ i:Nat}{g:Src}{f:Ex}(hy:Sto prog w Γ y i)(hg:JI2 prog w Γ iter g)(hel:∀C ρ,J prog w (Za9 Γ scope cl C [(x,t),(x₂,t₂)] ρ) elt f)
  (hsw:swapsWith (.ListComp elt [⟨.Tuple [.Name x px,.Name x₂ px₂] kt tp,iter,[],0⟩] scope pos) (some (.Name y py)) spos.line Γ.env=pure true)
  (hclos:closureFor scope Γ.env=pure cl) (hcell:∀y∈scope.names,y.2≠.cell) (hkind:scope.kind=.function) (hnames:∀y∈scope.names,y.2=.local→scope.names.lookup y.1=some .local) (hx:scope.names.lookup x=some .local) (hx₂:scope.names.lookup x₂=some .local) (hxx:x≠x₂) (htt:t≠t₂) (hs:∀x,foldedSetIterable iter Γ.env x=pure x:=by intro _;rfl):
  S1 prog w Γ (.Assign [.Name y py] (.ListComp elt [⟨.Tuple [.Name x px,.Name x₂ px₂] kt tp,iter,[],0⟩] scope pos) spos) (ZaI i (Zbm g (Zda t t₂) Zbo f)):=by
 intro W ρ H fr s Q E r rp hf post
 obtain⟨p,e0,e9⟩:=Zz1.mp hf
 cases e9
 obtain⟨z,e1,hf⟩:=Zz0.mp e0
 obtain⟨q,e2,e3⟩:=Zz1.mp hf
 cases e3
 rw[exec_Assign_Name_used _ _ _ _ hsw]
 refine wpAny_bind (wpAny_standAt (wpAny_bind ?_))
 show wpAny _ Γ.A (do let _ ←comprehension (.ListComp elt [⟨.Tuple [.Name x px,.Name x₂ px₂] kt tp,iter,[],0⟩] scope pos) scope Γ.env _ (newList []) false (eval iter Γ.env) (some (assign (.Name y py) Γ.env))) _ _ s
 refine wpAny_bind (wpAny_mono (wpAny_comprehension_free (use:=some (assign (.Name y py) Γ.env)) (Q:=fun _ s'=>Q .next s') rfl hs hclos hkind hnames ?_) (fun _ s' h'=>wpAny_pure (wpAny_pure h')) fun _ _ e=>e)
 refine Zon (RR:=fun acc C=>compPost (model prog w) Γ.A E (some (assign (.Name y py) Γ.env)) (fun _ s'=>Q .next s') acc C) hg hel hcell hkind hx hx₂ hxx htt rp (q:=q) (by rw[e1];exact e2) fun W2 h' tk' C D oC m₂ ys l2 hC hv hl aD aC cd r3=>?_
 have r4:Rep Γ W2 ρ q.2 ((D,lst ys)::(C,oC)::fr) h':=r3.less fun t ht=>by
  rcases Zz7.mp ht with e | ht
  ·exact e▸List.mem_cons_of_mem _ Zz5
  ·rcases Zz7.mp ht with e | ht
   ·exact e▸List.mem_cons_self
   ·exact Zz2 _ (Zz2 _ ht)
 obtain⟨W5,l5,r5,v5⟩:=ZgN r4 (fun t ht=>by
  rcases Zz7.mp ht with e | ht
  ·rw[e]
   exact cd.symm
  ·exact aD t ht) hv hl
 refine wpAny_assign_Name (hy W5 ρ _ _ _ _ _ _ _ r5 v5 fun h6 t6 r6=>?_)
 refine⟨m₂,hC.ns (r6.frAt (q:=(C,oC)) Zz5),fun h'' sb=>?_⟩
 have r7:Rep Γ W5 (upd ρ i (.ref q.2.length)) (q.2++[q.1]) ([]++fr) h'':=
  Rep.swap (fs:=[(C,oC)]) (fs':=[]) r6 (fun q hq t ht=>by rw[List.mem_singleton.mp hq];exact aC t ht) (fun b o hb e=>sb.extBut b o (fun z=>hb (by simp[z])) e) fun q hq=>nomatch hq
 exact post W5 h'' t6 (l2.trans l5) r7
end
end PM
end
section
namespace PM
open PySem PySem.W PySem.Calls PyProof.Rows PyProof
noncomputable def ZcK(ns:List Int): List Int:=ns.mergeSort fun a b=>decide (a≤b)
theorem Zpq{ns ms:List Int}(h1:ms.Perm ns)(h2:ms.Pairwise (·≤·)): ms=ZcK ns:=by
 refine List.Perm.eq_of_pairwise (le:=fun a b:Int=>a≤b) (fun a b _ _ h h'=>Int.le_antisymm h h') h2 ?_ (h1.trans (List.mergeSort_perm ns _).symm)
 have:=List.pairwise_mergeSort (le:=fun a b:Int=>decide (a≤b)) (fun a b c h h'=>by simp at *;omega) (fun a b=>by simp;omega) ns
 unfold ZcK
 simpa using this
theorem Zue{ns:List Int}: (ZcK ns).length=ns.length:=(List.mergeSort_perm ns _).length_eq
theorem Zl5{W:Wd}: ∀{vs:List V} {xs:List Value} {ks:List Int},VRs W vs xs→Zc2 vs=some ks→IntsAre xs ks:=by
 intro vs
 induction vs with
 | nil=>intro xs ks h e;cases h;cases e;exact .nil
 | cons v vs ih=>
  intro xs ks h e
  cases h with
  | cons a b=>
   cases v with
   | int i=>
    obtain⟨js,e1,e2⟩:=Zz1.mp e
    subst e2
    cases a with
    | int _ t=>exact .cons i t (ih b e1)
   | none=>cases e
   | bool=>cases e
   | str=>cases e
   | tup=>cases e
   | ref=>cases e
theorem Zp5{W:Wd}: ∀{xs:List Value} {ks:List Int},IntsAre xs ks→VRs W (ks.map V.int) xs
 | _,_,.nil=>.nil
 | _,_,.cons n t r=>.cons (.int n t) (Zp5 r)
noncomputable def Zhi: List V→Hp→Option (V×Hp)
 | [.ref a],H=>H[a]?.bind fun vs=>(Zc2 vs).bind fun ns=>if vs.length<64 then some (.ref H.length,H++[(ZcK ns).map V.int])else none
 | _,_=>none
section
variable {prog:Program} {w:World}
theorem ZoV: OpN prog w (fun xs=>call (.builtin "sorted") xs) Zhi:=by
 intro Γ W ρ H fr s Q E as xs v H' r hx ho post
 unfold Zhi at ho
 split at ho
 ·obtain⟨vs,e1,ho⟩:=Zz0.mp ho
  obtain⟨ks,e3,ho⟩:=Zz0.mp ho
  split at ho
  ·rename_i h64
   cases ho
   obtain⟨x,ex,rx⟩:=hx.one
   subst ex
   cases rx with
   | @ref _ a ea=>
    obtain⟨hl,ys,k,hg,hv⟩:=r.at e1 ea
    have isl:s.heap.IsList a ys.toArray:=⟨_,hg,rfl,k,rfl⟩
    refine sorted_ints isl (Zl5 hv e3) (by rw[hv.length];exact h64) fun out ms a1 a2 a3=>?_
    have em:=Zpq a2 a3
    subst em
    obtain⟨q,hq⟩:=sortedAll_at s.heap ys out
    have hlen:ks.length=vs.length:=by rw[←hv.length];exact(Zl5 hv e3).length.symm
    obtain⟨r2,ap⟩:=r.more (h':=sortedAll s.heap ys out) (fs:=[(s.heap.objs.size+1,ZbD out.toList q)]) (fun b o hb=>sortedAll_old hb) (fun u hu=>by
     rw[List.mem_singleton.mp hu]
     refine⟨?_,Nat.le_succ _⟩
     rw[hq])
    obtain⟨W2,l2,r3,v3⟩:=ZgN r2 (fun t ht=>ap _ Zz5 t ht) (Zp5 a1) (by rw[List.length_map,Zue,hlen];exact hl)
    exact post W2 _ s.toks _ l2 r3 v3
  ·cases ho
 ·cases ho
end
end PM
namespace PM
open PySem PySem.W PySem.Calls PyProof.Rows PyProof PySem.SeqAt
open SeqRoads2 MeetsSeq3 MeetsSeq2 MeetsSeq AutoSeq1
theorem Ztu(l:Addr)(its:Array Value)(n:Nat)(dd:Option Addr)(sl:Array (Option Value))(x:Value)(tk:Tok)(e:Value→Bool)(j:Nat)(hj:j<its.size)(h1:1≤j)(small:(j:Int)<2 ^ 63-1)
  (hit:e its[j]=true) (no:∀m (hm:m<its.size),1≤m→m<j→e its[m]=false):
  Meets (Builtin.«list.index» ⟨[.ref l,x,.int 1 tk],[]⟩) fun A R s=>s.heap.get? l=some { cls:=.type "list",dict:=dd,data:=.seq its n,slots:=sl }∧(∀y,y∈its→EqAt A.in1 s y x (e y))∧R (.ok (.ret (.int j s.toks))) { s with toks:=s.toks+1 }:=by
 intro prog w A R s h
 obtain⟨hp,g,d,tk',os⟩:=s
 obtain⟨hq0,he,h⟩:=h
 wp_walk using wpAny_loadPart' hq0
 have b1:((fun i:Int=>if i<0 then max 0 (i+(its.size:Int))else i) ((some (1:Int)).getD 0))=((1:Nat):Int):=by simp
 have b2:((fun i:Int=>if i<0 then max 0 (i+(its.size:Int))else i) ((Option.none:Option Int).getD (2 ^ 63-1)))=2 ^ 63-1:=by simp
 rw[b1,b2]
 refine⟨plainId_quiet plain_index_loop _,codeAny_builtin entry_index_loop ?_⟩
 rw[Around.under_plainId plain_index_loop _];exact index_loopAt l its n dd sl x e (2 ^ 63-1) j hj small hit _ 1 rfl h1 no prog w A R _ ⟨hq0,he,h⟩
section
variable {prog:Program} {w:World} {A:Around} {E:Value→Shared→Prop} {s:Shared}
theorem Zs4{l:Addr}{vs:List Value}{ns:List Int}{k:Int}{t t':Tok}{Q:Value→Shared→Prop}(hl:s.heap.IsList l vs.toArray)(hi:IntsAre vs ns)(hn:ns.length≤100000)(hk:k∈ns.drop 1)
  (h:Q (.int ((1+(ns.drop 1).idxOf k:Nat)) s.toks) { s with toks:=s.toks+1 }):wpAny (model prog w) A (call (.builtin "list.index") [.ref l,.int k t,.int 1 t']) Q E s:=by
 obtain⟨⟨c0,dd,da,sl⟩,ho,ec,n,ed⟩:=id hl
 simp only at ec ed
 subst ec ed
 have hlen:=hi.length
 have hj:(ns.drop 1).idxOf k<(ns.drop 1).length:=List.idxOf_lt_length_iff.mpr hk
 have hj':1+(ns.drop 1).idxOf k<ns.length:=by rw[List.length_drop]at hj;omega
 refine call_meets PySem.F.slot_list_index ⟨_,ho,rfl⟩ PySem.F.entry_list_index (PySem.F.args_list_index_3 _ _ _) (Ztu l vs.toArray n dd sl (.int k t) t' (isInt k) (1+(ns.drop 1).idxOf k) (by simpa [hlen]using hj') (by omega) (by omega) ?_ ?_) ⟨ho,fun y hy=>(eq_isInt k t hi y (by simpa using hy)).at _ _,h⟩
 ·show isInt k vs[1+(ns.drop 1).idxOf k]=true
  rw[isInt_at k hi _ (by omega) hj']
  have:=List.getElem_idxOf hj
  rw[List.getElem_drop]at this
  simpa using this
 ·intro m hm h1 h2
  show isInt k vs[m]=false
  rw[isInt_at k hi m (by simpa using hm) (by have:=hm;simp[hlen]at this;omega)]
  have hm':m-1<(ns.drop 1).length:=by rw[List.length_drop];omega
  have:=ne_of_lt_idxOf (k:=k) (ns:=ns.drop 1) (j:=m-1) (by omega) hm'
  rw[List.getElem_drop]at this
  simpa [show 1+(m-1)=m by omega]using this
end
noncomputable def Zjf: V→V→V→Hp→Option (V×Hp)
 | .ref a,.int k,.int b,H=>H[a]?.bind fun vs=>(Zc2 vs).bind fun ns=>if b=1∧k∈ns.drop 1 then some (.int ((1+(ns.drop 1).idxOf k:Nat):Int),H)else none
 | _,_,_,_=>none
noncomputable def Zmr(f g h:Ex): Ex:=fun ρ H=>(f ρ H).bind fun p=>(g ρ p.2).bind fun q=>(h ρ q.2).bind fun u=>Zjf p.1 q.1 u.1 u.2
section
variable {prog:Program} {w:World} {Γ:Cx}
theorem Zs5{a b c:V}{H:Hp}{r:V×Hp}(h:Zjf a b c H=some r): ∃i k vs ns,a=.ref i∧b=.int k∧c=.int 1∧H[i]?=some vs∧Zc2 vs=some ns∧k∈ns.drop 1∧r=(.int ((1+(ns.drop 1).idxOf k:Nat):Int),H):=by
 unfold Zjf at h
 split at h
 ·obtain⟨vs,e1,h⟩:=Zz0.mp h
  obtain⟨ns,e2,h⟩:=Zz0.mp h
  split at h
  ·rename_i q
   cases h
   obtain⟨rfl,q⟩:=q
   exact⟨_,_,vs,ns,rfl,rfl,rfl,e1,e2,q,rfl⟩
  ·cases h
 ·cases h
theorem J.index{o e1 e2:Expr}{apos pos:Pos}{f g k:Ex}(ho:J prog w Γ o f)(h1:J prog w Γ e1 g)(h2:J prog w Γ e2 k)(hbase:attributeBase o "index" Γ.env (eval o Γ.env)=eval o Γ.env:=by rfl)
  (hline:(apos.endLine == pos.line)=true:=by rfl) (htrees:backTo pos (starEach [e1,e2] Γ.env)=[(false,eval e1 Γ.env),(false,eval e2 Γ.env)]:=by rfl) (hstay:∀ρ H p,f ρ H=some p→∀q,g ρ p.2=some q→p.2=q.2:=by intro _ _ _ _ _ h;cases h;rfl) (hstay2:∀ρ H p,g ρ H=some p→∀q,k ρ p.2=some q→p.2=q.2:=by intro _ _ _ _ _ h;cases h;rfl):J prog w Γ (.Call (.Attribute o "index" apos) [e1,e2] [] pos) (Zmr f g k):=by
 intro W ρ H fr s Q E v H' r hx post
 obtain⟨p,x1,hx⟩:=Zz0.mp hx
 obtain⟨q,x2,hx⟩:=Zz0.mp hx
 obtain⟨u,x3,x4⟩:=Zz0.mp hx
 obtain⟨i,kk,vs,ns,ea,eb,ec,hvs,hns,hmem,er⟩:=Zs5 x4
 refine wpAny_Call_method2_late hbase hline htrees (ho W ρ H fr s _ E _ _ r x1 fun W1 k1 t1 x l1 r1 y1=>?_)
 rw[ea]at y1
 have s1:=hstay ρ H p x1 q x2
 have s2:=hstay2 ρ p.2 q x2 u x3
 cases y1 with
 | @ref _ a aa=>
 obtain⟨hl,xs,n,hg,hv⟩:=r1.at (by rw[s1,s2];exact hvs) aa
 refine⟨"list","list.index",PySem.F.plainAttrs_list,PySem.F.slot_list_index,PySem.F.type_list_index,(show k1.IsList a xs.toArray from⟨_,hg,rfl,n,rfl⟩).typeIs,fun b eb=>by cases eb;exact⟨_,hg,rfl⟩,?_⟩
 refine Calls.callWith_builtin rfl (Calls.evalArgs_plain (Calls.spliced_cons ?_))
 refine h1 W1 ρ _ fr _ _ E _ _ r1 x2 fun W2 k2 t2 y l2 r2 y2=>Calls.spliced_cons ?_
 refine h2 W2 ρ _ fr _ _ E _ _ r2 x3 fun W3 k3 t3 z l3 r3 z3=>Calls.spliced_nil ?_
 rw[eb]at y2
 rw[ec]at z3
 cases y2 with
 | int _ ty=>
 cases z3 with
 | int _ tz=>
 obtain⟨hl3,xs3,n3,hg3,hv3⟩:=r3.at hvs (l3.at (l2.at aa))
 rw[Za6]at hl3
 have hI:=Zl5 hv3 hns
 refine Zs4 ⟨_,hg3,rfl,n3,rfl⟩ hI (by rw[←hI.length,hv3.length];omega) hmem ?_
 have:=post W3 k3 (t3+1) (.int ((1+(ns.drop 1).idxOf kk:Nat):Int) t3) ((l1.trans l2).trans l3)
 cases er
 exact this r3 (.int _ _)
end
end PM
end
section
namespace TM
open PySem PM
theorem Zpr{H:Hp}: ∀ks:List Int,RFs H (ks.map V.int) (ks.map T.int) []
 | []=>.nil
 | k::ks=>.cons (.int k) (Zpr ks)
noncomputable def Zff: List T→Option T
 | [.lst ts]=>(ZcU ts).bind fun ns=>if ts.length<64 then some (.lst ((ZcK ns).map T.int))else none
 | _=>none
theorem Zps: OCn Zhi Zff:=fun H vs ts t F hp r h=>by
 unfold Zff at h
 split at h
 ·obtain⟨v,rfl,r'⟩:=r.one_inv
  cases r' with
  | ref e hs=>
   obtain⟨ks,h1,h⟩:=Zz0.mp h
   split at h
   ·rename_i h64
    cases h
    refine⟨_,[(ZcK ks).map V.int],_,?_,ZdV (Zpr (ZcK ks)),fun a m=>?_,fun _=>?_⟩
    ·simp only[Zhi,e,Option.bind_some,ZiO hs h1]
     rw[if_pos (by rw[hs.length];exact h64)]
    ·rcases Zz7.mp m with rfl | m
     ·exact .inl (Zz10 _)
     ·cases m
    ·simp
   ·cases h
 ·cases h
noncomputable def Zms(p q r:PE): PE:=fun σ=>(p σ).bind fun t=>(q σ).bind fun k=>(r σ).bind fun b=>match t,k,b with
 | .lst ts,.int k,.int b=>(ZcU ts).bind fun ns=>if b=1∧k∈ns.drop 1 then some (.int ((1+(ns.drop 1).idxOf k:Nat):Int))else none
 | _,_,_=>none
section
variable {O N M K:List Nat} {u u' u'':Bool}
theorem E.index{e1 e2 e3:Ex}{p1 p2 p3:PE}(x:E O N u e1 p1)(y:E O M u' e2 p2)(z:E O K u'' e3 p3): E O [] true (Zmr e1 e2 e3) (Zms p1 p2 p3):=fun c ρ σ H Φ t s h=>by
 obtain⟨t1,h1,h⟩:=Zz0.mp h
 obtain⟨t2,h2,h⟩:=Zz0.mp h
 obtain⟨t3,h3,h⟩:=Zz0.mp h
 obtain⟨v1,X,F1,a1,a2,_,_⟩:=x c ρ σ H Φ t1 s h1
 obtain⟨v2,Y,F2,b1,b2,_,_⟩:=y c ρ σ (H++X) Φ t2 (s.ext X) h2
 obtain⟨v3,Z,F3,c1,c2,_,_⟩:=z c ρ σ (H++X++Y) Φ t3 ((s.ext X).ext Y) h3
 have a3:=(a2.ext Y).ext Z
 split at h
 ·obtain⟨ns,e1,h⟩:=Zz0.mp h
  split at h
  ·rename_i hc
   cases h
   cases b2
   cases c2
   cases a3 with
   | ref e hs=>
    refine⟨_,X++Y++Z,[],?_,.int _,by simp,by simp⟩
    have e':=e
    simp only[Zmr,a1,b1,c1,Option.bind_some,Zjf,e',ZiO hs e1]
    rw[if_pos hc]
    simp
  ·cases h
 ·cases h
end
section
variable {σ:TL} {Q:T→Prop}
end
end TM
end
section
namespace TM
open PySem PM
theorem Zoq{nx:Nx}{put:V→Lc→Option Lc}{b:Sm}(hp:∀v ρ ρ',put v ρ=some ρ'→ρ' 0=ρ 0)(hb:Keep0 b): ∀n i,Keep0 (ZcT nx put b n i)
 | 0,_=>fun _ _ _ h=>by cases h
 | n+1,i=>fun ρ H r h=>by
  obtain⟨o,_,h⟩:=Zz0.mp h
  split at h
  ·cases h;rfl
  ·obtain⟨ρ1,e1,h⟩:=Zz0.mp h
   obtain⟨q,e2,h⟩:=Zz0.mp h
   have k:=(hb _ _ _ e2).trans (hp _ _ _ e1)
   split at h
   ·cases h;exact k
   ·exact(Zoq hp hb n (i+1) _ _ _ h).trans k
theorem ZoW{g:Src}{put:V→Lc→Option Lc}{b:Sm}(hp:∀v ρ ρ',put v ρ=some ρ'→ρ' 0=ρ 0)(hb:Keep0 b): Keep0 (ZbS g put b):=fun ρ H r h=>by
 obtain⟨z,_,h⟩:=Zz0.mp h
 exact Zoq hp hb _ _ _ _ _ h
theorem Zor{i:Nat}(hi:0≠i): ∀v ρ ρ',PM.put1 i v ρ=some ρ'→ρ' 0=ρ 0:=fun v ρ ρ' h=>by
 cases h
 simp[upd,hi]
end TM
end
section
open PySem PySem.W PySem.Calls PyProof.Rows
namespace PM
section
variable {prog:Program} {w:World} {Γ:Cx}
theorem Zu7{e:Expr}{lo hi:Option Expr}{p pos:Pos}{f:Ex}{a b:Pt}(h:J prog w Γ e f)(hlo:JP prog w Γ lo a)(hhi:JP prog w Γ hi b)(hs:∀a c,subscripted (.Slice lo hi Option.none p) false (.ref a) (.ref c)=operate [.ref c,.ref a] (getItem (.ref a) (.ref c)):=by intros;with_unfolding_all rfl): J prog w Γ (.Subscript e (.Slice lo hi Option.none p) pos) (ZdH f a b):=by
 intro W ρ H fr s Q E v H' r hf post
 obtain⟨p,e1,hf⟩:=Zz0.mp hf
 obtain⟨q,e2,hf⟩:=Zz0.mp hf
 obtain⟨u,e3,hf⟩:=Zz0.mp hf
 obtain⟨ka,e4,hf⟩:=Zz0.mp hf
 obtain⟨kb,e5,hf⟩:=Zz0.mp hf
 refine Subscript_ (h W ρ H fr s _ E _ _ r e1 fun W1 k1 t1 x l1 r1 x1=>?_)
 refine wpAny_Slice (hlo W1 ρ _ fr _ _ E _ _ r1 e2 fun W2 k2 t2 y l2 r2 y2=>?_)
 refine hhi W2 ρ _ fr _ _ E _ _ r2 e3 fun W3 k3 t3 z l3 r3 z3=>?_
 have x3:=x1.mono (l2.trans l3)
 obtain⟨v1,H1⟩:=p
 simp only at hf x3
 cases x3 with
 | none=>cases hf
 | bool _=>cases hf
 | int _ _=>cases hf
 | str _ _=>cases hf
 | tup _ _ _=>cases hf
 | @ref i a ea=>
  obtain⟨vs,hvs,e6⟩:=Zz0.mp hf
  cases e6
  obtain⟨hl,xs,kk,hg,hv⟩:=r3.at hvs ea
  have isl:k3.IsList a xs.toArray:=⟨_,hg,rfl,kk,rfl⟩
  have hp:VRs W3 (Zbt vs ka kb) (Zbt xs ka kb):=by
   unfold Zbt
   rw[hv.length]
   exact hv.pick _
  have hx:slicePick xs.toArray ka kb Option.none=(Zbt xs ka kb).toArray:=by
   unfold slicePick Zbt
   simp
  obtain⟨W4,l4,r4,v4⟩:=(r3.push { cls:=.type "slice",data:=.fields #[y,z,.none] }).list (k:=0) hp (Nat.le_trans (Zpf vs ka kb) hl)
  have hQ:=post W4 _ t3 _ (((l1.trans l2).trans l3).trans l4) r4 v4
  rw[evalPart_none]
  refine wpAny_pure (kba_turn (value':=.Name (Str.ofString "_") ⟨0,0,0,0⟩) (fun _=>rfl) ?_)
  refine subscriptTail_ops (T:="list") ((isl.push _).typeIs) list_getitem_lookup ?_ (hs _ _) (fun _=>rfl)
  refine wpAny_getItem_list_slice (isl.push _) (Heap.IsSliceOf.new ..) ((y2.mono l3).part e4) (z3.part e5) .none (by simp) ?_ (Zcz (by simp[hv.length];exact hl))
  rw[hx]
  exact hQ
end
end PM
end
section
namespace PM
open PySem PySem.W PySem.Calls PyProof.Rows PyProof PySem.Spec
noncomputable def Zjg: Expr→Bool
 | .Starred _ _=>true
 | _=>false
theorem ZmP{e:Expr}{es:List Expr}{env:Env}(h:Zjg e=false): starEach (e::es) env=(false,eval e env)::starEach es env:=by
 cases e <;> first | rfl | cases h
noncomputable def Zjh: List Expr→Bool
 | []=>true
 | e::es=>!Zjg e && Zjh es
theorem Zro{env:Env}: ∀{es:List Expr} (pos:Pos),Zjh es=true→(backTo pos (starEach es env)).any (·.1)=false
 | [],pos,_=>by rfl
 | e::es,pos,h=>by
  simp only[Zjh,Bool.and_eq_true,Bool.not_eq_true']at h
  have ih:=Zro (env:=env) (es:=es) pos h.2
  rw[ZmP h.1]
  unfold backTo at ih ⊢
  simp only[List.map_cons,List.any_cons,Bool.false_or]
  exact ih
section
variable {prog:Program} {w:World} {Γ:Cx}
theorem jc{e:Expr}{es:List Expr}{f:Ex}{g:Exs}(h1:J prog w Γ e f)(h2:Js prog w Γ es g)(hs:Zjg e=false:=by exact rfl): Js prog w Γ (e::es) (Zz f g):=ZvB h1 h2 (ZmP hs)
end
section
variable {prog:Program} {w:World} {K:Frag} {p:Program} {loose:List Str} {mean:ExcName→Option Value} {mg mb:Str→Option Value}
theorem Zu8{f:Addr}{room:Nat}: Def prog w K p loose mean mg mb f room (fun _ _=>none):=by
 intro Γ dp un clr hd hu W ρ H fr s Q E as xs v H' r hx hF post
 cases hF
end
end PM
end
section
namespace PM
open PySem PySem.W PySem.Calls PyProof.Rows PyProof PySem.Spec
section
variable {prog:Program} {w:World} {Γ:Cx}
theorem ln1{α:Type _}: ∀{xs:List α},xs.length=1→∃x0,xs=[x0]
 | [x0],_=>⟨x0,rfl⟩
theorem ln2{α:Type _}: ∀{xs:List α},xs.length=2→∃x0 x1,xs=[x0,x1]
 | [x0,x1],_=>⟨x0,x1,rfl⟩
theorem ln3{α:Type _}: ∀{xs:List α},xs.length=3→∃x0 x1 x2,xs=[x0,x1,x2]
 | [x0,x1,x2],_=>⟨x0,x1,x2,rfl⟩
theorem ln4{α:Type _}: ∀{xs:List α},xs.length=4→∃x0 x1 x2 x3,xs=[x0,x1,x2,x3]
 | [x0,x1,x2,x3],_=>⟨x0,x1,x2,x3,rfl⟩
theorem ln5{α:Type _}: ∀{xs:List α},xs.length=5→∃x0 x1 x2 x3 x4,xs=[x0,x1,x2,x3,x4]
 | [x0,x1,x2,x3,x4],_=>⟨x0,x1,x2,x3,x4,rfl⟩
theorem ln6{α:Type _}: ∀{xs:List α},xs.length=6→∃x0 x1 x2 x3 x4 x5,xs=[x0,x1,x2,x3,x4,x5]
 | [x0,x1,x2,x3,x4,x5],_=>⟨x0,x1,x2,x3,x4,x5,rfl⟩
theorem ln7{α:Type _}: ∀{xs:List α},xs.length=7→∃x0 x1 x2 x3 x4 x5 x6,xs=[x0,x1,x2,x3,x4,x5,x6]
 | [x0,x1,x2,x3,x4,x5,x6],_=>⟨x0,x1,x2,x3,x4,x5,x6,rfl⟩
theorem jI{k:Int}{n:Nat}{pos:Pos}: J prog w Γ (.Constant (.int k) n pos) (ZJ k):=J.int _ _ _
theorem jN{n:Nat}{pos:Pos}: J prog w Γ (.Constant .none n pos) ZaF:=J.none _ _
theorem jB{b:Bool}{n:Nat}{pos:Pos}: J prog w Γ (.Constant (.bool b) n pos) (Zft b):=J.bool _ _ _
theorem jS{x:Str}{n:Nat}{pos:Pos}: J prog w Γ (.Constant (.str x) n pos) (ZeC x):=J.str _ _ _
theorem cO{elt iter:Expr}{x:Str}{px:Pos}{ifs:List Expr}{scope:Scope}{pos:Pos}{cl:List (Str×Addr)}{t:Nat}{g:Src}{c:Ts}{f:Ex}(hg:JI prog w Γ iter g)(hel:∀C ρ,J prog w (Za9 Γ scope cl C [(x,t)] ρ) elt f)(hif:∀C ρ,JF prog w (Za9 Γ scope cl C [(x,t)] ρ) ifs c)
  (hclos:closureFor scope Γ.env=pure cl:=by with_unfolding_all rfl) (hcell:∀y∈scope.names,y.2≠.cell:=by decide) (hkind:scope.kind=.function:=by exact rfl) (hnames:∀y∈scope.names,y.2=.local→scope.names.lookup y.1=some .local:=by decide) (hx:scope.names.lookup x=some .local:=by exact rfl) (hs:∀x,foldedSetIterable iter Γ.env x=pure x:=by intro _;rfl):
  J prog w Γ (.ListComp elt [⟨.Name x px,iter,ifs,0⟩] scope pos) (Zbm g (put1 t) c f):=ZwS hg hel hif hclos hcell hkind hnames hx hs
theorem cT{elt iter:Expr}{x x₂:Str}{px px₂ tp:Pos}{kt:Nat}{scope:Scope}{pos:Pos}{cl:List (Str×Addr)}{t t₂:Nat}{g:Src}{f:Ex}(hg:JI2 prog w Γ iter g)(hel:∀C ρ,J prog w (Za9 Γ scope cl C [(x,t),(x₂,t₂)] ρ) elt f)
  (hclos:closureFor scope Γ.env=pure cl:=by with_unfolding_all rfl) (hcell:∀y∈scope.names,y.2≠.cell:=by decide) (hkind:scope.kind=.function:=by exact rfl) (hnames:∀y∈scope.names,y.2=.local→scope.names.lookup y.1=some .local:=by decide) (hx:scope.names.lookup x=some .local:=by exact rfl) (hx₂:scope.names.lookup x₂=some .local:=by exact rfl) (hxx:x≠x₂:=by decide) (htt:t≠t₂:=by decide) (hs:∀x,foldedSetIterable iter Γ.env x=pure x:=by intro _;rfl):
  J prog w Γ (.ListComp elt [⟨.Tuple [.Name x px,.Name x₂ px₂] kt tp,iter,[],0⟩] scope pos) (Zbm g (Zda t t₂) Zbo f):=ZvH hg hel hclos hcell hkind hnames hx hx₂ hxx htt hs
theorem sO{elt iter:Expr}{x y:Str}{px py pos spos:Pos}{ifs:List Expr}{scope:Scope}{cl:List (Str×Addr)}{t i:Nat}{g:Src}{c:Ts}{f:Ex}(hy:Sto prog w Γ y i)(hg:JI prog w Γ iter g)(hel:∀C ρ,J prog w (Za9 Γ scope cl C [(x,t)] ρ) elt f)(hif:∀C ρ,JF prog w (Za9 Γ scope cl C [(x,t)] ρ) ifs c)
  (hsw:swapsWith (.ListComp elt [⟨.Name x px,iter,ifs,0⟩] scope pos) (some (.Name y py)) spos.line Γ.env=pure true:=by rfl)
  (hclos:closureFor scope Γ.env=pure cl:=by with_unfolding_all rfl) (hcell:∀y∈scope.names,y.2≠.cell:=by decide) (hkind:scope.kind=.function:=by exact rfl) (hnames:∀y∈scope.names,y.2=.local→scope.names.lookup y.1=some .local:=by decide) (hx:scope.names.lookup x=some .local:=by exact rfl) (hs:∀x,foldedSetIterable iter Γ.env x=pure x:=by intro _;rfl):
  S1 prog w Γ (.Assign [.Name y py] (.ListComp elt [⟨.Name x px,iter,ifs,0⟩] scope pos) spos) (ZaI i (Zbm g (put1 t) c f)):=Ztq hy hg hel hif hsw hclos hcell hkind hnames hx hs
theorem sT{elt iter:Expr}{x x₂ y:Str}{px px₂ tp py pos spos:Pos}{kt:Nat}{scope:Scope}{cl:List (Str×Addr)}{t t₂ i:Nat}{g:Src}{f:Ex}(hy:Sto prog w Γ y i)(hg:JI2 prog w Γ iter g)(hel:∀C ρ,J prog w (Za9 Γ scope cl C [(x,t),(x₂,t₂)] ρ) elt f)
  (hsw:swapsWith (.ListComp elt [⟨.Tuple [.Name x px,.Name x₂ px₂] kt tp,iter,[],0⟩] scope pos) (some (.Name y py)) spos.line Γ.env=pure true:=by rfl)
  (hclos:closureFor scope Γ.env=pure cl:=by with_unfolding_all rfl) (hcell:∀y∈scope.names,y.2≠.cell:=by decide) (hkind:scope.kind=.function:=by exact rfl) (hnames:∀y∈scope.names,y.2=.local→scope.names.lookup y.1=some .local:=by decide) (hx:scope.names.lookup x=some .local:=by exact rfl) (hx₂:scope.names.lookup x₂=some .local:=by exact rfl) (hxx:x≠x₂:=by decide) (htt:t≠t₂:=by decide) (hs:∀x,foldedSetIterable iter Γ.env x=pure x:=by intro _;rfl):
  S1 prog w Γ (.Assign [.Name y py] (.ListComp elt [⟨.Tuple [.Name x px,.Name x₂ px₂] kt tp,iter,[],0⟩] scope pos) spos) (ZaI i (Zbm g (Zda t t₂) Zbo f)):=Zs3 hy hg hel hsw hclos hcell hkind hnames hx hx₂ hxx htt hs
end
section
variable {prog:Program} {w:World} {dp un:Nat} {gd:Option (List Code)} {cn:Str} {cs:Scope} {L a:Addr} {ccd:Value} {cl:List (Str×Addr)} {outer:List Env} {h₀:Heap} {hu:un+200<cLine} {names:List Str}
theorem vL{x:Str}{i:Nat}{pos:Pos}(hi:names[i]?=some x:=by rfl)(hx:cs.names.lookup x=some .local:=by exact rfl)(hk:cs.kind=.function:=by exact rfl)(hd:(x == ("__debug__":Str))=false:=by exact rfl): J prog w (Zbu dp un gd cn cs L a ccd cl outer h₀ hu names) (.Name x pos) (Zl i):=Zjt (ZwQ hi hx hk hd)
theorem vC{x:Str}{i:Nat}{pos:Pos}(hi:names[i]?=some x:=by rfl)(hx:cs.names.lookup x=some .cell:=by exact rfl)(hk:cs.kind=.function:=by exact rfl)(hd:(x == ("__debug__":Str))=false:=by exact rfl): J prog w (Zbu dp un gd cn cs L a ccd cl outer h₀ hu names) (.Name x pos) (Zl i):=Zjt (ZwR hi hx hk hd)
theorem sL{x:Str}{i:Nat}(nd:names.Nodup:=by decide)(hi:names[i]?=some x:=by rfl)(hx:cs.names.lookup x=some .local:=by exact rfl)(hk:cs.kind=.function:=by exact rfl): Sto prog w (Zbu dp un gd cn cs L a ccd cl outer h₀ hu names) x i:=ZvE nd hi hx hk
theorem sC{x:Str}{i:Nat}(nd:names.Nodup:=by decide)(hi:names[i]?=some x:=by rfl)(hx:cs.names.lookup x=some .cell:=by exact rfl)(hk:cs.kind=.function:=by exact rfl)(hcl:(cl.lookup x).isSome=true:=by exact rfl): Sto prog w (Zbu dp un gd cn cs L a ccd cl outer h₀ hu names) x i:=ZvF nd hi hx hk hcl
end
section
variable {prog:Program} {w:World} {K:Frag} {p:Program} {loose:List Str} {mean:ExcName→Option Value} {mg mb:Str→Option Value} {Γ:Cx} {dp un:Nat}
theorem nB{x:Str}{v:Value}(clr:Clr K p loose mean mg mb Γ dp un)(e:nsIn K mainGlobals x=some Option.none:=by k_is)(hv:bootBuiltins x=some v:=by boot_by_name)(hn:x≠"__name__":=by decide)(hg:Γ.env.globals=mainGlobals:=by exact rfl)(hb:Γ.env.builtins=builtinsNs:=by exact rfl)(hk:Γ.env.scope.kind=.function:=by exact rfl)(hx:Γ.env.kindOf x=some .globalImplicit:=by exact rfl)(hd:(x == ("__debug__":Str))=false:=by exact rfl): Nm prog w Γ x v:=ZuJ clr e hv hn hg hb hk hx hd
theorem cF{x:Str}{np pos:Pos}{f:Addr}{room:Nat}{e:Expr}{es:List Expr}{g:Exs}{o:List V→Hp→Option (V×Hp)}(clr:Clr K p loose mean mg mb Γ dp un)(D:Def prog w K p loose mean mg mb f room o)(h:Js prog w Γ (e::es) g)
  (en:nsIn K mainGlobals x=some (some (.ref f)):=by k_is) (hg:Γ.env.globals=mainGlobals:=by exact rfl) (hk:Γ.env.scope.kind=.function:=by exact rfl) (hx:Γ.env.kindOf x=some .globalImplicit:=by exact rfl) (hd0:(x == ("__debug__":Str))=false:=by exact rfl)
  (hkeep:keepIn K (.ref f)=true:=by k_is) (hd:dp+room<recursionLimit:=by omega) (hu:un+10*room+300<cLine:=by omega)
  (he:Zjg e=false:=by exact rfl) (hp:Zjh es=true:=by exact rfl):J prog w Γ (.Call (.Name x np) (e::es) [] pos) (Z0 o g):=ZvI clr (ZwW clr en hg hk hx hd0) hkeep D hd hu h (ZmP he) (fun pos=>Zro pos hp)
theorem Z1{name qual:Str}{params:Arguments}{body:List Stmt}{scope:Scope}{dV kV doc pm cdv ct oc:Value}{an od:Option Addr}{osl:Array (Option Value)}{f:Addr}{names:List Str}{n room:Nat}{g:Sm}
  (hbody:∀(dp un:Nat) (gd:Option (List Code)) (L:Addr) (outer:List Env) (h₀:Heap) (hu:un+200<cLine),Clr K p loose mean mg mb (Zbu dp un gd qual scope L f cdv (cellsFrom (L+1) scope.names []) outer h₀ hu names) dp un→dp+room<recursionLimit→un+10*room+300<cLine →
   Ss prog w (Zbu dp un gd qual scope L f cdv (cellsFrom (L+1) scope.names []) outer h₀ hu names) body g)
  (ho:K.lookup f=some ⟨oc,od,.func (fnOf name qual params body scope dV kV doc pm an cdv ct),osl⟩:=by k_is) (hcd:codeIn K cdv qual=true:=by k_is) (nd:names.Nodup:=by decide) (hn:n≤names.length:=by decide)
  (hbind:∀s xs,xs.length=n→BindsTo s (fnOf name qual params body scope dV kV doc pm an cdv ct) ⟨xs,[]⟩ ((names.take n).zip xs):=by
   intro s xs hx
   first
   | (obtain⟨x0,rfl⟩:=ln1 hx;exact BindsTo.of_eq rfl)
   | (obtain⟨x0,x1,rfl⟩:=ln2 hx;exact BindsTo.of_eq rfl)
   | (obtain⟨x0,x1,x2,rfl⟩:=ln3 hx;exact BindsTo.of_eq rfl)
   | (obtain⟨x0,x1,x2,x3,rfl⟩:=ln4 hx;exact BindsTo.of_eq rfl)
   | (obtain⟨x0,x1,x2,x3,x4,rfl⟩:=ln5 hx;exact BindsTo.of_eq rfl)
   | (obtain⟨x0,x1,x2,x3,x4,x5,rfl⟩:=ln6 hx;exact BindsTo.of_eq rfl)
   | (obtain⟨x0,x1,x2,x3,x4,x5,x6,rfl⟩:=ln7 hx;exact BindsTo.of_eq rfl)) (hkinds:∀x∈names.take n,scope.names.lookup x=some .local∨scope.names.lookup x=some .cell:=by decide) (hone:((cellsFrom 0 scope.names []).map (·.1)).Nodup:=by decide +kernel)
  (hco:scope.isCoroutine=false:=by exact rfl) (hgen:scope.isGenerator=false:=by exact rfl) (hk:scope.kind=.function:=by exact rfl):
  Def prog w K p loose mean mg mb f (room+1) (ZK n g):=ZqL ho hcd nd hn hbind hkinds hone hco hgen hk hbody
end
section
variable {prog:Program} {w:World} {Γ:Cx} {scope:Scope} {cl:List (Str×Addr)} {C:Addr} {ts:List (Str×Nat)} {ρ0:Lc}
theorem vO{x:Str}{t:Nat}{pos:Pos}(hm:(x,t)∈ts:=by first | exact Zz5 | exact Zz2 _ Zz5)(hk:scope.kind=.function:=by exact rfl)(hl:(compEnvC scope cl C Γ.env).kindOf x=some .local:=by exact rfl)(hd:(x == ("__debug__":Str))=false:=by exact rfl): J prog w (Za9 Γ scope cl C ts ρ0) (.Name x pos) (Zl t):=Zjt (ZvK hm hk hl hd)
end
section
variable {prog:Program} {w:World} {dp un:Nat} {gd:Option (List Code)} {cn:Str} {cs:Scope} {L a:Addr} {ccd:Value} {clf:List (Str×Addr)} {outer:List Env} {h₀:Heap} {hu:un+200<cLine} {names:List Str} {scope:Scope} {cl:List (Str×Addr)} {C:Addr} {ts:List (Str×Nat)} {ρ0:Lc}
theorem vD{x:Str}{i:Nat}{pos:Pos}(hi:names[i]?=some x:=by rfl)(hx:cs.names.lookup x=some .cell:=by exact rfl)(hne:∀p∈ts,p.2≠i:=by decide)(hcl:cl.lookup x=clf.lookup x:=by exact rfl)(hk:scope.kind=.function:=by exact rfl)(hl:(compEnvC scope cl C (envX cn cs L a ccd clf)).kindOf x=some .cell:=by exact rfl)(hd:(x == ("__debug__":Str))=false:=by exact rfl):
  J prog w (Za9 (Zbu dp un gd cn cs L a ccd clf outer h₀ hu names) scope cl C ts ρ0) (.Name x pos) (Zl i):=Zjt (ZvL hi hx hne hcl hk hl hd)
end
end PM
end
noncomputable section
open PySem PM TM
namespace L
variable {H:Hp} {a:V} {t:T} {F:List Nat} {ρ:Lc} {σ:TL}
def Zgi: XS [] [] [] false:=⟨_,_,(Zj (ZE (i:=2) (O':=[]) (ZV Zab (ZV ZaX (ZV ZaX (Za 1) (Za 1)) (Zc 7919)) (Zc 11))) (Zj (ZF (Zq (Zk Zcw (Z8 Zam (Zb (Za 0) Zd)) (Zc 0))) (ZE (i:=2) (O':=[]) (ZV Zab (Za 2) (Zg Zf (Za 0) (Zk ZaW (Za 1) (Z8 Zam (Zb (Za 0) Zd)))))) ZG) (Zw (Za 2))))⟩
def ZnT:=ZK 2 (XS.g Zgi)
def Zkq:=ZN 2 (XS.q Zgi)
theorem ZnU: SimF false ZnT Zkq:=ZU (XS.h Zgi)
def Zgx: XS [] [] [] false:=⟨_,_,(Zw (Zk ZaW (Zk ZaW (ZV ZaX (Zu ZnU (Zb (Za 0) (Zb (Za 1) Zd))) (Zc 48271)) (Zc 2147483647)) (Za 2)))⟩
def ZdA:=ZK 3 (XS.g Zgx)
def ZcP:=ZN 3 (XS.q Zgx)
theorem Zb7: SimF false ZdA ZcP:=ZU (XS.h Zgx)
def Zf7: XS [] [] [] false:=⟨_,_,(Zj (ZE (i:=2) (O':=[]) (Zu ZnU (Zb (Za 0) (Zb (Za 1) Zd)))) (Zj (ZE (i:=3) (O':=[]) (Zg Zf (E.list (Zb (Zc 3) (Zb (Zc 9) (Zb (Zk ZmG (Zc 10) (Zc 9)) (Zb (Zk ZmG (Zc 10) (Zc 40)) Zd))))) (Zk ZaW (Zk ZaW (ZV ZaX (Za 2) (Zc 69621)) (Zc 2147483629)) (Zc 4)))) (Zw (Zk Za4 (Zk ZaW (ZV ZaX (Za 2) (Zk ZmG (Zc 48271) (Zc 9))) (ZV Zab (ZV ZaX (Zc 2) (Za 3)) (Zc 1))) (Za 3)))))⟩
def Zke:=ZK 2 (XS.g Zf7)
def Zh2:=ZN 2 (XS.q Zf7)
theorem Zf8: SimF false Zke Zh2:=ZU (XS.h Zf7)
def Zgj: XS [] [] [] false:=⟨_,_,(Zj (ZE (i:=2) (O':=[]) (Zu Zb7 (Zb (Za 0) (Zb (Za 1) (Zb (Zc 42) Zd))))) (Zj (ZF (Zq (Zk Zb1 (Zk ZaW (Za 2) (Zc 6)) (Zc 2))) (Zw (ZM)) ZG) (Zj (ZF (Zq (Zk Zb1 (Zk ZaW (Za 2) (Zc 6)) (Zc 4))) (Zw (Zc 0)) ZG) (Zj (ZF (Zq (Zk Z6 (Zk ZaW (Za 2) (Zc 6)) (Zc 4))) (Zw (Zk ZcI (Za 2) (Zc 6))) ZG) (Zw (Z8 ZcJ (Zb (Zu Zf8 (Zb (Za 0) (Zb (Za 1) Zd))) Zd)))))))⟩
def ZnV:=ZK 2 (XS.g Zgj)
def Zkr:=ZN 2 (XS.q Zgj)
theorem Zs6: SimF false ZnV Zkr:=ZU (XS.h Zgj)
def ZfX: XS [] [] [] false:=⟨_,_,(Zj (ZF (Zq (Zk Z6 (Za 0) (Zc 0))) (Zw (E.tup (Zb (Zc 0) (Zb (Za 1) Zd)))) ZG) (Zw (E.tup (Zb (Za 0) (Zb (Zk ZaW (Za 1) (Za 0)) Zd)))))⟩
def Znt:=ZK 2 (XS.g ZfX)
def ZjZ:=ZN 2 (XS.q ZfX)
theorem ZeL: SimF false Znt ZjZ:=ZU (XS.h ZfX)
def Zgy: XS [] [] [] false:=⟨_,_,(Zj (ZE (i:=3) (O':=[]) (Zu Zb7 (Zb (Za 0) (Zb (Za 1) (Zb (Zc 60) Zd))))) (Zj (ZF (Zq (Zk Zb1 (Zk ZaW (Za 3) (Zc 5)) (Zc 2))) (Zw (E.tup (Zb (Zc 1) (Zb (Zc 0) Zd)))) ZG) (Zj (ZF (Zq (Zk Z6 (Zk ZaW (Za 3) (Zc 5)) (Zc 2))) (Zw (E.tup (Zb (Zc 0) (Zb (Za 2) Zd)))) ZG) (Zj (ZF (Zq (Zk Z6 (Zk ZaW (Za 3) (Zc 5)) (Zc 3))) (Zw (Zu ZeL (Zb (ZV Zab (Zk ZcI (Za 3) (Zc 5)) (Zc 1)) (Zb (Za 2) Zd)))) ZG) (Zw (Zu ZeL (Zb (Z8 ZcJ (Zb (Zu Zf8 (Zb (Za 0) (Zb (Za 1) Zd))) Zd)) (Zb (Za 2) Zd))))))))⟩
def Zos:=ZK 3 (XS.g Zgy)
def ZkL:=ZN 3 (XS.q Zgy)
theorem Ztv: SimF false Zos ZkL:=ZU (XS.h Zgy)
def Zgz: XS [] [5] [] true:=⟨_,_,(Zj (ZE (i:=3) (O':=[]) (ZV Zab (E.list (Zb (Zc 0) Zd)) (Za 2))) (Zj (ZE (i:=4) (O':=[]) (Z8 Zam (Zb (Za 3) Zd))) (Zj (Zcb (i:=5) (O':=[5]) (E.list Zd)) (Zj (ZaG (Gs.range (Zb (Za 4) Zd)) (PutOk.one (j:=6)) (by decide) (by decide) (Zj (Zcb (i:=7) (O':=[5,7]) (Zbc (O':=[]) (E.list Zd))) (Zj (ZaG (Gs.range (Zb (Za 4) Zd)) (PutOk.one (j:=8)) (by decide) (by decide) (Zj (ZE (i:=9) (O':=[5,7]) (Zu Zs6 (Zb (Za 0) (Zb (ZV Zab (ZV Zab (Za 1) (ZV ZaX (Za 6) (Za 4))) (Za 8)) Zd)))) (Zj (ZF (Zq (Zk Zbg (Za 9) (ZM))) (ZE (i:=9) (O':=[5,7]) (ZV Zab (Zk Za4 (Zg Zf (Za 3) (Za 6)) (Zg Zf (Za 3) (Za 8))) (Za 9))) ZG) (ZmK (x:=7) (O':=[5,7]) (by decide) Zbs (Zbc (O':=[5]) (E.flat (Za 9))) (by decide) (by decide))))) (Zj (S.put (x:=7) (O':=[5,7]) (by decide) (Zbc (O':=[5]) (Zc 0)) Zbs (Za 6) (by decide) (by decide)) (ZmK (x:=5) (O':=[5]) (by decide) Zbs (Zbc (O':=[7]) (E.own (i:=7) (by decide))) (by decide) (by decide)))))) (ZaS (E.tup (ZlG (E.own (i:=5) (by decide)) (ZlG (ZcY (Gs.range (Zb (Zk Za4 (Za 4) (Zc 1)) Zd)) (PutOk.one (j:=100)) (by decide) Zaj (Zbc (O':=[]) (E.flat (Zu Ztv (Zb (Za 0) (Zb (ZV Zab (ZV Zab (Za 1) (ZV ZaX (Za 4) (Za 4))) (Za 100)) (Zb (Zg Zf (Za 2) (Za 100)) Zd))))))) Zd (by decide) (by decide)) (by decide) (by decide))))))))⟩
def Zot:=ZK 3 (XS.g Zgz)
def ZkM:=ZN 3 (XS.q Zgz)
theorem Ztw: SimF true Zot ZkM:=ZU (XS.h Zgz)
def ZkN: Sm:=Z9 (sIf (Zak (Zy oIs (Zl 0) (ZaF))) (Zau (ZaF)) ZaP) (Zau (Zc8 (Zz (Zbm (ZcM (Zy ZY (Zl 0) (ZJ 0))) (put1 100) Zbo (Z0 Zem (Zz (Zl 100) ZZ))) (Zz (Z0 Zem (Zz (Zy ZY (Zl 0) (ZJ 1)) ZZ)) ZZ))))
def Zou:=ZK 1 ZkN
def ZkO: PS:=(Z3 (qIf (Z5 (Zm qIs (Ze 0) (Zaz))) (Zav (Zaz)) ZaD) (Zav (ZfC (Zr (ZaC (ZaT (Zm ZA (Ze 0) (Zv 0))) (Zag 100) Zas (ZT Zds (Zr (Ze 100) ZL))) (Zr (ZT Zds (Zr (Zm ZA (Ze 0) (Zv 1)) ZL)) ZL)))))
def Zii:=ZN 1 ZkO
theorem Ztx: SimF false Zou Zii:=ZU (show S [] [] [] false ZkN ZkO from(Zj (ZF (Zq (Zk Za0 (Za 0) (ZM))) (Zw (ZM)) ZG) (Zw (E.tup (Zb (ZbA (Gs.seq (Zg Zf (Za 0) (Zc _))) PutOk.one (by decide) Zaj (ZiM Zdo (Zb (Za 100) Zd))) (Zb (ZiM Zdo (Zb (Zg Zf (Za 0) (Zc _)) Zd)) Zd))))))
def Zgk: XS [] [] [] false:=⟨_,_,(Zw ((ZhM (E.sh (Zk Za0 (Za 1) (ZM))) (E.sh ((Zc7 (E.sh (Zk Zbg (Za 0) (ZM))) (E.sh (Zk ZhN (Za 0) (Za 1)))))))))⟩
def ZnW:=ZK 2 (XS.g Zgk)
def Zks:=ZN 2 (XS.q Zgk)
theorem ZnX: SimF false ZnW Zks:=ZU (XS.h Zgk)
def ZgA: XS [] [] [] false:=⟨_,_,(Zj (ZF (Zq (Zk Z6 (Zg Zf (Za 0) (Zc 0)) (Zc 0))) (Zw (Zk Z6 (Za 1) (Zg Zf (Za 0) (Zc 1)))) ZG) (Zw (Zk Z6 (Zk ZaW (Za 1) (Zg Zf (Za 0) (Zc 0))) (Zg Zf (Za 0) (Zc 1)))))⟩
def Zov:=ZK 2 (XS.g ZgA)
def ZkP:=ZN 2 (XS.q ZgA)
theorem ZgB: SimF false Zov ZkP:=ZU (XS.h ZgA)
def ZfY: XS [] [] [] false:=⟨_,_,(Zj (ZF (Zq (Zk Z6 (Zg Zf (Za 1) (Zc 0)) (Zc 0))) (Zw (Zk Z6 (Za 0) (Za 1))) ZG) (Zw ((Zc7 (E.sh (Zk Z6 (Zk ZaW (Zg Zf (Za 0) (Zc 0)) (Zg Zf (Za 1) (Zc 0))) (Zc 0))) (E.sh (Zu ZgB (Zb (Za 1) (Zb (Zg Zf (Za 0) (Zc 1)) Zd))))))))⟩
def Znu:=ZK 2 (XS.g ZfY)
def Zj0:=ZN 2 (XS.q ZfY)
theorem Zsh: SimF false Znu Zj0:=ZU (XS.h ZfY)
def ZfZ: XS [] [] [] false:=⟨_,_,(Zj (ZF (Zq (Zk Z6 (Zg Zf (Za 1) (Zc 0)) (Zc 0))) (Zw (Zk Z6 (Za 0) (Za 1))) ZG) (Zw ((Zc7 (E.sh (Zk Z6 (Zk ZaW (Zg Zf (Za 0) (Zc 0)) (Zg Zf (Za 1) (Zc 0))) (Zc 0))) (E.sh (Zk Z6 (Zk ZaW (Zk Za4 (Zg Zf (Za 0) (Zc 1)) (Zg Zf (Za 1) (Zc 1))) (Zg Zf (Za 1) (Zc 0))) (Zc 0)))))))⟩
def Znv:=ZK 2 (XS.g ZfZ)
def Zj1:=ZN 2 (XS.q ZfZ)
theorem Zsi: SimF false Znv Zj1:=ZU (XS.h ZfZ)
def Zgl: XS [] [] [] false:=⟨_,_,(Zj (ZF (Zq (Zk Za0 (Za 1) (ZM))) (Zw (E.bool true)) ZG) (Zw ((Zc7 (E.sh (Zk Zbg (Za 0) (ZM))) (E.sh (Zk ZhN (Za 0) (Za 1)))))))⟩
def ZnY:=ZK 2 (XS.g Zgl)
def Zkt:=ZN 2 (XS.q Zgl)
theorem Zs7: SimF false ZnY Zkt:=ZU (XS.h Zgl)
def ZeN: XS [] [] [] false:=⟨_,_,(Zj (ZF (ZaM (Zq (Zk Za0 (Za 0) (ZM))) (ZaM (Zq (Zk Za0 (Za 1) (ZM))) ZbX)) (Zw (Zk Za0 (Za 0) (ZM))) ZG) (Zj (ZaG (Gs.range (Zb (Z8 Zam (Zb (Zg Zf (Za 0) (Zc 0)) Zd)) Zd)) (PutOk.one (j:=2)) (by decide) (by decide) (ZaG (Gs.range (Zb (Z8 Zam (Zb (Zg Zf (Za 0) (Zc 0)) Zd)) Zd)) (PutOk.one (j:=3)) (by decide) (by decide) (ZF (ZbI (Zq (Zu Zs7 (Zb (Zg Zf (Zg Zf (Zg Zf (Za 0) (Zc 0)) (Za 2)) (Za 3)) (Zb (Zg Zf (Zg Zf (Zg Zf (Za 1) (Zc 0)) (Za 2)) (Za 3)) Zd))))) (Zw (E.bool false)) ZG))) (Zj (ZaG (Gs.range (Zb (Z8 Zam (Zb (Zg Zf (Za 0) (Zc 1)) Zd)) Zd)) (PutOk.one (j:=4)) (by decide) (by decide) (ZF (ZbI (Zq (Zu Zsi (Zb (Zg Zf (Zg Zf (Za 0) (Zc 1)) (Za 4)) (Zb (Zg Zf (Zg Zf (Za 1) (Zc 1)) (Za 4)) Zd))))) (Zw (E.bool false)) ZG)) (Zw (E.bool true)))))⟩
def ZnG:=ZK 2 (XS.g ZeN)
def ZdY:=ZN 2 (XS.q ZeN)
theorem ZsJ: SimF false ZnG ZdY:=ZU (XS.h ZeN)
def Ziu: XS [] [] [] false:=⟨_,_,(Zj (ZE (i:=0) (O':=[]) (Z8 ZcJ (Zb (Za 0) Zd))) (Zj (ZE (i:=1) (O':=[]) (Z8 ZcJ (Zb (Za 1) Zd))) (Zj (Zfe (Zq (Zk Zbi (Za 1) (Zc 0))) (Zj (ZE (i:=2) (O':=[]) (Zk ZaW (Za 0) (Za 1))) (Zj (ZE (i:=0) (O':=[]) (Za 1)) (ZE (i:=1) (O':=[]) (Za 2)))) 1000000) (Zw (Za 0)))))⟩
def Zuf:=ZK 2 (XS.g Ziu)
def Zli:=ZN 2 (XS.q Ziu)
theorem Zlj: SimF false Zuf Zli:=ZU (XS.h Ziu)
def ZgO: XS [] [] [] false:=⟨_,_,(Zj (ZE (i:=2) (O':=[]) (Z8 ZcJ (Zb (Za 0) Zd))) (Zj (ZE (i:=3) (O':=[]) (Z8 ZcJ (Zb (Za 1) Zd))) (Zj (Zfe (Zq (Zk Zbi (Za 3) (Zc 0))) (Zj (ZE (i:=4) (O':=[]) (Zk ZaW (Za 2) (Za 3))) (Zj (ZE (i:=2) (O':=[]) (Za 3)) (ZE (i:=3) (O':=[]) (Za 4)))) 1000000) (Zw (Za 2)))))⟩
def ZoX:=ZK 2 (XS.g ZgO)
def Zlk:=ZN 2 (XS.q ZgO)
theorem Zll: SimF false ZoX Zlk:=ZU (XS.h ZgO)
def Zhu: XS [] [] [] false:=⟨_,_,(Zj (ZF (Zq (Zk Zb1 (Za 0) (Zc 0))) (Zyj (g:=PM.sNo) (O':=[])) ZG) (Zj (ZF (Zq (Zk Z6 (Za 0) (Zc 0))) (Zw (E.tup (Zb (Zc 0) (Zb (Za 1) Zd)))) ZG) (Zw (E.tup (Zb (Za 0) (Zb (Zk ZaW (Za 1) (Za 0)) Zd))))))⟩
def ZqV:=ZK 2 (XS.g Zhu)
def Zmt:=ZN 2 (XS.q Zhu)
theorem Zji: SimF false ZqV Zmt:=ZU (XS.h Zhu)
def ZgP: XS [] [] [] false:=⟨_,_,(Zj (ZE (i:=2) (O':=[]) (Zk ZaW (Za 0) (Za 1))) (Zj (ZE (i:=3) (O':=[]) (Za 1)) (Zj (ZE (i:=4) (O':=[]) (Zc 1)) (Zj (ZE (i:=5) (O':=[]) (Zc 0)) (Zj (Zfe (Zq (Zk Zbi (Za 3) (Zc 0))) (Zj (ZE (i:=6) (O':=[]) (Zk ZcI (Za 2) (Za 3))) (Zj (ZE (i:=7) (O':=[]) (Zk Za4 (Za 2) (ZV ZaX (Za 6) (Za 3)))) (Zj (ZE (i:=8) (O':=[]) (Zk Za4 (Za 4) (ZV ZaX (Za 6) (Za 5)))) (Zj (ZE (i:=2) (O':=[]) (Za 3)) (Zj (ZE (i:=4) (O':=[]) (Za 5)) (Zj (ZE (i:=3) (O':=[]) (Za 7)) (ZE (i:=5) (O':=[]) (Za 8)))))))) 1000000) (Zw (Zk ZaW (Za 4) (Za 1))))))))⟩
def ZoY:=ZK 2 (XS.g ZgP)
def Zlm:=ZN 2 (XS.q ZgP)
theorem Zug: SimF false ZoY Zlm:=ZU (XS.h ZgP)
def ZgC: XS [] [] [] false:=⟨_,_,(Zj (ZF (Zq (Zk Z6 (Zg Zf (Za 0) (Zc 0)) (Zc 0))) (Zw (Zew (Zq (Zu ZgB (Zb (Za 1) (Zb (Zg Zf (Za 0) (Zc 1)) Zd)))) (E.sh (Za 0)) (E.sh (ZM)))) ZG) (Zj (ZF (Zq (Zk Z6 (Zg Zf (Za 1) (Zc 0)) (Zc 0))) (Zw (Zew (Zq (Zu ZgB (Zb (Za 0) (Zb (Zg Zf (Za 1) (Zc 1)) Zd)))) (E.sh (Za 1)) (E.sh (ZM)))) ZG) (Zj (ZE (i:=2) (O':=[]) (Zu Zll (Zb (Zg Zf (Za 0) (Zc 0)) (Zb (Zg Zf (Za 1) (Zc 0)) Zd)))) (Zj (ZE (i:=3) (O':=[]) (Zk Za4 (Zg Zf (Za 1) (Zc 1)) (Zg Zf (Za 0) (Zc 1)))) (Zj (ZF (Zq (Zk Zbi (Zk ZaW (Za 3) (Za 2)) (Zc 0))) (Zw (ZM)) ZG) (Zj (ZE (i:=4) (O':=[]) (Zk ZcI (Zg Zf (Za 1) (Zc 0)) (Za 2))) (Zj (ZE (i:=5) (O':=[]) (ZV ZaX (Zk ZcI (Za 3) (Za 2)) (Zu Zug (Zb (Zk ZcI (Zg Zf (Za 0) (Zc 0)) (Za 2)) (Zb (Za 4) Zd))))) (Zw (Zu Zji (Zb (ZV ZaX (Zg Zf (Za 0) (Zc 0)) (Za 4)) (Zb (ZV Zab (Zg Zf (Za 0) (Zc 1)) (ZV ZaX (Zg Zf (Za 0) (Zc 0)) (Za 5))) Zd)))))))))))⟩
def Zow:=ZK 2 (XS.g ZgC)
def ZkQ:=ZN 2 (XS.q ZgC)
theorem Zox: SimF false Zow ZkQ:=ZU (XS.h ZgC)
def Zgm: XS [] [] [] false:=⟨_,_,(Zw (Zu Zji (Zb (Zu Zll (Zb (Zg Zf (Za 0) (Zc 0)) (Zb (Zg Zf (Za 1) (Zc 0)) Zd))) (Zb (ZV Zab (Zg Zf (Za 0) (Zc 1)) (Zg Zf (Za 1) (Zc 1))) Zd))))⟩
def Zku:=ZK 2 (XS.g Zgm)
def Zib:=ZN 2 (XS.q Zgm)
theorem Zkv: SimF false Zku Zib:=ZU (XS.h Zgm)
def Zf9: XS [] [] [] false:=⟨_,_,(Zw (Zu Zji (Zb (ZV ZaX (Zg Zf (Za 0) (Zc 0)) (Z8 ZcJ (Zb (Za 1) Zd))) (Zb (ZV ZaX (Zg Zf (Za 0) (Zc 1)) (Za 1)) Zd))))⟩
def Zkf:=ZK 2 (XS.g Zf9)
def Zh3:=ZN 2 (XS.q Zf9)
theorem Zkg: SimF false Zkf Zh3:=ZU (XS.h Zf9)
def Zga: XS [] [] [] false:=⟨_,_,(Zj (ZF (Zq (Zk Z6 (Zg Zf (Za 0) (Zc 0)) (Zc 0))) (Zw (Zew (Zq (Zk ZhN (Zg Zf (Za 0) (Zc 1)) (Za 1))) (E.sh (Zg Zf (Za 0) (Zc 1))) (E.sh (ZM)))) ZG) (Zw (Zk Za4 (Za 1) (Zk ZaW (Zk Za4 (Za 1) (Zg Zf (Za 0) (Zc 1))) (Zg Zf (Za 0) (Zc 0))))))⟩
def ZnH:=ZK 2 (XS.g Zga)
def Zkh:=ZN 2 (XS.q Zga)
theorem ZsK: SimF false ZnH Zkh:=ZU (XS.h Zga)
def Zg5: XS [] [] [] false:=⟨_,_,(Zw (Zew (Zq (Zu ZnX (Zb (Za 0) (Zb (Za 1) Zd)))) (E.sh (Za 0)) (E.sh (Za 1))))⟩
def ZlL:=ZK 2 (XS.g Zg5)
def ZiD:=ZN 2 (XS.q Zg5)
theorem Zpt: SimF false ZlL ZiD:=ZU (XS.h Zg5)
def ZgD: XS [] [] [] false:=⟨_,_,(Zj (ZF (ZaM (Zq (Zk Za0 (Za 0) (ZM))) (ZaM (Zq (Zk Za0 (Za 1) (ZM))) ZbX)) (Zw (ZM)) ZG) (Zw (ZV Zab (Za 0) (Za 1))))⟩
def Zoy:=ZK 2 (XS.g ZgD)
def ZkR:=ZN 2 (XS.q ZgD)
theorem ZeV: SimF false Zoy ZkR:=ZU (XS.h ZgD)
def ZfG: XS [] [] [] true:=⟨_,_,(ZaS (ZcY (Gs.zip (Za 0) (Za 2)) (PutOk.two (i:=100) (j:=101)) (by decide) Zaj (E.flat (Zu Zpt (Zb (Za 100) (Zb (Zu ZeV (Zb (Za 1) (Zb (Za 101) Zd))) Zd))))))⟩
def Zm8:=ZK 3 (XS.g ZfG)
def ZjM:=ZN 3 (XS.q ZfG)
theorem ZrG: SimF true Zm8 ZjM:=ZU (XS.h ZfG)
def Zgn: XS [] [] [] true:=⟨_,_,(ZaS (ZcY (Gs.seq (Za 0)) (PutOk.one (j:=100)) (by decide) Zaj (Zbn ZrG (Zb (Za 100) (Zb (Zg Zf (Za 100) (Za 1)) (Zb (Zg Zf (Za 0) (Za 1)) Zd))))))⟩
def ZnZ:=ZK 2 (XS.g Zgn)
def Zkw:=ZN 2 (XS.q Zgn)
theorem Zn0: SimF true ZnZ Zkw:=ZU (XS.h Zgn)
def ZfR: XS [] [] [] false:=⟨_,_,(Zw (Z8 ZxX (Zb (ZbA (Gs.range (Zb (Z8 Zam (Zb (Za 0) Zd)) Zd)) (PutOk.one (j:=100)) (by decide) Zaj (Zk Zb1 (Zg Zf (Zg Zf (Za 0) (Za 100)) (Za 100)) (Zc 0))) Zd)))⟩
def Znk:=ZK 1 (XS.g ZfR)
def ZjT:=ZN 1 (XS.q ZfR)
theorem Znl: SimF false Znk ZjT:=ZU (XS.h ZfR)
def Zg6: XS [] [1] [] true:=⟨_,_,(Zj (ZE (i:=1) (O':=[]) (Za 0)) (Zj (ZxB (Gs.range (Zb (Z8 Zam (Zb (Za 0) Zd)) Zd)) (PutOk.one (j:=2)) (PutOk.one (j:=2)) (by decide) (by decide) (by decide) (Zj (Zcb (i:=1) (O':=[1]) (Zbn Zn0 (Zb (Za 1) (Zb (Za 2) Zd)))) (ZF (Zq (Zu Znl (Zb (Za 1) Zd))) (ZaS (ZM)) ZG)) (Zj (Zcb (i:=1) (O':=[1]) (Zbc (O':=[]) (Zbn Zn0 (Zb (Za 1) (Zb (Za 2) Zd))))) (ZF (Zq (Zu Znl (Zb (Za 1) Zd))) (ZaS (ZM)) ZG))) (ZaS (E.own (i:=1) (by decide)))))⟩
def Ze7:=ZK 1 (XS.g Zg6)
def Zg7:=ZN 1 (XS.q Zg6)
theorem Zu9: SimF true Ze7 Zg7:=ZU (XS.h Zg6)
def Zgo: XS [] [] [] false:=⟨_,_,(Zw ((Zc7 (E.sh (Zdx (K:="int") (Za 0))) (E.sh (ZmF (Zdx (K:="bool") (Za 0)))))))⟩
def Zn1:=ZK 1 (XS.g Zgo)
def Zkx:=ZN 1 (XS.q Zgo)
theorem Zky: SimF false Zn1 Zkx:=ZU (XS.h Zgo)
def ZgE: XS [] [] [] false:=⟨_,_,(Zj (ZF (ZaM (ZbI (Zq (Zdx (K:="list") (Za 0)))) (ZaM (Zq (Zk Zbi (Z8 Zam (Zb (Za 0) Zd)) (Za 1))) ZbX)) (Zw (E.bool false)) ZG) (Zj (ZaG (Gs.range (Zb (Za 1) Zd)) (PutOk.one (j:=2)) (by decide) (by decide) (Zj (ZF (ZaM (ZbI (Zq (Zdx (K:="list") (Zg Zf (Za 0) (Za 2))))) (ZaM (Zq (Zk Zbi (Z8 Zam (Zb (Zg Zf (Za 0) (Za 2)) Zd)) (Za 1))) ZbX)) (Zw (E.bool false)) ZG) (Zj (ZaG (Gs.seq (Zg Zf (Za 0) (Za 2))) (PutOk.one (j:=3)) (by decide) (by decide) (ZF (Zah (Zq (Zk Zbg (Za 3) (ZM))) (Zah (ZbI (Zq (Zu Zky (Zb (Za 3) Zd)))) Zaj)) (Zw (E.bool false)) ZG)) (ZF (Zq (Zk Zbi (Zg Zf (Zg Zf (Za 0) (Za 2)) (Za 2)) (Zc 0))) (Zw (E.bool false)) ZG)))) (Zw (E.bool true))))⟩
def Zoz:=ZK 2 (XS.g ZgE)
def ZkS:=ZN 2 (XS.q ZgE)
theorem Zty: SimF false Zoz ZkS:=ZU (XS.h ZgE)
def ZfS: XS [] [] [] false:=⟨_,_,(Zw (E.tup (Zb (Zu ZeV (Zb (Zg Zf (Za 0) (Zc 0)) (Zb (Zg Zf (Za 1) (Zc 0)) Zd))) (Zb (Zu ZeV (Zb (Zg Zf (Za 0) (Zc 1)) (Zb (Zg Zf (Za 1) (Zc 1)) Zd))) Zd))))⟩
def Znm:=ZK 2 (XS.g ZfS)
def ZjU:=ZN 2 (XS.q ZfS)
theorem ZrX: SimF false Znm ZjU:=ZU (XS.h ZfS)
def Zgp: XS [] [] [] false:=⟨_,_,(Zj (ZF (Zq (Zk Za0 (Za 0) (ZM))) (Zw (ZM)) ZG) (Zw (ZV ZaX (Za 0) (Za 1))))⟩
def Zn2:=ZK 2 (XS.g Zgp)
def Zkz:=ZN 2 (XS.q Zgp)
theorem Zic: SimF false Zn2 Zkz:=ZU (XS.h Zgp)
def ZfH: XS [] [] [] false:=⟨_,_,(Zj (ZF (Zq (Zk Z6 (Za 1) (Zc 0))) (Zw (E.tup (Zb (Zc 0) (Zb (Zc 0) Zd)))) ZG) (Zj (ZE (i:=2) (O':=[]) (Zu Zic (Zb (Zg Zf (Za 0) (Zc 0)) (Zb (Za 1) Zd)))) (Zj (ZE (i:=3) (O':=[]) (Zu Zic (Zb (Zg Zf (Za 0) (Zc 1)) (Zb (Za 1) Zd)))) (Zj (ZF (Zq (Zk Zb1 (Za 1) (Zc 0))) (Zw (E.tup (Zb (Za 3) (Zb (Za 2) Zd)))) ZG) (Zw (E.tup (Zb (Za 2) (Zb (Za 3) Zd))))))))⟩
def Zm9:=ZK 2 (XS.g ZfH)
def ZjN:=ZN 2 (XS.q ZfH)
theorem ZrH: SimF false Zm9 ZjN:=ZU (XS.h ZfH)
def Zf0: XS [] [] [] false:=⟨_,_,(Zj (ZE (i:=2) (O':=[]) (E.tup (Zb (Zg Zf (Za 0) (Zc 0)) (Zb (Zg Zf (Za 0) (Zc 0)) Zd)))) (Zj (ZaG (Gs.zip (Zhq (k:=1) (Za 0)) (Za 1)) (PutOk.two (i:=3) (j:=4)) (by decide) (by decide) (ZE (i:=2) (O':=[]) (Zu ZrX (Zb (Za 2) (Zb (Zu ZrH (Zb (Za 4) (Zb (Za 3) Zd))) Zd))))) (Zw (Za 2))))⟩
def Znw:=ZK 2 (XS.g Zf0)
def Zj2:=ZN 2 (XS.q Zf0)
theorem Zsj: SimF false Znw Zj2:=ZU (XS.h Zf0)
def ZgF: XS [] [] [] false:=⟨_,_,(Zj (ZE (i:=2) (O':=[]) (E.tup (Zb (Zc 0) (Zb (Zg Zf (Za 0) (Zc 0)) Zd)))) (Zj (ZaG (Gs.zip (Zhq (k:=1) (Za 0)) (Za 1)) (PutOk.two (i:=3) (j:=4)) (by decide) (by decide) (ZE (i:=2) (O':=[]) (Zu Zkv (Zb (Za 2) (Zb (Zu Zkg (Zb (Za 4) (Zb (Za 3) Zd))) Zd))))) (Zw (Za 2))))⟩
def ZoA:=ZK 2 (XS.g ZgF)
def ZkT:=ZN 2 (XS.q ZgF)
theorem Zij: SimF false ZoA ZkT:=ZU (XS.h ZgF)
def ZgQ: XS [] [] [] false:=⟨_,_,(Zw ((Zc7 (E.sh (Zk Zbg (Za 0) (ZM))) (Zc7 (E.sh (Zk Zbg (Za 1) (ZM))) (E.sh (Zk Zcw (Za 0) (Za 1)))))))⟩
def ZoZ:=ZK 2 (XS.g ZgQ)
def ZgR:=ZN 2 (XS.q ZgQ)
theorem Zuh: SimF false ZoZ ZgR:=ZU (XS.h ZgQ)
def Zf1: XS [] [] [] false:=⟨_,_,(Zw (ZV Zab (E.list (Zb (E.tup (Zb (Zc 0) (Zb (Zc 0) Zd))) Zd)) (Za 0)))⟩
def Zf2:=ZK 1 (XS.g Zf1)
def Zf3:=ZN 1 (XS.q Zf1)
theorem Zj3: SimF false Zf2 Zf3:=ZU (XS.h Zf1)
def ZfT: XS [] [] [] false:=⟨_,_,(Zj (ZE (i:=3) (O':=[]) (Zg Zf (Za 1) (Za 2))) (Zj (ZaG (Zwf (Za 1)) (PutOk.two (i:=4) (j:=5)) (by decide) (by decide) (ZF (Zah (Zq (Zk Zbg (Za 3) (ZM))) (Zah (Zq (Zk Z6 (Zu ZeV (Zb (Zg Zf (Zg Zf (Za 0) (Za 2)) (Za 4)) (Zb (Zg Zf (Zg Zf (Za 0) (Za 4)) (Za 2)) Zd))) (Zc 0))) Zaj)) (ZE (i:=3) (O':=[]) (Zu Zox (Zb (Za 3) (Zb (Zu Zkv (Zb (Za 5) (Zb (E.tup (Zb (Zc 0) (Zb (Zg Zf (Zg Zf (Za 0) (Za 2)) (Za 4)) Zd))) Zd))) Zd)))) ZG)) (Zw (Za 3))))⟩
def ZfU:=ZK 3 (XS.g ZfT)
def ZdX:=ZN 3 (XS.q ZfT)
theorem Znn: SimF false ZfU ZdX:=ZU (XS.h ZfT)
def Zf4: Sm:=Z9 (sIf (Zak (Zy oIs (Zl 0) (ZaF))) (Zau (ZaF)) ZaP) (Z9 (ZaI 1 (Z0 Zf2 (Zz (Zy ZY (Zl 0) (ZJ 1)) ZZ))) (Z9 (ZaI 2 (Zbm (Zca (Zz (ZJ 1) (Zz (Z0 ZbO (Zz (Zl 1) ZZ)) ZZ))) (put1 100) Zbo (Z0 ZfU (Zz (Zy ZY (Zl 0) (ZJ 0)) (Zz (Zl 1) (Zz (Zl 100) ZZ)))))) (Z9 (sIf (Zak (Zy oIn (ZaF) (Zl 2))) (Zau (ZaF)) ZaP) (Zau (Zc8 (Zz (Zy ZY (Zl 0) (ZJ 0)) (Zz (Zl 2) ZZ)))))))
def Zdz:=ZK 1 Zf4
def Zf5: PS:=(Z3 (qIf (Z5 (Zm qIs (Ze 0) (Zaz))) (Zav (Zaz)) ZaD) (Z3 (ZaE 1 (ZT Zf3 (Zr (Zm ZA (Ze 0) (Zv 1)) ZL))) (Z3 (ZaE 2 (ZaC (ZbC (Zr (Zv 1) (Zr (ZT Za1 (Zr (Ze 1) ZL)) ZL))) (Zag 100) Zas (ZT ZdX (Zr (Zm ZA (Ze 0) (Zv 0)) (Zr (Ze 1) (Zr (Ze 100) ZL)))))) (Z3 (qIf (Z5 (Zm qIn (Zaz) (Ze 2))) (Zav (Zaz)) ZaD) (Zav (ZfC (Zr (Zm ZA (Ze 0) (Zv 0)) (Zr (Ze 2) ZL))))))))
def Zdf:=ZN 1 Zf5
theorem Zsk: SimF false Zdz Zdf:=ZU (show S [] [] [] false Zf4 Zf5 from(Zj (ZF (Zq (Zk Za0 (Za 0) (ZM))) (Zw (ZM)) ZG) (Zj (ZE (O':=[]) (Zu Zj3 (Zb (Zg Zf (Za 0) (Zc _)) Zd))) (Zj (ZE (O':=[]) (ZbA (Gs.range (Zb (Zc _) (Zb (Z8 Zam (Zb (Za 1) Zd)) Zd))) PutOk.one (by decide) Zaj (Zu Znn (Zb (Zg Zf (Za 0) (Zc _)) (Zb (Za 1) (Zb (Za 100) Zd)))))) (Zj (ZF (Zq (Zk ZeH (ZM) (Za 2))) (Zw (ZM)) ZG) (Zw (E.tup (Zb (Zg Zf (Za 0) (Zc _)) (Zb (Za 2) Zd)))))))))
def Zjj: Sm:=Z9 (sIf (Zak (Zy oIs (Zl 0) (ZaF))) (Zau (ZaF)) ZaP) (Z9 (ZaI 1 (Z0 Ze7 (Zz (Zy ZY (Zl 0) (ZJ 0)) ZZ))) (Z9 (sIf (Zak (Zy oIs (Zl 1) (ZaF))) (Zau (ZaF)) ZaP) (Zau (Zc8 (Zz (Zl 1) (Zz (Zy ZY (Zl 0) (ZJ 1)) ZZ))))))
def ZdK:=ZK 1 Zjj
def Zjk: PS:=(Z3 (qIf (Z5 (Zm qIs (Ze 0) (Zaz))) (Zav (Zaz)) ZaD) (Z3 (ZaE 1 (ZT Zg7 (Zr (Zm ZA (Ze 0) (Zv 0)) ZL))) (Z3 (qIf (Z5 (Zm qIs (Ze 1) (Zaz))) (Zav (Zaz)) ZaD) (Zav (ZfC (Zr (Ze 1) (Zr (Zm ZA (Ze 0) (Zv 1)) ZL)))))))
def ZdL:=ZN 1 Zjk
def Zmu: Sm:=Zau (Z0 Zdz (Zz (Z0 ZdK (Zz (Zl 0) ZZ)) ZZ))
def Zjl:=ZK 1 Zmu
def Zjm: PS:=(Zav (ZT Zdf (Zr (ZT ZdL (Zr (Ze 0) ZL)) ZL)))
def Zhj: T→Bool
 | .none=>true
 | .tup [_,.lst ts]=>T.flats ts
 | _=>false
def Zhv: List T→Option T:=fun ts=>(ZN 1 Zjm ts).bind fun t=>if Zhj t then some t else none
theorem ZqW(hp:0<H.length)(r:RF H a t F): St ⟨H,[],fun x=>x∈F⟩ [] (fun i=>[a][i]?) (fun i=>[t][i]?) H (fun _=>F):=by
 refine⟨fun i u e=>?_,fun i u e x m=>.inr m,fun i hi=>(nomatch hi),Nat.le_refl _,fun x _ _=>rfl,hp,by simp⟩
 cases i with
 | zero=>cases e;exact⟨a,rfl,r⟩
 | succ i=>simp at e
theorem Zp6(e:ρ 0=some a)(r:RF H a t F)(ht:t≠.none): sIf (Zak (Zy oIs (Zl 0) (ZaF))) (Zau (ZaF)) ZaP ρ H=some (none,ρ,H):=by
 cases r <;> first | exact absurd rfl ht | simp[sIf,Zak,Zy,Zl,e,ZaF,oIs,Zcu,ZaP]
theorem Zp7(e:σ 0=some t)(ht:t≠.none): qIf (Z5 (Zm qIs (Ze 0) (Zaz))) (Zav (Zaz)) ZaD σ=some (none,σ):=by
 cases t <;> first | exact absurd rfl ht | simp[qIf,Z5,Zm,Ze,e,Zaz,qIs,ZbB,ZaD]
theorem Zp8(e:σ 0=some .none): qIf (Z5 (Zm qIs (Ze 0) (Zaz))) (Zav (Zaz)) ZaD σ=some (some .none,σ):=by
 simp[qIf,Z5,Zm,Ze,e,Zaz,qIs,ZbB,Zav]
theorem Zm1{a b:PS}{σ1:TL}(h:a σ=some (none,σ1)): Z3 a b σ=b σ1:=by simp only[Z3,h,Option.bind_some]
theorem Zrv{a b:PS}{σ1:TL}(h:a σ=some (some t,σ1)): Z3 a b σ=some (some t,σ1):=by simp only[Z3,h,Option.bind_some]
theorem ZeA{a b:Sm}{ρ1:Lc}{H1:Hp}(h:a ρ H=some (none,ρ1,H1)): Z9 a b ρ H=b ρ1 H1:=by simp only[Z9,h,Option.bind_some]
theorem Zya{a b:Sm}{ρ1:Lc}{H1:Hp}{v:V}(h:a ρ H=some (some v,ρ1,H1)): Z9 a b ρ H=some (some v,ρ1,H1):=by simp only[Z9,h,Option.bind_some]
theorem Ztz{u:T}(hp:0<H.length)(r:RF H a t F)(h:ZdL [t]=some u):
  (u=.none∧∃X,ZdK [a] H=some (.none,H++X))∨∃w0 v1 u0 u1 X F0 F1,u=.tup [u0,u1]∧ZdK [a] H=some (.tup [w0,v1],H++X)∧RF (H++X) w0 u0 F0∧F0.Nodup∧(∀x∈F0,H.length≤x)∧RF (H++X) v1 u1 F1:=by
 have st:=ZqW hp r
 unfold ZdL ZN at h
 simp only[List.length_cons,List.length_nil,Nat.zero_add,if_true]at h
 obtain⟨r1,h,h0⟩:=Zz1.mp h
 unfold Zjk at h
 by_cases hn:t=.none
 ·subst hn
  rw[Zrv (Zp8 rfl)]at h
  cases h
  cases h0
  cases r
  exact .inl ⟨rfl,[],by simp[ZdK,ZK,Zjj,Z9,sIf,Zak,Zy,Zl,ZaF,oIs,Zcu,Zau]⟩
 ·rw[Zm1 (Zp7 (σ:=fun i=>[t][i]?) rfl hn)]at h
  have ev:∀b:Sm,Z9 (sIf (Zak (Zy oIs (Zl 0) (ZaF))) (Zau (ZaF)) ZaP) b (fun i=>[a][i]?) H=b (fun i=>[a][i]?) H:=fun b=>ZeA (Zp6 rfl r hn)
  obtain⟨r2,h1',h⟩:=Zz0.mp h
  obtain⟨u0,h1,e1⟩:=Zz1.mp h1'
  subst e1
  have x1:E [] [] true (Z0 Ze7 (Zz (Zy ZY (Zl 0) (ZJ 0)) ZZ)) (ZT Zg7 (Zr (Zm ZA (Ze 0) (Zv 0)) ZL)):=Zbn Zu9 (Zb (Zg Zf (Za 0) (Zc _)) Zd)
  obtain⟨w0,X,F0,a1,a2,a3,a4⟩:=x1 _ _ _ _ _ _ st h1
  have new:∀x∈F0,H.length≤x:=fun x m=>(a3 x m).nil
  have e2:ZaI 1 (Z0 Ze7 (Zz (Zy ZY (Zl 0) (ZJ 0)) ZZ)) (fun i=>[a][i]?) H=some (none,upd (fun i=>[a][i]?) 1 w0,H++X):=by simp only[ZaI,a1,Option.map_some]
  simp only at h
  have ev2:∀b:Sm,Z9 (ZaI 1 (Z0 Ze7 (Zz (Zy ZY (Zl 0) (ZJ 0)) ZZ))) b (fun i=>[a][i]?) H=b (upd (fun i=>[a][i]?) 1 w0) (H++X):=fun b=>ZeA e2
  have fin:∀o,Z9 (sIf (Zak (Zy oIs (Zl 1) (ZaF))) (Zau (ZaF)) ZaP) (Zau (Zc8 (Zz (Zl 1) (Zz (Zy ZY (Zl 0) (ZJ 1)) ZZ)))) (upd (fun i=>[a][i]?) 1 w0) (H++X)=some o→ZdK [a] H=some (o.1.getD .none,o.2.2):=fun o ho=>by
   unfold ZdK ZK Zjj
   simp only[List.length_cons,List.length_nil,Nat.zero_add,if_true]
   rw[ev,ev2,ho]
   rfl
  by_cases hu:u0=.none
  ·subst hu
   cases a2
   obtain⟨r3,h2,h⟩:=Zz0.mp h
   have:r3=(some .none,ZO (fun i=>[t][i]?) 1 .none):=by
    have:=h2
    simp[qIf,Z5,Zm,Ze,ZO,Zaz,qIs,ZbB,Zav]at this
    exact this.symm
   subst this
   cases h
   cases h0
   refine .inl ⟨rfl,X,fin (some .none,upd (fun i=>[a][i]?) 1 .none,H++X) ?_⟩
   exact Zya (by simp[sIf,Zak,Zy,Zl,upd,ZaF,oIs,Zcu,Zau])
  ·have e3:sIf (Zak (Zy oIs (Zl 1) (ZaF))) (Zau (ZaF)) ZaP (upd (fun i=>[a][i]?) 1 w0) (H++X)=some (none,upd (fun i=>[a][i]?) 1 w0,H++X):=by
    cases a2 <;> first | exact(hu rfl).elim | simp[sIf,Zak,Zy,Zl,upd,ZaF,oIs,Zcu,ZaP]
   have e4:qIf (Z5 (Zm qIs (Ze 1) (Zaz))) (Zav (Zaz)) ZaD (ZO (fun i=>[t][i]?) 1 u0)=some (none,ZO (fun i=>[t][i]?) 1 u0):=by
    cases u0 <;> first | exact(hu rfl).elim | simp[qIf,Z5,Zm,Ze,ZO,Zaz,qIs,ZbB,ZaD]
   rw[Zm1 e4]at h
   obtain⟨u',h5,h6⟩:=Zz1.mp h
   subst h6
   obtain⟨us,h7,h8⟩:=Zz1.mp h5
   subst h8
   obtain⟨q0,g1,h9⟩:=Zz0.mp h7
   obtain⟨qs,g2,h10⟩:=Zz0.mp h9
   cases h10
   obtain⟨q1,g3,g6⟩:=Zz0.mp g2
   obtain⟨qs',g4,g7⟩:=Zz0.mp g6
   cases g7
   cases g4
   have eq0:q0=u0:=by
    have:ZO (fun i=>[t][i]?) 1 u0 1=some q0:=g1
    simp[ZO]at this
    exact this.symm
   subst eq0
   have g5:ZA t (.int 1)=some q1:=by
    have:=g3
    simpa [Zm,Ze,ZO,Zv]using this
   obtain⟨v1,F1,b1,b2,b3⟩:=Zf _ _ _ _ _ _ _ _ (r.ext X) (RF.int (H:=H++X) 1) g5
   cases h0
   refine .inr ⟨w0,v1,q0,q1,X,F0,F1,rfl,fin (some (.tup [w0,v1]),upd (fun i=>[a][i]?) 1 w0,H++X) ?_,a2,a4 rfl,new,b2⟩
   rw[ZeA e3]
   simp[Zau,Zc8,Zz,Zl,upd,Zy,ZJ,b1,ZZ,Za6]
theorem Zo0{put:T→TL→Option TL}{f:PE}{σ:TL}: ∀{ts us:List T},ZbZ put Zas f σ ts=some us→T.flats us=true→ZbZ put Zas (Zc6 f) σ ts=some us
 | [],_,h,_=>h
 | t::ts,us,h,hf=>by
  obtain⟨σ1,h1,h⟩:=Zz0.mp h
  simp only[Zas,Option.bind_some,if_true]at h
  obtain⟨x,h2,h⟩:=Zz0.mp h
  obtain⟨xs,h3,h⟩:=Zz1.mp h
  subst h
  simp only[T.flats,Bool.and_eq_true]at hf
  simp only[ZbZ,h1,Option.bind_some,Zas,if_true,Zc6,h2,hf.1,Zo0 h3 hf.2,Option.map_some]
theorem ZoB{u:T}(hp:0<H.length)(r:RF H a t F)(h:Zdf [t]=some u)(ok:Zhj u=true):
  (u=.none∧∃X,Zdz [a] H=some (.none,H++X))∨∃w0 w1 u0 u1 X F1,u=.tup [u0,u1]∧ZY a (.int 0) H=some (w0,H)∧ZA t (.int 0)=some u0∧Zdz [a] H=some (.tup [w0,w1],H++X)∧RF (H++X) w1 u1 F1∧F1.Nodup∧(∀x∈F1,H.length≤x):=by
 have st:=ZqW hp r
 have hfull:=h
 unfold Zdf ZN at h
 simp only[List.length_cons,List.length_nil,Nat.zero_add,if_true]at h
 obtain⟨r1,h,h0⟩:=Zz1.mp h
 unfold Zf5 at h
 by_cases hn:t=.none
 ·subst hn
  rw[Zrv (Zp8 rfl)]at h
  cases h
  cases h0
  cases r
  exact .inl ⟨rfl,[],by simp[Zdz,ZK,Zf4,Z9,sIf,Zak,Zy,Zl,ZaF,oIs,Zcu,Zau]⟩
 ·rw[Zm1 (Zp7 (σ:=fun i=>[t][i]?) rfl hn)]at h
  have ev:∀b:Sm,Z9 (sIf (Zak (Zy oIs (Zl 0) (ZaF))) (Zau (ZaF)) ZaP) b (fun i=>[a][i]?) H=b (fun i=>[a][i]?) H:=fun b=>ZeA (Zp6 rfl r hn)
  obtain⟨r2,h1',h⟩:=Zz0.mp h
  obtain⟨t1,h1,e1⟩:=Zz1.mp h1'
  subst e1
  have x1:E [] ([0]++[]) false (Z0 Zf2 (Zz (Zy ZY (Zl 0) (ZJ 1)) ZZ)) (ZT Zf3 (Zr (Zm ZA (Ze 0) (Zv 1)) ZL)):=Zu Zj3 (Zb (Zg Zf (Za 0) (Zc _)) Zd)
  obtain⟨v1,X1,Fr,a1,a2,a3,_⟩:=x1 _ _ _ _ _ _ st h1
  have st1:=(st.ext X1).put (j:=1) (by simp) a2 (fun x m=>st.from_src (a3 x m)) (fun i hi=>(nomatch hi))
  have ev1:∀b:Sm,Z9 (ZaI 1 (Z0 Zf2 (Zz (Zy ZY (Zl 0) (ZJ 1)) ZZ))) b (fun i=>[a][i]?) H=b (upd (fun i=>[a][i]?) 1 v1) (H++X1):=fun b=>ZeA (by simp only[ZaI,a1,Option.map_some])
  simp only at h
  obtain⟨r3,h2',h⟩:=Zz0.mp h
  obtain⟨t2,h2,e2⟩:=Zz1.mp h2'
  subst e2
  simp only at h
  generalize hσ:ZO (fun i=>[t][i]?) 1 t1=σ1 at *
  generalize hρ:upd (fun i=>[a][i]?) 1 v1=ρ1 at *
  have hρ0:ρ1 0=some a:=by rw[←hρ];simp[upd]
  have hσ0:σ1 0=some t:=by rw[←hσ];simp[ZO]
  have x2:∀ts,T.flats ts=true→ZaC (ZbC (Zr (Zv 1) (Zr (ZT Za1 (Zr (Ze 1) ZL)) ZL))) (Zag 100) Zas (ZT ZdX (Zr (Zm ZA (Ze 0) (Zv 0)) (Zr (Ze 1) (Zr (Ze 100) ZL)))) σ1=some (.lst ts)→∃w X G,Zbm (Zca (Zz (ZJ 1) (Zz (Z0 ZbO (Zz (Zl 1) ZZ)) ZZ))) (put1 100) Zbo (Z0 ZfU (Zz (Zy ZY (Zl 0) (ZJ 0)) (Zz (Zl 1) (Zz (Zl 100) ZZ)))) ρ1 (H++X1)=some (w,H++X1++X)∧RF (H++X1++X) w (.lst ts) G∧G.Nodup∧∀x∈G,(H++X1).length≤x:=fun ts hf he=>by
   have y:E [] [] true (Zbm (Zca (Zz (ZJ 1) (Zz (Z0 ZbO (Zz (Zl 1) ZZ)) ZZ))) (put1 100) Zbo (Z0 ZfU (Zz (Zy ZY (Zl 0) (ZJ 0)) (Zz (Zl 1) (Zz (Zl 100) ZZ))))) (ZaC (ZbC (Zr (Zv 1) (Zr (ZT Za1 (Zr (Ze 1) ZL)) ZL))) (Zag 100) Zas (Zc6 (ZT ZdX (Zr (Zm ZA (Ze 0) (Zv 0)) (Zr (Ze 1) (Zr (Ze 100) ZL)))))):=ZcY (Gs.range (Zb (Zc _) (Zb (Z8 Zam (Zb (Za 1) Zd)) Zd))) PutOk.one (by decide) Zaj (E.flat (Zu Znn (Zb (Zg Zf (Za 0) (Zc _)) (Zb (Za 1) (Zb (Za 100) Zd)))))
   have he2:ZaC (ZbC (Zr (Zv 1) (Zr (ZT Za1 (Zr (Ze 1) ZL)) ZL))) (Zag 100) Zas (Zc6 (ZT ZdX (Zr (Zm ZA (Ze 0) (Zv 0)) (Zr (Ze 1) (Zr (Ze 100) ZL))))) σ1=some (.lst ts):=by
    obtain⟨zs,g1,g2⟩:=Zz0.mp he
    split at g2
    ·rename_i hl
     obtain⟨us,g3,g4⟩:=Zz1.mp g2
     cases g4
     simp only[ZaC,g1,Option.bind_some]
     rw[if_pos hl,Zo0 g3 hf]
     rfl
    ·cases g2
   obtain⟨w,X,G,b1,b2,b3,b4⟩:=y _ _ _ _ _ _ st1 he2
   exact⟨w,X,G,b1,b2,b4 rfl,fun x m=>(b3 x m).nil⟩
  obtain⟨ts,rfl⟩:∃ts,t2=.lst ts:=by
   obtain⟨zs,g1,g2⟩:=Zz0.mp h2
   split at g2
   ·obtain⟨us,g3,g4⟩:=Zz1.mp g2
    exact⟨us,g4.symm⟩
   ·cases g2
  by_cases hu:u=.none
  ·subst hu
   obtain⟨v,X,G,c1,c2,_⟩:=Zsk H [a] [t] .none F hp (RFs.one r) hfull
   cases c2
   exact .inl ⟨rfl,X,c1⟩
  ·obtain⟨r4,h3,h⟩:=Zz0.mp h
   obtain⟨b,h4,h5⟩:=Zz0.mp h3
   cases b with
   | true=>
    simp only[if_true]at h5
    cases h5
    cases h
    cases h0
    exact absurd rfl hu
   | false=>
    cases h5
    simp only at h
    obtain⟨u',h6,h7⟩:=Zz1.mp h
    subst h7
    obtain⟨us,h8,h9⟩:=Zz1.mp h6
    subst h9
    obtain⟨q0,g1,h10⟩:=Zz0.mp h8
    obtain⟨qs,g2,h11⟩:=Zz0.mp h10
    cases h11
    obtain⟨q1,g3,g6⟩:=Zz0.mp g2
    obtain⟨qs',g4,g7⟩:=Zz0.mp g6
    cases g7
    cases g4
    have eq1:q1=.lst ts:=by
     have:ZO σ1 2 (.lst ts) 2=some q1:=g3
     simp[ZO]at this
     exact this.symm
    subst eq1
    have g5:ZA t (.int 0)=some q0:=by
     have:=g1
     simpa [Zm,Ze,ZO,Zv,hσ0]using this
    cases h0
    obtain⟨w,X,G,b1,b2,b3,b4⟩:=x2 ts ok h2
    obtain⟨w0,F0,i1,i2,i3⟩:=Zf _ _ _ _ _ _ _ _ r (RF.int (H:=H) 0) g5
    have st2:=(st1.ext X).put (j:=2) (by simp) b2 (fun x m=>.inl (by have:=b4 x m;simp at this;show H.length≤x;omega)) (fun i hi=>(nomatch hi))
    have bt:Bt [] (Zak (Zy oIn (ZaF) (Zl 2))) (Z5 (Zm qIn (Zaz) (Ze 2))):=Zq (Zk ZeH ZM (Za 2))
    obtain⟨Y,k1⟩:=bt _ _ _ _ _ _ st2 h4
    refine .inr ⟨w0,w,q0,.lst ts,X1++X++Y,G,rfl,i1,g5,?_,by rw[←List.append_assoc,←List.append_assoc];exact b2.ext Y,b3,fun x m=>by have:=b4 x m;simp at this;omega⟩
    unfold Zdz ZK Zf4
    simp only[List.length_cons,List.length_nil,Nat.zero_add,if_true]
    rw[ev,ev1,ZeA (ρ1:=upd ρ1 2 w) (H1:=H++X1++X) (by simp only[ZaI,b1,Option.map_some]),ZeA (ρ1:=upd ρ1 2 w) (H1:=H++X1++X++Y) (by simp only[sIf,k1,Option.bind_some];rfl)]
    have hidx:=(Zld i1 (X1++X++Y)).2
    have hr:(upd ρ1 2 w) 0=some a:=by simp[upd,hρ0]
    have h2w:(upd ρ1 2 w) 2=some w:=by simp[upd]
    simp only[←List.append_assoc]at hidx ⊢
    generalize H++X1++X++Y=K at *
    have e5:Zc8 (Zz (Zy ZY (Zl 0) (ZJ 0)) (Zz (Zl 2) ZZ)) (upd ρ1 2 w) K=some (.tup [w0,w],K):=by
     simp only[Zc8,Zz,Zy,Zl,hr,h2w,ZJ,ZZ,Option.map_some,Option.bind_some,hidx]
     rw[if_pos (by rw[Za6];simp)]
    simp only[Zau,e5,Option.map_some]
    rfl
theorem ZqX: SimF true Zjl Zhv:=fun H vs ts t F1 hp r h=>by
 obtain⟨t',h1,h2⟩:=Zz0.mp h
 by_cases ok:Zhj t'=true
 ·rw[if_pos ok]at h2
  cases h2
  unfold ZN at h1
  split at h1
  ·rename_i hl
   obtain⟨t0,rfl⟩:∃t0,ts=[t0]:=List.length_eq_one_iff.mp hl
   obtain⟨a,rfl,r0⟩:=r.one_inv
   obtain⟨r1,h3,h4⟩:=Zz1.mp h1
   obtain⟨u,h5,h6⟩:=Zz1.mp h3
   subst h6
   cases h4
   obtain⟨us,h7,h8⟩:=Zz0.mp h5
   obtain⟨q0,g1,h9⟩:=Zz0.mp h7
   obtain⟨qs,g2,h10⟩:=Zz0.mp h9
   cases h10
   cases g2
   have g3:ZdL [t0]=some q0:=by
    have:=g1
    simpa [ZT,Zr,Ze,ZL]using this
   have g4:Zdf [q0]=some u:=h8
   have run:∀v1 X1 v2 X2,ZdK [a] H=some (v1,H++X1)→Zdz [v1] (H++X1)=some (v2,H++X1++X2)→Zjl [a] H=some (v2,H++(X1++X2)):=fun v1 X1 v2 X2 e1 e2=>by
    simp[Zjl,ZK,Zmu,Zau,Z0,Zz,Zl,ZZ,e1,e2]
   rcases Ztz hp r0 g3 with⟨rfl,X,e1⟩ | ⟨w0,v1,u0,u1,X,F0,F2,rfl,e1,a1,a2,a3,a4⟩
   ·have hp2:0<(H++X).length:=by rw[List.length_append];omega
    rcases ZoB hp2 (.none (H:=H++X)) g4 ok with⟨rfl,Y,e2⟩ | ⟨_,_,_,_,_,_,_,e2,_⟩
    ·exact⟨.none,X++Y,[],run _ _ _ _ e1 e2,.none,by simp,by simp⟩
    ·cases e2
   ·have hp2:0<(H++X).length:=by rw[List.length_append];omega
    rcases ZoB hp2 (.tup (.cons a1 (.one a4))) g4 ok with⟨rfl,Y,e2⟩ | ⟨x0,w1,y0,y1,Y,F1',rfl,e3,e4,e2,b1,b2,b3⟩
    ·exact⟨.none,X++Y,[],run _ _ _ _ e1 e2,.none,by simp,by simp⟩
    ·have ex:x0=w0:=by
      have:ZY (.tup [w0,v1]) (.int 0) (H++X)=some (w0,H++X):=by simp[ZY,seqIndex?]
      rw[this]at e3
      cases e3
      rfl
     have ey:y0=u0:=by
      have:ZA (.tup [u0,u1]) (.int 0)=some u0:=by simp[ZA,seqIndex?]
      rw[this]at e4
      cases e4
      rfl
     subst ex ey
     have nd:(F0++F1').Nodup:=by
      rw[List.nodup_append]
      refine⟨a2,b2,fun x hx y hy e=>?_⟩
      have:=a1.lt x hx
      have:=b3 y hy
      omega
     have nw:∀x∈F0++F1',H.length≤x:=fun x m=>by
      rcases Zz8.mp m with m | m
      ·exact a3 x m
      ·have:=b3 x m;rw[List.length_append]at this;omega
     exact⟨.tup [x0,w1],X++Y,F0++F1',run _ _ _ _ e1 e2,by rw[←List.append_assoc];exact .tup (.cons (a1.ext Y) (.one b1)),fun x m=>.inl (nw x m),fun _=>⟨nd,nw⟩⟩
  ·cases h1
 ·rw[if_neg ok]at h2
  cases h2
def ZfI: XS [] [] [] false:=⟨_,_,(Zj (ZF (Zq (Zk Zbg (Za 0) (ZM))) (Zw (Zu ZsK (Zb (Za 1) (Zb (Za 0) Zd)))) ZG) (Zj (ZF (Zq (Zk Z6 (Zg Zf (Za 1) (Zc 0)) (Zc 0))) (Zw (Zg Zf (Za 1) (Zc 1))) ZG) (Zw (ZM))))⟩
def ZjO:=ZK 2 (XS.g ZfI)
def ZhU:=ZN 2 (XS.q ZfI)
theorem ZrI: SimF false ZjO ZhU:=ZU (XS.h ZfI)
def Zj4: Sm:=Z9 (ZaI 3 (Zet ZZ)) (Z9 (ZbS (ZjC (Zl 0) (Zl 2)) (Zda 4 5) (Z9 (ZaI 6 (Z0 ZjO (Zz (Zl 4) (Zz (Z0 Zku (Zz (Zl 1) (Zz (Z0 Zkf (Zz (Zl 5) (Zz (eUn ZfA (ZJ 1)) ZZ))) ZZ))) ZZ)))) (Z9 (sIf (Zco (Zak (Zy oIs (Zl 6) (ZaF))) (Zco (Zak (Zy Zmj (Zl 4) (ZaF))) Zbo)) (Zau (ZaF)) ZaP) (ZcV (ZiK (Zl 3) (Zl 6)))))) (Zau (Zl 3)))
def Znx:=ZK 3 Zj4
def Zj5: PS:=(Z3 (ZaE 3 (ZdN ZL)) (Z3 (Zbq (ZjI (Ze 0) (Ze 2)) (Zey 4 5) (Z3 (ZaE 6 (ZT ZhU (Zr (Ze 4) (Zr (ZT Zib (Zr (Ze 1) (Zr (ZT Zh3 (Zr (Ze 5) (Zr (pUn ZcX (Zv 1)) ZL))) ZL))) ZL)))) (Z3 (qIf (Zbp (Z5 (Zm qIs (Ze 6) (Zaz))) (Zbp (Z5 (Zm ZcR (Ze 4) (Zaz))) Zas)) (Zav (Zaz)) ZaD) (ZfD 3 [] ZbK (Zc6 (Ze 6)))))) (Zav (Ze 3))))
def Zj6:=ZN 3 Zj5
theorem Zsl: SimF false Znx Zj6:=ZU (show S [] [3] [] false Zj4 Zj5 from(Zj (Zcb (O':=[3]) (E.list Zd)) (Zj (ZaG (Gs.zip (Za 0) (Za 2)) PutOk.two (by decide) (by decide) (Zj (ZE (O':=[3]) (Zu ZrI (Zb (Za 4) (Zb (Zu Zkv (Zb (Za 1) (Zb (Zu Zkg (Zb (Za 5) (Zb (Za7 Za8 (Zc _)) Zd))) Zd))) Zd)))) (Zj (ZF (Zah (Zq (Zk Za0 (Za 6) (ZM))) (Zah (Zq (Zk Zbg (Za 4) (ZM))) Zaj)) (Zw (ZM)) ZG) (ZmK (O':=[3]) (by decide) Zbs (Zbc (O':=[]) (E.flat (Za 6))) (by decide) (by decide))))) (Zw (Za 3)))))
def Ze2: XS [] [] [] false:=⟨_,_,(Zj (ZF (Zq (Zk Za0 (Za 0) (ZM))) (Zw (ZM)) ZG) (Zj (ZE (i:=1) (O':=[]) (Zu Zj3 (Zb (Zg Zf (Za 0) (Zc 1)) Zd))) (Zj (ZE (i:=2) (O':=[]) (ZbA (Gs.zip (Zg Zf (Za 0) (Zc 0)) (Za 1)) (PutOk.two (i:=100) (j:=101)) (by decide) Zaj (Zu Zsl (Zb (Za 100) (Zb (Za 101) (Zb (Za 1) Zd)))))) (Zj (ZF (Zq (Zk ZeH (ZM) (Za 2))) (Zw (ZM)) ZG) (Zw (E.tup (Zb (Za 2) (Zb (Zg Zf (Za 0) (Zc 1)) Zd))))))))⟩
def Zo1:=ZK 1 (XS.g Ze2)
def ZgS:=ZN 1 (XS.q Ze2)
theorem Zui: SimF false Zo1 ZgS:=ZU (XS.h Ze2)
def Zhk: XS [] [] [] true:=⟨_,_,(ZaS (Zbn ZqX (Zb (Zu Zui (Zb (Zu ZqX (Zb (Za 0) Zd)) Zd)) Zd)))⟩
def Zp9:=ZK 1 (XS.g Zhk)
def Zee:=ZN 1 (XS.q Zhk)
theorem Zqa: SimF true Zp9 Zee:=ZU (XS.h Zhk)
def ZhS: XS [] [2] [] false:=⟨_,_,(Zj (ZE (i:=1) (O':=[]) (Z8 Zam (Zb (Za 0) Zd))) (Zj (Zcb (i:=2) (O':=[2]) (ZcY (Gs.seq (Za 0)) (PutOk.one (j:=100)) (by decide) Zaj (Zec Zdo (Zb (Za 100) Zd)))) (Zj (ZE (i:=3) (O':=[2]) (Zc 1)) (Zj (Zfe (Zq (Zk Zb1 (Za 3) (Za 1))) (Zj (ZE (i:=4) (O':=[2]) (Zbc (O':=[]) (ZcY (Gs.seq (Za 2)) (PutOk.one (j:=102)) (by decide) Zaj (Zec Zdo (Zb (Za 102) Zd))))) (Zj (ZaG (Gs.range (Zb (Za 1) Zd)) (PutOk.one (j:=5)) (by decide) (by decide) (ZaG (Gs.range (Zb (Za 1) Zd)) (PutOk.one (j:=6)) (by decide) (by decide) (ZaG (Gs.range (Zb (Za 1) Zd)) (PutOk.one (j:=7)) (by decide) (by decide) (ZF (Zah (Zq (Zk Zbg (Zg Zf (Zg Zf (Za 4) (Za 5)) (Za 7)) (ZM))) (Zah (Zq (Zk Zbg (Zg Zf (Zg Zf (Za 4) (Za 7)) (Za 6)) (ZM))) Zaj)) (Zj (ZE (i:=8) (O':=[2]) (ZV Zab (Zg Zf (Zg Zf (Za 4) (Za 5)) (Za 7)) (Zg Zf (Zg Zf (Za 4) (Za 7)) (Za 6)))) (ZF (ZaM (Zq (Zk Za0 (Zg Zf (Zg Zf (Za 2) (Za 5)) (Za 6)) (ZM))) (ZaM (Zq (Zk Zb1 (Za 8) (Zg Zf (Zg Zf (Za 2) (Za 5)) (Za 6)))) ZbX)) (S.put (x:=2) (O':=[2]) (by decide) (Zbc (O':=[]) (E.flat (Za 8))) (Zen Zbs (Za 5)) (Za 6) (by decide) (by decide)) ZG)) ZG)))) (ZE (i:=3) (O':=[2]) (ZV ZaX (Zc 2) (Za 3))))) 1000000) (Zj (ZaG (Gs.range (Zb (Za 1) Zd)) (PutOk.one (j:=5)) (by decide) (by decide) (ZF (Zq (Zk Zb1 (Zg Zf (Zg Zf (Za 2) (Za 5)) (Za 5)) (Zc 0))) (Zw (ZM)) ZG)) (Zw (Za 2)))))))⟩
def ZrA:=ZK 1 (XS.g ZhS)
def ZhT:=ZN 1 (XS.q ZhS)
theorem Zm4: SimF false ZrA ZhT:=ZU (XS.h ZhS)
def Ziv: XS [] [] [] false:=⟨_,_,(Zj (ZE (i:=2) (O':=[]) (Zg Zf (Za 0) (Zc 0))) (Zj (ZE (i:=3) (O':=[]) (Zg Zf (Za 1) (Zc 0))) (Zj (ZE (i:=4) (O':=[]) (Zc 1)) (Zj (ZE (i:=5) (O':=[]) (Zc 0)) (Zj (Zfe (Zq (Zk Zbi (Za 3) (Zc 0))) (Zj (ZE (i:=6) (O':=[]) (Zk ZcI (Za 2) (Za 3))) (Zj (ZE (i:=7) (O':=[]) (Zk Za4 (Za 2) (ZV ZaX (Za 6) (Za 3)))) (Zj (ZE (i:=2) (O':=[]) (Za 3)) (Zj (ZE (i:=3) (O':=[]) (Za 7)) (Zj (ZE (i:=7) (O':=[]) (Zk Za4 (Za 4) (ZV ZaX (Za 6) (Za 5)))) (Zj (ZE (i:=4) (O':=[]) (Za 5)) (ZE (i:=5) (O':=[]) (Za 7)))))))) 1000000) (Zj (ZE (i:=8) (O':=[]) (Zk Za4 (Zg Zf (Za 1) (Zc 1)) (Zg Zf (Za 0) (Zc 1)))) (Zj (ZF (Zq (Zk Z6 (Za 2) (Zc 0))) (Zj (ZF (Zq (Zk Zbi (Za 8) (Zc 0))) (Zw (ZM)) ZG) (Zw (Za 0))) ZG) (Zj (ZF (Zq (Zk Zbi (Zk ZaW (Za 8) (Za 2)) (Zc 0))) (Zw (ZM)) ZG) (Zw (Zu ZeL (Zb (ZV ZaX (Zk ZcI (Zg Zf (Za 0) (Zc 0)) (Za 2)) (Zg Zf (Za 1) (Zc 0))) (Zb (ZV Zab (Zg Zf (Za 0) (Zc 1)) (ZV ZaX (ZV ZaX (Zg Zf (Za 0) (Zc 0)) (Za 4)) (Zk ZcI (Za 8) (Za 2)))) Zd))))))))))))⟩
def Zuj:=ZK 2 (XS.g Ziv)
def Zln:=ZN 2 (XS.q Ziv)
theorem Zo2: SimF false Zuj Zln:=ZU (XS.h Ziv)
def Zh4: XS [] [3] [] false:=⟨_,_,(Zj (ZE (i:=2) (O':=[]) (ZV Zab (E.list (Zb (E.tup (Zb (Zc 0) (Zb (Zc 0) Zd))) Zd)) (Za 1))) (Zj (Zcb (i:=3) (O':=[3]) (Zmn Zab (E.list (Zb (E.tup (Zb (Zc 0) (Zb (Zc 0) Zd))) Zd)) (Za 1))) (Zj (ZaG (Gs.range (Zb (Zc 1) (Zb (Z8 Zam (Zb (Za 2) Zd)) Zd))) (PutOk.one (j:=4)) (by decide) (by decide) (ZaG (Gs.range (Zb (Z8 Zam (Zb (Za 2) Zd)) Zd)) (PutOk.one (j:=5)) (by decide) (by decide) (Zj (ZE (i:=6) (O':=[3]) (Zg Zf (Zg Zf (Za 0) (Za 4)) (Za 5))) (ZF (Zah (Zq (Zk Zbi (Za 4) (Za 5))) (Zah (Zq (Zk Zbg (Za 6) (ZM))) (Zah (Zq (Zk Z6 (Zg Zf (Zg Zf (Za 0) (Za 5)) (Za 4)) (Za7 Za8 (Za 6)))) (Zah (Zq (Zk Zbg (Zg Zf (Za 3) (Za 4)) (ZM))) Zaj)))) (S.put (x:=3) (O':=[3]) (by decide) (Zbc (O':=[]) (E.flat (Zu Zo2 (Zb (Zg Zf (Za 3) (Za 4)) (Zb (Zu ZeL (Zb (Zg Zf (Zg Zf (Za 2) (Za 5)) (Zc 0)) (Zb (ZV Zab (Zg Zf (Zg Zf (Za 2) (Za 5)) (Zc 1)) (Za 6)) Zd))) Zd))))) Zbs (Za 4) (by decide) (by decide)) ZG)))) (Zj (ZF (Zq (Zk ZeH (ZM) (Za 3))) (Zw (ZM)) ZG) (Zw (Zhq (k:=1) (Za 3)))))))⟩
def ZsL:=ZK 2 (XS.g Zh4)
def Zki:=ZN 2 (XS.q Zh4)
theorem ZnI: SimF false ZsL Zki:=ZU (XS.h Zh4)
def ZhX: XS [] [3] [] false:=⟨_,_,(Zj (ZE (i:=2) (O':=[]) (ZV Zab (E.list (Zb (E.tup (Zb (Zc 0) (Zb (Zc 0) Zd))) Zd)) (Za 1))) (Zj (Zcb (i:=3) (O':=[3]) (ZcY (Gs.seq (Za 0)) (PutOk.one (j:=100)) (by decide) Zaj (Zec Zdo (Zb (Za 100) Zd)))) (Zj (ZaG (Gs.range (Zb (Z8 Zam (Zb (Za 2) Zd)) Zd)) (PutOk.one (j:=4)) (by decide) (by decide) (ZaG (Gs.range (Zb (Z8 Zam (Zb (Za 2) Zd)) Zd)) (PutOk.one (j:=5)) (by decide) (by decide) (Zj (ZE (i:=6) (O':=[3]) (Zu Zlj (Zb (Zg Zf (Zg Zf (Za 2) (Za 4)) (Zc 0)) (Zb (Zg Zf (Zg Zf (Za 2) (Za 5)) (Zc 0)) Zd)))) (Zj (ZE (i:=7) (O':=[3]) (Zk Za4 (Zg Zf (Zg Zf (Za 2) (Za 4)) (Zc 1)) (Zg Zf (Zg Zf (Za 2) (Za 5)) (Zc 1)))) (Zj (ZE (i:=8) (O':=[3]) (Zg Zf (Zg Zf (Za 0) (Za 4)) (Za 5))) (ZF (Zah (Zq (Zk Zbi (Za 4) (Za 5))) (Zah (Zq (Zk Z6 (Za 6) (Zc 0))) Zaj)) (Zj (ZF (Zah (Zq (Zk Zbg (Za 8) (ZM))) (Zah (Zq (Zk Zb1 (Za 8) (Za 7))) Zaj)) (Zw (ZM)) ZG) (S.put (x:=3) (O':=[3]) (by decide) (Zbc (O':=[]) (E.flat (Za 7))) (Zen Zbs (Za 4)) (Za 5) (by decide) (by decide))) (ZF (Zah (Zq (Zk Zbi (Za 4) (Za 5))) (Zah (Zq (Zk Zbg (Za 8) (ZM))) Zaj)) (S.put (x:=3) (O':=[3]) (by decide) (Zbc (O':=[]) (Zk Za4 (Za 8) (Zk ZaW (Zk Za4 (Za 8) (Za 7)) (Za 6)))) (Zen Zbs (Za 4)) (Za 5) (by decide) (by decide)) ZG))))))) (Zw (Za 3)))))⟩
def Zsm:=ZK 2 (XS.g ZhX)
def Zj7:=ZN 2 (XS.q ZhX)
theorem Zsn: SimF false Zsm Zj7:=ZU (XS.h ZhX)
def Zid: XS [] [] [] false:=⟨_,_,(Zj (ZF (Zq (Zk Za0 (Za 0) (ZM))) (Zw (ZM)) ZG) (Zj (ZE (i:=1) (O':=[]) (Zu Zm4 (Zb (Zg Zf (Za 0) (Zc 0)) Zd))) (Zj (ZF (Zq (Zk Za0 (Za 1) (ZM))) (Zw (ZM)) ZG) (Zj (ZE (i:=2) (O':=[]) (Zu ZnI (Zb (Za 1) (Zb (Zg Zf (Za 0) (Zc 1)) Zd)))) (Zj (ZF (Zq (Zk Za0 (Za 2) (ZM))) (Zw (ZM)) ZG) (Zj (ZE (i:=1) (O':=[]) (Zu Zsn (Zb (Za 1) (Zb (Za 2) Zd)))) (Zj (ZF (Zq (Zk Za0 (Za 1) (ZM))) (Zw (ZM)) ZG) (Zj (ZE (i:=1) (O':=[]) (Zu Zm4 (Zb (Za 1) Zd))) (Zj (ZF (Zq (Zk Za0 (Za 1) (ZM))) (Zw (ZM)) ZG) (Zj (ZE (i:=2) (O':=[]) (Zu ZnI (Zb (Za 1) (Zb (Za 2) Zd)))) (Zj (ZF (Zq (Zk Za0 (Za 2) (ZM))) (Zw (ZM)) ZG) (Zw (E.tup (Zb (Za 1) (Zb (Za 2) Zd)))))))))))))))⟩
def Zs8:=ZK 1 (XS.g Zid)
def Zd0:=ZN 1 (XS.q Zid)
theorem Zn3: SimF false Zs8 Zd0:=ZU (XS.h Zid)
def Zgq: XS [] [] [] false:=⟨_,_,(Zj (ZF (ZaM (ZbI (Zq (Zdx (K:="tuple") (Za 0)))) (ZaM (Zq (Zk Zbi (Z8 Zam (Zb (Za 0) Zd)) (Zc 2))) (ZaM (ZbI (Zq (Zu Zty (Zb (Zg Zf (Za 0) (Zc 0)) (Zb (ZV Zab (Za 1) (Zc 1)) Zd))))) ZbX))) (Zw (E.bool false)) ZG) (Zj (ZF (ZaM (ZbI (Zq (Zdx (K:="list") (Zg Zf (Za 0) (Zc 1))))) (ZaM (Zq (Zk Zbi (Z8 Zam (Zb (Zg Zf (Za 0) (Zc 1)) Zd)) (Za 1))) ZbX)) (Zw (E.bool false)) ZG) (Zj (ZaG (Gs.seq (Zg Zf (Za 0) (Zc 1))) (PutOk.one (j:=2)) (by decide) (by decide) (Zj (ZF (ZaM (ZbI (Zq (Zdx (K:="tuple") (Za 2)))) (ZaM (Zq (Zk Zbi (Z8 Zam (Zb (Za 2) Zd)) (Zc 2))) ZbX)) (Zw (E.bool false)) ZG) (Zj (ZF (ZaM (ZbI (Zq (Zu Zky (Zb (Zg Zf (Za 2) (Zc 0)) Zd)))) (ZaM (ZbI (Zq (Zu Zky (Zb (Zg Zf (Za 2) (Zc 1)) Zd)))) ZbX)) (Zw (E.bool false)) ZG) (ZF (ZaM (Zq (Zk Zb1 (Zg Zf (Za 2) (Zc 0)) (Zc 0))) (ZaM (Zah (Zq (Zk Zcw (Zg Zf (Za 2) (Zc 0)) (Zc 0))) (Zah (ZbI (Zu4 ZhN Zb1 (Zc 0) (Zg Zf (Za 2) (Zc 1)) (Zg Zf (Za 2) (Zc 0)))) Zaj)) ZbX)) (Zw (E.bool false)) ZG)))) (Zw (E.bool true)))))⟩
def Zn4:=ZK 2 (XS.g Zgq)
def Zgr:=ZN 2 (XS.q Zgq)
theorem Zs9: SimF false Zn4 Zgr:=ZU (XS.h Zgq)
def Zl6(F:List V→Hp→Option (V×Hp)): Sm:=Z9 (sIf (Zak (eIs "list" (Zl 0))) (Zau (Zbm (ZcM (Zl 0)) (put1 100) Zbo (Z0 F (Zz (Zl 100) ZZ)))) ZaP) (Z9 (sIf (Zak (eIs "tuple" (Zl 0))) (Zau (Z0 Zfc (Zz (Zbm (ZcM (Zl 0)) (put1 102) Zbo (Z0 F (Zz (Zl 102) ZZ))) ZZ))) ZaP) (Zau (Zl 0)))
def Ze8: Nat→List V→Hp→Option (V×Hp)
 | 0=>fun _ _=>none
 | n+1=>ZK 1 (Zl6 (Ze8 n))
def Zqb: List V→Hp→Option (V×Hp):=Ze8 9
def Zfg(F:List T→Option T): PS:=(Z3 (qIf (Z5 (pIs "list" (Ze 0))) (Zav (ZaC (ZaT (Ze 0)) (Zag 100) Zas (ZT F (Zr (Ze 100) ZL)))) ZaD) (Z3 (qIf (Z5 (pIs "tuple" (Ze 0))) (Zav (ZT ZiQ (Zr (ZaC (ZaT (Ze 0)) (Zag 102) Zas (ZT F (Zr (Ze 102) ZL))) ZL))) ZaD) (Zav (Zc6 (Ze 0)))))
def Zeb: Nat→List T→Option T
 | 0=>fun _=>none
 | n+1=>ZN 1 (Zfg (Zeb n))
def ZiW: List T→Option T:=Zeb 9
theorem ZlM: ∀n:Nat,SimF true (Ze8 n) (Zeb n)
 | 0=>Zud
 | n+1=>ZU (show S [] [] [] true (Zl6 (Ze8 n)) (Zfg (Zeb n))from(Zj (ZF (Zq (Zdx (Za 0))) (ZaS (ZcY (Gs.seq (Za 0)) PutOk.one (by decide) Zaj (Zbn (ZlM n) (Zb (Za 100) Zd)))) ZG) (Zj (ZF (Zq (Zdx (Za 0))) (ZaS (Zwi Zu5 (ZlG (ZcY (Gs.seq (Za 0)) PutOk.one (by decide) Zaj (Zbn (ZlM n) (Zb (Za 102) Zd))) Zd (by decide) (by decide)))) ZG) (ZaS (E.flat (Za 0))))))
theorem Zl7: SimF true Zqb ZiW:=ZlM 9
def Zd7: XS [] [] [] false:=⟨_,_,(Zj (ZF (Zq (Zk Za0 (Za 0) (ZM))) (Zw (E.bool false)) ZG) (Zj (ZE (i:=2) (O':=[]) (ZV Zab (E.list (Zb (Zc 0) Zd)) (Za 1))) (Zj (ZaG (Gs.range (Zb (Z8 Zam (Zb (Za 2) Zd)) Zd)) (PutOk.one (j:=3)) (by decide) (by decide) (ZaG (Gs.range (Zb (Z8 Zam (Zb (Za 2) Zd)) Zd)) (PutOk.one (j:=4)) (by decide) (by decide) (ZF (Zah (Zq (Zk Zbg (Zg Zf (Zg Zf (Zg Zf (Za 0) (Zc 0)) (Za 3)) (Za 4)) (ZM))) (Zah (Zq (Zk Zcw (Zg Zf (Za 2) (Za 3)) (ZV Zab (Zg Zf (Za 2) (Za 4)) (Zg Zf (Zg Zf (Zg Zf (Za 0) (Zc 0)) (Za 3)) (Za 4))))) Zaj)) (Zw (E.bool false)) ZG))) (Zj (ZaG (Gs.range (Zb (Z8 Zam (Zb (Za 1) Zd)) Zd)) (PutOk.one (j:=5)) (by decide) (by decide) (Zj (ZE (i:=6) (O':=[]) (Zk Za4 (Zg Zf (Za 1) (Za 5)) (Zg Zf (Zg Zf (Zg Zf (Za 0) (Zc 1)) (Za 5)) (Zc 1)))) (Zj (ZF (Zah (Zq (Zk Z6 (Zg Zf (Zg Zf (Zg Zf (Za 0) (Zc 1)) (Za 5)) (Zc 0)) (Zc 0))) (Zah (Zq (Zk Zbi (Za 6) (Zc 0))) Zaj)) (Zw (E.bool false)) ZG) (ZF (Zah (Zq (Zk Zcw (Zg Zf (Zg Zf (Zg Zf (Za 0) (Zc 1)) (Za 5)) (Zc 0)) (Zc 0))) (Zah (Zq (Zk Zbi (Zk ZaW (Za 6) (Zg Zf (Zg Zf (Zg Zf (Za 0) (Zc 1)) (Za 5)) (Zc 0))) (Zc 0))) Zaj)) (Zw (E.bool false)) ZG)))) (Zw (E.bool true))))))⟩
def ZoC:=ZK 2 (XS.g Zd7)
def Zdk:=ZN 2 (XS.q Zd7)
theorem ZkU: SimF false ZoC Zdk:=ZU (XS.h Zd7)
def Zik: Sm:=Zc9 (Z0 ZlL (Zz (Zy ZY (Zy ZY (Zl 0) (Zl 1)) (Zl 2)) (Zz (Zl 3) ZZ))) (Zy ZY (Zl 0) (Zl 1)) (Zl 2)
def ZgG:=ZK 4 Zik
def ZkV: PS:=(Zcq 0 [] (Zc6 (ZT ZiD (Zr (Zm ZA (Zm ZA (Ze 0) (Ze 1)) (Ze 2)) (Zr (Ze 3) ZL)))) (Zjb ZbK (Ze 1)) (Ze 2))
def ZeW:=ZeI 4 ZkV
theorem ZkW: SimM ZgG ZeW:=Zl3 (show S [0] [0] [0] false Zik ZkV from(S.put (O':=[0]) (by decide) (Zbc (O':=[]) (E.flat (Zu Zpt (Zb (Zg Zf (Zg Zf (Za 0) (Za 1)) (Za 2)) (Zb (Za 3) Zd))))) (Zen Zbs (Za 1)) (Za 2) (by decide) (by decide))) (by decide) (by unfold Zik;repeat' first | exact Keep0.next | exact Zlg | exact Keep0.ret | exact Keep0.put | apply Keep0.seq | apply Zlh | exact Keep0.set (by decide))
def Zlo: Sm:=Z9 (ZaI 3 (Zy Zbh (Zet (Zz (Z0 Zke (Zz (Zl 0) (Zz (Zl 1) ZZ))) ZZ)) (Zy ZdS (Zet (Zz (ZJ 0) ZZ)) (Zl 2)))) (Z9 (ZaI 4 (Z0 ZdA (Zz (Zl 0) (Zz (Zl 1) (Zz (ZJ 6) ZZ))))) (Z9 (sIf (tOr (Zak (Zy oEq (Zl 4) (ZJ 0))) (tOr (Zak (Zy oEq (Zl 2) (ZJ 0))) Zhn)) (Zau (Zl 3)) ZaP) (Z9 (ZaI 5 (Zy Zbh (ZJ 1) (Z0 ZdA (Zz (Zl 0) (Zz (Zy Zbh (Zl 1) (ZJ 1)) (Zz (Zl 2) ZZ)))))) (Z9 (sIf (Zak (Zy oEq (Zl 4) (ZJ 1))) (Zc9 (Zy ZeD (Z0 ZdA (Zz (Zl 0) (Zz (Zy Zbh (Zl 1) (ZJ 2)) (Zz (ZJ 13) ZZ)))) (ZJ 6)) (Zl 3) (Zl 5)) ZaP) (Z9 (sIf (tOr (Zak (Zy oEq (Zl 4) (ZJ 2))) (tOr (Zak (Zy oEq (Zl 4) (ZJ 3))) Zhn)) (Z9 (ZaI 6 (Zy Zbh (ZJ 1) (Z0 ZdA (Zz (Zl 0) (Zz (Zy Zbh (Zl 1) (ZJ 2)) (Zz (Zl 2) ZZ)))))) (Z9 (Zc9 (ZJ 1) (Zl 3) (Zl 5)) (Zc9 (Zy ZeD (Zy ZY (Zl 3) (Zl 6)) (ZJ 1)) (Zl 3) (Zl 6)))) ZaP) (Z9 (sIf (Zak (Zy oEq (Zl 4) (ZJ 4))) (ZbS (Zca (Zz (Zl 2) ZZ)) (put1 7) (Zc9 (Zy ZeD (Z0 ZdA (Zz (Zl 0) (Zz (Zy Zbh (Zy Zbh (Zl 1) (ZJ 1)) (Zl 7)) (Zz (ZJ 7) ZZ)))) (ZJ 3)) (Zl 3) (Zy Zbh (Zl 7) (ZJ 1)))) ZaP) (Z9 (sIf (Zak (Zy oEq (Zl 4) (ZJ 5))) (ZbS (Zca (Zz (Zl 2) ZZ)) (put1 7) (Zc9 (Zy ZeD (Z0 ZdA (Zz (Zl 0) (Zz (Zy Zbh (Zy Zbh (Zl 1) (ZJ 1)) (Zl 7)) (Zz (ZJ 2000000001) ZZ)))) (ZJ 1000000000)) (Zl 3) (Zy Zbh (Zl 7) (ZJ 1)))) ZaP) (Zau (Zl 3)))))))))
def Zo3:=ZK 3 Zlo
def Zlp: PS:=(Z3 (ZaE 3 (pFl (Zm ZaJ (ZdN (Zr (ZT Zh2 (Zr (Ze 0) (Zr (Ze 1) ZL))) ZL)) (Zm Zb2 (ZdN (Zr (Zv 0) ZL)) (Ze 2))))) (Z3 (ZaE 4 (ZT ZcP (Zr (Ze 0) (Zr (Ze 1) (Zr (Zv 6) ZL))))) (Z3 (qIf (bOr (Z5 (Zm qEq (Ze 4) (Zv 0))) (bOr (Z5 (Zm qEq (Ze 2) (Zv 0))) Zfk)) (Zav (Ze 3)) ZaD) (Z3 (ZaE 5 (Zm ZaJ (Zv 1) (ZT ZcP (Zr (Ze 0) (Zr (Zm ZaJ (Ze 1) (Zv 1)) (Zr (Ze 2) ZL)))))) (Z3 (qIf (Z5 (Zm qEq (Ze 4) (Zv 1))) (Zcq 3 [] (Zm ZcW (ZT ZcP (Zr (Ze 0) (Zr (Zm ZaJ (Ze 1) (Zv 2)) (Zr (Zv 13) ZL)))) (Zv 6)) ZbK (Ze 5)) ZaD) (Z3 (qIf (bOr (Z5 (Zm qEq (Ze 4) (Zv 2))) (bOr (Z5 (Zm qEq (Ze 4) (Zv 3))) Zfk)) (Z3 (ZaE 6 (Zm ZaJ (Zv 1) (ZT ZcP (Zr (Ze 0) (Zr (Zm ZaJ (Ze 1) (Zv 2)) (Zr (Ze 2) ZL)))))) (Z3 (Zcq 3 [] (Zv 1) ZbK (Ze 5)) (Zcq 3 [] (Zm ZcW (Zm ZA (Ze 3) (Ze 6)) (Zv 1)) ZbK (Ze 6)))) ZaD) (Z3 (qIf (Z5 (Zm qEq (Ze 4) (Zv 4))) (Zbq (ZbC (Zr (Ze 2) ZL)) (Zag 7) (Zcq 3 [] (Zm ZcW (ZT ZcP (Zr (Ze 0) (Zr (Zm ZaJ (Zm ZaJ (Ze 1) (Zv 1)) (Ze 7)) (Zr (Zv 7) ZL)))) (Zv 3)) ZbK (Zm ZaJ (Ze 7) (Zv 1)))) ZaD) (Z3 (qIf (Z5 (Zm qEq (Ze 4) (Zv 5))) (Zbq (ZbC (Zr (Ze 2) ZL)) (Zag 7) (Zcq 3 [] (Zm ZcW (ZT ZcP (Zr (Ze 0) (Zr (Zm ZaJ (Zm ZaJ (Ze 1) (Zv 1)) (Ze 7)) (Zr (Zv 2000000001) ZL)))) (Zv 1000000000)) ZbK (Zm ZaJ (Ze 7) (Zv 1)))) ZaD) (Zav (Ze 3))))))))))
def Zlq:=ZN 3 Zlp
theorem Zuk: SimF true Zo3 Zlq:=ZU (show S [] [3] [] true Zlo Zlp from(Zj (Zcb (O':=[3]) (Zmn Zab (E.list (Zb (Zu Zf8 (Zb (Za 0) (Zb (Za 1) Zd))) Zd)) (ZV ZaX (E.list (Zb (Zc _) Zd)) (Za 2)))) (Zj (ZE (O':=[3]) (Zu Zb7 (Zb (Za 0) (Zb (Za 1) (Zb (Zc _) Zd))))) (Zj (ZF (ZaM (Zq (Zk Z6 (Za 4) (Zc _))) (ZaM (Zq (Zk Z6 (Za 2) (Zc _))) ZbX)) (ZaS (E.own (by decide))) ZG) (Zj (ZE (O':=[3]) (ZV Zab (Zc _) (Zu Zb7 (Zb (Za 0) (Zb (ZV Zab (Za 1) (Zc _)) (Zb (Za 2) Zd)))))) (Zj (ZF (Zq (Zk Z6 (Za 4) (Zc _))) (S.put (O':=[3]) (by decide) (Zbc (O':=[]) (Zk Za4 (Zu Zb7 (Zb (Za 0) (Zb (ZV Zab (Za 1) (Zc _)) (Zb (Zc _) Zd)))) (Zc _))) Zbs (Za 5) (by decide) (by decide)) ZG) (Zj (ZF (ZaM (Zq (Zk Z6 (Za 4) (Zc _))) (ZaM (Zq (Zk Z6 (Za 4) (Zc _))) ZbX)) (Zj (ZE (O':=[3]) (ZV Zab (Zc _) (Zu Zb7 (Zb (Za 0) (Zb (ZV Zab (Za 1) (Zc _)) (Zb (Za 2) Zd)))))) (Zj (S.put (O':=[3]) (by decide) (Zbc (O':=[]) (Zc _)) Zbs (Za 5) (by decide) (by decide)) (S.put (O':=[3]) (by decide) (Zbc (O':=[]) (Zk Za4 (Zg Zf (Za 3) (Za 6)) (Zc _))) Zbs (Za 6) (by decide) (by decide)))) ZG) (Zj (ZF (Zq (Zk Z6 (Za 4) (Zc _))) (ZaG (Gs.range (Zb (Za 2) Zd)) PutOk.one (by decide) (by decide) (S.put (O':=[3]) (by decide) (Zbc (O':=[]) (Zk Za4 (Zu Zb7 (Zb (Za 0) (Zb (ZV Zab (ZV Zab (Za 1) (Zc _)) (Za 7)) (Zb (Zc _) Zd)))) (Zc _))) Zbs (ZV Zab (Za 7) (Zc _)) (by decide) (by decide))) ZG) (Zj (ZF (Zq (Zk Z6 (Za 4) (Zc _))) (ZaG (Gs.range (Zb (Za 2) Zd)) PutOk.one (by decide) (by decide) (S.put (O':=[3]) (by decide) (Zbc (O':=[]) (Zk Za4 (Zu Zb7 (Zb (Za 0) (Zb (ZV Zab (ZV Zab (Za 1) (Zc _)) (Za 7)) (Zb (Zc _) Zd)))) (Zc _))) Zbs (ZV Zab (Za 7) (Zc _)) (by decide) (by decide))) ZG) (ZaS (E.own (by decide))))))))))))
def Zno: Sm:=Z9 (ZaI 2 (Zbm (Zca (Zz (ZJ 1) (Zz (Z0 ZbO (Zz (Zl 1) ZZ)) ZZ))) (put1 100) (Zak (Zy oGt (Zy ZY (Zl 1) (Zl 100)) (ZJ 0))) (Zl 100))) (Z9 (ZaI 3 (Zbm (Zca (Zz (ZJ 1) (Zz (Z0 ZbO (Zz (Zl 1) ZZ)) ZZ))) (put1 102) (Zak (Zy oLt (Zy ZY (Zl 1) (Zl 102)) (ZJ 0))) (Zl 102))) (Z9 (sIf (Zco (Zak (Zy oEq (Z0 ZbO (Zz (Zl 2) ZZ)) (ZJ 1))) (Zco (Zak (Zy oEq (Z0 ZbO (Zz (Zl 3) ZZ)) (ZJ 1))) (Zco (Zak (Zy oEq (Zy ZY (Zl 1) (Zy ZY (Zl 2) (ZJ 0))) (ZJ 1))) (Zco (Zak (Zy oEq (Zy ZY (Zl 1) (Zy ZY (Zl 3) (ZJ 0))) (eUn ZfA (ZJ 1)))) Zbo)))) (Z9 (sIf (Zak (Zy oIs (Zy ZY (Zy ZY (Zy ZY (Zl 0) (ZJ 0)) (Zy ZY (Zl 2) (ZJ 0))) (Zy ZY (Zl 3) (ZJ 0))) (ZaF))) (Zau (ZaF)) ZaP) (Zau (Zy Zbh (Zy ZY (Zy ZY (Zy ZY (Zl 0) (ZJ 0)) (Zy ZY (Zl 2) (ZJ 0))) (Zy ZY (Zl 3) (ZJ 0))) (Zy ZY (Zl 1) (ZJ 0))))) ZaP) (Z9 (ZaI 4 (Zy Zbh (Zbm (ZcM (Zl 2)) (put1 104) Zbo (Zy ZY (Zy ZY (Zy ZY (Zl 0) (ZJ 0)) (Zl 104)) (ZJ 0))) (Zbm (ZcM (Zl 3)) (put1 106) Zbo (Zy ZY (Zy ZY (Zy ZY (Zl 0) (ZJ 0)) (ZJ 0)) (Zl 106))))) (Z9 (sIf (Zak (Zy oIn (ZaF) (Zl 4))) (Zau (ZaF)) ZaP) (Z9 (ZaI 5 (Zy ZY (Zl 1) (ZJ 0))) (Z9 (ZbS (ZcM (Zl 2)) (put1 6) (ZaI 5 (Zy Zbh (Zl 5) (Zy ZdS (Zy ZY (Zl 1) (Zl 6)) (Zy ZY (Zy ZY (Zy ZY (Zl 0) (ZJ 0)) (Zl 6)) (ZJ 0)))))) (Z9 (ZbS (ZcM (Zl 3)) (put1 6) (ZaI 5 (Zy ZeD (Zl 5) (Zy ZdS (Zy ZY (Zl 1) (Zl 6)) (Zy ZY (Zy ZY (Zy ZY (Zl 0) (ZJ 0)) (ZJ 0)) (Zl 6)))))) (Zau (Zl 5)))))))))
def ZrY:=ZK 2 Zno
def ZjV: PS:=(Z3 (ZaE 2 (ZaC (ZbC (Zr (Zv 1) (Zr (ZT Za1 (Zr (Ze 1) ZL)) ZL))) (Zag 100) (Z5 (Zm qGt (Zm ZA (Ze 1) (Ze 100)) (Zv 0))) (Ze 100))) (Z3 (ZaE 3 (ZaC (ZbC (Zr (Zv 1) (Zr (ZT Za1 (Zr (Ze 1) ZL)) ZL))) (Zag 102) (Z5 (Zm qLt (Zm ZA (Ze 1) (Ze 102)) (Zv 0))) (Ze 102))) (Z3 (qIf (Zbp (Z5 (Zm qEq (ZT Za1 (Zr (Ze 2) ZL)) (Zv 1))) (Zbp (Z5 (Zm qEq (ZT Za1 (Zr (Ze 3) ZL)) (Zv 1))) (Zbp (Z5 (Zm qEq (Zm ZA (Ze 1) (Zm ZA (Ze 2) (Zv 0))) (Zv 1))) (Zbp (Z5 (Zm qEq (Zm ZA (Ze 1) (Zm ZA (Ze 3) (Zv 0))) (pUn ZcX (Zv 1)))) Zas)))) (Z3 (qIf (Z5 (Zm qIs (Zm ZA (Zm ZA (Zm ZA (Ze 0) (Zv 0)) (Zm ZA (Ze 2) (Zv 0))) (Zm ZA (Ze 3) (Zv 0))) (Zaz))) (Zav (Zaz)) ZaD) (Zav (Zm ZaJ (Zm ZA (Zm ZA (Zm ZA (Ze 0) (Zv 0)) (Zm ZA (Ze 2) (Zv 0))) (Zm ZA (Ze 3) (Zv 0))) (Zm ZA (Ze 1) (Zv 0))))) ZaD) (Z3 (ZaE 4 (Zm ZaJ (ZaC (ZaT (Ze 2)) (Zag 104) Zas (Zm ZA (Zm ZA (Zm ZA (Ze 0) (Zv 0)) (Ze 104)) (Zv 0))) (ZaC (ZaT (Ze 3)) (Zag 106) Zas (Zm ZA (Zm ZA (Zm ZA (Ze 0) (Zv 0)) (Zv 0)) (Ze 106))))) (Z3 (qIf (Z5 (Zm qIn (Zaz) (Ze 4))) (Zav (Zaz)) ZaD) (Z3 (ZaE 5 (Zm ZA (Ze 1) (Zv 0))) (Z3 (Zbq (ZaT (Ze 2)) (Zag 6) (ZaE 5 (Zm ZaJ (Ze 5) (Zm Zb2 (Zm ZA (Ze 1) (Ze 6)) (Zm ZA (Zm ZA (Zm ZA (Ze 0) (Zv 0)) (Ze 6)) (Zv 0)))))) (Z3 (Zbq (ZaT (Ze 3)) (Zag 6) (ZaE 5 (Zm ZcW (Ze 5) (Zm Zb2 (Zm ZA (Ze 1) (Ze 6)) (Zm ZA (Zm ZA (Zm ZA (Ze 0) (Zv 0)) (Zv 0)) (Ze 6)))))) (Zav (Ze 5))))))))))
def ZfV:=ZN 2 ZjV
theorem ZhV: SimF false ZrY ZfV:=ZU (show S [] [] [] false Zno ZjV from(Zj (ZE (O':=[]) (ZbA (Gs.range (Zb (Zc _) (Zb (Z8 Zam (Zb (Za 1) Zd)) Zd))) PutOk.one (by decide) (Zq (Zk Zcw (Zg Zf (Za 1) (Za 100)) (Zc _))) (Za 100))) (Zj (ZE (O':=[]) (ZbA (Gs.range (Zb (Zc _) (Zb (Z8 Zam (Zb (Za 1) Zd)) Zd))) PutOk.one (by decide) (Zq (Zk Zb1 (Zg Zf (Za 1) (Za 102)) (Zc _))) (Za 102))) (Zj (ZF (Zah (Zq (Zk Z6 (Z8 Zam (Zb (Za 2) Zd)) (Zc _))) (Zah (Zq (Zk Z6 (Z8 Zam (Zb (Za 3) Zd)) (Zc _))) (Zah (Zq (Zk Z6 (Zg Zf (Za 1) (Zg Zf (Za 2) (Zc _))) (Zc _))) (Zah (Zq (Zk Z6 (Zg Zf (Za 1) (Zg Zf (Za 3) (Zc _))) (Za7 Za8 (Zc _)))) Zaj)))) (Zj (ZF (Zq (Zk Za0 (Zg Zf (Zg Zf (Zg Zf (Za 0) (Zc _)) (Zg Zf (Za 2) (Zc _))) (Zg Zf (Za 3) (Zc _))) (ZM))) (Zw (ZM)) ZG) (Zw (ZV Zab (Zg Zf (Zg Zf (Zg Zf (Za 0) (Zc _)) (Zg Zf (Za 2) (Zc _))) (Zg Zf (Za 3) (Zc _))) (Zg Zf (Za 1) (Zc _))))) ZG) (Zj (ZE (O':=[]) (ZV Zab (ZbA (Gs.seq (Za 2)) PutOk.one (by decide) Zaj (Zg Zf (Zg Zf (Zg Zf (Za 0) (Zc _)) (Za 104)) (Zc _))) (ZbA (Gs.seq (Za 3)) PutOk.one (by decide) Zaj (Zg Zf (Zg Zf (Zg Zf (Za 0) (Zc _)) (Zc _)) (Za 106))))) (Zj (ZF (Zq (Zk ZeH (ZM) (Za 4))) (Zw (ZM)) ZG) (Zj (ZE (O':=[]) (Zg Zf (Za 1) (Zc _))) (Zj (ZaG (Gs.seq (Za 2)) PutOk.one (by decide) (by decide) (ZE (O':=[]) (ZV Zab (Za 5) (ZV ZaX (Zg Zf (Za 1) (Za 6)) (Zg Zf (Zg Zf (Zg Zf (Za 0) (Zc _)) (Za 6)) (Zc _)))))) (Zj (ZaG (Gs.seq (Za 3)) PutOk.one (by decide) (by decide) (ZE (O':=[]) (Zk Za4 (Za 5) (ZV ZaX (Zg Zf (Za 1) (Za 6)) (Zg Zf (Zg Zf (Zg Zf (Za 0) (Zc _)) (Zc _)) (Za 6)))))) (Zw (Za 5)))))))))))
def ZfJ: XS [] [] [] false:=⟨_,_,(Zw (Zk Z6 (ZiM Zps (Zb (ZbA (Gs.seq (Zhq (k:=1) (Za 0))) (PutOk.one (j:=100)) (by decide) (Zq (Zk Zbi (Za 100) (Zc 0))) (Za 100)) Zd)) (E.list (Zb (Za7 Za8 (Zc 1)) (Zb (Zc 1) Zd)))))⟩
def Zna:=ZK 1 (XS.g ZfJ)
def ZjP:=ZN 1 (XS.q ZfJ)
theorem ZrJ: SimF false Zna ZjP:=ZU (XS.h ZfJ)
def ZfW: XS [] [] [] false:=⟨_,_,(Zj (ZE (i:=1) (O':=[]) (Zg Zf (Za 0) (Zc 0))) (Zw (ZbA (Gs.range (Zb (Zc 1) (Zb (Z8 Zam (Zb (Za 1) Zd)) Zd))) (PutOk.one (j:=100)) (by decide) Zaj (E.tup (Zb (Zu Zic (Zb (Zg Zf (Zg Zf (Za 1) (Zc 0)) (Za 100)) (Zb (Za7 Za8 (Zc 1)) Zd))) (Zb (Zg Zf (Zg Zf (Za 1) (Za 100)) (Zc 0)) Zd))))))⟩
def Znp:=ZK 1 (XS.g ZfW)
def ZjW:=ZN 1 (XS.q ZfW)
theorem ZrZ: SimF false Znp ZjW:=ZU (XS.h ZfW)
def ZgH: XS [] [] [] false:=⟨_,_,(Zj (ZF (Zq (Zu ZrJ (Zb (Za 1) Zd))) (Zw (Zu ZeV (Zb (Zg Zf (Zg Zf (Zg Zf (Za 0) (Zc 0)) (E.index (Za 1) (Zc 1) (Zc 1))) (E.index (Za 1) (Za7 Za8 (Zc 1)) (Zc 1))) (Zb (Zg Zf (Za 1) (Zc 0)) Zd)))) ZG) (Zw (Zg Zf (Zu Zsj (Zb (Za 1) (Zb (Zu ZrZ (Zb (Za 0) Zd)) Zd))) (Zc 1))))⟩
def ZoD:=ZK 2 (XS.g ZgH)
def ZkX:=ZN 2 (XS.q ZgH)
theorem ZkY: SimF false ZoD ZkX:=ZU (XS.h ZgH)
def Zgs: XS [] [] [] false:=⟨_,_,(Zw (ZbA (Gs.seq (Za 0)) (PutOk.one (j:=100)) (by decide) Zaj (ZV ZaX (Za 100) (Za 1))))⟩
def ZkA:=ZK 2 (XS.g Zgs)
def Zie:=ZN 2 (XS.q Zgs)
theorem Zd1: SimF false ZkA Zie:=ZU (XS.h Zgs)
def Zhl: XS [] [] [] false:=⟨_,_,(Zw (Zu Zic (Zb (Zu ZkY (Zb (Za 0) (Zb (Zu Zd1 (Zb (Za 1) (Zb (Za7 Za8 (Zc 1)) Zd))) Zd))) (Zb (Za7 Za8 (Zc 1)) Zd))))⟩
def Zqc:=ZK 2 (XS.g Zhl)
def ZiX:=ZN 2 (XS.q Zhl)
theorem Zwk: SimF false Zqc ZiX:=ZU (XS.h Zhl)
def Zgt: XS [] [] [] false:=⟨_,_,(Zw (ZV Zab (Zg Zf (Za 0) (Zc 0)) (Z8 ZxW (Zb (ZbA (Gs.range (Zb (Z8 Zam (Zb (Za 1) Zd)) Zd)) (PutOk.one (j:=100)) (by decide) Zaj (ZV ZaX (Zg Zf (Za 0) (ZV Zab (Za 100) (Zc 1))) (Zg Zf (Za 1) (Za 100)))) Zd))))⟩
def Zn5:=ZK 2 (XS.g Zgt)
def Zd2:=ZN 2 (XS.q Zgt)
theorem Zn6: SimF false Zn5 Zd2:=ZU (XS.h Zgt)
def ZgI: XS [] [] [] false:=⟨_,_,(Zw (ZbA (Gs.zip (Za 0) (Za 1)) (PutOk.two (i:=100) (j:=101)) (by decide) Zaj (ZV Zab (Za 100) (Za 101))))⟩
def ZoE:=ZK 2 (XS.g ZgI)
def ZkZ:=ZN 2 (XS.q ZgI)
theorem ZtA: SimF false ZoE ZkZ:=ZU (XS.h ZgI)
def ZgJ: XS [] [] [] false:=⟨_,_,(Zw (Zu ZtA (Zb (Za 0) (Zb (Zu Zd1 (Zb (Za 1) (Zb (Za7 Za8 (Zc 1)) Zd))) Zd))))⟩
def Zk0:=ZK 2 (XS.g ZgJ)
def Zil:=ZN 2 (XS.q ZgJ)
theorem Zk1: SimF false Zk0 Zil:=ZU (XS.h ZgJ)
def ZgT: XS [] [] [] false:=⟨_,_,(Zw (ZbA (Gs.range (Zb (ZV Zab (Za 1) (Zc 1)) Zd)) (PutOk.one (j:=100)) (by decide) Zaj (Zew (Zah (Zq (Zk Zcw (Za 0) (Zc 0))) (Zah (Zq (Zk Z6 (Za 100) (Za 0))) Zaj)) (E.sh (Zc 1)) (E.sh (Zc 0)))))⟩
def ZgU:=ZK 2 (XS.g ZgT)
def Ze3:=ZN 2 (XS.q ZgT)
theorem Ziw: SimF false ZgU Ze3:=ZU (XS.h ZgT)
def ZhW: XS [] [] [] false:=⟨_,_,(Zj (ZE (i:=2) (O':=[]) (Zc 0)) (Zj (ZE (i:=3) (O':=[]) (Zg Zf (Za 0) (Zc 0))) (Zj (ZaG (Gs.range (Zb (Z8 Zam (Zb (Za 1) Zd)) Zd)) (PutOk.one (j:=4)) (by decide) (by decide) (Zj (ZE (i:=2) (O':=[]) (Zu Zlj (Zb (Za 2) (Zb (ZV ZaX (Zg Zf (Za 0) (ZV Zab (Za 4) (Zc 1))) (Zg Zf (Zg Zf (Za 1) (Za 4)) (Zc 0))) Zd)))) (ZE (i:=3) (O':=[]) (ZV Zab (Za 3) (ZV ZaX (Zg Zf (Za 0) (ZV Zab (Za 4) (Zc 1))) (Zg Zf (Zg Zf (Za 1) (Za 4)) (Zc 1))))))) (Zw (Zu ZeL (Zb (Za 2) (Zb (Za 3) Zd)))))))⟩
def Zr0:=ZK 2 (XS.g ZhW)
def ZjX:=ZN 2 (XS.q ZhW)
theorem Znq: SimF false Zr0 ZjX:=ZU (XS.h ZhW)
def Zgb: XS [] [] [] false:=⟨_,_,(Zw (Zu ZeV (Zb (Zu ZkY (Zb (Za 0) (Zb (Zu Zk1 (Zb (Za 1) (Zb (Za 2) Zd))) Zd))) (Zb (Za 3) Zd))))⟩
def Zh5:=ZK 4 (XS.g Zgb)
def Zgc:=ZN 4 (XS.q Zgb)
theorem ZnJ: SimF false Zh5 Zgc:=ZU (XS.h Zgb)
def ZhY: Sm:=Z9 (ZaI 4 (Z0 ZbO (Zz (Zy ZY (Zl 1) (ZJ 1)) ZZ))) (ZbS (Zca (Zz (Zy Zbh (Zl 4) (ZJ 1)) ZZ)) (put1 5) (ZbS (Zca (Zz (Zy Zbh (Zl 4) (ZJ 1)) ZZ)) (put1 6) (Z9 (ZaI 7 (Z0 Zk0 (Zz (Z0 ZgU (Zz (Zl 5) (Zz (Zl 4) ZZ))) (Zz (Z0 ZgU (Zz (Zl 6) (Zz (Zl 4) ZZ))) ZZ)))) (ZcV (Z0 ZgG (Zz (Zl 0) (Zz (Zl 5) (Zz (Zl 6) (Zz (Z0 Zh5 (Zz (Zl 1) (Zz (Zl 7) (Zz (Zl 2) (Zz (Zl 3) ZZ))))) ZZ)))))))))
def Zny:=ZK 4 ZhY
def Zj8: PS:=(Z3 (ZaE 4 (ZT Za1 (Zr (Zm ZA (Ze 1) (Zv 1)) ZL))) (Zbq (ZbC (Zr (Zm ZaJ (Ze 4) (Zv 1)) ZL)) (Zag 5) (Zbq (ZbC (Zr (Zm ZaJ (Ze 4) (Zv 1)) ZL)) (Zag 6) (Z3 (ZaE 7 (ZT Zil (Zr (ZT Ze3 (Zr (Ze 5) (Zr (Ze 4) ZL))) (Zr (ZT Ze3 (Zr (Ze 6) (Zr (Ze 4) ZL))) ZL)))) (ZfE 0 ZeW (Zr (Ze 5) (Zr (Ze 6) (Zr (ZT Zgc (Zr (Ze 1) (Zr (Ze 7) (Zr (Ze 2) (Zr (Ze 3) ZL))))) ZL))))))))
def Zj9:=ZeI 4 Zj8
theorem Zso: SimM Zny Zj9:=Zl3 (show S [0] [0] [0] false ZhY Zj8 from(Zj (ZE (O':=[0]) (Z8 Zam (Zb (Zg Zf (Za 1) (Zc _)) Zd))) (ZaG (Gs.range (Zb (ZV Zab (Za 4) (Zc _)) Zd)) PutOk.one (by decide) (by decide) (ZaG (Gs.range (Zb (ZV Zab (Za 4) (Zc _)) Zd)) PutOk.one (by decide) (by decide) (Zj (ZE (O':=[0]) (Zu Zk1 (Zb (Zu Ziw (Zb (Za 5) (Zb (Za 4) Zd))) (Zb (Zu Ziw (Zb (Za 6) (Zb (Za 4) Zd))) Zd)))) (Zhs (O':=[0]) (by decide) ZkW (Zb (Za 5) (Zb (Za 6) (Zb (Zu ZnJ (Zb (Za 1) (Zb (Za 7) (Zb (Za 2) (Zb (Za 3) Zd))))) Zd))) (by decide) (by decide))))))) (by decide) (by unfold ZhY;repeat' first | exact Keep0.next | exact Zlg | exact Keep0.ret | exact Keep0.put | apply Keep0.seq | apply Zlh | exact Keep0.set (by decide) | apply ZoW (Zor (by decide)))
def Zgd: XS [] [] [] false:=⟨_,_,(Zj (ZF (Zq (Zk Za0 (Za 0) (ZM))) (Zw (ZM)) ZG) (Zw (Zk ZcI (Za 0) (Za 1))))⟩
def Zh6:=ZK 2 (XS.g Zgd)
def Zge:=ZN 2 (XS.q Zgd)
theorem ZnK: SimF false Zh6 Zge:=ZU (XS.h Zgd)
def ZhZ: Sm:=Z9 (ZaI 4 (Z0 ZbO (Zz (Zy ZY (Zl 1) (ZJ 1)) ZZ))) (ZbS (Zca (Zz (ZJ 1) (Zz (Zy Zbh (Zl 4) (ZJ 1)) ZZ))) (put1 5) (Z9 (ZaI 6 (Zy ZY (Zl 2) (Zl 5))) (Z9 (ZaI 7 (Z0 Zh5 (Zz (Zl 1) (Zz (Z0 ZkA (Zz (Z0 ZgU (Zz (Zl 5) (Zz (Zl 4) ZZ))) (Zz (Zl 6) ZZ))) (Zz (Zl 2) (Zz (Zl 3) ZZ)))))) (Z9 (sIf (Zak (Zy oGt (Zl 6) (ZJ 0))) (ZcV (Z0 ZgG (Zz (Zl 0) (Zz (Zl 5) (Zz (ZJ 0) (Zz (Z0 Zh6 (Zz (Zl 7) (Zz (Zl 6) ZZ))) ZZ)))))) ZaP) (sIf (Zak (Zy oLt (Zl 6) (ZJ 0))) (ZcV (Z0 ZgG (Zz (Zl 0) (Zz (ZJ 0) (Zz (Zl 5) (Zz (Z0 Zh6 (Zz (Zl 7) (Zz (eUn ZfA (Zl 6)) ZZ))) ZZ)))))) ZaP)))))
def Znz:=ZK 4 ZhZ
def Zka: PS:=(Z3 (ZaE 4 (ZT Za1 (Zr (Zm ZA (Ze 1) (Zv 1)) ZL))) (Zbq (ZbC (Zr (Zv 1) (Zr (Zm ZaJ (Ze 4) (Zv 1)) ZL))) (Zag 5) (Z3 (ZaE 6 (Zm ZA (Ze 2) (Ze 5))) (Z3 (ZaE 7 (ZT Zgc (Zr (Ze 1) (Zr (ZT Zie (Zr (ZT Ze3 (Zr (Ze 5) (Zr (Ze 4) ZL))) (Zr (Ze 6) ZL))) (Zr (Ze 2) (Zr (Ze 3) ZL)))))) (Z3 (qIf (Z5 (Zm qGt (Ze 6) (Zv 0))) (ZfE 0 ZeW (Zr (Ze 5) (Zr (Zv 0) (Zr (ZT Zge (Zr (Ze 7) (Zr (Ze 6) ZL))) ZL)))) ZaD) (qIf (Z5 (Zm qLt (Ze 6) (Zv 0))) (ZfE 0 ZeW (Zr (Zv 0) (Zr (Ze 5) (Zr (ZT Zge (Zr (Ze 7) (Zr (pUn ZcX (Ze 6)) ZL))) ZL)))) ZaD))))))
def Zkb:=ZeI 4 Zka
theorem Zsp: SimM Znz Zkb:=Zl3 (show S [0] [0] [0] false ZhZ Zka from(Zj (ZE (O':=[0]) (Z8 Zam (Zb (Zg Zf (Za 1) (Zc _)) Zd))) (ZaG (Gs.range (Zb (Zc _) (Zb (ZV Zab (Za 4) (Zc _)) Zd))) PutOk.one (by decide) (by decide) (Zj (ZE (O':=[0]) (Zg Zf (Za 2) (Za 5))) (Zj (ZE (O':=[0]) (Zu ZnJ (Zb (Za 1) (Zb (Zu Zd1 (Zb (Zu Ziw (Zb (Za 5) (Zb (Za 4) Zd))) (Zb (Za 6) Zd))) (Zb (Za 2) (Zb (Za 3) Zd)))))) (Zj (ZF (Zq (Zk Zcw (Za 6) (Zc _))) (Zhs (O':=[0]) (by decide) ZkW (Zb (Za 5) (Zb (Zc _) (Zb (Zu ZnK (Zb (Za 7) (Zb (Za 6) Zd))) Zd))) (by decide) (by decide)) ZG) (ZF (Zq (Zk Zb1 (Za 6) (Zc _))) (Zhs (O':=[0]) (by decide) ZkW (Zb (Zc _) (Zb (Za 5) (Zb (Zu ZnK (Zb (Za 7) (Zb (Za7 Za8 (Za 6)) Zd))) Zd))) (by decide) (by decide)) ZG))))))) (by decide) (by unfold ZhZ;repeat' first | exact Keep0.next | exact Zlg | exact Keep0.ret | exact Keep0.put | apply Keep0.seq | apply Zlh | exact Keep0.set (by decide) | apply ZoW (Zor (by decide)))
def Zea: XS [] [3] [] true:=⟨_,_,(Zj (ZF (ZaM (Zq (Zk Za0 (Za 0) (ZM))) (ZaM (Zq (Zu Zuh (Zb (Zu Zwk (Zb (Za 0) (Zb (Za 1) Zd))) (Zb (Za 2) Zd)))) ZbX)) (ZaS (ZM)) ZG) (Zj (Zcb (i:=3) (O':=[3]) (Zbn Zl7 (Zb (Zg Zf (Za 0) (Zc 0)) Zd))) (Zj (Zhs (x:=3) (O':=[3]) (by decide) Zso (Zb (Za 0) (Zb (Za 1) (Zb (Za 2) Zd))) (by decide) (by decide)) (Zj (Zhs (x:=3) (O':=[3]) (by decide) Zsp (Zb (Za 0) (Zb (Za 1) (Zb (Za 2) Zd))) (by decide) (by decide)) (ZaS (Zbn Zqa (Zb (E.tup (Zb (Za 3) (Zb (Zg Zf (Za 0) (Zc 1)) Zd))) Zd)))))))⟩
def Zo4:=ZK 3 (XS.g Zea)
def Zcy:=ZN 3 (XS.q Zea)
theorem ZgV: SimF true Zo4 Zcy:=ZU (XS.h Zea)
def ZeO: XS [] [] [] true:=⟨_,_,(Zj (ZF (Zq (Za 2)) (ZaS (Zbn ZgV (Zb (Za 0) (Zb (Za 1) (Zb (Za7 Za8 (Zc 1)) Zd))))) ZG) (ZaS (Zbn ZgV (Zb (Za 0) (Zb (Zu Zd1 (Zb (Za 1) (Zb (Za7 Za8 (Zc 1)) Zd))) (Zb (Zc 0) Zd))))))⟩
def ZnL:=ZK 3 (XS.g ZeO)
def ZeP:=ZN 3 (XS.q ZeO)
theorem ZsM: SimF true ZnL ZeP:=ZU (XS.h ZeO)
def ZfK: XS [] [] [] false:=⟨_,_,(Zw (Zu Zji (Zb (Zu Zll (Zb (Zg Zf (Za 0) (Zc 0)) (Zb (Za 1) Zd))) (Zb (Zg Zf (Za 0) (Zc 1)) Zd))))⟩
def Znb:=ZK 2 (XS.g ZfK)
def ZjQ:=ZN 2 (XS.q ZfK)
theorem Znc: SimF false Znb ZjQ:=ZU (XS.h ZfK)
def Zf6: XS [] [] [] false:=⟨_,_,(Zj (ZE (i:=4) (O':=[]) (Zg Zf (Za 1) (Za 3))) (Zj (ZE (i:=5) (O':=[]) (Zg Zf (Za 0) (Zk Za4 (Za 3) (Zc 1)))) (Zj (ZF (Zq (Zk Zbi (Z8 ZcJ (Zb (Za 4) Zd)) (Zc 1))) (Zw (Za 5)) ZG) (Zj (ZE (i:=6) (O':=[]) (Zu Zk1 (Zb (Za 1) (Zb (Zu Zd1 (Zb (Zu Ziw (Zb (Za 3) (Zb (Z8 Zam (Zb (Za 0) Zd)) Zd))) (Zb (Za 4) Zd))) Zd)))) (Zw (Zu Zox (Zb (Za 5) (Zb (Zu Znc (Zb (Zu Zkg (Zb (Zu Zij (Zb (Za 6) (Zb (Za 0) Zd))) (Zb (Za7 Za8 (Za 4)) Zd))) (Zb (Za 2) Zd))) Zd))))))))⟩
def ZnA:=ZK 4 (XS.g Zf6)
def Zh0:=ZN 4 (XS.q Zf6)
theorem Zsq: SimF false ZnA Zh0:=ZU (XS.h Zf6)
def ZeQ: XS [] [] [] true:=⟨_,_,(Zj (ZF (Zq (Zk Za0 (Za 0) (ZM))) (ZaS (ZM)) ZG) (Zj (ZE (i:=3) (O':=[]) (ZbA (Gs.range (Zb (Zc 1) (Zb (Z8 Zam (Zb (Za 1) Zd)) Zd))) (PutOk.one (j:=100)) (by decide) Zaj (Zu Zsq (Zb (Zg Zf (Za 0) (Zc 1)) (Zb (Za 1) (Zb (Za 2) (Zb (Za 100) Zd))))))) (Zj (ZF (Zq (Zk ZeH (ZM) (Za 3))) (ZaS (ZM)) ZG) (ZaS (Zbn Zqa (Zb (E.tup (Zb (Zg Zf (Za 0) (Zc 0)) (Zb (Za 3) Zd))) Zd))))))⟩
def Zn7:=ZK 3 (XS.g ZeQ)
def Zdg:=ZN 3 (XS.q ZeQ)
theorem Zn8: SimF true Zn7 Zdg:=ZU (XS.h ZeQ)
def ZeR: XS [] [] [] true:=⟨_,_,(Zj (ZF (ZbI (Zq (Zu ZgB (Zb (Zu Znc (Zb (Zu Zij (Zb (Za 1) (Zb (Zg Zf (Za 0) (Zc 1)) Zd))) (Zb (Za 2) Zd))) (Zb (Zc 0) Zd))))) (ZaS (ZM)) ZG) (ZaS (Zbn Zn8 (Zb (Za 0) (Zb (Za 1) (Zb (Za 2) Zd))))))⟩
def Zn9:=ZK 3 (XS.g ZeR)
def Zgu:=ZN 3 (XS.q ZeR)
theorem Zoa: SimF true Zn9 Zgu:=ZU (XS.h ZeR)
def ZdW: XS [] [] [] true:=⟨_,_,(Zj (ZF (Zq (Zu Zsh (Zb (Zu Zij (Zb (Za 1) (Zb (Zg Zf (Za 0) (Zc 1)) Zd))) (Zb (E.tup (Zb (Za 2) (Zb (Zc 0) Zd))) Zd)))) (ZaS (ZM)) ZG) (Zj (ZF (Zq (Zk Z6 (Za 2) (Zc 2))) (ZaS (Zbn Zoa (Zb (Za 0) (Zb (ZV Zab (E.list (Zb (ZV Zab (Zg Zf (Za 1) (Zc 0)) (Zc 1)) Zd)) (Zhq (k:=1) (Za 1))) (Zb (Zc 2) Zd))))) ZG) (ZaS (Zbn Zl7 (Zb (Za 0) Zd)))))⟩
def Znd:=ZK 3 (XS.g ZdW)
def ZeK:=ZN 3 (XS.q ZdW)
theorem ZrK: SimF true Znd ZeK:=ZU (XS.h ZdW)
def ZeS: XS [] [] [] true:=⟨_,_,(Zj (ZF (ZbI (Zq (Zu ZgB (Zb (Zu Zij (Zb (Za 1) (Zb (Zg Zf (Za 0) (Zc 1)) Zd))) (Zb (Zc 0) Zd))))) (ZaS (ZM)) ZG) (Zj (ZE (i:=2) (O':=[]) (Zu ZgV (Zb (Zu ZgV (Zb (Za 0) (Zb (Za 1) (Zb (Zc 0) Zd)))) (Zb (Zu Zd1 (Zb (Za 1) (Zb (Za7 Za8 (Zc 1)) Zd))) (Zb (Zc 0) Zd))))) (ZaS (Zbn Zn8 (Zb (Za 2) (Zb (Za 1) (Zb (Zc 0) Zd)))))))⟩
def Zob:=ZK 2 (XS.g ZeS)
def Zd3:=ZN 2 (XS.q ZeS)
theorem Zta: SimF true Zob Zd3:=ZU (XS.h ZeS)
def Zd8: XS [] [] [] false:=⟨_,_,(Zj (ZF (Zah (Zq (Zk Zbg (Za 0) (ZM))) (Zah (Zq (Zu ZnX (Zb (Zu ZkY (Zb (Za 0) (Zb (Za 1) Zd))) (Zb (Zc 0) Zd)))) Zaj)) (Zw (Zu ZgV (Zb (Za 0) (Zb (Za 1) (Zb (Za7 Za8 (Zc 1)) Zd))))) ZG) (Zw (Za 0)))⟩
def ZoF:=ZK 2 (XS.g Zd8)
def ZdB:=ZN 2 (XS.q Zd8)
theorem ZoG: SimF false ZoF ZdB:=ZU (XS.h Zd8)
def ZfL: XS [] [] [] true:=⟨_,_,(ZaS (Zbn Zl7 (Zb (Zu ZoG (Zb (Zu ZoG (Zb (Za 0) (Zb (Za 1) Zd))) (Zb (Zu Zd1 (Zb (Za 1) (Zb (Za7 Za8 (Zc 1)) Zd))) Zd))) Zd)))⟩
def Zne:=ZK 2 (XS.g ZfL)
def ZfM:=ZN 2 (XS.q ZfL)
theorem ZrL: SimF true Zne ZfM:=ZU (XS.h ZfL)
def Zeq: XS [] [] [] true:=⟨_,_,(Zj (ZF (Zq (Zk Za0 (Za 0) (ZM))) (ZaS (ZM)) ZG) (Zj (ZF (Zq (Zk Z6 (Zg Zf (Za 1) (Zc 0)) (E.str (Str.ofString "under")))) (ZaS (Zbn ZsM (Zb (Za 0) (Zb (Zg Zf (Za 1) (Zc 1)) (Zb (Za 2) Zd))))) ZG) (Zj (ZF (Zq (Zk Z6 (Zg Zf (Za 1) (Zc 0)) (E.str (Str.ofString "same")))) (ZaS (Zew (Zq (Za 2)) (Zbn Zta (Zb (Za 0) (Zb (Zg Zf (Za 1) (Zc 1)) Zd))) (Zbn ZrL (Zb (Za 0) (Zb (Zg Zf (Za 1) (Zc 1)) Zd))))) ZG) (ZaS (Zew (Zq (Za 2)) (Zbn Zoa (Zb (Za 0) (Zb (Zg Zf (Za 1) (Zc 1)) (Zb (Zg Zf (Za 1) (Zc 2)) Zd)))) (Zbn ZrK (Zb (Za 0) (Zb (Zg Zf (Za 1) (Zc 1)) (Zb (Zg Zf (Za 1) (Zc 2)) Zd)))))))))⟩
def ZqY:=ZK 3 (XS.g Zeq)
def Zcl:=ZN 3 (XS.q Zeq)
theorem ZxC: SimF true ZqY Zcl:=ZU (XS.h Zeq)
def Zim: XS [] [3] [] false:=⟨_,_,(Zj (Zcb (i:=3) (O':=[3]) (Zec Zdo (Zb (Za 0) Zd))) (Zj (ZF (Zq (Zk Zcw (Za 1) (Zc 0))) (S.put (x:=3) (O':=[3]) (by decide) (Zbc (O':=[]) (Zmn Zab (Zg Zf (Za 3) (Za 1)) (Za 2))) Zbs (Za 1) (by decide) (by decide)) ZG) (Zw (Za 3))))⟩
def ZtB:=ZK 3 (XS.g Zim)
def Zin:=ZN 3 (XS.q Zim)
theorem Zio: SimF false ZtB Zin:=ZU (XS.h Zim)
def Zh7: XS [] [] [] false:=⟨_,_,(Zj (ZF (Zq (Zk Za0 (Za 0) (ZM))) (Zw (Za 1)) ZG) (Zj (ZF (Zq (Zk Za0 (Za 1) (ZM))) (Zw (Za 0)) ZG) (Zw (Z8 Zw3 (Zb (Za 0) (Zb (Za 1) Zd))))))⟩
def ZsN:=ZK 2 (XS.g Zh7)
def Zh8:=ZN 2 (XS.q Zh7)
theorem Zkj: SimF false ZsN Zh8:=ZU (XS.h Zh7)
def ZeM: XS [] [5] [] false:=⟨_,_,(Zj (ZF (Zq (Zk Za0 (Za 0) (ZM))) (Zw (ZM)) ZG) (Zj (ZE (i:=3) (O':=[]) (ZbA (Gs.seq (Za 1)) (PutOk.one (j:=100)) (by decide) Zaj (Za7 Za8 (Za 100)))) (Zj (ZE (i:=4) (O':=[]) (Zu ZhV (Zb (Za 0) (Zb (Za 3) Zd)))) (Zj (ZF (Zah (Zq (Zk Zbg (Za 4) (ZM))) (Zah (Zq (Zk Zcw (Za7 Za8 (Za 4)) (Za 2))) Zaj)) (Zw (ZM)) ZG) (Zj (Zcb (i:=5) (O':=[5]) (ZcY (Gs.seq (Zg Zf (Za 0) (Zc 0))) (PutOk.one (j:=102)) (by decide) Zaj (Zec Zdo (Zb (Za 102) Zd)))) (Zj (ZaG (Gs.range (Zb (Z8 Zam (Zb (Za 5) Zd)) Zd)) (PutOk.one (j:=6)) (by decide) (by decide) (ZaG (Gs.range (Zb (Z8 Zam (Zb (Za 5) Zd)) Zd)) (PutOk.one (j:=7)) (by decide) (by decide) (Zj (ZE (i:=4) (O':=[5]) (Zu ZhV (Zb (Za 0) (Zb (Zu Zio (Zb (Zu Zio (Zb (Za 3) (Zb (Za 6) (Zb (Zc 1) Zd)))) (Zb (Za 7) (Zb (Za7 Za8 (Zc 1)) Zd)))) Zd)))) (ZF (Zah (Zq (Zk Zbi (Za 6) (Za 7))) (Zah (Zq (Zk Zbg (Za 4) (ZM))) Zaj)) (S.put (x:=5) (O':=[5]) (by decide) (Zbc (O':=[]) (E.flat (Zu Zkj (Zb (Zg Zf (Zg Zf (Za 5) (Za 6)) (Za 7)) (Zb (ZV Zab (Za 4) (Za 2)) Zd))))) (Zen Zbs (Za 6)) (Za 7) (by decide) (by decide)) ZG)))) (Zj (ZaG (Gs.range (Zb (Zc 1) (Zb (Z8 Zam (Zb (Za 5) Zd)) Zd))) (PutOk.one (j:=6)) (by decide) (by decide) (Zj (ZE (i:=4) (O':=[5]) (Zu ZhV (Zb (Za 0) (Zb (Zu Zio (Zb (Za 3) (Zb (Za 6) (Zb (Zg Zf (Za 1) (Za 6)) Zd)))) Zd)))) (Zj (ZF (Zah (Zq (Zk Zcw (Zg Zf (Za 1) (Za 6)) (Zc 0))) (Zah (Zq (Zk Zbg (Za 4) (ZM))) Zaj)) (S.put (x:=5) (O':=[5]) (by decide) (Zbc (O':=[]) (E.flat (Zu Zkj (Zb (Zg Zf (Zg Zf (Za 5) (Za 6)) (Zc 0)) (Zb (Zk ZcI (ZV Zab (Za 4) (Za 2)) (Zg Zf (Za 1) (Za 6))) Zd))))) (Zen Zbs (Za 6)) (Zc 0) (by decide) (by decide)) ZG) (ZF (Zah (Zq (Zk Zb1 (Zg Zf (Za 1) (Za 6)) (Zc 0))) (Zah (Zq (Zk Zbg (Za 4) (ZM))) Zaj)) (S.put (x:=5) (O':=[5]) (by decide) (Zbc (O':=[]) (E.flat (Zu Zkj (Zb (Zg Zf (Zg Zf (Za 5) (Zc 0)) (Za 6)) (Zb (Zk ZcI (ZV Zab (Za 4) (Za 2)) (Z8 ZcJ (Zb (Zg Zf (Za 1) (Za 6)) Zd))) Zd))))) (Zen Zbs (Zc 0)) (Za 6) (by decide) (by decide)) ZG)))) (Zw (Zu Zn3 (Zb (E.tup (Zb (Za 5) (Zb (Zg Zf (Za 0) (Zc 1)) Zd))) Zd))))))))))⟩
def Zsr:=ZK 3 (XS.g ZeM)
def Zcx:=ZN 3 (XS.q ZeM)
theorem Zkc: SimF false Zsr Zcx:=ZU (XS.h ZeM)
def Zip: XS [] [3] [] false:=⟨_,_,(Zj (Zcb (i:=3) (O':=[3]) (Zec Zdo (Zb (Zg Zf (Za 0) (Zc 1)) Zd))) (Zj (ZaG (Gs.range (Zb (Zc 1) (Zb (Z8 Zam (Zb (Za 1) Zd)) Zd))) (PutOk.one (j:=4)) (by decide) (by decide) (Zj (ZE (i:=5) (O':=[3]) (Zg Zf (Za 1) (Za 4))) (ZF (ZaM (Zq (Zk Z6 (Za 5) (Zc 1))) (ZaM (Zq (Zk Z6 (Za 5) (Za7 Za8 (Zc 1)))) ZbX)) (Zj (ZE (i:=6) (O':=[3]) (Zu Znq (Zb (Zu Zio (Zb (Za 1) (Zb (Za 4) (Zb (Za7 Za8 (Za 5)) Zd)))) (Zb (Zg Zf (Za 0) (Zc 1)) Zd)))) (Zj (ZE (i:=6) (O':=[3]) (Zu ZeL (Zb (Zu Zlj (Zb (Zg Zf (Za 6) (Zc 0)) (Zb (Za 2) Zd))) (Zb (ZV ZaX (Za7 Za8 (Za 5)) (Zg Zf (Za 6) (Zc 1))) Zd)))) (S.put (x:=3) (O':=[3]) (by decide) (Zbc (O':=[]) (E.flat (Zu Zo2 (Zb (Zg Zf (Za 3) (Zk Za4 (Za 4) (Zc 1))) (Zb (Za 6) Zd))))) Zbs (Zk Za4 (Za 4) (Zc 1)) (by decide) (by decide)))) ZG))) (Zj (ZF (Zq (Zk ZeH (ZM) (Za 3))) (Zw (ZM)) ZG) (Zw (Zu Zn3 (Zb (E.tup (Zb (Zg Zf (Za 0) (Zc 0)) (Zb (Za 3) Zd))) Zd))))))⟩
def ZtC:=ZK 3 (XS.g Zip)
def Zd9:=ZN 3 (XS.q Zip)
theorem ZtD: SimF false ZtC Zd9:=ZU (XS.h Zip)
def ZjR: XS [] [] [] false:=⟨_,_,(Zj (ZF (Zq (Zk Zbi (Zg Zf (Zu Znq (Zb (Za 1) (Zb (Zg Zf (Za 0) (Zc 1)) Zd))) (Zc 1)) (Zc 0))) (Zw (ZM)) ZG) (Zj (ZE (i:=2) (O':=[]) (Zu Zkc (Zb (Zu Zkc (Zb (Za 0) (Zb (Za 1) (Zb (Zc 0) Zd)))) (Zb (ZbA (Gs.seq (Za 1)) (PutOk.one (j:=100)) (by decide) Zaj (Za7 Za8 (Za 100))) (Zb (Zc 0) Zd))))) (Zj (ZF (Zq (Zk Za0 (Za 2) (ZM))) (Zw (ZM)) ZG) (Zw (Zu ZtD (Zb (Za 2) (Zb (Za 1) (Zb (Zc 0) Zd))))))))⟩
def ZfN:=ZN 2 (XS.q ZjR)
def ZnM: XS [] [] [] false:=⟨_,_,(Zj (ZaG (Gs.seq (E.list (Zb (Za 1) (Zb (ZbA (Gs.seq (Za 1)) (PutOk.one (j:=100)) (by decide) Zaj (Za7 Za8 (Za 100))) Zd)))) (PutOk.one (j:=2)) (by decide) (by decide) (ZF (Zq (Zk Zbg (Za 0) (ZM))) (Zj (ZE (i:=3) (O':=[]) (Zu ZhV (Zb (Za 0) (Zb (Za 2) Zd)))) (ZF (Zah (Zq (Zk Zbg (Za 3) (ZM))) (Zah (Zq (Zk ZhN (Za 3) (Zc 0))) Zaj)) (ZE (i:=0) (O':=[]) (Zu Zkc (Zb (Za 0) (Zb (Za 2) (Zb (Za7 Za8 (Zc 1)) Zd))))) ZG)) ZG)) (Zw (Za 0)))⟩
def Zkk:=ZN 2 (XS.q ZnM)
def ZfO: XS [] [2] [] false:=⟨_,_,(Zj (Zcb (i:=2) (O':=[2]) (Zbn Zuk (Zb (Za 0) (Zb (Zc 8) (Zb (Z8 Zam (Zb (Za 1) Zd)) Zd))))) (Zj (ZF (Zq (Zk Zcw (Zu Zb7 (Zb (Za 0) (Zb (Zc 7) (Zb (Zc 4) Zd)))) (Zc 0))) (S.put (x:=2) (O':=[2]) (by decide) (Zbc (O':=[]) (Zk Za4 (ZV Zab (Zk Za4 (Zg Zf (Za 2) (Zc 0)) (Zu Zn6 (Zb (Za 2) (Zb (Za 1) Zd)))) (Zu Zb7 (Zb (Za 0) (Zb (Zc 6) (Zb (Zc 5) Zd))))) (Zc 2))) Zbs (Zc 0) (by decide) (by decide)) ZG) (Zj (ZE (i:=3) (O':=[2]) (Zu Zb7 (Zb (Za 0) (Zb (Zc 13) (Zb (Zc 12) Zd))))) (Zj (ZF (Zq (Zk Z6 (Zk ZaW (Za 3) (Zc 3)) (Zc 0))) (Zw (E.tup (Zb (E.str (Str.ofString "under")) (Zb (Za 2) Zd)))) ZG) (Zj (ZF (Zq (Zk Z6 (Zk ZaW (Za 3) (Zc 3)) (Zc 1))) (Zw (E.tup (Zb (E.str (Str.ofString "same")) (Zb (Za 2) Zd)))) ZG) (Zj (ZF (Zq (Zk Z6 (Za 3) (Zc 2))) (Zw (E.tup (Zb (E.str (Str.ofString "even")) (Zb (Za 2) (Zb (Z8 Zw2 (Zb (Zc 1) (Zb (Z8 ZcJ (Zb (Zu Zf8 (Zb (Za 0) (Zb (Zc 1) Zd))) Zd)) Zd))) Zd))))) ZG) (Zw (E.tup (Zb (E.str (Str.ofString "even")) (Zb (Za 2) (Zb (ZV Zab (Zc 1) (Zu Zb7 (Zb (Za 0) (Zb (Zc 1) (Zb (Zc 4) Zd))))) Zd)))))))))))⟩
def Znf:=ZK 2 (XS.g ZfO)
def ZjS:=ZN 2 (XS.q ZfO)
theorem ZrM: SimF false Znf ZjS:=ZU (XS.h ZfO)
def Zd4: XS [] [] [] false:=⟨_,_,(Zj (ZE (i:=2) (O':=[]) (Zu Zn6 (Zb (Zg Zf (Za 0) (Zc 1)) (Zb (Za 1) Zd)))) (Zj (ZF (Zq (Zk Z6 (Zg Zf (Za 0) (Zc 0)) (E.str (Str.ofString "under")))) (Zw (Zk Zb1 (Za 2) (Zc 0))) ZG) (Zj (ZF (Zq (Zk Z6 (Zg Zf (Za 0) (Zc 0)) (E.str (Str.ofString "same")))) (Zw (Zk Z6 (Za 2) (Zc 0))) ZG) (Zw (Zk Z6 (Zk ZaW (Za 2) (Zg Zf (Za 0) (Zc 2))) (Zc 0))))))⟩
def Zoc:=ZK 2 (XS.g Zd4)
def Zdh:=ZN 2 (XS.q Zd4)
theorem Ztb: SimF false Zoc Zdh:=ZU (XS.h Zd4)
def ZkB: Sm:=Z9 (ZaI 2 (Zbm (ZcM (ZdH (Zy ZY (Zl 0) (ZJ 1)) (Zfv (ZJ 1)) Zfu)) (put1 100) (Zak (Zy oNe (Zl 100) (ZJ 0))) (Zl 100))) (Z9 (sIf (Zak (Zy oEq (Z0 ZbO (Zz (Zl 2) ZZ)) (ZJ 0))) (Zau (Zft true)) ZaP) (Z9 (sIf (Zco (Zak (Zy oEq (Zy ZY (Zl 0) (ZJ 0)) (ZeC (Str.ofString "even")))) (Zco (Zak (Zl 1)) Zbo)) (Zau (ZdR (Zy oEq (Z0 ZbO (Zz (Zl 2) ZZ)) (ZJ 1)) (Zy oEq (Z0 ZhJ (Zz (Zy ZY (Zl 2) (ZJ 0)) ZZ)) (ZJ 1)))) ZaP) (Z9 (sIf (Zak (Zy oEq (Zy ZY (Zl 0) (ZJ 0)) (ZeC (Str.ofString "even")))) (Zau (eOr (Zy oEq (Zy ZY (Zl 0) (ZJ 2)) (ZJ 1)) (ZdR (Zy oEq (Zy ZY (Zl 0) (ZJ 2)) (ZJ 2)) (ZdR (Zy oEq (Z0 ZbO (Zz (Zl 2) ZZ)) (ZJ 1)) (Zy oEq (Z0 ZhJ (Zz (Zy ZY (Zl 2) (ZJ 0)) ZZ)) (ZJ 1)))))) ZaP) (Z9 (sIf (Zco (Zak (Zy oEq (Zy ZY (Zl 0) (ZJ 0)) (ZeC (Str.ofString "same")))) (Zco (Zjx (Zak (Zl 1))) Zbo)) (Zau (Zft false)) ZaP) (Zau (eOr (Zy oEq (Z0 ZbO (Zz (Zl 2) ZZ)) (ZJ 1)) (Zy oEq (Z0 Zhi (Zz (Zl 2) ZZ)) (Zet (Zz (eUn ZfA (ZJ 1)) (Zz (ZJ 1) ZZ))))))))))
def Zod:=ZK 2 ZkB
def Zgv: PS:=(Z3 (ZaE 2 (ZaC (ZaT (Zfm (Zm ZA (Ze 0) (Zv 1)) (Zhp (Zv 1)) Zho)) (Zag 100) (Z5 (Zm qNe (Ze 100) (Zv 0))) (Ze 100))) (Z3 (qIf (Z5 (Zm qEq (ZT Za1 (Zr (Ze 2) ZL)) (Zv 0))) (Zav (Zev true)) ZaD) (Z3 (qIf (Zbp (Z5 (Zm qEq (Zm ZA (Ze 0) (Zv 0)) (ZhL (Str.ofString "even")))) (Zbp (Z5 (Ze 1)) Zas)) (Zav ((ZeF (Zm qEq (ZT Za1 (Zr (Ze 2) ZL)) (Zv 1)) (Zm qEq (ZT ZhO (Zr (Zm ZA (Ze 2) (Zv 0)) ZL)) (Zv 1))))) ZaD) (Z3 (qIf (Z5 (Zm qEq (Zm ZA (Ze 0) (Zv 0)) (ZhL (Str.ofString "even")))) (Zav ((pOr (Zm qEq (Zm ZA (Ze 0) (Zv 2)) (Zv 1)) ((ZeF (Zm qEq (Zm ZA (Ze 0) (Zv 2)) (Zv 2)) (ZeF (Zm qEq (ZT Za1 (Zr (Ze 2) ZL)) (Zv 1)) (Zm qEq (ZT ZhO (Zr (Zm ZA (Ze 2) (Zv 0)) ZL)) (Zv 1)))))))) ZaD) (Z3 (qIf (Zbp (Z5 (Zm qEq (Zm ZA (Ze 0) (Zv 0)) (ZhL (Str.ofString "same")))) (Zbp (ZdT (Z5 (Ze 1))) Zas)) (Zav (Zev false)) ZaD) (Zav ((pOr (Zm qEq (ZT Za1 (Zr (Ze 2) ZL)) (Zv 1)) (Zm qEq (ZT Zff (Zr (Ze 2) ZL)) (ZdN (Zr (pUn ZcX (Zv 1)) (Zr (Zv 1) ZL))))))))))))
def Zdi:=ZN 2 Zgv
theorem Ztc: SimF false Zod Zdi:=ZU (show S [] [] [] false ZkB Zgv from(Zj (ZE (O':=[]) (ZbA (Gs.seq (ZvP (Zg Zf (Za 0) (Zc _)) (Pe.some (Zc _)) Pe.none)) PutOk.one (by decide) (Zq (Zk Zbi (Za 100) (Zc _))) (Za 100))) (Zj (ZF (Zq (Zk Z6 (Z8 Zam (Zb (Za 2) Zd)) (Zc _))) (Zw (E.bool _)) ZG) (Zj (ZF (Zah (Zq (Zk Z6 (Zg Zf (Za 0) (Zc _)) (E.str _))) (Zah (Zq (Za 1)) Zaj)) (Zw ((Zc7 (E.sh (Zk Z6 (Z8 Zam (Zb (Za 2) Zd)) (Zc _))) (E.sh (Zk Z6 (Z8 ZcJ (Zb (Zg Zf (Za 2) (Zc _)) Zd)) (Zc _)))))) ZG) (Zj (ZF (Zq (Zk Z6 (Zg Zf (Za 0) (Zc _)) (E.str _))) (Zw ((ZhM (E.sh (Zk Z6 (Zg Zf (Za 0) (Zc _)) (Zc _))) (E.sh ((Zc7 (E.sh (Zk Z6 (Zg Zf (Za 0) (Zc _)) (Zc _))) (Zc7 (E.sh (Zk Z6 (Z8 Zam (Zb (Za 2) Zd)) (Zc _))) (E.sh (Zk Z6 (Z8 ZcJ (Zb (Zg Zf (Za 2) (Zc _)) Zd)) (Zc _)))))))))) ZG) (Zj (ZF (Zah (Zq (Zk Z6 (Zg Zf (Za 0) (Zc _)) (E.str _))) (Zah (ZbI (Zq (Za 1))) Zaj)) (Zw (E.bool _)) ZG) (Zw ((ZhM (E.sh (Zk Z6 (Z8 Zam (Zb (Za 2) Zd)) (Zc _))) (E.sh (Zk Z6 (ZiM Zps (Zb (Za 2) Zd)) (E.list (Zb (Za7 Za8 (Zc _)) (Zb (Zc _) Zd))))))))))))))
def ZfP: XS [] [] [] false:=⟨_,_,(Zj (ZE (i:=5) (O':=[]) (Zk Z6 (Zu Ztb (Zb (Za 1) (Zb (Za 3) Zd))) (Za 2))) (Zj (ZF (Zah (Zq (Za 5)) (Zah (Zq (Zu ZkU (Zb (Za 0) (Zb (Za 3) Zd)))) Zaj)) (Zw (Zu ZkU (Zb (Za 4) (Zb (Za 3) Zd)))) ZG) (Zw ((ZhM (E.sh (Za 5)) (ZhM (E.sh (ZmF (Zu Ztc (Zb (Za 1) (Zb (Za 2) Zd))))) (E.sh (ZmF (Zu ZkU (Zb (Za 4) (Zb (Za 3) Zd)))))))))))⟩
def Zng:=ZK 5 (XS.g ZfP)
def Zde:=ZN 5 (XS.q ZfP)
theorem Znh: SimF false Zng Zde:=ZU (XS.h ZfP)
def Zg8: XS [] [6] [] false:=⟨_,_,(Zj (ZE (i:=1) (O':=[]) (Zg Zf (E.list (Zb (Zc 0) (Zb (Zc 1) (Zb (Zc 2) (Zb (Zc 1) (Zb (Zc 2) (Zb (Zc 1) (Zb (Zc 3) (Zb (Zc 2) (Zb (Zc 4) Zd)))))))))) (Zu Zb7 (Zb (Za 0) (Zb (Zc 0) (Zb (Zc 9) Zd)))))) (Zj (ZE (i:=2) (O':=[]) (ZbA (Gs.range (Zb (Za 1) Zd)) (PutOk.one (j:=100)) (by decide) Zaj (Zu Zf8 (Zb (Za 0) (Zb (ZV Zab (Zc 2) (Za 100)) Zd))))) (Zj (ZE (i:=3) (O':=[]) (Zu Ztw (Zb (Za 0) (Zb (Zc 14) (Zb (Za 2) Zd))))) (Zj (ZE (i:=4) (O':=[]) (Zu Ztx (Zb (Za 3) Zd))) (Zj (ZE (i:=5) (O':=[]) (Zu ZrM (Zb (Za 0) (Zb (Za 2) Zd)))) (Zj (Zcb (i:=6) (O':=[6]) (Zec Zdo (Zb (Za 2) Zd))) (Zj (ZF (Zq (Zk Zcw (Z8 Zam (Zb (Za 2) Zd)) (Zc 0))) (Zj (ZE (i:=7) (O':=[6]) (Zu Zb7 (Zb (Za 0) (Zb (Zc 43) (Zb (Z8 Zam (Zb (Za 2) Zd)) Zd))))) (S.put (x:=6) (O':=[6]) (by decide) (Zbc (O':=[]) (Zk Za4 (ZV Zab (Zg Zf (Za 6) (Za 7)) (Zu Zb7 (Zb (Za 0) (Zb (Zc 44) (Zb (Zc 5) Zd))))) (Zc 2))) Zbs (Za 7) (by decide) (by decide))) ZG) (Zj (ZaG (Gs.seq (E.list (Zb (E.bool true) (Zb (E.bool false) Zd)))) (PutOk.one (j:=8)) (by decide) (by decide) (Zj (ZE (i:=9) (O':=[6]) (Zu ZxC (Zb (Za 3) (Zb (Za 5) (Zb (Za 8) Zd))))) (Zj (ZF (ZaM (Zah (Zq (Zk Zbg (Za 9) (ZM))) (Zah (ZbI (Zq (Zu Zs9 (Zb (Za 9) (Zb (Z8 Zam (Zb (Za 2) Zd)) Zd))))) Zaj)) (ZaM (Zq (Zk Zbi (Za 3) (Za 4))) ZbX)) (Zw (E.bool false)) ZG) (Zj (ZF (ZaM (ZbI (Zq (Zu ZsJ (Zb (Za 9) (Zb (Za 3) Zd))))) (ZaM (ZbI (Zq (Zu Znh (Zb (Za 3) (Zb (Za 5) (Zb (Za 8) (Zb (Za 2) (Zb (Za 9) Zd)))))))) ZbX)) (Zw (E.bool false)) ZG) (ZF (ZbI (Zq (Zu Znh (Zb (Za 3) (Zb (Za 5) (Zb (Za 8) (Zb (Za 6) (Zb (Za 9) Zd)))))))) (Zw (E.bool false)) ZG))))) (Zw (E.bool true))))))))))⟩
def Zpu:=ZK 1 (XS.g Zg8)
def ZlN:=ZN 1 (XS.q Zg8)
theorem Zva: SimF false Zpu ZlN:=ZU (XS.h Zg8)
end L
end
section
open PySem PySem.W PyProof.Rows PM TM My
local macro_rules | `(tactic| tm_at "r")=>`(tactic| assumption)
local macro_rules | `(tactic| tm_at "r")=>`(tactic| exact rfl)
local macro_rules | `(tactic| tm_at "r")=>`(tactic| ((with_reducible apply ZuW);decide;tm_at "r"))
local macro_rules | `(tactic| tm_at "r")=>`(tactic| ((with_reducible apply Zwd);decide;tm_at "r"))
local macro_rules | `(tactic| tm_at "r")=>`(tactic| with_reducible exact Zbr)
local macro_rules | `(tactic| tm_at "r")=>`(tactic| with_reducible assumption)
local macro_rules|`(tactic|walk_at "r")=>`(tactic|first | tm_at "r" | fail)
local macro_rules | `(tactic| tm_at "y")=>`(tactic| (simp only[Bool.not_eq_true',Bool.not_eq_false',decide_eq_true_eq,decide_eq_false_iff_not,beq_iff_eq,beq_eq_false_iff_ne,ne_eq,Bool.not_true,Bool.not_false,not_false_eq_true,not_true_eq_false,bne_iff_ne,Decidable.not_not,List.length_map] <;> first | done | omega | assumption))
local macro_rules | `(tactic| tm_at "y")=>`(tactic| (with_reducible assumption))
local macro_rules | `(tactic| tm_at "y")=>`(tactic| rfl)
local macro_rules|`(tactic|walk_at "y")=>`(tactic|first | tm_at "y" | fail)
local macro_rules | `(tactic| tm_at "f")=>`(tactic| exact Zop fun i hi=>by(first | rfl | exact Zed | exact ZiC))
local macro_rules | `(tactic| tm_at "f")=>`(tactic| exact ZiC)
local macro_rules | `(tactic| tm_at "f")=>`(tactic| exact Zed)
local macro_rules | `(tactic| tm_at "f")=>`(tactic| rfl)
local macro_rules|`(tactic|walk_at "f")=>`(tactic|first | tm_at "f" | fail)
local macro_rules | `(tactic| tm_at "o")=>`(tactic| ((with_reducible apply Zxl);(first | decide | omega)))
local macro_rules | `(tactic| tm_at "o")=>`(tactic| with_reducible refine Zxv ?_)
local macro_rules | `(tactic| tm_at "o")=>`(tactic| with_reducible refine tk_all ?_)
local macro_rules | `(tactic| tm_at "o")=>`(tactic| with_reducible refine Zv7 ?_)
local macro_rules | `(tactic| tm_at "o")=>`(tactic| with_reducible refine tk_list1t ?_)
local macro_rules | `(tactic| tm_at "o")=>`(tactic| with_reducible refine ZuR ?_)
local macro_rules | `(tactic| tm_at "o")=>`(tactic| ((with_reducible apply ZpZ);omega))
local macro_rules | `(tactic| tm_at "o")=>`(tactic| ((with_reducible apply ZiU);(first | decide | omega);rfl))
local macro_rules | `(tactic| tm_at "o")=>`(tactic| ((with_reducible apply Zv6);(first | decide | omega);rfl))
local macro_rules | `(tactic| tm_at "o")=>`(tactic| ((with_reducible apply Zv5);(first | decide | omega);(first | decide | omega)))
local macro_rules | `(tactic| tm_at "o")=>`(tactic| ((with_reducible apply Zv4);(first | assumption | omega)))
local macro_rules | `(tactic| tm_at "o")=>`(tactic| with_reducible refine Zv3 ?_)
local macro_rules | `(tactic| tm_at "o")=>`(tactic| with_reducible refine Zxu ?_)
local macro_rules | `(tactic| tm_at "o")=>`(tactic| with_reducible refine Zv2 ?_)
local macro_rules | `(tactic| tm_at "o")=>`(tactic| with_reducible refine Zv1 ?_)
local macro_rules | `(tactic| tm_at "o")=>`(tactic| with_reducible refine tk_notl ?_)
local macro_rules | `(tactic| tm_at "o")=>`(tactic| with_reducible refine Zv0 ?_)
local macro_rules | `(tactic| tm_at "o")=>`(tactic| with_reducible refine ZvZ ?_)
local macro_rules | `(tactic| tm_at "o")=>`(tactic| with_reducible refine Zxt ?_)
local macro_rules | `(tactic| tm_at "o")=>`(tactic| with_reducible refine Zxs ?_)
local macro_rules | `(tactic| tm_at "o")=>`(tactic| with_reducible refine Zxr ?_)
local macro_rules | `(tactic| tm_at "o")=>`(tactic| with_reducible refine Zxq ?_)
local macro_rules | `(tactic| tm_at "o")=>`(tactic| with_reducible refine tk_neb ?_)
local macro_rules | `(tactic| tm_at "o")=>`(tactic| with_reducible refine Zxp ?_)
local macro_rules | `(tactic| tm_at "o")=>`(tactic| with_reducible refine Zx7 ?_)
local macro_rules | `(tactic| tm_at "o")=>`(tactic| with_reducible refine Zx6 ?_)
local macro_rules | `(tactic| tm_at "o")=>`(tactic| with_reducible refine Zxo ?_)
local macro_rules | `(tactic| tm_at "o")=>`(tactic| with_reducible refine Zxn ?_)
local macro_rules | `(tactic| tm_at "o")=>`(tactic| with_reducible refine Zxm ?_)
local macro_rules | `(tactic| tm_at "o")=>`(tactic| with_reducible refine tk_ge ?_)
local macro_rules | `(tactic| tm_at "o")=>`(tactic| with_reducible refine Zx5 ?_)
local macro_rules | `(tactic| tm_at "o")=>`(tactic| with_reducible refine Zx4 ?_)
local macro_rules | `(tactic| tm_at "o")=>`(tactic| with_reducible refine Zx3 ?_)
local macro_rules | `(tactic| tm_at "o")=>`(tactic| with_reducible refine Zxk ?_)
local macro_rules | `(tactic| tm_at "o")=>`(tactic| with_reducible refine Zxj ?_)
local macro_rules | `(tactic| tm_at "o")=>`(tactic| with_reducible refine ZqR ?_)
local macro_rules|`(tactic|walk_at "o")=>`(tactic|first | tm_at "o" | fail)
local macro_rules | `(tactic| tm_at "1")=>`(tactic| tm_at "o")
local macro_rules | `(tactic| tm_at "1")=>`(tactic| ((with_reducible apply Zpo);tm_at "r";(first | assumption | omega);(first | assumption | omega)))
local macro_rules | `(tactic| tm_at "1")=>`(tactic| ((with_reducible apply ZuV);tm_at "r";(first | assumption | omega)))
local macro_rules | `(tactic| tm_at "1")=>`(tactic| ((with_reducible apply Zwa);tm_at "r";(first | (rw[Zai];omega) | (simp;done))))
local macro_rules | `(tactic| tm_at "1")=>`(tactic| ((with_reducible apply Zv9);tm_at "r";(first | (rw[Zai];omega) | (simp;done))))
local macro_rules | `(tactic| tm_at "1")=>`(tactic| with_reducible refine Zwc ?_)
local macro_rules | `(tactic| tm_at "1")=>`(tactic| with_reducible refine Zxx ?_)
local macro_rules | `(tactic| tm_at "1")=>`(tactic| with_reducible refine Zwb ?_)
local macro_rules | `(tactic| tm_at "1")=>`(tactic| with_reducible refine Zxw ?_)
local macro_rules | `(tactic| tm_at "1")=>`(tactic| with_reducible refine Zi.mn ?_)
local macro_rules | `(tactic| tm_at "1")=>`(tactic| with_reducible refine Zi.eq ?_)
local macro_rules | `(tactic| tm_at "1")=>`(tactic| with_reducible refine Zu6 ?_)
local macro_rules | `(tactic| tm_at "1")=>`(tactic| with_reducible refine Zwh ?_)
local macro_rules | `(tactic| tm_at "1")=>`(tactic| with_reducible refine Zwg ?_)
local macro_rules | `(tactic| tm_at "1")=>`(tactic| with_reducible refine Zmq ?_)
local macro_rules | `(tactic| tm_at "1")=>`(tactic| ((with_reducible apply Rn.one);omega))
local macro_rules | `(tactic| tm_at "1")=>`(tactic| with_reducible refine ZuU ?_)
local macro_rules | `(tactic| tm_at "1")=>`(tactic| with_reducible refine Sq.tup ?_)
local macro_rules | `(tactic| tm_at "1")=>`(tactic| with_reducible refine Sq.lst ?_)
local macro_rules | `(tactic| tm_at "1")=>`(tactic| with_reducible refine Zhg ?_)
local macro_rules|`(tactic|tm_at "1")=>`(tactic|(refine And.intro (show T.flatIn _ = true by walk_at "f") ?_))
local macro_rules|`(tactic|tm_at "1")=>`(tactic|(refine And.intro (show T.flat _ = true by walk_at "f") ?_))
local macro_rules | `(tactic| tm_at "1")=>`(tactic| ((with_reducible apply Zep);rfl))
local macro_rules | `(tactic| tm_at "1")=>`(tactic| ((with_reducible apply Zxi);tm_at "y"))
local macro_rules | `(tactic| tm_at "1")=>`(tactic| ((with_reducible apply Zxh);tm_at "y"))
local macro_rules | `(tactic| tm_at "1")=>`(tactic| ((with_reducible apply Zw8);tm_at "r"))
local macro_rules | `(tactic| tm_at "1")=>`(tactic| with_reducible refine Zw7 ?_)
local macro_rules | `(tactic| tm_at "1")=>`(tactic| with_reducible refine ZvQ ?_)
local macro_rules | `(tactic| tm_at "1")=>`(tactic| with_reducible refine Zw6 ?_)
local macro_rules | `(tactic| tm_at "1")=>`(tactic| with_reducible refine Zw5 ?_)
local macro_rules | `(tactic| tm_at "1")=>`(tactic| with_reducible refine Zmp ?_)
local macro_rules | `(tactic| tm_at "1")=>`(tactic| with_reducible refine ZcF ?_)
local macro_rules | `(tactic| tm_at "1")=>`(tactic| with_reducible refine tk_exp ?_)
local macro_rules | `(tactic| tm_at "1")=>`(tactic| with_reducible refine Zeo ?_)
local macro_rules | `(tactic| tm_at "1")=>`(tactic| with_reducible refine Zxg ?_)
local macro_rules | `(tactic| tm_at "1")=>`(tactic| with_reducible refine ZvY ?_)
local macro_rules | `(tactic| tm_at "1")=>`(tactic| with_reducible refine tk_truth_n ?_)
local macro_rules | `(tactic| tm_at "1")=>`(tactic| with_reducible refine Ztt ?_)
local macro_rules | `(tactic| tm_at "1")=>`(tactic| with_reducible refine Zxf ?_)
local macro_rules | `(tactic| tm_at "1")=>`(tactic| with_reducible refine ZvX ?_)
local macro_rules | `(tactic| tm_at "1")=>`(tactic| with_reducible refine ZuP ?_)
local macro_rules | `(tactic| tm_at "1")=>`(tactic| with_reducible refine ZvW ?_)
local macro_rules | `(tactic| tm_at "1")=>`(tactic| with_reducible refine ZvV ?_)
local macro_rules | `(tactic| tm_at "1")=>`(tactic| with_reducible refine Zxe ?_)
local macro_rules | `(tactic| tm_at "1")=>`(tactic| with_reducible refine Zx2 ?_)
local macro_rules | `(tactic| tm_at "1")=>`(tactic| with_reducible refine Zx1 ?_)
local macro_rules | `(tactic| tm_at "1")=>`(tactic| with_reducible refine Zxd ?_)
local macro_rules | `(tactic| tm_at "1")=>`(tactic| with_reducible refine Zxc ?_)
local macro_rules | `(tactic| tm_at "1")=>`(tactic| with_reducible refine Zx0 ?_)
local macro_rules | `(tactic| tm_at "1")=>`(tactic| with_reducible refine ZxZ ?_)
local macro_rules | `(tactic| tm_at "1")=>`(tactic| with_reducible refine ZvU ?_)
local macro_rules | `(tactic| tm_at "1")=>`(tactic| with_reducible refine ZvR ?_)
local macro_rules | `(tactic| tm_at "1")=>`(tactic| with_reducible refine ZvT ?_)
local macro_rules | `(tactic| tm_at "1")=>`(tactic| with_reducible refine Zxb ?_)
local macro_rules | `(tactic| tm_at "1")=>`(tactic| with_reducible refine Zxa ?_)
local macro_rules | `(tactic| tm_at "1")=>`(tactic| with_reducible refine ZvS ?_)
local macro_rules | `(tactic| tm_at "1")=>`(tactic| with_reducible refine ZxY ?_)
local macro_rules | `(tactic| tm_at "1")=>`(tactic| with_reducible refine Zw9 ?_)
local macro_rules|`(tactic|walk_at "1")=>`(tactic|first | tm_at "1" | fail)
local macro_rules|`(tactic|walk_at "z")=>`(tactic|repeat' (first | tm_at "1" | fail))
namespace L
open PySem PySem.W PyProof.Rows PM TM My
variable {a:Option Int} {b i j k k' m n t:Nat} {ns:List Int} {c x:Nat→Int} {K K' M M' d r top v y:Int} {A B F G G2 w Γ:Nat→Nat→Option Int} {σ:TL} {f g:PE} {Q:T→Prop} {R R' R2 S:Nat→Int×Int} {p q:Int×Int} {β:Type} {o:Option (Int×Int)} {ts:List T} {Cl D D1 D2 T0:T} {done done':Nat→Nat→Nat→Prop} {l:List Nat} {N:TL→Prop} {P:(Nat→Int)→Prop} {I:(Nat→Nat→Option Int)→(Nat→Int×Int)→Prop} {hb:Int→Bool} {PL:Prop}
section
variable {Q:T→Prop}
theorem Zyk(h:Q (.int T9)): Pk (ZdU (.int 10) (.int 9)) Q:=by
 have:=ZxV []
 simp only[oPow]at this
 split at this
 ·rename_i hc
  refine⟨_,by simp only[ZdU];rw[if_pos hc],?_⟩
  simp only[Option.some.injEq,Prod.mk.injEq,V.int.injEq,and_true]at this
  rw[this];exact h
 ·cases this
theorem Zyb(h:Q (.int T40)): Pk (ZdU (.int 10) (.int 40)) Q:=by
 have:=Zw1 []
 simp only[oPow]at this
 split at this
 ·rename_i hc
  refine⟨_,by simp only[ZdU];rw[if_pos hc],?_⟩
  simp only[Option.some.injEq,Prod.mk.injEq,V.int.injEq,and_true]at this
  rw[this];exact h
 ·cases this
theorem Zyc(h:Q (.int M9)): Pk (ZdU (.int 48271) (.int 9)) Q:=by
 have:=Zw0 []
 simp only[oPow]at this
 split at this
 ·rename_i hc
  refine⟨_,by simp only[ZdU];rw[if_pos hc],?_⟩
  simp only[Option.some.injEq,Prod.mk.injEq,V.int.injEq,and_true]at this
  rw[this];exact h
 ·cases this
theorem ZdE{a b:Int}(h1:-(2 ^ 64)<b)(h2:b<2 ^ 64)(h:Q (.int (a*b))): Pk (Zb2 (.int a) (.int b)) Q:=Zbk (Zt9 h1 h2) h
theorem Zqd{a b:Int}(h1:-(2 ^ 64)<a)(h2:a<2 ^ 64)(h:Q (.int (a*b))): Pk (Zb2 (.int a) (.int b)) Q:=Zbk (Ztr h1 h2) h
end
noncomputable def scr(ns:List Int): T:=.lst (ns.map T.int)
def Lay(ns:List Int): Prop:=PyData.layable0 (.list (ns.map .int))=true
noncomputable def ZbY(ns:List Int)(k:Int): Int:=k*k*7919+11+(if 0<ns.length then cellAt ns (k.fmod ns.length) 0 else 0)
theorem Zpv{k:Int}(h0:0≤k)(h9:k≤10000): Zkq [scr ns,.int k]=some (.int (ZbY ns k)):=by
 apply Pk.eq
 unfold Zkq Zgi ZbY scr
 by_cases hl:0<ns.length
 ·have a:=Int.fmod_nonneg_of_pos k (show(0:Int)<ns.length by omega)
  have b:=Int.fmod_lt_of_pos k (show(0:Int)<ns.length by omega)
  have e:(ns.map T.int).length=ns.length:=by simp
  walk_at "z"
  refine ZdE (by omega) (by omega) ?_
  walk_at "z"
  refine ZdE (by omega) (by omega) ?_
  walk_at "z"
  refine ZiU (t:=.int (cellAt ns (k.fmod ns.length) 0)) (by rw[e];omega) ?_ ?_
  ·rw[e,List.getElem?_map,List.getElem?_eq_getElem (by omega),cellAt_def]
   simp only[Option.map_some,T.int.injEq,Option.some.injEq]
   rw[List.getD_eq_getElem?_getD,List.getElem?_eq_getElem (by omega)]
   rfl
  walk_at "z"
  rw[if_pos hl]
 ·walk_at "z"
  refine ZdE (by omega) (by omega) ?_
  walk_at "z"
  refine ZdE (by omega) (by omega) ?_
  walk_at "z"
  rw[if_neg hl]
  simp
theorem ZtE{k:Int}(hL:Lay ns)(h0:0≤k)(h9:k≤10000): Builtin.Int.intBits (ZbY ns k)≤2 ^ 21:=by
 unfold ZbY
 have h1:0≤k*k:=Int.mul_nonneg h0 h0
 have h2:k*k≤10000*10000:=Int.mul_le_mul h9 h9 h0 (by decide)
 have hb:Builtin.Int.intBits (k*k*7919+11)≤2 ^ 20:=Nat.le_trans (intBits_le_64 (by omega) (by omega)) (by decide)
 have hc:Builtin.Int.intBits (if 0<ns.length then cellAt ns (k.fmod ns.length) 0 else 0)≤2 ^ 20:=by
  split
  ·exact(cell_at hL _).bits
  ·exact bits_zero
 exact Nat.le_trans (PM.ZuM hb hc) (by decide)
noncomputable def Zbd(ns:List Int)(k many:Int): Int:=((ZbY ns k*48271).fmod 2147483647).fmod many
theorem Zcj(ns:List Int)(k:Int){many:Int}(h:0<many): 0≤Zbd ns k many∧Zbd ns k many<many:=⟨Int.fmod_nonneg_of_pos _ h,Int.fmod_lt_of_pos _ h⟩
theorem Zck{k many:Int}(h0:0≤k)(h9:k≤10000)(hm:0<many): ZcP [scr ns,.int k,.int many]=some (.int (Zbd ns k many)):=by
 apply Pk.eq
 unfold ZcP Zgx
 walk_at "z"
 refine Zn (Zpv h0 h9) ?_
 walk_at "z"
 refine ZdE (by decide) (by decide) ?_
 walk_at "z"
 rfl
noncomputable def Zdt(ns:List Int)(k:Int): Int:=[3,9,T9,T40].getD (((ZbY ns k*69621).fmod 2147483629).fmod 4).toNat 0
theorem Zpw(ns:List Int)(k:Int): 0<Zdt ns k∧Zdt ns k≤T40:=by
 unfold Zdt
 have a:=Int.fmod_nonneg_of_pos ((ZbY ns k*69621).fmod 2147483629) (show(0:Int)<4 by decide)
 have b:=Int.fmod_lt_of_pos ((ZbY ns k*69621).fmod 2147483629) (show(0:Int)<4 by decide)
 generalize ((ZbY ns k*69621).fmod 2147483629).fmod 4=i at a b
 have h9:=T9_eq
 have h40:=Zi9
 have:i=0∨i=1∨i=2∨i=3:=by omega
 obtain rfl | rfl | rfl | rfl:=this
 ·show 0<3∧3≤T40;omega
 ·show 0<9∧9≤T40;omega
 ·show 0<T9∧T9≤T40;omega
 ·show 0<T40∧T40≤T40;omega
noncomputable def Zb4(ns:List Int)(k:Int): Int:=(ZbY ns k*M9).fmod (2*Zdt ns k+1)-Zdt ns k
theorem ZqZ(ns:List Int)(k:Int): -T40≤Zb4 ns k∧Zb4 ns k≤T40:=by
 obtain⟨a,b⟩:=Zpw ns k
 have h1:=Int.fmod_nonneg_of_pos (ZbY ns k*M9) (show 0<2*Zdt ns k+1 by omega)
 have h2:=Int.fmod_lt_of_pos (ZbY ns k*M9) (show 0<2*Zdt ns k+1 by omega)
 unfold Zb4
 omega
theorem ZgW{k:Int}(hL:Lay ns)(h0:0≤k)(h9:k≤10000): Zh2 [scr ns,.int k]=some (.int (Zb4 ns k)):=by
 apply Pk.eq
 unfold Zh2 Zf7
 have hb:=Zpk (ZtE hL h0 h9) ZvN
 obtain⟨r0,r1⟩:=Zpw ns k
 have a:=Int.fmod_nonneg_of_pos ((ZbY ns k*69621).fmod 2147483629) (show(0:Int)<4 by decide)
 have b:=Int.fmod_lt_of_pos ((ZbY ns k*69621).fmod 2147483629) (show(0:Int)<4 by decide)
 walk_at "z"
 refine Zn (Zpv h0 h9) ?_
 walk_at "z"
 refine Zyk ?_
 walk_at "z"
 refine Zyb ?_
 walk_at "z"
 refine ZdE (by decide) (by decide) ?_
 walk_at "z"
 refine ZiU (t:=.int (Zdt ns k)) (by omega) ?_ ?_
 ·unfold Zdt
  have:(((ZbY ns k*69621).fmod 2147483629).fmod 4).toNat<4:=by omega
  generalize (((ZbY ns k*69621).fmod 2147483629).fmod 4).toNat=i at this
  match i,this with
  | 0,_=>rfl
  | 1,_=>rfl
  | 2,_=>rfl
  | 3,_=>rfl
 walk_at "z"
 refine Zyc ?_
 walk_at "z"
 refine Zbk hb ?_
 walk_at "z"
 refine Zqd (by decide) (by decide) ?_
 walk_at "z"
 rfl
noncomputable def ZaQ(a:Int): Int:=if a<0 then -a else a
theorem ZcZ(a:Int): 0≤ZaQ a:=by unfold ZaQ;split <;> omega
noncomputable def ZcS(ns:List Int)(k:Int): Option Int:=
 if(Zbd ns k 42).fmod 6<2 then none else if(Zbd ns k 42).fmod 6<4 then some 0 else if(Zbd ns k 42).fmod 6=4 then some ((Zbd ns k 42).fdiv 6)else some (ZaQ (Zb4 ns k))
theorem Zvb(ns:List Int)(k:Int){c:Int}(h:ZcS ns k=some c): 0≤c∧c≤T40:=by
 have h40:=Zi9
 unfold ZcS at h
 split at h
 ·cases h
 ·split at h
  ·cases h;omega
  ·split at h
   ·cases h
    obtain⟨p0,p1⟩:=Zcj ns k (show(0:Int)<42 by decide)
    rw[Int.fdiv_eq_ediv_of_nonneg _ (by decide)]
    omega
   ·cases h
    have:=ZqZ ns k
    have:=ZcZ (Zb4 ns k)
    unfold ZaQ at *
    split at * <;> omega
theorem Zo5{a b:Int}(h0:0≤b)(h1:b<2 ^ 30): Builtin.divisionGoesByPylong a b=false:=PyProof.noPylong_small (by omega)
theorem Zvc{k:Int}(hL:Lay ns)(h0:0≤k)(h9:k≤10000): Zkr [scr ns,.int k]=some (oT (ZcS ns k)):=by
 apply Pk.eq
 unfold Zkr Zgj ZcS
 obtain⟨p0,p1⟩:=Zcj ns k (show(0:Int)<42 by decide)
 walk_at "z"
 refine Zn (Zck h0 h9 (by decide)) ?_
 walk_at "z"
 refine⟨fun c=>?_,fun c=>?_⟩
 ·walk_at "z"
  rw[if_pos (by simpa using c)];rfl
 rw[if_neg (by simpa using c)]
 walk_at "z"
 refine⟨fun c=>?_,fun c=>?_⟩
 ·walk_at "z"
  rw[if_pos (by simpa using c)];rfl
 rw[if_neg (by simpa using c)]
 walk_at "z"
 refine⟨fun c=>?_,fun c=>?_⟩
 ·walk_at "z"
  refine ZcG (by decide) (Zo5 (by decide) (by decide)) ?_
  rw[if_pos (by simpa using c)];rfl
 rw[if_neg (by simpa using c)]
 walk_at "z"
 refine Zn (ZgW hL h0 h9) ?_
 walk_at "z"
 rfl
def RestOk(q:Int×Int): Prop:=q.1=0∨(0<q.1∧0≤q.2∧q.2<q.1)
noncomputable def Zay(m r:Int): Int×Int:=if m=0 then(0,r)else(m,r.fmod m)
theorem ZbV{m:Int}(h:0≤m)(r:Int): RestOk (Zay m r):=by
 unfold RestOk Zay
 split
 ·exact .inl rfl
 ·exact .inr ⟨by show 0<m;omega,Int.fmod_nonneg_of_pos _ (by omega),Int.fmod_lt_of_pos _ (by omega)⟩
theorem ZeX{m:Int}: ZjZ [.int m,.int r]=some (ZD (Zay m r)):=by
 apply Pk.eq
 unfold ZjZ ZfX Zay
 by_cases c:m=0
 ·walk_at "z"
  rw[if_pos c];rfl
 ·walk_at "z"
  rw[if_neg c];rfl
noncomputable def ZdO(ns:List Int)(k x:Int): Int×Int:=
 if(Zbd ns k 60).fmod 5<2 then(1,0)else if(Zbd ns k 60).fmod 5=2 then(0,x)else if(Zbd ns k 60).fmod 5=3 then Zay ((Zbd ns k 60).fdiv 5+1) x else Zay (ZaQ (Zb4 ns k)) x
def Z4(q:Int×Int)(x:Int): Prop:=(q.1=0→x=q.2)∧(0<q.1→(x-q.2).emod q.1=0)
theorem Zpx(ns:List Int)(k:Int): 0≤(Zbd ns k 60).fdiv 5∧(Zbd ns k 60).fdiv 5<12:=by
 obtain⟨p0,p1⟩:=Zcj ns k (show(0:Int)<60 by decide)
 rw[Int.fdiv_eq_ediv_of_nonneg _ (by decide)]
 omega
theorem Zvd(ns:List Int)(k x:Int): RestOk (ZdO ns k x):=by
 have:=Zpx ns k
 unfold ZdO
 split
 ·exact .inr ⟨by decide,by decide,by decide⟩
 ·split
  ·exact .inl rfl
  ·split
   ·exact ZbV (by omega) x
   ·exact ZbV (ZcZ _) x
theorem Zwl{k x:Int}(hL:Lay ns)(h0:0≤k)(h9:k≤10000): ZkL [scr ns,.int k,.int x]=some (ZD (ZdO ns k x)):=by
 apply Pk.eq
 unfold ZkL Zgy ZdO
 obtain⟨p0,p1⟩:=Zcj ns k (show(0:Int)<60 by decide)
 walk_at "z"
 refine Zn (Zck h0 h9 (by decide)) ?_
 walk_at "z"
 refine⟨fun c=>?_,fun c=>?_⟩
 ·walk_at "z"
  rw[if_pos (by simpa using c)];rfl
 rw[if_neg (by simpa using c)]
 walk_at "z"
 refine⟨fun c=>?_,fun c=>?_⟩
 ·walk_at "z"
  rw[if_pos (by simpa using c)];rfl
 rw[if_neg (by simpa using c)]
 walk_at "z"
 refine⟨fun c=>?_,fun c=>?_⟩
 ·walk_at "z"
  refine ZcG (by decide) (Zo5 (by decide) (by decide)) ?_
  walk_at "z"
  refine Zn ZeX ?_
  rw[if_pos (by simpa using c)]
 rw[if_neg (by simpa using c)]
 walk_at "z"
 refine Zn (ZgW hL h0 h9) ?_
 walk_at "z"
 exact Zn ZeX rfl
noncomputable def Zaf(x:Nat→Int): Nat→Int:=cn 0 x
theorem Zmv(x:Nat→Int): cn (T.int 0) (fun i=>T.int (x i))=fun i=>T.int (Zaf x i):=by
 funext i;cases i <;> rfl
noncomputable def Zb0(ns:List Int)(k:Int)(n:Nat)(x:Nat→Int)(i j:Nat): Option Int:=if j=i then some 0 else(ZcS ns (k+i*(n+1:Nat)+j)).map fun c=>Zaf x i-Zaf x j+c
noncomputable def Zfy(ns:List Int)(k:Int)(n:Nat)(x:Nat→Int)(t:Nat): Int×Int:=ZdO ns (k+(n+1:Nat)*(n+1:Nat)+t) (x t)
theorem ZtF(ns:List Int)(k:Int)(n:Nat)(x:Nat→Int)(i:Nat): Zb0 ns k n x i i=some 0:=by simp[Zb0]
theorem Zve(ns:List Int)(k:Int)(n:Nat)(x:Nat→Int)(i:Nat): (fun j=>if j=i then T.int 0 else oT ((ZcS ns (k+i*(n+1:Nat)+j)).map fun c=>Zaf x i-Zaf x j+c))=fun j=>oT (Zb0 ns k n x i j):=by
 funext j
 unfold Zb0
 split <;> rfl
theorem Zwm{k:Int}(hL:Lay ns)(h0:0≤k)(h9:k≤1000)(hn:n≤9): ZkM [scr ns,.int k,Zan n x]=some (Zo n (Zb0 ns k n x) (Zfy ns k n x)):=by
 apply Pk.eq
 unfold ZkM Zgz Zan
 have hq:((n+1:Nat):Int)*((n+1:Nat):Int)≤10*10:=Int.mul_le_mul (by omega) (by omega) (by omega) (by decide)
 have hq0:(0:Int)≤((n+1:Nat):Int)*((n+1:Nat):Int):=Int.mul_nonneg (by omega) (by omega)
 walk_at "z"
 rw[Zmv]
 refine ZaO (n:=n+1) (a:=fun i=>.int i) (P:=fun i σ=>σ 0=some (scr ns)∧σ 1=some (.int k)∧σ 2=some (.lst (tab n fun i=>.int (x i)))∧σ 3=some (.lst (tab (n+1) fun i=>.int (Zaf x i)))∧σ 4=some (.int (n+1:Nat))∧σ 5=some (.lst (tab i fun i=>Zad (n+1) (Zb0 ns k n x i)))) ?_ ⟨rfl,rfl,rfl,rfl,rfl,rfl⟩ ?_ ?_
 ·walk_at "z"
  rfl
 ·rintro i σ hi ⟨e0,e1,e2,e3,e4,e5⟩
  walk_at "z"
  refine ZaO (n:=n+1) (a:=fun i=>.int i) (P:=fun j σ=>σ 0=some (scr ns)∧σ 1=some (.int k)∧σ 2=some (.lst (tab n fun i=>.int (x i)))∧σ 3=some (.lst (tab (n+1) fun i=>.int (Zaf x i)))∧σ 4=some (.int (n+1:Nat))∧σ 5=some (.lst (tab i fun i=>Zad (n+1) (Zb0 ns k n x i)))∧σ 6=some (.int i)∧σ 7=some (.lst (tab j fun j=>oT ((ZcS ns (k+i*(n+1:Nat)+j)).map fun c=>Zaf x i-Zaf x j+c)))) ?_ ⟨?_,?_,?_,?_,?_,?_,?_,?_⟩ ?_ ?_
  ·walk_at "z"
   rfl
  all_goals first | walk_at "r" | skip
  ·rintro j σ hj ⟨e0,e1,e2,e3,e4,e5,e6,e7⟩
   have hb1:(0:Int)≤i*((n+1:Nat):Int):=Int.mul_nonneg (by omega) (by omega)
   have hb2:(i:Int)*((n+1:Nat):Int)≤10*10:=Int.mul_le_mul (by omega) (by omega) (by omega) (by decide)
   walk_at "z"
   refine ZdE (by omega) (by omega) ?_
   walk_at "z"
   refine Zn (Zvc hL (by omega) (by omega)) ?_
   have key:∀w,w=oT ((ZcS ns (k+i*(n+1:Nat)+j)).map fun c=>Zaf x i-Zaf x j+c)→tab j (fun j=>oT ((ZcS ns (k+i*(n+1:Nat)+j)).map fun c=>Zaf x i-Zaf x j+c))++[w]=tab (j+1) fun j=>oT ((ZcS ns (k+i*(n+1:Nat)+j)).map fun c=>Zaf x i-Zaf x j+c):=fun w e=>by
    rw[e];exact Zdn
   cases hs:ZcS ns (k + ↑i * ↑(n+1) + ↑j)with
   | none=>
    simp only[ZaN,Zaa]
    walk_at "z"
    rw[key _ (by rw[hs];rfl)]
    refine⟨?_,?_,?_,?_,?_,?_,?_,?_⟩ <;> walk_at "r"
   | some c=>
    simp only[ZaN,Zaa]
    walk_at "z"
    rw[key _ (by rw[hs];rfl)]
    refine⟨?_,?_,?_,?_,?_,?_,?_,?_⟩ <;> walk_at "r"
  ·rintro σ ⟨e0,e1,e2,e3,e4,e5,e6,e7⟩
   walk_at "z"
   rw[Zve,show tab i (fun i=>Zad (n+1) (Zb0 ns k n x i))++[T.lst (tab (n+1) fun j=>oT (Zb0 ns k n x i j))]=tab (i+1) fun i=>Zad (n+1) (Zb0 ns k n x i)from Zdn (f:=fun i=>Zad (n+1) (Zb0 ns k n x i))]
   refine⟨?_,?_,?_,?_,?_,?_⟩ <;> walk_at "r"
 ·rintro σ ⟨e0,e1,e2,e3,e4,e5⟩
  walk_at "z"
  refine ZbR (n:=n) (a:=fun i=>.int i) (b:=fun t=>ZD (Zfy ns k n x t)) (by omega) ?_ (fun t ht=>?_) ?_
  ·walk_at "z"
   refine Zju n (by omega) (by omega) rfl
  ·walk_at "z"
   refine ZdE (by omega) (by omega) ?_
   walk_at "z"
   exact Zn (Zwl hL (by omega) (by omega)) ⟨ZiC,rfl⟩
  walk_at "z"
  rfl
def Zal(n:Nat)(G:Nat→Nat→Option Int)(R:Nat→Int×Int)(x:Nat→Int): Prop:=(∀i j,i<n+1→j<n+1→∀b,G i j=some b→Zaf x i-Zaf x j≤b)∧∀t,t<n→Z4 (R t) (x t)
def Zyl(n:Nat)(G:Nat→Nat→Option Int)(R:Nat→Int×Int): Prop:=(∀i,i<n+1→G i i=some 0)∧∀t,t<n→RestOk (R t)
theorem Zul(ns:List Int)(k:Int)(n:Nat)(x:Nat→Int): Zyl n (Zb0 ns k n x) (Zfy ns k n x):=⟨fun i _=>ZtF ns k n x i,fun t _=>Zvd ns _ _⟩
theorem Zum(hn:n<10000)(e:Pk (g σ) fun t=>t=ZH n G)(h:Q (ZH n G)): Pk (ZaC (ZaT g) (Zag j) Zas (ZT Zds (Zr (Ze j) ZL)) σ) Q:=by
 refine ZbR (n:=n) (a:=fun i=>Zad n (G i)) (b:=fun i=>Zad n (G i)) hn ?_ (fun i hi=>?_) h
 ·refine Zhg (e.mono ?_)
  rintro _ rfl
  exact Sq.lst rfl
 ·unfold Zad
  walk_at "z"
  rfl
theorem Zwn(hn:n≤100): Zii [Zo n G R]=some (Zo n G R):=by
 apply Pk.eq
 unfold Zii ZkO Zo ZaH
 walk_at "z"
 refine Zum (n:=n+1) (G:=G) (by omega) ?_ ?_
 ·walk_at "z"
  rfl
 walk_at "z"
 rfl
def leO(a b:Option Int): Prop:=∀y,b=some y→∃x,a=some x∧x≤y
theorem ZcC: leO a none:=fun _ e=>by cases e
theorem leO_some{x:Int}: leO (some x) (some y)↔x≤y:=⟨fun h=>by obtain⟨z,e,q⟩:=h y rfl;cases e;exact q,fun h z e=>by cases e;exact⟨x,rfl,h⟩⟩
theorem Zhm: ¬leO none (some y):=fun h=>by obtain⟨z,e,_⟩:=h y rfl;cases e
theorem Zkl{b:Option Int}: Zks [oT a,oT b]=some (.bool (dec (leO a b))):=by
 apply Pk.eq
 unfold Zks Zgk
 cases b with
 | none=>
  simp only[ZaN]
  walk_at "z"
  rw[Zap ZcC]
 | some y=>
  cases a with
  | none=>
   simp only[ZaN,Zaa]
   walk_at "z"
   rw[Zaq Zhm]
  | some x=>
   simp only[Zaa]
   walk_at "z"
   rw[ZdC leO_some,ZeU]
def RIn(p q:Int×Int): Prop:=if q.1=0 then p=q else p.1 % q.1=0∧(p.2-q.2) % q.1=0
theorem Zwo(h:0<q.1∧0≤q.2∧q.2<q.1)(x:Int): x.fmod q.1=q.2↔(x-q.2) % q.1=0:=by
 rw[Int.fmod_eq_emod_of_nonneg _ (by omega)]
 constructor
 ·intro e
  rw[←e,Int.sub_emod,Int.emod_emod,Int.sub_self]
  simp
 ·intro e
  have:x % q.1=q.2 % q.1:=Int.emod_eq_emod_iff_emod_sub_eq_zero.mpr e
  rw[this,Int.emod_eq_of_lt h.2.1 h.2.2]
theorem Zwp(h:RestOk q)(x:Int): (if q.1=0 then x=q.2 else x.fmod q.1=q.2)↔Z4 q x:=by
 unfold Z4
 rcases h with h | h
 ·rw[if_pos h];simp[h]
 ·rw[if_neg (by omega),Zwo h]
  have h1:¬q.1=0:=by omega
  simp only[h1,false_implies,true_and,h.1,true_implies]
  rfl
theorem Zd5{x:Int}(h:RestOk q): ZkP [ZD q,.int x]=some (.bool (dec (Z4 q x))):=by
 apply Pk.eq
 unfold ZkP ZgA ZD
 rw[←ZdC (Zwp h x)]
 by_cases c:q.1=0
 ·walk_at "z"
  rw[if_pos c,ZeU]
 ·walk_at "z"
  rw[if_neg c,ZeU]
theorem Zr1(h:RestOk q): Zj0 [ZD p,ZD q]=some (.bool (dec (RIn p q))):=by
 apply Pk.eq
 unfold Zj0 ZfY
 have hp:ZD p=.tup [.int p.1,.int p.2]:=rfl
 have hq:ZD q=.tup [.int q.1,.int q.2]:=rfl
 by_cases c:q.1=0
 ·rw[hp,hq]
  walk_at "z"
  rw[←hp,←hq]
  refine Zbb (Zfo (n:=0)) (Zfo (n:=0)) ?_
  rw[ZdC (show ZD p=ZD q↔RIn p q by unfold RIn;rw[if_pos c,Zp2])]
 ·have hq0:0<q.1:=by rcases h with h | h <;> omega
  rw[hp,hq]
  walk_at "z"
  refine⟨fun e=>?_,fun e=>?_⟩
  ·rw[←hq]
   refine Zn (Zd5 h) ?_
   congr 1
   refine ZdC ?_
   unfold RIn Z4
   rw[if_neg c]
   simp only[decide_eq_true_eq]at e
   rw[Int.fmod_eq_emod_of_nonneg _ (by omega)]at e
   simp[c,e,hq0]
   rfl
  ·rw[e]
   simp only[decide_eq_false_iff_not]at e
   rw[Int.fmod_eq_emod_of_nonneg _ (by omega)]at e
   rw[Zaq]
   unfold RIn
   rw[if_neg c]
   exact fun q=>e q.1
theorem Zr2(h:RestOk q): Zj1 [ZD p,ZD q]=some (.bool (dec (RIn p q))):=by
 apply Pk.eq
 unfold Zj1 ZfZ
 have hp:ZD p=.tup [.int p.1,.int p.2]:=rfl
 have hq:ZD q=.tup [.int q.1,.int q.2]:=rfl
 by_cases c:q.1=0
 ·rw[hp,hq]
  walk_at "z"
  rw[←hp,←hq]
  refine Zbb (Zfo (n:=0)) (Zfo (n:=0)) ?_
  rw[ZdC (show ZD p=ZD q↔RIn p q by unfold RIn;rw[if_pos c,Zp2])]
 ·have hq0:0<q.1:=by rcases h with h | h <;> omega
  rw[hp,hq]
  walk_at "z"
  refine⟨fun e=>?_,fun e=>?_⟩
  ·walk_at "z"
   congr 1
   rw[ZeU]
   refine ZdC ?_
   unfold RIn
   rw[if_neg c]
   simp only[decide_eq_true_eq]at e
   rw[Int.fmod_eq_emod_of_nonneg _ (by omega)]at e ⊢
   simp[e]
  ·rw[e]
   simp only[decide_eq_false_iff_not]at e
   rw[Int.fmod_eq_emod_of_nonneg _ (by omega)]at e
   rw[Zaq]
   unfold RIn
   rw[if_neg c]
   exact fun q=>e q.1
def Zbl(n:Nat)(G:Nat→Nat→Option Int)(R:Nat→Int×Int)(G':Nat→Nat→Option Int)(R':Nat→Int×Int): Prop:=(∀i,i<n+1→∀j,j<n+1→leO (G i j) (G' i j))∧∀t,t<n→RIn (R t) (R' t)
theorem ZsO{b:Option Int}: Zkt [oT a,oT b]=some (.bool (dec (leO a b))):=by
 apply Pk.eq
 unfold Zkt Zgl
 cases b with
 | none=>
  simp only[ZaN]
  walk_at "z"
  rw[Zap ZcC]
 | some y=>
  cases a with
  | none=>
   simp only[ZaN,Zaa]
   walk_at "z"
   rw[Zaq Zhm]
  | some x=>
   simp only[Zaa]
   walk_at "z"
   rw[ZdC leO_some,ZeU]
theorem Zss{G':Nat→Nat→Option Int}(hn:n<900)(h:∀t,t<n→RestOk (R' t)): ZdY [Zo n G R,Zo n G' R']=some (.bool (dec (Zbl n G R G' R'))):=by
 apply Pk.eq
 unfold ZdY ZeN Zo ZH Zad ZaH
 walk_at "z"
 refine ZaO (n:=n+1) (a:=fun i=>.int i) (P:=fun i σ=>σ 0=some (Zo n G R)∧σ 1=some (Zo n G' R')∧∀a,a<i→∀b,b<n+1→leO (G a b) (G' a b)) ?_ ⟨rfl,rfl,by omega⟩ ?_ ?_
 ·walk_at "z"
  rfl
 ·rintro i σ hi ⟨e0,e1,e2⟩
  unfold Zo ZH Zad ZaH at e0 e1
  refine ZaO (n:=n+1) (a:=fun i=>.int i) (P:=fun j σ=>σ 0=some (Zo n G R)∧σ 1=some (Zo n G' R')∧σ 2=some (.int i)∧∀b,b<j→leO (G i b) (G' i b)) ?_ ⟨?_,?_,?_,by omega⟩ ?_ ?_
  ·walk_at "z"
   rfl
  ·walk_at "r"
  ·walk_at "r"
  ·walk_at "r"
  ·rintro j σ hj ⟨f0,f1,f2,f3⟩
   unfold Zo ZH Zad ZaH at f0 f1
   walk_at "z"
   refine Zn ZsO ?_
   walk_at "z"
   refine⟨fun e=>?_,fun e=>?_⟩
   ·walk_at "z"
    simp only[Bool.not_eq_true']at e
    rw[Zaq]
    rintro⟨h1,_⟩
    have:=Zap (h1 i hi j hj)
    rw[this]at e
    cases e
   ·walk_at "z"
    refine⟨by walk_at "r",by walk_at "r",by walk_at "r",fun b hb=>?_⟩
    by_cases q:b=j
    ·subst q
     simp only[Bool.not_eq_false']at e
     exact dec_iff.mp e
    ·exact f3 b (by omega)
  ·rintro σ ⟨f0,f1,f2,f3⟩
   refine⟨f0,f1,fun a ha=>?_⟩
   by_cases q:a=i
   ·subst q;exact f3
   ·exact e2 a (by omega)
 ·rintro σ ⟨e0,e1,e2⟩
  unfold Zo ZH Zad ZaH at e0 e1
  walk_at "z"
  refine ZaO (n:=n) (a:=fun i=>.int i) (P:=fun j σ=>σ 0=some (Zo n G R)∧σ 1=some (Zo n G' R')∧∀b,b<j→RIn (R b) (R' b)) ?_ ⟨e0,e1,by omega⟩ ?_ ?_
  ·walk_at "z"
   rfl
  ·rintro j σ hj ⟨f0,f1,f3⟩
   unfold Zo ZH Zad ZaH at f0 f1
   walk_at "z"
   refine Zn (Zr2 (h j hj)) ?_
   walk_at "z"
   refine⟨fun e=>?_,fun e=>?_⟩
   ·walk_at "z"
    simp only[Bool.not_eq_true']at e
    rw[Zaq]
    rintro⟨_,h1⟩
    have:=Zap (h1 j hj)
    rw[this]at e
    cases e
   ·walk_at "z"
    refine⟨by walk_at "r",by walk_at "r",fun b hb=>?_⟩
    by_cases q:b=j
    ·subst q
     simp only[Bool.not_eq_false']at e
     exact dec_iff.mp e
    ·exact f3 b (by omega)
  ·rintro σ ⟨f0,f1,f3⟩
   walk_at "z"
   rw[Zap]
   exact⟨e2,f3⟩
theorem Zst: ZdY [.none,Zo n G R]=some (.bool true):=by
 apply Pk.eq
 unfold ZdY ZeN Zo
 walk_at "z"
 rfl
def Eu(m:Nat)(a b:Int): Prop:=0≤a∧0≤b∧∃k:Nat,a*b<2 ^ k∧m=2*k+if a<b then 1 else 0
theorem Eu.step{a b:Int}(h:Eu m a b)(hb:b≠0): ∃m',m'<m∧Eu m' b (a % b):=by
 obtain⟨h0,h1,k,h2,h3⟩:=h
 have hb':0<b:=by omega
 have r0:=Int.emod_nonneg a hb
 have r1:=Int.emod_lt_of_pos a hb'
 by_cases q:a<b
 ·rw[if_pos q]at h3
  have e:a % b=a:=Int.emod_eq_of_lt h0 q
  rw[e]
  exact⟨2*k,by omega,h1,h0,k,by rw[Int.mul_comm];exact h2,by rw[if_neg (by omega)];omega⟩
 ·rw[if_neg q]at h3
  have hd:=Int.emod_add_mul_ediv a b
  have hq:1≤a / b:=Int.le_ediv_of_mul_le hb' (by omega)
  have hm:b*1≤b*(a / b):=Int.mul_le_mul_of_nonneg_left hq h1
  have h2r:2*(a % b)<a:=by omega
  have hp:b*(2*(a % b))<b*a:=Int.mul_lt_mul_of_pos_left h2r hb'
  have hk:k≠0:=by
   rintro rfl
   have:0<a*b:=Int.mul_pos (by omega) hb'
   simp at h2
   omega
  obtain⟨k',rfl⟩:∃k',k=k'+1:=⟨k-1,by omega⟩
  refine⟨2*k',by omega,h1,r0,k',?_,by rw[if_neg (by omega)];omega⟩
  have e1:b*(2*(a % b))=2*(b*(a % b)):=by rw[←Int.mul_assoc,Int.mul_comm b 2,Int.mul_assoc]
  have e2:a*b=b*a:=Int.mul_comm _ _
  rw[Int.pow_succ]at h2
  omega
theorem ZiE{a b:Int}(ha:0≤a)(hb:0≤b)(ha2:a<2 ^ 200000)(hb2:b<2 ^ 200000): ∃m,m<1000000∧Eu m a b:=by
 refine⟨_,?_,ha,hb,400000,?_,rfl⟩
 ·split <;> omega
 ·have h1:a*b≤a*2 ^ 200000:=Int.mul_le_mul_of_nonneg_left (by omega) ha
  have h2:a*2 ^ 200000<2 ^ 200000*2 ^ 200000:=Int.mul_lt_mul_of_pos_right ha2 (Int.pow_pos (by decide))
  have h3:(2:Int) ^ 200000*2 ^ 200000=2 ^ 400000:=by rw[←Int.pow_add]
  omega
theorem Zg9{a b:Int}(hb:0<b): Int.gcd b (a % b)=Int.gcd a b:=by
 rw[Int.gcd_comm a b,Int.emod_def,Int.gcd_sub_mul_left_right]
theorem Zqe{a b:Int}: Int.gcd (ZaQ a) (ZaQ b)=Int.gcd a b:=by
 unfold ZaQ Int.gcd
 split <;> split <;> simp
theorem ZiY{a:Int}(h:a.natAbs<2 ^ k): ZaQ a<2 ^ k:=by
 have:((a.natAbs:Nat):Int)<2 ^ k:=by exact_mod_cast h
 unfold ZaQ
 split <;> omega
theorem Zk2{a b:Int}(ha:a.natAbs<2 ^ 200000)(hb:b.natAbs<2 ^ 200000): Zli [.int a,.int b]=some (.int (Int.gcd a b)):=by
 apply Pk.eq
 unfold Zli Ziu
 walk_at "z"
 obtain⟨m,hm,eu⟩:=ZiE (ZcZ a) (ZcZ b) (ZiY ha) (ZiY hb)
 refine Ze6 (fun m σ=>∃c d:Int,σ 0=some (.int c)∧σ 1=some (.int d)∧Eu m c d∧Int.gcd c d=Int.gcd a b) _ _ ?_ 1000000 (m:=m) ⟨ZaQ a,ZaQ b,by walk_at "r",by walk_at "r",eu,Zqe⟩ hm
 rintro m σ ⟨c,d,e0,e1,eu,eg⟩
 walk_at "z"
 refine⟨fun h=>?_,fun h=>?_⟩
 ·have hd:d≠0:=by simpa using h
  have hd0:0≤d:=eu.2.1
  walk_at "z"
  rw[Int.fmod_eq_emod_of_nonneg _ hd0]
  obtain⟨m',h1,h2⟩:=eu.step hd
  exact⟨m',h1,d,c % d,by walk_at "r",by walk_at "r",h2,by rw[Zg9 (by omega)];exact eg⟩
 ·have hd:d=0:=by simpa using h
  subst hd
  walk_at "z"
  rw[←eg,Int.gcd_zero_right]
  have:=eu.1
  congr 1
  omega
theorem ZiZ(ns:List Int)(k:Int): (Zb4 ns k).natAbs<2 ^ 134:=by
 have h:=ZqZ ns k
 have h2:=Zi9
 have:(2:Nat) ^ 134=21778071482940061661655974875633165533184:=by decide
 omega
theorem Zby{a:Nat}(h:a<2 ^ i)(hij:i≤j): a<2 ^ j:=Nat.lt_of_lt_of_le h (Nat.pow_le_pow_right (by decide) hij)
def SmG(k n:Nat)(G:Nat→Nat→Option Int): Prop:=∀i j,i<n+1→j<n+1→∀b,G i j=some b→b.natAbs<2 ^ k
def SmR(k n:Nat)(R:Nat→Int×Int): Prop:=∀t,t<n→(R t).1.natAbs<2 ^ k∧(R t).2.natAbs<2 ^ k
theorem Zkm{m:Int}(h0:0≤m)(hm:m.natAbs<2 ^ k)(hr:r.natAbs<2 ^ k): (Zay m r).1.natAbs<2 ^ k∧(Zay m r).2.natAbs<2 ^ k:=by
 unfold Zay
 split
 ·exact⟨Nat.two_pow_pos k,hr⟩
 ·have h1:=Int.fmod_nonneg_of_pos r (show 0<m by omega)
  have h2:=Int.fmod_lt_of_pos r (show 0<m by omega)
  exact⟨hm,by show(r.fmod m).natAbs<_;omega⟩
theorem ZlO(a:Int): (ZaQ a).natAbs=a.natAbs:=by unfold ZaQ;split <;> omega
theorem Ztd{k x:Int}(hx:x.natAbs<2 ^ 134): (ZdO ns k x).1.natAbs<2 ^ 134∧(ZdO ns k x).2.natAbs<2 ^ 134:=by
 have h:=Zpx ns k
 have h2:=ZiZ ns k
 have e:(2:Nat) ^ 134=21778071482940061661655974875633165533184:=by decide
 unfold ZdO
 split
 ·exact⟨by show(1:Nat)<_;omega,by show(0:Nat)<_;omega⟩
 ·split
  ·exact⟨by show(0:Nat)<_;omega,hx⟩
  ·split
   ·exact Zkm (by omega) (by omega) hx
   ·exact Zkm (ZcZ _) (by rw[ZlO];exact h2) hx
theorem ZoH(hx:∀i,i<n→(x i).natAbs<2 ^ k)(i:Nat)(hi:i<n+1): (Zaf x i).natAbs<2 ^ k:=by
 cases i with
 | zero=>exact Nat.two_pow_pos k
 | succ i=>exact hx i (by omega)
theorem Zvf{k:Int}(hx:∀i,i<n→(x i).natAbs<2 ^ 134): SmG 136 n (Zb0 ns k n x):=by
 intro i j hi hj b h
 have e:(2:Nat) ^ 134=21778071482940061661655974875633165533184:=by decide
 have e2:(2:Nat) ^ 136=4*21778071482940061661655974875633165533184:=by decide
 have h40:=Zi9
 have h1:=ZoH hx i hi
 have h2:=ZoH hx j hj
 unfold Zb0 at h
 split at h
 ·cases h;exact Nat.two_pow_pos _
 ·obtain⟨c,h3,h4⟩:=Zz1.mp h
  have:=Zvb ns _ h3
  subst h4
  omega
theorem Zpy{k:Int}(hx:∀i,i<n→(x i).natAbs<2 ^ 134): SmR 134 n (Zfy ns k n x):=fun t ht=>Ztd (hx t ht)
theorem Zpz: RIn q q:=by
 unfold RIn
 split
 ·rfl
 ·simp
theorem Zun{g:PG}{a:Nat→T}(e:β→T)(P:Nat→β→Prop)(hn:n<10000)(hg:Pl (g σ) fun ts=>ts=tab n a)(hf:∀i,i<n→Pk (f (ZO σ j (a i))) fun t=>∃y,t=e y∧P i y)(d:β)(h:∀y:Nat→β,(∀i,i<n→P i (y i))→Q (.lst (tab n fun i=>e (y i)))): Pk (ZaC g (Zag j) Zas f σ) Q:=by
 have hc:∃y:Nat→β,∀i,i<n→Pk (f (ZO σ j (a i))) (fun t=>t=e (y i))∧P i (y i):=by
  have hx:∀i,∃y:β,i<n→Pk (f (ZO σ j (a i))) (fun t=>t=e y)∧P i y:=fun i=>by
   by_cases q:i<n
   ·obtain⟨t,e1,y,e2,p⟩:=hf i q
    exact⟨y,fun _=>⟨⟨t,e1,e2⟩,p⟩⟩
   ·exact⟨d,fun h=>absurd h q⟩
  exact⟨fun i=>Classical.choose (hx i),fun i=>Classical.choose_spec (hx i)⟩
 obtain⟨y,hy⟩:=hc
 exact ZbR hn hg (fun i hi=>(hy i hi).1) (h y fun i hi=>(hy i hi).2)
theorem Zk3(hn:n<10000)(e:Pk (g σ) fun t=>t=ZH n G)(h:Q (ZH n G)): Pk (ZaC (ZaT g) (Zag j) Zas (pFl (ZT Zds (Zr (Ze j) ZL))) σ) Q:=by
 refine ZbR (n:=n) (a:=fun i=>Zad n (G i)) (b:=fun i=>Zad n (G i)) hn ?_ (fun i hi=>?_) h
 ·refine Zhg (e.mono ?_)
  rintro _ rfl
  exact Sq.lst rfl
 ·unfold Zad
  walk_at "z"
  rfl
noncomputable def ZbT(G:Nat→Nat→Option Int)(i j:Nat)(v:Option Int): Nat→Nat→Option Int:=fun a b=>if a=i∧b=j then v else G a b
theorem Zer{v:Option Int}: T.lst (tab n fun a=>T.lst (tab n fun b=>if a=i∧b=j then oT v else oT (G a b)))=ZH n (ZbT G i j v):=by
 unfold ZH Zad ZbT
 congr 2
 funext a
 congr 2
 funext b
 split <;> rfl
theorem Zl8{v:Option Int}: ZbT G i j v i j=v:=by simp[ZbT]
theorem Zl9{a:Nat}{v:Option Int}(h:¬(a=i∧b=j)): ZbT G i j v a b=G a b:=by simp[ZbT,h]
theorem ZbQ: leO a a:=fun y e=>⟨y,e,Int.le_refl y⟩
theorem ZbW{b c:Option Int}(h:leO a b)(k:leO b c): leO a c:=fun y e=>by
 obtain⟨x,e1,l1⟩:=k y e
 obtain⟨w,e2,l2⟩:=h x e1
 exact⟨w,e2,by omega⟩
theorem Zq0{k:Int}(h0:0≤k)(h1:k<n): ∃i:Nat,k=i∧i<n:=⟨k.toNat,by omega,by omega⟩
theorem Zk4{a b:Int}(ha:a.natAbs<2 ^ 200000)(hb:b.natAbs<2 ^ 200000): Zlk [.int a,.int b]=some (.int (Int.gcd a b)):=by
 apply Pk.eq
 unfold Zlk ZgO
 walk_at "z"
 obtain⟨m,hm,eu⟩:=ZiE (ZcZ a) (ZcZ b) (ZiY ha) (ZiY hb)
 refine Ze6 (fun m σ=>∃c d:Int,σ 2=some (.int c)∧σ 3=some (.int d)∧Eu m c d∧Int.gcd c d=Int.gcd a b) _ _ ?_ 1000000 (m:=m) ⟨ZaQ a,ZaQ b,by walk_at "r",by walk_at "r",eu,Zqe⟩ hm
 rintro m σ ⟨c,d,e0,e1,eu,eg⟩
 walk_at "z"
 refine⟨fun h=>?_,fun h=>?_⟩
 ·have hd:d≠0:=by simpa using h
  have hd0:0≤d:=eu.2.1
  walk_at "z"
  rw[Int.fmod_eq_emod_of_nonneg _ hd0]
  obtain⟨m',h1,h2⟩:=eu.step hd
  exact⟨m',h1,d,c % d,by walk_at "r",by walk_at "r",h2,by rw[Zg9 (by omega)];exact eg⟩
 ·have hd:d=0:=by simpa using h
  subst hd
  walk_at "z"
  rw[←eg,Int.gcd_zero_right]
  have:=eu.1
  congr 1
  omega
def Bd(k:Nat)(x:Int): Prop:=x.natAbs<2 ^ k
theorem Bd.mono{x:Int}(h:Bd i x)(hij:i≤j): Bd j x:=Zby h hij
theorem Zbz{x:Int}(h:Bd i x)(k:Bd j y)(hi:i≤1000000)(hj:j≤1000000): mulOk x y=true:=Zpk (Nat.le_trans (PyProof.Rows.intBits_le h) (Nat.le_trans hi (by decide))) (Nat.le_trans (PyProof.Rows.intBits_le k) (Nat.le_trans hj (by decide)))
theorem Bd.mul{x:Int}(h:Bd i x)(k:Bd j y): Bd (i+j) (x*y):=by
 unfold Bd at *
 rw[Int.natAbs_mul,Nat.pow_add]
 exact Nat.mul_lt_mul'' h k
theorem Bd.add{x:Int}(h:Bd i x)(k:Bd i y): Bd (i+1) (x+y):=by
 unfold Bd at *
 rw[Nat.pow_succ]
 omega
theorem Bd.sub{x:Int}(h:Bd i x)(k:Bd i y): Bd (i+1) (x-y):=by
 unfold Bd at *
 rw[Nat.pow_succ]
 omega
theorem Zc3{x:Int}(h:Bd i y)(hi:i≤9000): Builtin.divisionGoesByPylong x y=false:=by
 refine PyProof.noPylong_of_log2 ?_
 by_cases h0:y.natAbs=0
 ·rw[h0];decide +kernel
 ·exact Nat.lt_of_lt_of_le ((Nat.log2_lt h0).mpr h) hi
theorem ZcL{x:Int}(h:Bd i y)(h0:0≤x)(h1:x≤y): Bd i x:=by unfold Bd at *;omega
theorem Zdc(h:1≤i): Bd i 1:=Zby (i:=1) (by decide) h
theorem Zb5: Bd i 0:=Nat.two_pow_pos i
theorem ZtG{a b:Int}(hb:0<b)(kb:Bd k b)(hk:k≤8000)(ha:0≤a)(hg:Int.gcd a b=1): Pk (Zlm [.int a,.int b]) fun t=>∃x:Int,t=.int x∧0≤x∧x<b∧∃q,a*x=1+b*q:=by
 unfold Zlm ZgP
 walk_at "z"
 rw[Int.fmod_eq_emod_of_nonneg _ (by omega)]
 have r0:=Int.emod_nonneg a (show b≠0 by omega)
 have r1:=Int.emod_lt_of_pos a hb
 have hlt:∀x:Int,0≤x→x≤b→x<2 ^ 200000:=fun x h0 h1=>by
  have h2:b.natAbs<2 ^ 200000:=Zby kb (by omega)
  have h3:((b.natAbs:Nat):Int)<2 ^ 200000:=by exact_mod_cast h2
  omega
 obtain⟨m,hm,eu⟩:=ZiE r0 (show 0≤b by omega) (hlt _ r0 (by omega)) (hlt b (by omega) (by omega))
 have hg0:Int.gcd (a % b) b=1:=by
  rw[Int.gcd_comm,Zg9 hb];exact hg
 refine Ze6 (fun m σ=>∃l r s t:Int,σ 1=some (.int b)∧σ 2=some (.int l)∧σ 3=some (.int r)∧σ 4=some (.int s)∧σ 5=some (.int t)∧Eu m l r∧Int.gcd l r=1∧l≤b∧r≤b∧(∃q,s*a=l+b*q)∧(∃q,t*a=r+b*q)∧(s.natAbs:Int)*r+(t.natAbs:Int)*l≤b∧(1≤l∨t=0)) _ _ ?_ 1000000 (m:=m) ⟨a % b,b,1,0,by walk_at "r",by walk_at "r",by walk_at "r",by walk_at "r",by walk_at "r",eu,hg0,by omega,by omega,⟨a / b,?_⟩,⟨-1,by omega⟩,by simp,.inr rfl⟩ hm
 ·rintro m σ ⟨l,r,s,t,e1,e2,e3,e4,e5,eu,gl,lb,rb,⟨q1,h1⟩,⟨q2,h2⟩,hb1,hl⟩
  walk_at "z"
  refine⟨fun h=>?_,fun h=>?_⟩
  ·have hr:r≠0:=by simpa using h
   have hr0:0≤r:=eu.2.1
   have hl0:0≤l:=eu.1
   have hrp:0<r:=by omega
   have kr:Bd k r:=ZcL kb hr0 rb
   have kl:Bd k l:=ZcL kb hl0 lb
   have hdiv0:0≤l / r:=Int.ediv_nonneg hl0 hr0
   have hdiv1:l / r≤l:=Int.ediv_le_self _ hl0
   have ks:(s.natAbs:Int)≤b:=by
    have:(s.natAbs:Int)*1≤(s.natAbs:Int)*r:=Int.mul_le_mul_of_nonneg_left (by omega) (by omega)
    have:0≤(t.natAbs:Int)*l:=Int.mul_nonneg (by omega) hl0
    omega
   have kt:(t.natAbs:Int)≤b:=by
    rcases hl with hl | hl
    ·have:(t.natAbs:Int)*1≤(t.natAbs:Int)*l:=Int.mul_le_mul_of_nonneg_left (by omega) (by omega)
     have:0≤(s.natAbs:Int)*r:=Int.mul_nonneg (by omega) hr0
     omega
    ·rw[hl];simp;omega
   have kt':Bd k t:=by unfold Bd at *;omega
   have kd:Bd k (l / r):=ZcL kl hdiv0 hdiv1
   walk_at "z"
   refine ZcG hr (Zc3 kr (by omega)) ?_
   rw[Int.fdiv_eq_ediv_of_nonneg _ hr0]
   walk_at "z"
   refine Zbk (Zbz kd kr (by omega) (by omega)) ?_
   walk_at "z"
   refine Zbk (Zbz kd kt' (by omega) (by omega)) ?_
   walk_at "z"
   have hover:l-l / r*r=l % r:=by
    have:=Int.emod_add_mul_ediv l r
    rw[Int.mul_comm r (l / r)]at this
    omega
   rw[hover]
   obtain⟨m',hm1,hm2⟩:=eu.step hr
   have o0:=Int.emod_nonneg l hr
   have o1:=Int.emod_lt_of_pos l hrp
   refine⟨m',hm1,r,l % r,t,s-l / r*t,by walk_at "r",by walk_at "r",by walk_at "r",by walk_at "r",by walk_at "r",hm2,by rw[Zg9 hrp];exact gl,rb,by omega,⟨q2,h2⟩,⟨q1-l / r*q2,?_⟩,?_,.inl (by omega)⟩
   ·rw[Int.sub_mul,h1,Int.mul_assoc,h2,Int.mul_add,Int.mul_sub,←hover]
    have e1:b*(l / r*q2)=l / r*(b*q2):=by rw[←Int.mul_assoc,Int.mul_comm b,Int.mul_assoc]
    rw[e1]
    omega
   ·have ht:((s-l / r*t).natAbs:Int)≤(s.natAbs:Int)+l / r*(t.natAbs:Int):=by
     have h3:(s-l / r*t).natAbs≤s.natAbs+(l / r*t).natAbs:=by omega
     have h4:(l / r*t).natAbs=(l / r).natAbs*t.natAbs:=Int.natAbs_mul ..
     have h5:(((l / r).natAbs*t.natAbs:Nat):Int)=l / r*(t.natAbs:Int):=by
      rw[Int.natCast_mul,Int.natAbs_of_nonneg hdiv0]
     rw[h4]at h3
     omega
    have h6:((s-l / r*t).natAbs:Int)*r≤((s.natAbs:Int)+l / r*(t.natAbs:Int))*r:=Int.mul_le_mul_of_nonneg_right ht hr0
    have h7:((s.natAbs:Int)+l / r*(t.natAbs:Int))*r=(s.natAbs:Int)*r+(t.natAbs:Int)*(l / r*r):=by
     rw[Int.add_mul,Int.mul_comm (l / r) (t.natAbs:Int),Int.mul_assoc]
    have h8:(t.natAbs:Int)*(l % r)+(t.natAbs:Int)*(l / r*r)=(t.natAbs:Int)*l:=by
     rw[←Int.mul_add,←hover]
     congr 1
     omega
    omega
  ·have hr:r=0:=by simpa using h
   subst hr
   rw[Int.gcd_zero_right]at gl
   have hl1:l=1:=by have:=eu.1;omega
   subst hl1
   walk_at "z"
   rw[Int.fmod_eq_emod_of_nonneg _ (by omega)]
   refine⟨s % b,rfl,Int.emod_nonneg _ (by omega),Int.emod_lt_of_pos _ hb,q1-s / b*a,?_⟩
   have h3:=Int.emod_add_mul_ediv s b
   have h4:s % b=s-b*(s / b):=by omega
   rw[h4,Int.mul_sub,Int.mul_comm a s,h1,Int.mul_sub]
   have e1:a*(b*(s / b))=b*(s / b*a):=by rw[Int.mul_comm a,Int.mul_assoc]
   rw[e1]
   omega
 ·have h3:=Int.emod_add_mul_ediv a b
  rw[Int.one_mul]
  omega
theorem Zh9{m:Int}(h:0≤m): Zmt [.int m,.int r]=some (ZD (Zay m r)):=by
 apply Pk.eq
 unfold Zmt Zhu Zay
 by_cases c:m=0
 ·walk_at "z"
  rw[if_pos c];rfl
 ·walk_at "z"
  rw[if_neg c];rfl
theorem ZaU(h:0≤q.1)(x:Int): Z4 q x↔q.1 ∣ x-q.2:=by
 unfold Z4
 by_cases c:q.1=0
 ·rw[c]
  simp
  omega
 ·have:0<q.1:=by omega
  simp only[c,false_implies,true_and,this,true_implies]
  exact(Int.dvd_iff_emod_eq_zero).symm
theorem Zuo{m:Int}(h:0≤m): 0≤(Zay m r).1:=by unfold Zay;split <;> simp[h]
theorem Zcg{m:Int}(h:0≤m)(x:Int): Z4 (Zay m r) x↔m ∣ x-r:=by
 rw[ZaU (Zuo h)]
 unfold Zay
 split
 ·rename_i c;subst c;rfl
 ·show m ∣ x-r.fmod m↔_
  rw[Int.fmod_eq_emod_of_nonneg _ h]
  have h1:x-r % m=(x-r)+m*(r / m):=by have:=Int.emod_add_mul_ediv r m;omega
  rw[h1]
  constructor
  ·intro q
   have:=Int.dvd_sub q (Int.dvd_mul_right m (r / m))
   rwa [Int.add_sub_cancel]at this
  ·intro q
   exact Int.dvd_add q (Int.dvd_mul_right m (r / m))
theorem RestOk.nn(h:RestOk q): 0≤q.1:=by rcases h with h | h <;> omega
theorem RestOk.self(h:RestOk q): Z4 q q.2:=by rw[ZaU h.nn];simp
theorem Zif(hp:RestOk p)(hq:RestOk q)(h:∀x,Z4 p x↔Z4 q x): p=q:=by
 have e1:∀x,p.1 ∣ x-p.2↔q.1 ∣ x-q.2:=fun x=>by rw[←ZaU hp.nn,←ZaU hq.nn];exact h x
 have a1:q.1 ∣ p.2-q.2:=(e1 p.2).mp (by simp)
 have a2:q.1 ∣ p.2+p.1-q.2:=(e1 (p.2+p.1)).mp (by rw[show p.2+p.1-p.2=p.1 by omega];exact Int.dvd_refl _)
 have b1:p.1 ∣ q.2-p.2:=(e1 q.2).mpr (by simp)
 have b2:p.1 ∣ q.2+q.1-p.2:=(e1 (q.2+q.1)).mpr (by rw[show q.2+q.1-q.2=q.1 by omega];exact Int.dvd_refl _)
 have c1:q.1 ∣ p.1:=by have:=Int.dvd_sub a2 a1;rwa [show p.2+p.1-q.2-(p.2-q.2)=p.1 by omega]at this
 have c2:p.1 ∣ q.1:=by have:=Int.dvd_sub b2 b1;rwa [show q.2+q.1-p.2-(q.2-p.2)=q.1 by omega]at this
 have em:p.1=q.1:=Int.dvd_antisymm hp.nn hq.nn c2 c1
 have er:p.2=q.2:=by
  rcases hp with hp | hp
  ·rw[hp]at em
   rw[←em]at a1
   have:=Int.zero_dvd.mp a1
   omega
  ·rcases hq with hq | hq
   ·omega
   ·rw[←em]at a1 hq
    obtain⟨k,hk⟩:=a1
    have:k=0:=by
     rcases Int.lt_trichotomy k 0 with h | h | h
     ·have:p.1*k≤p.1*(-1):=Int.mul_le_mul_of_nonneg_left (by omega) (by omega)
      omega
     ·exact h
     ·have:p.1*1≤p.1*k:=Int.mul_le_mul_of_nonneg_left (by omega) (by omega)
      omega
    subst this
    simp at hk
    omega
 exact Prod.ext em er
def RBd(k:Nat)(q:Int×Int): Prop:=Bd k q.1∧Bd k q.2
theorem ZgX{m:Int}(h0:0≤m)(hm:Bd k m)(hr:Bd k r): RBd k (Zay m r):=Zkm h0 hm hr
noncomputable def Zbe(p q:Int×Int): Int×Int:=Zay (Int.gcd p.1 q.1) (p.2+q.2)
theorem ZiF(p q:Int×Int): RestOk (Zbe p q):=ZbV (by omega) _
theorem Zkn(hk:k≤200000)(hp:Bd k p.1)(hq:Bd k q.1): Zib [ZD p,ZD q]=some (ZD (Zbe p q)):=by
 apply Pk.eq
 unfold Zib Zgm ZD Zbe
 walk_at "z"
 refine Zn (Zk4 (Zby hp hk) (Zby hq hk)) ?_
 walk_at "z"
 exact Zn (Zh9 (by omega)) rfl
noncomputable def Zcc(p:Int×Int)(k:Int): Int×Int:=Zay (p.1*ZaQ k) (p.2*k)
theorem Zkd{c:Int}(hk:k≤200000)(hp0:0≤p.1)(hp:RBd k p)(hc:Bd k c): Zh3 [ZD p,.int c]=some (ZD (Zcc p c)):=by
 apply Pk.eq
 unfold Zh3 Zf9 ZD Zcc
 have ha:Bd k (ZaQ c):=by unfold Bd at *;rw[ZlO];exact hc
 walk_at "z"
 refine Zbk (Zbz hp.1 ha (by omega) (by omega)) ?_
 walk_at "z"
 refine Zbk (Zbz hp.2 hc (by omega) (by omega)) ?_
 walk_at "z"
 exact Zn (Zh9 (Int.mul_nonneg hp0 (ZcZ c))) rfl
noncomputable def Zc4(p:Int×Int)(top:Int): Option Int:=if p.1=0 then(if p.2≤top then some p.2 else none)else some (top-(top-p.2) % p.1)
theorem Zsu(hp:0≤p.1): Zkh [ZD p,.int top]=some (oT (Zc4 p top)):=by
 apply Pk.eq
 unfold Zkh Zga ZD Zc4
 by_cases c:p.1=0
 ·rw[if_pos c]
  by_cases d:p.2≤top
  ·walk_at "z"
   rw[if_pos d];rfl
  ·walk_at "z"
   rw[if_neg d];rfl
 ·rw[if_neg c]
  walk_at "z"
  rw[Int.fmod_eq_emod_of_nonneg _ hp]
  rfl
noncomputable def oR: Option (Int×Int)→T
 | none=>.none
 | some q=>ZD q
def Met(p q:Int×Int)(o:Option (Int×Int)): Prop:=match o with
 | none=>∀x,¬(Z4 p x∧Z4 q x)
 | some r=>RestOk r∧(∀x,Z4 r x↔Z4 p x∧Z4 q x)
theorem Zk5{a b:Option (Int×Int)}(ha:Met p q a)(hb:Met p q b): a=b:=by
 cases a with
 | none=>
  cases b with
  | none=>rfl
  | some r=>exact absurd ((hb.2 r.2).mp hb.1.self) (ha r.2)
 | some s=>
  cases b with
  | none=>exact absurd ((ha.2 s.2).mp ha.1.self) (hb s.2)
  | some r=>rw[Zif ha.1 hb.1 fun x=>(ha.2 x).trans (hb.2 x).symm]
theorem ZkC(hk:k≤8000)(op:RestOk p)(oq:RestOk q)(bp:RBd k p)(bq:RBd k q): Pk (ZkQ [ZD p,ZD q]) fun t=>∃o,t=oR o∧Met p q o∧∀r,o=some r→(r=p∨r=q∨(p.1≠0∧q.1≠0∧r.1=Int.lcm p.1 q.1)):=by
 unfold ZkQ ZgC
 have ep:ZD p=.tup [.int p.1,.int p.2]:=rfl
 have eq:ZD q=.tup [.int q.1,.int q.2]:=rfl
 have np:=op.nn
 have nq:=oq.nn
 by_cases c1:p.1=0
 ·rw[ep]
  walk_at "z"
  refine Zn (Zd5 oq) ?_
  walk_at "z"
  have hone:∀x,Z4 p x↔x=p.2:=fun x=>by rw[ZaU np,c1,Int.zero_dvd];omega
  refine⟨fun e=>?_,fun e=>?_⟩
  ·walk_at "z"
   refine⟨some p,rfl,⟨op,fun x=>⟨fun h=>⟨h,?_⟩,fun h=>h.1⟩⟩,fun r e=>by cases e;exact .inl rfl⟩
   rw[(hone x).mp h];exact dec_iff.mp e
  ·walk_at "z"
   refine⟨none,rfl,fun x h=>?_,by simp⟩
   have:=(hone x).mp h.1
   subst this
   have h2:=Zap h.2
   rw[h2]at e
   cases e
 by_cases c2:q.1=0
 ·have hone:∀x,Z4 q x↔x=q.2:=fun x=>by rw[ZaU nq,c2,Int.zero_dvd];omega
  rw[ep,eq]
  walk_at "z"
  rw[←ep]
  refine Zn (Zd5 op) ?_
  walk_at "z"
  refine⟨fun e=>?_,fun e=>?_⟩
  ·walk_at "z"
   refine⟨some q,rfl,⟨oq,fun x=>⟨fun h=>⟨?_,h⟩,fun h=>h.2⟩⟩,fun r e=>by cases e;exact .inr (.inl rfl)⟩
   rw[(hone x).mp h];exact dec_iff.mp e
  ·walk_at "z"
   refine⟨none,rfl,fun x h=>?_,by simp⟩
   have:=(hone x).mp h.2
   subst this
   have h2:=Zap h.1
   rw[h2]at e
   cases e
 ·have pp:0<p.1:=by omega
  have pq:0<q.1:=by omega
  obtain⟨g,hg⟩:∃g:Nat,Int.gcd p.1 q.1=g:=⟨_,rfl⟩
  have hg0:0<(g:Int):=by
   have:Int.gcd p.1 q.1≠0:=fun h=>c1 (Int.gcd_eq_zero_iff.mp h).1
   omega
  have gp:(g:Int) ∣ p.1:=by rw[←hg];exact Int.gcd_dvd_left ..
  have gq:(g:Int) ∣ q.1:=by rw[←hg];exact Int.gcd_dvd_right ..
  obtain⟨a,ea⟩:=gp
  obtain⟨b,eb⟩:=gq
  have ha:0<a:=by
   rcases Int.lt_trichotomy a 0 with h | h | h
   ·have:=Int.mul_neg_of_pos_of_neg hg0 h;omega
   ·subst h;simp at ea;omega
   ·exact h
  have hb:0<b:=by
   rcases Int.lt_trichotomy b 0 with h | h | h
   ·have:=Int.mul_neg_of_pos_of_neg hg0 h;omega
   ·subst h;simp at eb;omega
   ·exact h
  have da:p.1 / g=a:=by rw[ea];exact Int.mul_ediv_cancel_left _ (by omega)
  have db:q.1 / g=b:=by rw[eb];exact Int.mul_ediv_cancel_left _ (by omega)
  have kg:Bd k (g:Int):=ZcL bp.1 (by omega) (by
   rw[ea]
   have:(g:Int)*1≤g*a:=Int.mul_le_mul_of_nonneg_left (by omega) (by omega)
   omega)
  have kb:Bd k b:=ZcL bq.1 (by omega) (by
   rw[eb]
   have:1*b≤g*b:=Int.mul_le_mul_of_nonneg_right (by omega) (by omega)
   omega)
  have cop:Int.gcd a b=1:=by
   have h1:=Int.gcd_mul_left (g:Int) a b
   rw[←ea,←eb,hg,Int.natAbs_natCast]at h1
   have h2:g*1=g*Int.gcd a b:=by omega
   exact(Nat.eq_of_mul_eq_mul_left (by omega) h2).symm
  rw[ep,eq]
  walk_at "z"
  refine Zn (Zk4 (Zby bp.1 (by omega)) (Zby bq.1 (by omega))) ?_
  rw[hg]
  walk_at "z"
  rw[Int.fmod_eq_emod_of_nonneg _ (by omega)]
  by_cases c3:(q.2-p.2) % (g:Int)=0
  ·obtain⟨d,ed⟩:=Int.dvd_of_emod_eq_zero c3
   have dd:(q.2-p.2) / g=d:=by rw[ed];exact Int.mul_ediv_cancel_left _ (by omega)
   have kd:Bd (k+1) d:=by
    have h1:Bd (k+1) (q.2-p.2):=Bd.sub bq.2 bp.2
    unfold Bd at *
    rw[ed,Int.natAbs_mul]at h1
    have:1*d.natAbs≤(g:Int).natAbs*d.natAbs:=Nat.mul_le_mul_right _ (by omega)
    omega
   walk_at "z"
   refine ZcG (by omega) (Zc3 kg (by omega)) ?_
   rw[Int.fdiv_eq_ediv_of_nonneg _ (by omega),db]
   walk_at "z"
   refine ZcG (by omega) (Zc3 kg (by omega)) ?_
   rw[Int.fdiv_eq_ediv_of_nonneg _ (by omega),dd]
   walk_at "z"
   refine ZcG (by omega) (Zc3 kg (by omega)) ?_
   rw[Int.fdiv_eq_ediv_of_nonneg _ (by omega),da]
   walk_at "z"
   refine(ZtG hb kb hk (by omega) cop).mono ?_
   rintro _ ⟨y,rfl,y0,y1,z,hz⟩
   have ky:Bd k y:=ZcL kb y0 (by omega)
   walk_at "z"
   refine Zbk (Zbz kd ky (by omega) (by omega)) ?_
   walk_at "z"
   refine Zbk (Zbz bp.1 kb (by omega) (by omega)) ?_
   walk_at "z"
   refine Zbk (Zbz bp.1 (Bd.mul kd ky) (by omega) (by omega)) ?_
   walk_at "z"
   have hL:(p.1*b).natAbs=Int.lcm p.1 q.1:=by
    have h1:=Int.gcd_mul_lcm p.1 q.1
    rw[hg]at h1
    have h2:p.1.natAbs*q.1.natAbs=g*(p.1*b).natAbs:=by
     rw[Int.natAbs_mul]
     conv=>lhs;rw[show q.1.natAbs=g*b.natAbs by rw[eb,Int.natAbs_mul,Int.natAbs_natCast]]
     rw[←Nat.mul_assoc,Nat.mul_comm p.1.natAbs g,Nat.mul_assoc]
    have h3:g*Int.lcm p.1 q.1=g*(p.1*b).natAbs:=by omega
    exact(Nat.eq_of_mul_eq_mul_left (by omega) h3).symm
   have hpb:0<p.1*b:=Int.mul_pos pp hb
   refine Zn (Zh9 (by omega)) ⟨some _,rfl,⟨ZbV (by omega) _,fun x=>?_⟩,fun r e=>?_⟩
   ·rw[Zcg (by omega),ZaU np,ZaU nq]
    have hx0:p.1*(d*y)=(q.2-p.2)+q.1*(d*z):=by
     rw[ed,ea,eb]
     have:(g:Int)*a*(d*y)=g*d*(a*y):=by
      rw[Int.mul_assoc,Int.mul_assoc,Int.mul_left_comm a d y]
     rw[this,hz,Int.mul_add,Int.mul_one]
     congr 1
     rw[Int.mul_assoc,Int.mul_assoc,Int.mul_left_comm d b z]
    constructor
    ·intro h
     have h1:p.1 ∣ x-(p.2+p.1*(d*y)):=Int.dvd_trans (Int.dvd_mul_right _ _) h
     have h2:q.1 ∣ x-(p.2+p.1*(d*y)):=Int.dvd_trans ⟨a,by rw[ea,eb];rw[Int.mul_assoc,Int.mul_assoc,Int.mul_comm a b]⟩ h
     refine⟨?_,?_⟩
     ·have:=Int.dvd_add h1 (Int.dvd_mul_right p.1 (d*y))
      rwa [show x-(p.2+p.1*(d*y))+p.1*(d*y)=x-p.2 by omega]at this
     ·have:=Int.dvd_add h2 (Int.dvd_mul_right q.1 (d*z))
      rwa [show x-(p.2+p.1*(d*y))+q.1*(d*z)=x-q.2 by omega]at this
    ·rintro⟨h1,h2⟩
     have h3:p.1 ∣ x-(p.2+p.1*(d*y)):=by
      have:=Int.dvd_sub h1 (Int.dvd_mul_right p.1 (d*y))
      rwa [show x-p.2-p.1*(d*y)=x-(p.2+p.1*(d*y))by omega]at this
     have h4:q.1 ∣ x-(p.2+p.1*(d*y)):=by
      have:=Int.dvd_sub h2 (Int.dvd_mul_right q.1 (d*z))
      rwa [show x-q.2-q.1*(d*z)=x-(p.2+p.1*(d*y))by omega]at this
     have h5:=Int.lcm_dvd (Int.dvd_natAbs.mpr h3) (Int.dvd_natAbs.mpr h4)
     rw[←hL]at h5
     have h6:(((p.1*b).natAbs:Nat):Int) ∣ (((x-(p.2+p.1*(d*y))).natAbs:Nat):Int):=Int.natCast_dvd_natCast.mpr h5
     exact Int.natAbs_dvd.mp (Int.dvd_natAbs.mp h6)
   ·cases e
    refine .inr (.inr ⟨c1,c2,?_⟩)
    unfold Zay
    rw[if_neg (by omega)]
    show p.1*b=_
    rw[←hL]
    omega
  ·walk_at "z"
   refine⟨none,rfl,fun x h=>c3 ?_,by simp⟩
   rw[ZaU np,ZaU nq]at h
   have h1:(g:Int) ∣ x-p.2:=Int.dvd_trans ⟨a,ea⟩ h.1
   have h2:(g:Int) ∣ x-q.2:=Int.dvd_trans ⟨b,eb⟩ h.2
   have h3:=Int.dvd_sub h1 h2
   rw[show x-p.2-(x-q.2)=q.2-p.2 by omega]at h3
   exact Int.emod_eq_zero_of_dvd h3
theorem Zjn{a b:Int}(ha:Bd k a)(hb:Bd k b): Bd k ((Int.gcd a b:Nat):Int):=by
 unfold Bd at *
 rw[Int.natAbs_natCast]
 by_cases z:a=0
 ·rw[z,Int.gcd_zero_left];exact hb
 ·exact Nat.lt_of_le_of_lt (Nat.gcd_le_left _ (by omega)) ha
noncomputable def ZaK(a b:Option Int): Option Int:=if dec (leO a b)then a else b
noncomputable def Z7: Option Int→Option Int→Option Int
 | some a,some b=>some (a+b)
 | _,_=>none
theorem addO_some{b:Option Int}{c:Int}: Z7 a b=some c↔∃x y,a=some x∧b=some y∧x+y=c:=by
 cases a <;> cases b <;> simp[Z7]
theorem leO_total{b:Option Int}(h:¬leO a b): leO b a:=by
 cases a with
 | none=>exact ZcC
 | some x=>
  cases b with
  | none=>exact absurd ZcC h
  | some y=>rw[leO_some]at h ⊢;omega
theorem Zfp{b:Option Int}: leO (ZaK a b) a:=by
 unfold ZaK
 split
 ·exact ZbQ
 ·rename_i h;exact leO_total fun q=>h (Zap q)
theorem Zhw{b:Option Int}: leO (ZaK a b) b:=by
 unfold ZaK
 split
 ·rename_i h;exact dec_iff.mp h
 ·exact ZbQ
theorem Zef(a b:Option Int): ZaK a b=a∨ZaK a b=b:=by
 unfold ZaK;split <;> simp
theorem ZsP{b:Option Int}(h:leO a b)(k:leO b a): a=b:=by
 cases a with
 | none=>
  cases b with
  | none=>rfl
  | some y=>exact absurd h Zhm
 | some x=>
  cases b with
  | none=>exact absurd k Zhm
  | some y=>rw[leO_some]at h k;rw[show x=y by omega]
theorem ZdF{b:Option Int}(h:leO a b): ZaK a b=a:=by unfold ZaK;rw[Zap h];rfl
theorem Ze4{b c d:Option Int}(h:leO a c)(k:leO b d): leO (Z7 a b) (Z7 c d):=by
 intro y e
 obtain⟨p,q,rfl,rfl,rfl⟩:=addO_some.mp e
 obtain⟨p',rfl,l1⟩:=h p rfl
 obtain⟨q',rfl,l2⟩:=k q rfl
 exact⟨p'+q',rfl,by omega⟩
theorem Zq1: Z7 a (some 0)=a:=by cases a <;> simp[Z7]
theorem Zq2: Z7 (some 0) a=a:=by cases a <;> simp[Z7]
theorem ZgK{b c:Option Int}: Z7 (Z7 a b) c=Z7 a (Z7 b c):=by cases a <;> cases b <;> cases c <;> simp[Z7,Int.add_assoc]
theorem ZeT{b:Option Int}: ZkR [oT a,oT b]=some (oT (Z7 a b)):=by
 apply Pk.eq
 unfold ZkR ZgD
 cases a with
 | none=>
  rw[ZaN]
  walk_at "z"
  rfl
 | some x=>
  cases b with
  | none=>
   rw[ZaN,Zaa]
   walk_at "z"
   rfl
  | some y=>
   rw[Zaa,Zaa]
   walk_at "z"
   rfl
theorem Zo6{b:Option Int}: ZiD [oT a,oT b]=some (oT (ZaK a b)):=by
 apply Pk.eq
 unfold ZiD Zg5 ZaK
 walk_at "z"
 refine Zn Zkl ?_
 walk_at "z"
 refine⟨fun e=>?_,fun e=>?_⟩
 ·walk_at "z"
  rw[e];rfl
 ·walk_at "z"
  rw[e];rfl
noncomputable def Zbv(G:Nat→Nat→Option Int)(m:Nat): Nat→Nat→Option Int:=fun i j=>ZaK (G i j) (Z7 (G i m) (G m j))
theorem ZrB{a b:Nat→Option Int}{c:Option Int}(hn:n<10000): ZjM [Zad n a,oT c,Zad n b]=some (Zad n fun j=>ZaK (a j) (Z7 c (b j))):=by
 apply Pk.eq
 unfold ZjM ZfG Zad
 walk_at "z"
 refine ZlJ (n:=n) (a:=fun j=>oT (a j)) (b:=fun j=>oT (b j)) (c:=fun j=>oT (ZaK (a j) (Z7 c (b j)))) hn ?_ (fun j hj=>?_) ?_
 ·walk_at "z"
  rfl
 ·walk_at "z"
  refine Zn ZeT ?_
  walk_at "z"
  exact Zn Zo6 ⟨Zed,rfl⟩
 rfl
theorem ZsQ(hn:n<10000)(hm:m<n): Zkw [ZH n G,.int m]=some (ZH n (Zbv G m)):=by
 apply Pk.eq
 unfold Zkw Zgn ZH
 walk_at "z"
 refine ZbR (n:=n) (a:=fun i=>Zad n (G i)) (b:=fun i=>Zad n (Zbv G m i)) hn ?_ (fun i hi=>?_) ?_
 ·walk_at "z"
  rfl
 ·have h:Zad n (G i)=.lst (tab n fun j=>oT (G i j)):=rfl
  rw[h]
  walk_at "z"
  rw[←h]
  exact Zn (ZrB hn) rfl
 rfl
def Neg(n:Nat)(G:Nat→Nat→Option Int): Prop:=∃i,i<n∧∃b,G i i=some b∧b<0
theorem Zvg(hn:n≤1000)(hd:∀i,i<n→∃b,G i i=some b): ZjT [ZH n G]=some (.bool (dec (Neg n G))):=by
 apply Pk.eq
 unfold ZjT ZfR ZH Zad
 walk_at "z"
 refine ZbR (n:=n) (a:=fun i=>.int i) (b:=fun i=>.bool (dec (∃b,G i i=some b∧b<0))) (by omega) ?_ (fun i hi=>?_) ?_
 ·walk_at "z"
  rfl
 ·walk_at "z"
  obtain⟨b,e⟩:=hd i hi
  rw[e,Zaa]
  walk_at "z"
  rw[ZeU]
  congr 1
  refine ZdC ⟨fun h=>⟨b,rfl,h⟩,?_⟩
  rintro⟨c,e,h⟩
  cases e
  exact h
 walk_at "z"
 rfl
noncomputable def ZW(G:Nat→Nat→Option Int): Nat→Nat→Nat→Option Int
 | 0=>G
 | m+1=>Zbv (ZW G m) m
theorem ZpA(h:∃b,G i i=some b): ∃b,Zbv G m i i=some b:=by
 obtain⟨b,e⟩:=h
 have:=Zfp (a:=G i i) (b:=Z7 (G i m) (G m i))
 rw[e]at this
 obtain⟨c,e2,_⟩:=this b rfl
 exact⟨c,by unfold Zbv;rw[e];exact e2⟩
theorem Zma{n:Nat}{G:Nat→Nat→Option Int}(hd:∀i,i<n→∃b,G i i=some b): ∀m i,i<n→∃b,ZW G m i i=some b
 | 0=>hd
 | m+1=>fun i hi=>ZpA (Zma hd m i hi)
theorem Zup(h0:0<n)(hn:n≤1000)(hd:∀i,i<n→∃b,G i i=some b): Pk (Zg7 [ZH n G]) fun t=>(t=ZH n (ZW G n)∧∀m,m<n→¬Neg n (ZW G (m+1)))∨(t=.none∧∃m,m<n∧Neg n (ZW G (m+1))):=by
 unfold Zg7 Zg6
 have hg:ZH n G=.lst (tab n fun i=>Zad n (G i)):=rfl
 walk_at "z"
 refine Zwj (n:=n) (a:=fun i=>.int i) h0 ?_ (P:=fun i σ=>σ 1=some (ZH n (ZW G i))∧∀m,m<i→¬Neg n (ZW G (m+1))) ⟨rfl,by omega⟩ ?_ ?_
 ·walk_at "z"
  rw[hg]
  walk_at "z"
  rfl
 ·rintro i σ hi ⟨e1,e2⟩
  walk_at "z"
  refine Zn (ZsQ (by omega) hi) ?_
  walk_at "z"
  refine Zn (Zvg hn fun a ha=>ZpA (Zma hd i a ha)) ?_
  walk_at "z"
  refine⟨fun e=>?_,fun e=>?_⟩
  ·walk_at "z"
   exact .inr ⟨rfl,i,hi,dec_iff.mp e⟩
  ·walk_at "z"
   refine⟨by walk_at "r",fun m hm=>?_⟩
   by_cases q:m=i
   ·subst q
    intro h
    have h2:dec (Neg n (Zbv (ZW G m) m))=true:=Zap h
    rw[h2]at e
    cases e
   ·exact e2 m (by omega)
 ·rintro σ ⟨e1,e2⟩
  walk_at "z"
  exact .inl ⟨rfl,e2⟩
theorem ZhG{G:Nat→Nat→Option Int}: ∀m i j,leO (ZW G m i j) (G i j)
 | 0=>fun _ _=>ZbQ
 | m+1=>fun i j=>ZbW Zfp (ZhG m i j)
theorem Zeg(hd:∀i,i<n→G i i=some 0)(hn:∀k,k<m→¬Neg n (ZW G (k+1))): ∀i,i<n→ZW G m i i=some 0:=by
 intro i hi
 obtain⟨b,e⟩:=Zma (fun i hi=>⟨0,hd i hi⟩) m i hi
 have h:=ZhG m i i (G:=G)
 rw[hd i hi,e]at h
 have h1:=leO_some.mp h
 have h2:¬b<0:=fun q=>by
  cases m with
  | zero=>have:=hd i hi;rw[show ZW G 0 i i=G i i from rfl,this]at e;cases e;omega
  | succ m=>exact hn m (by omega) ⟨i,hi,b,e,q⟩
 rw[e,show b=0 by omega]
theorem Zmw{n:Nat}{G:Nat→Nat→Option Int}(hd:∀i,i<n→G i i=some 0): ∀m,m≤n→(∀k,k<m→¬Neg n (ZW G (k+1)))→∀k,k<m→∀i j,i<n→j<n→leO (ZW G m i j) (Z7 (ZW G m i k) (ZW G m k j))
 | 0,_,_,k,hk=>by omega
 | m+1,hm,hn,k,hk=>by
  intro i j hi hj
  have z:=Zeg hd (fun k hk=>hn k (by omega):∀k,k<m→_)
  have ih:=Zmw hd m (by omega) (fun k hk=>hn k (by omega))
  generalize hD:ZW G m=D at z ih
  have hs:ZW G (m+1)=Zbv D m:=by rw[←hD];rfl
  rw[hs]
  have zm:=z m (by omega)
  have cm:∀a,Zbv D m a m=D a m:=fun a=>by unfold Zbv;rw[zm,Zq1];exact ZdF ZbQ
  have rm:∀b,Zbv D m m b=D m b:=fun b=>by unfold Zbv;rw[zm,Zq2];exact ZdF ZbQ
  by_cases q:k=m
  ·subst q
   rw[cm,rm]
   exact Zhw
  ·have hk':k<m:=by omega
   have t1:=ih k hk' i j hi hj
   have t2:=ih k hk' i m hi (by omega)
   have t3:=ih k hk' m j (by omega) hj
   have t4:=ih k hk' m m (by omega) (by omega)
   rw[zm]at t4
   have dn:leO (Zbv D m i j) (Z7 (D i m) (D m j)):=Zhw
   have d0:leO (Zbv D m i j) (D i j):=Zfp
   rcases Zef (D i k) (Z7 (D i m) (D m k))with e1 | e1 <;> rcases Zef (D k j) (Z7 (D k m) (D m j))with e2 | e2
   ·rw[show Zbv D m i k=_ from e1,show Zbv D m k j=_ from e2]
    exact ZbW d0 t1
   ·rw[show Zbv D m i k=_ from e1,show Zbv D m k j=_ from e2,←ZgK]
    exact ZbW dn (Ze4 t2 ZbQ)
   ·rw[show Zbv D m i k=_ from e1,show Zbv D m k j=_ from e2,ZgK]
    exact ZbW dn (Ze4 ZbQ t3)
   ·rw[show Zbv D m i k=_ from e1,show Zbv D m k j=_ from e2,ZgK,←ZgK (a:=D m k)]
    refine ZbW dn (Ze4 ZbQ ?_)
    have:=Ze4 t4 (ZbQ (a:=D m j))
    rwa [Zq2]at this
def ZhH(n:Nat)(G:Nat→Nat→Option Int)(y:Nat→Int): Prop:=∀i j,i<n→j<n→∀b,G i j=some b→y i-y j≤b
theorem ZlP{n:Nat}{G:Nat→Nat→Option Int}{y:Nat→Int}(h:ZhH n G y): ∀m,m≤n→ZhH n (ZW G m) y
 | 0,_=>h
 | m+1,hm=>by
  have ih:=ZlP h m (by omega)
  intro i j hi hj b e
  rcases Zef (ZW G m i j) (Z7 (ZW G m i m) (ZW G m m j))with e1 | e1
  ·rw[show ZW G (m+1) i j=_ from e1]at e;exact ih i j hi hj b e
  ·rw[show ZW G (m+1) i j=_ from e1]at e
   obtain⟨p,q,h1,h2,h3⟩:=addO_some.mp e
   have:=ih i m hi (by omega) p h1
   have:=ih m j (by omega) hj q h2
   omega
theorem Zuq{y:Nat→Int}(h:ZhH n G y): ¬Neg n G:=by
 rintro⟨i,hi,b,e,hb⟩
 have:=h i i hi hi b e
 omega
theorem ZoI(h:Zal n G R x): ZhH (n+1) G (Zaf x):=fun i j hi hj b e=>h.1 i j hi hj b e
theorem Zlr{k:Int}: Zkx [.int k]=some (.bool true):=by
 apply Pk.eq
 unfold Zkx Zgo
 walk_at "z"
 rfl
theorem Zwq(hn:n≤1000)(hd:∀i,i<n→G i i=some 0): ZkS [ZH n G,.int n]=some (.bool true):=by
 apply Pk.eq
 unfold ZkS ZgE ZH Zad
 walk_at "z"
 refine ZaO (n:=n) (a:=fun i=>.int i) (P:=fun i σ=>σ 0=some (ZH n G)∧σ 1=some (.int n)) ?_ ⟨rfl,rfl⟩ ?_ ?_
 ·walk_at "z"
  rfl
 ·rintro i σ hi ⟨e0,e1⟩
  unfold ZH Zad at e0
  walk_at "z"
  refine ZaO (n:=n) (a:=fun j=>oT (G i j)) (P:=fun j σ=>σ 0=some (ZH n G)∧σ 1=some (.int n)∧σ 2=some (.int i)) ?_ ⟨by walk_at "r",by walk_at "r",by walk_at "r"⟩ ?_ ?_
  ·walk_at "z"
   rfl
  ·rintro j σ hj ⟨f0,f1,f2⟩
   cases G i j with
   | none=>
    rw[ZaN]
    walk_at "z"
    exact⟨by walk_at "r",by walk_at "r",by walk_at "r"⟩
   | some b=>
    rw[Zaa]
    walk_at "z"
    refine Zn Zlr ?_
    walk_at "z"
    exact⟨by walk_at "r",by walk_at "r",by walk_at "r"⟩
  ·rintro σ ⟨f0,f1,f2⟩
   unfold ZH Zad at f0
   walk_at "z"
   rw[hd i hi,Zaa]
   walk_at "z"
   exact⟨by walk_at "r",by walk_at "r"⟩
 ·rintro σ ⟨e0,e1⟩
  walk_at "z"
  rfl
section
variable {Q:T→Prop}
theorem Zix{p:PE}(h:Pk (p σ) fun t=>∃ts,t=.lst ts∧Q (.lst (ts.drop k))): Pk (Zfw p k σ) Q:=by
 obtain⟨_,e,ts,rfl,q⟩:=h
 exact⟨_,by simp only[Zfw,e,Option.bind_some],q⟩
end
noncomputable abbrev Sp:=Option Int×Option Int
noncomputable def spT(s:Sp): T:=.tup [oT s.1,oT s.2]
def SBd(k:Nat)(s:Sp): Prop:=(∀x,s.1=some x→Bd k x)∧∀x,s.2=some x→Bd k x
theorem Zqf{x:Int}(h:Bd k x): Bd k (ZaQ x):=by unfold ZaQ;unfold Bd at *;split <;> omega
def InS(s:Sp)(x:Int): Prop:=(∀l,s.1=some l→l≤x)∧∀h,s.2=some h→x≤h
theorem Zia{k:Int}(hi:i≤100000)(ha:∀x,a=some x→Bd i x)(hk:Bd i k): Zkz [oT a,.int k]=some (oT (a.map fun x=>x*k)):=by
 apply Pk.eq
 unfold Zkz Zgp
 cases a with
 | none=>
  simp only[ZaN,Option.map_none]
  walk_at "z"
  rfl
 | some x=>
  simp only[Zaa,Option.map_some]
  walk_at "z"
  refine Zbk (Zbz (ha x rfl) hk (by omega) (by omega)) ?_
  rfl
noncomputable def Zcd(s:Sp)(k:Int): Sp:=if k=0 then(some 0,some 0)else if k<0 then(s.2.map fun x=>x*k,s.1.map fun x=>x*k)else(s.1.map fun x=>x*k,s.2.map fun x=>x*k)
theorem ZrC{s:Sp}{k:Int}(hi:i≤100000)(hs:SBd i s)(hk:Bd i k): ZjN [spT s,.int k]=some (spT (Zcd s k)):=by
 apply Pk.eq
 unfold ZjN ZfH Zcd spT
 by_cases c:k=0
 ·walk_at "z"
  rw[if_pos c]
  rfl
 ·rw[if_neg c]
  walk_at "z"
  refine Zn (Zia hi hs.1 hk) ?_
  walk_at "z"
  refine Zn (Zia hi hs.2 hk) ?_
  by_cases d:k<0
  ·walk_at "z"
   rw[if_pos d]
  ·walk_at "z"
   rw[if_neg d]
noncomputable def Zjv(s u:Sp): Sp:=(Z7 s.1 u.1,Z7 s.2 u.2)
theorem ZrN{s u:Sp}: ZjU [spT s,spT u]=some (spT (Zjv s u)):=by
 apply Pk.eq
 unfold ZjU ZfS spT
 walk_at "z"
 refine Zn ZeT ?_
 walk_at "z"
 refine Zn ZeT ?_
 walk_at "z"
 rfl
noncomputable def ZbL(c:Nat→Int)(S:Nat→Sp): Nat→Sp
 | 0=>(some (c 0),some (c 0))
 | j+1=>Zjv (ZbL c S j) (Zcd (S j) (c (j+1)))
theorem ZiG{f:Nat→T}: (tab (n+1) f).drop 1=tab n fun i=>f (i+1):=by
 apply List.ext_getElem
 ·simp[tab]
 ·intro i h1 h2
  simp[tab]
theorem Zr3{S:Nat→Sp}(hn:n≤100)(hi:i≤100000)(bc:∀j,j<n+1→Bd i (c j))(bS:∀j,j<n→SBd i (S j)): Zj2 [.lst (tab (n+1) fun j=>.int (c j)),.lst (tab n fun j=>spT (S j))]=some (spT (ZbL c S n)):=by
 apply Pk.eq
 unfold Zj2 Zf0
 walk_at "z"
 refine ZiV (n:=n) (a:=fun j=>.int (c (j+1))) (c:=fun j=>spT (S j)) (P:=fun j σ=>σ 2=some (spT (ZbL c S j))) ?_ rfl ?_ ?_
 ·refine Zmq ?_
  refine Zix ?_
  walk_at "z"
  refine⟨_,rfl,?_⟩
  rw[ZiG]
  walk_at "z"
  rfl
 ·rintro j σ hj e2
  walk_at "z"
  refine Zn (ZrC hi (bS j hj) (bc (j+1) (by omega))) ?_
  walk_at "z"
  refine Zn ZrN ?_
  walk_at "z"
  exact Zbr
 ·rintro σ e2
  walk_at "z"
  rfl
noncomputable def ZaA(c:Nat→Int)(R:Nat→Int×Int): Nat→Int×Int
 | 0=>(0,c 0)
 | j+1=>Zbe (ZaA c R j) (Zcc (R j) (c (j+1)))
noncomputable def Zba(c:Nat→Int)(R:Nat→Int×Int): Nat→Int
 | 0=>0
 | j+1=>Int.gcd (Zba c R j) (c (j+1)*(R j).1)
noncomputable def Zbw(c:Nat→Int)(R:Nat→Int×Int): Nat→Int
 | 0=>c 0
 | j+1=>Zbw c R j+c (j+1)*(R j).2
theorem Zdp(c:Nat→Int)(R:Nat→Int×Int): ∀j,0≤Zba c R j
 | 0=>by show(0:Int)≤0;decide
 | j+1=>by show(0:Int)≤((Int.gcd _ _:Nat):Int);omega
theorem Zi0{c:Nat→Int}{R:Nat→Int×Int}{n i:Nat}(bc:∀j,j<n+1→Bd i (c j))(bR:∀j,j<n→RBd i (R j)): ∀j,j≤n→Bd (i+i) (Zba c R j)
 | 0,_=>Zb5
 | j+1,h=>Zjn (Zi0 bc bR j (by omega)) ((bc (j+1) (by omega)).mul (bR j (by omega)).1)
theorem Zqg{c:Nat→Int}{R:Nat→Int×Int}{n i:Nat}(bc:∀j,j<n+1→Bd i (c j))(bR:∀j,j<n→RBd i (R j)): ∀j,j≤n→Bd (i+i+j) (Zbw c R j)
 | 0,_=>(bc 0 (by omega)).mono (by omega)
 | j+1,h=>(Zqg bc bR j (by omega)).add (((bc (j+1) (by omega)).mul (bR j (by omega)).2).mono (by omega))
theorem ZnN{m a b:Int}(h:0≤m)(hd:m ∣ a-b): Zay m a=Zay m b:=by
 refine Zif (ZbV h _) (ZbV h _) fun x=>?_
 rw[Zcg h,Zcg h]
 constructor
 ·intro q
  have:=Int.dvd_add q hd
  rwa [show x-a+(a-b)=x-b by omega]at this
 ·intro q
  have:=Int.dvd_sub q hd
  rwa [show x-b-(a-b)=x-a by omega]at this
theorem Ziq{m:Int}(h:0≤m): m ∣ (Zay m r).2-r:=by
 have:=(Zcg (r:=r) h (Zay m r).2).mp (ZbV h r).self
 exact this
theorem Zdl{m:Int}: (Zay m r).1=m:=by
 unfold Zay
 split
 ·rename_i h;exact h.symm
 ·rfl
theorem ZcE{c:Nat→Int}{R:Nat→Int×Int}{n:Nat}(ok:∀j,j<n→RestOk (R j)): ∀j,j≤n→ZaA c R j=Zay (Zba c R j) (Zbw c R j)
 | 0,_=>rfl
 | j+1,h=>by
  have ih:=ZcE (c:=c) ok j (by omega)
  have h0:=Zdp c R j
  have hr:=(ok j (by omega)).nn
  show Zbe (ZaA c R j) (Zcc (R j) (c (j+1)))=_
  rw[ih]
  unfold Zbe Zcc
  rw[Zdl,Zdl]
  have hab:0≤(R j).1*ZaQ (c (j+1)):=Int.mul_nonneg hr (ZcZ _)
  have eg:((Int.gcd (Zba c R j) ((R j).1*ZaQ (c (j+1))):Nat):Int)=Zba c R (j+1):=by
   show _=((Int.gcd (Zba c R j) (c (j+1)*(R j).1):Nat):Int)
   congr 1
   unfold Int.gcd
   rw[Int.natAbs_mul,Int.natAbs_mul,ZlO,Nat.mul_comm]
  rw[eg]
  have h1:Zba c R (j+1) ∣ Zba c R j:=Int.gcd_dvd_left ..
  have h2:Zba c R (j+1) ∣ (R j).1*ZaQ (c (j+1)):=by rw[←eg];exact Int.gcd_dvd_right ..
  refine ZnN (Zdp _ _ _) ?_
  have a1:=Int.dvd_trans h1 (Ziq (r:=Zbw c R j) h0)
  have a2:=Int.dvd_trans h2 (Ziq (r:=(R j).2*c (j+1)) hab)
  have:=Int.dvd_add a1 a2
  rw[show Zbw c R (j+1)=Zbw c R j+c (j+1)*(R j).2 from rfl,Int.mul_comm (c (j+1))]
  generalize (Zay (Zba c R j) (Zbw c R j)).2=u at *
  generalize (Zay ((R j).1*ZaQ (c (j+1))) ((R j).2*c (j+1))).2=v at *
  generalize (R j).2*c (j+1)=z at *
  rwa [show u-Zbw c R j+(v-z)=u+v-(Zbw c R j+z)by omega]at this
theorem ZoJ{b:Option Int}: ZgR [oT a,oT b]=some (.bool (dec (∃x y,a=some x∧b=some y∧y<x))):=by
 apply Pk.eq
 unfold ZgR ZgQ
 cases a with
 | none=>
  rw[ZaN]
  walk_at "z"
  rw[Zaq (by rintro⟨x,y,h,_⟩;cases h)]
 | some x=>
  cases b with
  | none=>
   rw[ZaN,Zaa]
   walk_at "z"
   rw[Zaq (by rintro⟨x,y,_,h,_⟩;cases h)]
  | some y=>
   rw[Zaa,Zaa]
   walk_at "z"
   congr 1
   by_cases h:y<x
   ·rw[Zap ⟨x,y,rfl,rfl,h⟩];simp[h]
   ·rw[Zaq (by rintro⟨x',y',h1,h2,h3⟩;cases h1;cases h2;exact h h3)];simp[h]
theorem Zur{s:Sp}{x k:Int}(h:InS s x): InS (Zcd s k) (k*x):=by
 unfold Zcd
 obtain⟨a,b⟩:=s
 by_cases c:k=0
 ·rw[if_pos c,c,Int.zero_mul]
  exact⟨fun l e=>by cases e;omega,fun l e=>by cases e;omega⟩
 ·rw[if_neg c]
  by_cases d:k<0
  ·rw[if_pos d]
   refine⟨fun l e=>?_,fun l e=>?_⟩
   ·cases b with
    | none=>cases e
    | some y=>
     cases e
     have:=h.2 y rfl
     show y*k≤k*x
     rw[Int.mul_comm]
     exact Int.mul_le_mul_of_nonpos_left (a:=k) (by omega) this
   ·cases a with
    | none=>cases e
    | some y=>
     cases e
     have:=h.1 y rfl
     show k*x≤y*k
     rw[Int.mul_comm y]
     exact Int.mul_le_mul_of_nonpos_left (a:=k) (by omega) this
  ·rw[if_neg d]
   refine⟨fun l e=>?_,fun l e=>?_⟩
   ·cases a with
    | none=>cases e
    | some y=>
     cases e
     have:=h.1 y rfl
     show y*k≤k*x
     rw[Int.mul_comm]
     exact Int.mul_le_mul_of_nonneg_left this (show 0≤k by omega)
   ·cases b with
    | none=>cases e
    | some y=>
     cases e
     have:=h.2 y rfl
     show k*x≤y*k
     rw[Int.mul_comm y]
     exact Int.mul_le_mul_of_nonneg_left this (show 0≤k by omega)
theorem Zvh{s u:Sp}{x:Int}(h:InS s x)(k:InS u y): InS (Zjv s u) (x+y):=by
 refine⟨fun l e=>?_,fun l e=>?_⟩
 ·obtain⟨a,b,h1,h2,rfl⟩:=addO_some.mp e
  have:=h.1 a h1
  have:=k.1 b h2
  omega
 ·obtain⟨a,b,h1,h2,rfl⟩:=addO_some.mp e
  have:=h.2 a h1
  have:=k.2 b h2
  omega
noncomputable def ZC(R:Nat→Int×Int): Nat→Int×Int:=cn (0,0) R
theorem ZmQ(R:Nat→Int×Int): cn (T.tup [.int 0,.int 0]) (fun i=>ZD (R i))=fun i=>ZD (ZC R i):=by
 funext i;cases i <;> rfl
theorem Znr(hn:n<9000): Zf3 [ZaH n R]=some (ZaH (n+1) (ZC R)):=by
 apply Pk.eq
 unfold Zf3 Zf1 ZaH
 walk_at "z"
 rw[ZmQ]
def RB(M:Int)(k:Nat)(q:Int×Int): Prop:=RestOk q∧(q.1=0∨q.1 ∣ M)∧Bd k q.2
theorem RB.mono(h:RB M i q)(hij:i≤j): RB M j q:=⟨h.1,h.2.1,h.2.2.mono hij⟩
theorem RB.bd(hM:0<M)(bM:Bd k M)(h:RB M k q): RBd k q:=by
 refine⟨?_,h.2.2⟩
 rcases h.2.1 with e | e
 ·rw[e];exact Zb5
 ·exact ZcL bM h.1.nn (Int.le_of_dvd hM e)
theorem ZcQ(h:∀t,t<n→RB M k (R t)): ∀i,i<n+1→RB M k (ZC R i)
 | 0,_=>⟨.inl rfl,.inl rfl,Zb5⟩
 | i+1,hi=>h i (by omega)
def Zct(n:Nat)(G:Nat→Nat→Option Int)(R:Nat→Int×Int)(i:Nat)(m:Nat)(x:Int): Prop:=Z4 (ZC R i) x∧∀j,j<m→∀a b,G i j=some a→G j i=some b→a+b=0→Z4 (ZC R j) (x-a)
def ZcH(n:Nat)(G:Nat→Nat→Option Int)(R:Nat→Int×Int)(M:Int)(k:Nat)(i m:Nat)(o:Option (Int×Int)): Prop:=match o with
 | none=>∀x,¬Zct n G R i m x
 | some q=>RB M k q∧∀x,Z4 q x↔Zct n G R i m x
theorem Zoe(h:RestOk q)(a x:Int): Z4 (Zbe q (0,a)) x↔Z4 q (x-a):=by
 unfold Zbe
 rw[Zcg (by omega),ZaU h.nn]
 simp only[Int.gcd_zero_right]
 rw[Int.natAbs_of_nonneg h.nn,show x-(q.2+a)=x-a-q.2 by omega]
theorem ZrO(hn:n≤100)(hi:i<n+1)(hk:k≤7000)(hM:0<M)(bM:Bd k M)(bG:∀a b c,a<n+1→b<n+1→G a b=some c→Bd k c)(hR:∀t,t<n→RB M k (R t)): Pk (ZdX [ZH (n+1) G,ZaH (n+1) (ZC R),.int i]) fun t=>∃o,t=oR o∧ZcH n G R M (k+1) i (n+1) o:=by
 unfold ZdX ZfT
 have hF:=ZcQ hR
 have bM1:Bd (k+1) M:=bM.mono (by omega)
 have hr:ZaH (n+1) (ZC R)=.lst (tab (n+1) fun i=>ZD (ZC R i)):=rfl
 rw[hr]
 walk_at "z"
 refine ZiV (n:=n+1) (a:=fun j=>.int j) (c:=fun j=>ZD (ZC R j)) (P:=fun m σ=>∃o,σ 0=some (ZH (n+1) G)∧σ 1=some (.lst (tab (n+1) fun i=>ZD (ZC R i)))∧σ 2=some (.int i)∧σ 3=some (oR o)∧ZcH n G R M (k+1) i m o) ?_ ⟨some (ZC R i),by walk_at "r",by walk_at "r",by walk_at "r",by walk_at "r",(hF i hi).mono (by omega),fun x=>⟨fun h=>⟨h,by omega⟩,fun h=>h.1⟩⟩ ?_ ?_
 ·walk_at "z"
  rfl
 ·rintro j σ hj ⟨o,e0,e1,e2,e3,ho⟩
  unfold ZH Zad at e0
  cases o with
  | none=>
   have e3':σ 3=some .none:=e3
   clear e3
   walk_at "z"
   refine⟨none,by walk_at "r",by walk_at "r",by walk_at "r",by walk_at "r",fun x h=>ho x ⟨h.1,fun j' hj'=>h.2 j' (by omega)⟩⟩
  | some q=>
   have e3':σ 3=some (.tup [.int q.1,.int q.2]):=e3
   clear e3
   walk_at "z"
   refine Zn ZeT ?_
   walk_at "z"
   refine Zbb (ZhF (n:=0)) (.int (n:=0)) ?_
   walk_at "z"
   have stay:(∀a b,G i j=some a→G j i=some b→¬a+b=0)→ZcH n G R M (k+1) i (j+1) (some q):=fun h=>⟨ho.1,fun x=>(ho.2 x).trans ⟨fun hx=>⟨hx.1,fun j' hj' a b ha hb hab=>by
     by_cases q':j'=j
     ·subst q';exact absurd hab (h a b ha hb)
     ·exact hx.2 j' (by omega) a b ha hb hab⟩,fun hx=>⟨hx.1,fun j' hj'=>hx.2 j' (by omega)⟩⟩⟩
   refine⟨fun e=>?_,fun e=>?_⟩
   ·have e':=dec_iff.mp e
    rw[←Zaa,oT_inj]at e'
    obtain⟨a,b,ha,hb,hab⟩:=addO_some.mp e'
    walk_at "z"
    rw[ha,Zaa]
    have hj2:=hF j hj
    have ba:=bG i j a hi hj ha
    refine Zn (Zkn (p:=ZC R j) (q:=(0,a)) (k:=k) (by omega) (hj2.bd hM bM).1 Zb5) ?_
    have hpl:RB M (k+1) (Zbe (ZC R j) (0,a)):=by
     refine⟨ZiF _ _,?_,?_⟩
     ·unfold Zbe Zay
      simp only[Int.gcd_zero_right]
      rw[Int.natAbs_of_nonneg hj2.1.nn]
      split
      ·exact .inl rfl
      ·exact hj2.2.1
     ·have hm:=(hj2.bd hM bM).1
      refine(ZgX (k:=k+1) (by omega) ?_ (Bd.add hj2.2.2 ba)).2
      simp only[Int.gcd_zero_right]
      rw[Int.natAbs_of_nonneg hj2.1.nn]
      exact hm.mono (by omega)
    walk_at "z"
    refine(ZkC (p:=q) (q:=Zbe (ZC R j) (0,a)) (k:=k+1) (by omega) ho.1.1 hpl.1 (ho.1.bd hM bM1) (hpl.bd hM bM1)).mono ?_
    rintro _ ⟨o',rfl,mt,wh⟩
    refine⟨o',by walk_at "r",by walk_at "r",by walk_at "r",by walk_at "r",?_⟩
    have hset:∀x,(Z4 q x∧Z4 (Zbe (ZC R j) (0,a)) x)↔Zct n G R i (j+1) x:=fun x=>by
     rw[ho.2 x,Zoe hj2.1]
     constructor
     ·rintro⟨h1,h2⟩
      refine⟨h1.1,fun j' hj' c d hc hd hcd=>?_⟩
      by_cases q':j'=j
      ·subst q';rw[ha]at hc;cases hc;exact h2
      ·exact h1.2 j' (by omega) c d hc hd hcd
     ·intro h
      exact⟨⟨h.1,fun j' hj'=>h.2 j' (by omega)⟩,h.2 j (by omega) a b ha hb hab⟩
    cases o' with
    | none=>exact fun x hx=>mt x ((hset x).mpr hx)
    | some r=>
     refine⟨⟨mt.1,?_,?_⟩,fun x=>(mt.2 x).trans (hset x)⟩
     ·rcases wh r rfl with h | h | ⟨h1,h2,h3⟩
      ·rw[h];exact ho.1.2.1
      ·rw[h];exact hpl.2.1
      ·right
       rw[h3]
       exact Int.coe_lcm_dvd (ho.1.2.1.resolve_left h1) (hpl.2.1.resolve_left h2)
     ·rcases wh r rfl with h | h | ⟨h1,h2,h3⟩
      ·rw[h];exact ho.1.2.2
      ·rw[h];exact hpl.2.2
      ·rcases mt.1 with z | z
       ·have:(Int.lcm q.1 (Zbe (ZC R j) (0,a)).1)≠0:=Int.lcm_ne_zero h1 h2
        omega
       ·have hd:r.1 ∣ M:=by
         rw[h3]
         exact Int.coe_lcm_dvd (ho.1.2.1.resolve_left h1) (hpl.2.1.resolve_left h2)
        exact ZcL bM1 z.2.1 (by have:=Int.le_of_dvd hM hd;omega)
   ·walk_at "z"
    refine⟨some q,by walk_at "r",by walk_at "r",by walk_at "r",by walk_at "r",stay fun a b ha hb hab=>?_⟩
    have:dec (oT (Z7 (G i j) (G j i))=.int 0)=true:=Zap (by rw[ha,hb];simp[Z7,oT,hab])
    rw[this]at e
    cases e
 ·rintro σ ⟨o,e0,e1,e2,e3,ho⟩
  walk_at "z"
  exact⟨o,rfl,ho⟩
theorem Zq3: Zb3 1 1 1=some []:=by
 unfold Zb3
 rw[if_pos (by decide +kernel)]
 rfl
theorem Zjw: Pln 1 (oR o):=by
 cases o with
 | none=>exact .none
 | some q=>exact Zfo
theorem oR_none: oR o=.none↔o=none:=by cases o <;> simp[oR,ZD]
def Hand(n:Nat)(G:Nat→Nat→Option Int)(R R':Nat→Int×Int)(M:Int)(k:Nat): Prop:=∀t,t<n→RB M k (R' t)∧∀x,Z4 (R' t) x↔Zct n G R (t+1) (n+1) x
theorem Zr4(hn:n≤100)(hk:k≤7000)(hM:0<M)(bM:Bd k M)(bG:∀a b c,a<n+1→b<n+1→G a b=some c→Bd k c)(hR:∀t,t<n→RB M k (R t)): Pk (Zdf [Zo n G R]) fun t=>(∃R',t=Zo n G R'∧Hand n G R R' M (k+1))∨(t=.none∧∃i,i<n∧∀x,¬Zct n G R (i+1) (n+1) x):=by
 unfold Zdf Zf5
 have ht:Zo n G R=.tup [ZH (n+1) G,ZaH n R]:=rfl
 rw[ht]
 walk_at "z"
 refine Zn (Znr (by omega)) ?_
 have hr:ZaH (n+1) (ZC R)=.lst (tab (n+1) fun i=>ZD (ZC R i)):=rfl
 walk_at "z"
 refine Zun oR (fun t o=>ZcH n G R M (k+1) (t+1) (n+1) o) (n:=n) (a:=fun i=>.int (i+1)) (by omega) ?_ (fun t ht=>?_) none (fun y hy=>?_)
 ·by_cases h0:n=0
  ·subst h0
   exact⟨[],Zhh (a:=1) (b:=1) rfl Zq3,rfl⟩
  ·rw[hr]
   walk_at "z"
   refine Rn.two 1 n (by decide) (by omega) (by omega) (by omega) ?_
   refine ZaZ fun i _=>?_
   congr 1
   omega
 ·walk_at "z"
  refine(ZrO (i:=t+1) hn (by omega) hk hM bM bG hR).mono ?_
  rintro _ ⟨o,rfl,ho⟩
  exact⟨o,rfl,ho⟩
 ·walk_at "z"
  refine Zfx (.none (n:=0)) (ZdJ (n:=1) fun i _=>Zjw) ?_
  by_cases hc:∃i,i<n∧y i=none
  ·obtain⟨i,hi,ei⟩:=hc
   rw[Zap (show T.none∈tab n fun i=>oR (y i)from List.mem_of_getElem? (i:=i) (by rw[Zbj hi,ei];rfl))]
   walk_at "z"
   refine .inr ⟨rfl,i,hi,?_⟩
   have:=hy i hi
   rw[ei]at this
   exact this
  ·rw[Zaq (show ¬T.none∈tab n fun i=>oR (y i)from fun h=>by
    obtain⟨i,hi,e⟩:=Zci h
    exact hc ⟨i,hi,oR_none.mp e.symm⟩)]
   walk_at "z"
   have hs:∀i,i<n→y i=some ((y i).getD (1,0)):=fun i hi=>by
    cases e:y i with
    | none=>exact absurd ⟨i,hi,e⟩ hc
    | some q=>rfl
   refine .inl ⟨fun i=>(y i).getD (1,0),?_,fun t ht=>?_⟩
   ·unfold Zo ZaH
    congr 4
    refine ZaZ fun i hi=>?_
    conv=>lhs;rw[hs i hi]
    rfl
   ·have:=hy t ht
    rw[hs t ht]at this
    exact this
theorem Zm5: Zdf [.none]=some .none:=by
 apply Pk.eq
 unfold Zdf Zf5
 walk_at "z"
 rfl
noncomputable def Zbf(R:Nat→Int×Int)(i j:Nat): Int×Int:=Zbe (ZC R i) (Zcc (ZC R j) (-1))
noncomputable def Zbx(b:Option Int)(q:Int×Int): Option Int:=match b with
 | some b=>Zc4 q b
 | none=>if q.1=0 then some q.2 else none
noncomputable def ZaB(G:Nat→Nat→Option Int)(R:Nat→Int×Int): Nat→Nat→Option Int:=fun i j=>Zbx (G i j) (Zbf R i j)
def Zc0(n:Nat)(G:Nat→Nat→Option Int)(R:Nat→Int×Int): Prop:=∃i j,i<n+1∧j<n+1∧∃b,G i j=some b∧ZaB G R i j=none
theorem ZrD{b:Option Int}(hq:0≤q.1): ZhU [oT b,ZD q]=some (oT (Zbx b q)):=by
 apply Pk.eq
 unfold ZhU ZfI Zbx
 cases b with
 | none=>
  have ep:ZD q=.tup [.int q.1,.int q.2]:=rfl
  rw[ZaN,ep]
  by_cases c:q.1=0
  ·walk_at "z"
   simp[c,oT]
  ·walk_at "z"
   simp[c,oT]
 | some b=>
  rw[Zaa]
  walk_at "z"
  exact Zn (Zsu hq) rfl
theorem Zr5{b:Nat→Option Int}(hn:n≤100)(hi:i<n+1)(hk:k≤7000)(hM:0<M)(bM:Bd k M)(hR:∀t,t<n→RB M k (R t)): Pk (Zj6 [Zad (n+1) b,ZD (ZC R i),ZaH (n+1) (ZC R)]) fun t=>(t=Zad (n+1) (fun j=>Zbx (b j) (Zbf R i j))∧∀j,j<n+1→∀c,b j=some c→Zbx (b j) (Zbf R i j)≠none)∨(t=.none∧∃j,j<n+1∧∃c,b j=some c∧Zbx (b j) (Zbf R i j)=none):=by
 unfold Zj6 Zj5
 have hF:=ZcQ hR
 have hb:Zad (n+1) b=.lst (tab (n+1) fun j=>oT (b j)):=rfl
 have hr:ZaH (n+1) (ZC R)=.lst (tab (n+1) fun i=>ZD (ZC R i)):=rfl
 rw[hb,hr]
 walk_at "z"
 refine ZiV (n:=n+1) (a:=fun j=>oT (b j)) (c:=fun j=>ZD (ZC R j)) (P:=fun m σ=>σ 1=some (ZD (ZC R i))∧σ 3=some (.lst (tab m fun j=>oT (Zbx (b j) (Zbf R i j))))∧∀j,j<m→∀c,b j=some c→Zbx (b j) (Zbf R i j)≠none) ?_ ⟨by walk_at "r",by walk_at "r",by omega⟩ ?_ ?_
 ·walk_at "z"
  rfl
 ·rintro j σ hj ⟨e1,e3,st⟩
  have h1:=hF i hi
  have h2:=hF j hj
  have b1:=h1.bd hM bM
  have b2:=h2.bd hM bM
  have bt:Bd (k+1) (Zcc (ZC R j) (-1)).1:=by
   refine(ZgX (k:=k+1) (Int.mul_nonneg h2.1.nn (ZcZ _)) ?_ ?_).1
   ·have:=Bd.mul b2.1 (show Bd 1 (ZaQ (-1))by unfold Bd;decide);exact this
   ·have:=Bd.mul b2.2 (show Bd 1 (-1)by unfold Bd;decide);exact this
  walk_at "z"
  refine Zn (Zkd (p:=ZC R j) (c:=-1) (k:=k+1) (by omega) h2.1.nn ⟨b2.1.mono (by omega),b2.2.mono (by omega)⟩ (show Bd (k+1) (-1)from(show Bd 1 (-1)by unfold Bd;decide).mono (by omega))) ?_
  walk_at "z"
  refine Zn (Zkn (k:=k+1) (by omega) (b1.1.mono (by omega)) bt) ?_
  walk_at "z"
  refine Zn (ZrD (ZiF _ _).nn) ?_
  have hd:Zbe (ZC R i) (Zcc (ZC R j) (-1))=Zbf R i j:=rfl
  rw[hd]
  walk_at "z"
  have app:∀w,w=oT (Zbx (b j) (Zbf R i j))→tab j (fun j=>oT (Zbx (b j) (Zbf R i j)))++[w]=tab (j+1) fun j=>oT (Zbx (b j) (Zbf R i j)):=fun w e=>by rw[e];exact Zdn
  cases hl:Zbx (b j) (Zbf R i j)with
  | none=>
   rw[ZaN]
   walk_at "z"
   cases hbj:b j with
   | none=>
    rw[ZaN]
    walk_at "z"
    rw[app _ (by rw[hl];rfl)]
    refine⟨by walk_at "r",by walk_at "r",fun j' hj' c hc=>?_⟩
    by_cases q:j'=j
    ·subst q;rw[hbj]at hc;cases hc
    ·exact st j' (by omega) c hc
   | some c=>
    rw[Zaa]
    walk_at "z"
    exact .inr ⟨rfl,j,hj,c,hbj,hl⟩
  | some v=>
   rw[Zaa]
   walk_at "z"
   rw[app _ (by rw[hl];rfl)]
   refine⟨by walk_at "r",by walk_at "r",fun j' hj' c hc=>?_⟩
   by_cases q:j'=j
   ·subst q;rw[hl];simp
   ·exact st j' (by omega) c hc
 ·rintro σ ⟨e1,e3,st⟩
  walk_at "z"
  exact .inl ⟨rfl,st⟩
noncomputable def ZfF(n:Nat): Option (Nat→Option Int)→T
 | none=>.none
 | some b=>Zad n b
theorem Zwr{o:Option (Nat→Option Int)}: Pln 1 (ZfF n o):=by
 cases o with
 | none=>exact .none
 | some q=>exact Zp3
theorem ZtH{g:PG}{a b:Nat→T}(e:β→T)(P:Nat→β→Prop)(hn:n<10000)(hg:Pl (g σ) fun ts=>ts=tab n fun i=>.tup [a i,b i])(hf:∀i,i<n→Pk (f (ZO (ZO σ j (a i)) k (b i))) fun t=>∃y,t=e y∧P i y)(d:β)(h:∀y:Nat→β,(∀i,i<n→P i (y i))→Q (.lst (tab n fun i=>e (y i)))): Pk (ZaC g (Zey j k) Zas f σ) Q:=by
 have hc:∃y:Nat→β,∀i,i<n→Pk (f (ZO (ZO σ j (a i)) k (b i))) (fun t=>t=e (y i))∧P i (y i):=by
  have hx:∀i,∃y:β,i<n→Pk (f (ZO (ZO σ j (a i)) k (b i))) (fun t=>t=e y)∧P i y:=fun i=>by
   by_cases q:i<n
   ·obtain⟨t,e1,y,e2,p⟩:=hf i q
    exact⟨y,fun _=>⟨⟨t,e1,e2⟩,p⟩⟩
   ·exact⟨d,fun h=>absurd h q⟩
  exact⟨fun i=>Classical.choose (hx i),fun i=>Classical.choose_spec (hx i)⟩
 obtain⟨y,hy⟩:=hc
 exact ZlJ hn hg (fun i hi=>(hy i hi).1) (h y fun i hi=>(hy i hi).2)
theorem oRow_none{o:Option (Nat→Option Int)}: ZfF n o=.none↔o=none:=by cases o <;> simp[ZfF,Zad]
theorem ZtI(hn:n≤100)(hk:k≤7000)(hM:0<M)(bM:Bd k M)(hR:∀t,t<n→RB M k (R t)): Pk (ZgS [Zo n G R]) fun t=>(t=Zo n (ZaB G R) R∧¬Zc0 n G R)∨(t=.none∧Zc0 n G R):=by
 unfold ZgS Ze2
 have ht:Zo n G R=.tup [.lst (tab (n+1) fun i=>Zad (n+1) (G i)),ZaH n R]:=rfl
 rw[ht]
 walk_at "z"
 refine Zn (Znr (by omega)) ?_
 have hr:ZaH (n+1) (ZC R)=.lst (tab (n+1) fun i=>ZD (ZC R i)):=rfl
 walk_at "z"
 refine ZtH (ZfF (n+1)) (fun i o=>match o with
  | none=>∃j,j<n+1∧∃c,G i j=some c∧ZaB G R i j=none
  | some b=>b=ZaB G R i∧∀j,j<n+1→∀c,G i j=some c→ZaB G R i j≠none) (n:=n+1) (a:=fun i=>Zad (n+1) (G i)) (b:=fun i=>ZD (ZC R i)) (by omega) ?_ (fun i hi=>?_) none (fun y hy=>?_)
 ·rw[hr]
  walk_at "z"
  rfl
 ·walk_at "z"
  refine(Zr5 hn hi hk hM bM hR).mono ?_
  rintro t (⟨rfl,h⟩ | ⟨rfl,h⟩)
  ·exact⟨some (ZaB G R i),rfl,rfl,h⟩
  ·exact⟨none,rfl,h⟩
 ·walk_at "z"
  refine Zfx (.none (n:=0)) (ZdJ (n:=1) fun i _=>Zwr) ?_
  by_cases hc:∃i,i<n+1∧y i=none
  ·obtain⟨i,hi,ei⟩:=hc
   rw[Zap (show T.none∈tab (n+1) fun i=>ZfF (n+1) (y i)from List.mem_of_getElem? (i:=i) (by rw[Zbj hi,ei];rfl))]
   walk_at "z"
   have:=hy i hi
   rw[ei]at this
   obtain⟨j,hj,c,h1,h2⟩:=this
   exact .inr ⟨rfl,i,j,hi,hj,c,h1,h2⟩
  ·rw[Zaq (show ¬T.none∈tab (n+1) fun i=>ZfF (n+1) (y i)from fun h=>by
    obtain⟨i,hi,e⟩:=Zci h
    exact hc ⟨i,hi,oRow_none.mp e.symm⟩)]
   walk_at "z"
   have hs:∀i,i<n+1→y i=some (ZaB G R i)∧∀j,j<n+1→∀c,G i j=some c→ZaB G R i j≠none:=fun i hi=>by
    have:=hy i hi
    cases e:y i with
    | none=>exact absurd ⟨i,hi,e⟩ hc
    | some b=>rw[e]at this;exact⟨by rw[this.1],this.2⟩
   refine .inl ⟨?_,?_⟩
   ·unfold Zo ZH
    congr 3
    refine ZaZ fun i hi=>?_
    rw[(hs i hi).1]
    rfl
   ·rintro⟨i,j,hi,hj,c,h1,h2⟩
    exact(hs i hi).2 j hj c h1 h2
theorem ZsR: ZgS [.none]=some .none:=by
 apply Pk.eq
 unfold ZgS Ze2
 walk_at "z"
 rfl
theorem Zus: ZdL [.none]=some .none:=by
 apply Pk.eq
 unfold ZdL Zjk
 walk_at "z"
 rfl
def ZbP(n:Nat)(G:Nat→Nat→Option Int): Prop:=∃m,m<n∧Neg n (ZW G (m+1))
theorem Zws(hn:n≤100)(hd:∀i,i<n+1→G i i=some 0): Pk (ZdL [Zo n G R]) fun t=>(t=Zo n (ZW G (n+1)) R∧¬ZbP (n+1) G)∨(t=.none∧ZbP (n+1) G):=by
 unfold ZdL Zjk
 have ht:Zo n G R=.tup [ZH (n+1) G,ZaH n R]:=rfl
 rw[ht]
 walk_at "z"
 refine(Zup (n:=n+1) (by omega) (by omega) fun i hi=>⟨0,hd i hi⟩).mono ?_
 rintro t (⟨rfl,h⟩ | ⟨rfl,h⟩)
 ·have hg:ZH (n+1) (ZW G (n+1))=.lst (tab (n+1) fun i=>Zad (n+1) (ZW G (n+1) i)):=rfl
  rw[hg]
  walk_at "z"
  exact .inl ⟨rfl,fun⟨m,hm,q⟩=>h m hm q⟩
 ·walk_at "z"
  exact .inr ⟨rfl,h⟩
def BdG(n k:Nat)(G:Nat→Nat→Option Int): Prop:=∀a b c,a<n→b<n→G a b=some c→Bd k c
theorem ZdP{n k:Nat}{G:Nat→Nat→Option Int}(h:BdG n k G): ∀m,m≤n→BdG n (k+m) (ZW G m)
 | 0,_=>h
 | m+1,hm=>fun a b c ha hb e=>by
  have ih:=ZdP h m (by omega)
  rcases Zef (ZW G m a b) (Z7 (ZW G m a m) (ZW G m m b))with e1 | e1
  ·rw[show ZW G (m+1) a b=_ from e1]at e
   exact(ih a b c ha hb e).mono (by omega)
  ·rw[show ZW G (m+1) a b=_ from e1]at e
   obtain⟨p,q,h1,h2,rfl⟩:=addO_some.mp e
   exact Bd.add (ih a m p ha (by omega) h1) (ih m b q (by omega) hb h2)
theorem ZoK(h:RestOk q): Zcc q (-1)=Zay q.1 (-q.2):=by
 unfold Zcc
 rw[show ZaQ (-1)=1 from rfl,Int.mul_one,Int.mul_neg,Int.mul_one]
theorem Zk6{m:Int}: (Zay m r).1=m:=by
 unfold Zay;split
 ·rename_i c;exact c.symm
 ·rfl
theorem Zha(hi:RestOk (ZC R i))(hj:RestOk (ZC R j))(x:Int): Z4 (Zbf R i j) x↔((Int.gcd (ZC R i).1 (ZC R j).1:Nat):Int) ∣ x-((ZC R i).2-(ZC R j).2):=by
 unfold Zbf Zbe
 rw[Zcg (by omega),ZoK hj,Zk6]
 have hr:=Zcg hj.nn (r:=-(ZC R j).2) (Zay (ZC R j).1 (-(ZC R j).2)).2
 have hs:=(hr.mp (ZbV hj.nn _).self)
 generalize (Zay (ZC R j).1 (-(ZC R j).2)).2=s at *
 have hg:((Int.gcd (ZC R i).1 (ZC R j).1:Nat):Int) ∣ s - -(ZC R j).2:=Int.dvd_trans (Int.gcd_dvd_right ..) hs
 constructor
 ·intro h
  have:=Int.dvd_add h hg
  rwa [show x-((ZC R i).2+s)+(s - -(ZC R j).2)=x-((ZC R i).2-(ZC R j).2)by omega]at this
 ·intro h
  have:=Int.dvd_sub h hg
  rwa [show x-((ZC R i).2-(ZC R j).2)-(s - -(ZC R j).2)=x-((ZC R i).2+s)by omega]at this
theorem Zls{b c:Int}(h0:RestOk q)(h:Zc4 q b=some c): c≤b∧Z4 q c∧(q.1=0∨b-c<q.1):=by
 unfold Zc4 at h
 split at h
 ·rename_i z
  split at h
  ·cases h
   exact⟨by assumption,h0.self,.inl z⟩
  ·cases h
 ·rename_i z
  cases h
  have hp:0<q.1:=by have:=h0.nn;omega
  have h1:=Int.emod_nonneg (b-q.2) z
  have h2:=Int.emod_lt_of_pos (b-q.2) hp
  refine⟨by omega,?_,.inr (by omega)⟩
  rw[ZaU h0.nn]
  have h3:=Int.emod_add_mul_ediv (b-q.2) q.1
  exact⟨(b-q.2) / q.1,by omega⟩
theorem Zk7{b x:Int}(h0:RestOk q)(hx:Z4 q x)(hb:x≤b): ∃c,Zc4 q b=some c∧x≤c:=by
 unfold Zc4
 rw[ZaU h0.nn]at hx
 split
 ·rename_i z
  rw[z,Int.zero_dvd]at hx
  rw[if_pos (by omega)]
  exact⟨_,rfl,by omega⟩
 ·rename_i z
  have hp:0<q.1:=by have:=h0.nn;omega
  refine⟨_,rfl,?_⟩
  obtain⟨t,ht⟩:=hx
  have h3:=Int.emod_add_mul_ediv (b-q.2) q.1
  have h2:=Int.emod_lt_of_pos (b-q.2) hp
  have h4:t≤(b-q.2) / q.1:=Int.le_ediv_of_mul_le hp (by rw[Int.mul_comm];omega)
  have h5:q.1*t≤q.1*((b-q.2) / q.1):=Int.mul_le_mul_of_nonneg_left h4 (by omega)
  omega
theorem Zdq(R:Nat→Int×Int)(i j:Nat): RestOk (Zbf R i j):=ZiF _ _
theorem Zwt(h:∀b,G i j=some b→ZaB G R i j≠none): leO (ZaB G R i j) (G i j):=by
 intro b e
 have hn:=h b e
 unfold ZaB at hn ⊢
 rw[e]at hn ⊢
 cases hc:Zbx (some b) (Zbf R i j)with
 | none=>exact absurd hc hn
 | some c=>exact⟨c,rfl,(Zls (Zdq R i j) hc).1⟩
theorem Zmx(hM:0<M)(bM:Bd k M)(hG:BdG (n+1) k G)(hR:∀t,t<n→RB M k (R t)): BdG (n+1) (k+1) (ZaB G R):=by
 intro i j c hi hj e
 have h1:=ZcQ hR i hi
 have h2:=ZcQ hR j hj
 have hd1:(Zbf R i j).1=((Int.gcd (ZC R i).1 (ZC R j).1:Nat):Int):=by
  unfold Zbf Zbe
  rw[Zk6,ZoK h2.1,Zk6]
 have hb1:=(h1.bd hM bM).1
 have hb2:=(h2.bd hM bM).1
 have hm:Bd k (Zbf R i j).1:=by
  rw[hd1]
  by_cases z:(ZC R i).1=0
  ·rw[z,Int.gcd_zero_left]
   unfold Bd at *
   simpa using hb2
  ·have:=Int.gcd_le_natAbs_left (b:=(ZC R j).1) z
   unfold Bd at *
   simp only[Int.natAbs_natCast]
   omega
 unfold ZaB Zbx at e
 cases hg:G i j with
 | some b=>
  rw[hg]at e
  obtain⟨u1,u2,u3⟩:=Zls (Zdq R i j) e
  have hbb:=hG i j b hi hj hg
  rcases u3 with z | z
  ·have hx:=(Zha h1.1 h2.1 c).mp u2
   rw[hd1]at z
   rw[z,Int.zero_dvd]at hx
   have:c=(ZC R i).2-(ZC R j).2:=by omega
   rw[this]
   exact Bd.sub h1.2.2 h2.2.2
  ·unfold Bd at *
   rw[Nat.pow_succ]
   omega
 | none=>
  rw[hg]at e
  simp only at e
  split at e
  ·rename_i z
   cases e
   have hx:=(Zha h1.1 h2.1 (Zbf R i j).2).mp (Zdq R i j).self
   rw[hd1]at z
   rw[z,Int.zero_dvd]at hx
   have:(Zbf R i j).2=(ZC R i).2-(ZC R j).2:=by omega
   rw[this]
   exact Bd.sub h1.2.2 h2.2.2
  ·cases e
def Ze9(n:Nat)(C:Nat→Nat→Option Int)(R:Nat→Int×Int): Prop:=∃i,i<n∧∀x,¬Zct n C R (i+1) (n+1) x
theorem Zqh(h:Pk (ZN 1 Zjm ts) fun t=>Zhj t=true∧Q t): Pk (Zhv ts) Q:=by
 obtain⟨t,e,o,q⟩:=h
 exact⟨t,by simp only[Zhv,e,Option.bind_some,o,if_true],q⟩
theorem Zwu: Zhj (Zo n G R)=true:=ZoU fun _ _=>ZiC
theorem Zqi(hn:n≤100)(hk:k+n+1≤7000)(hM:0<M)(bM:Bd k M)(hd:∀i,i<n+1→G i i=some 0)(bG:BdG (n+1) k G)(hR:∀t,t<n→RB M k (R t)): Pk (Zhv [Zo n G R]) fun t=>(∃R',t=Zo n (ZW G (n+1)) R'∧¬ZbP (n+1) G∧Hand n (ZW G (n+1)) R R' M (k+n+2))∨(t=.none∧(ZbP (n+1) G∨(¬ZbP (n+1) G∧Ze9 n (ZW G (n+1)) R))):=by
 refine Zqh ?_
 unfold Zjm
 walk_at "z"
 refine(Zws hn hd).mono ?_
 rintro t (⟨rfl,h⟩ | ⟨rfl,h⟩)
 ·walk_at "z"
  refine(Zr4 (k:=k+n+1) hn hk hM (bM.mono (by omega)) (ZdP bG (n+1) (by omega)) (fun t ht=>(hR t ht).mono (by omega))).mono ?_
  rintro t (⟨R',rfl,h2⟩ | ⟨rfl,h2⟩)
  ·exact⟨Zwu,.inl ⟨R',rfl,h,h2⟩⟩
  ·exact⟨rfl,.inr ⟨rfl,.inr ⟨h,h2⟩⟩⟩
 ·walk_at "z"
  exact Zn Zm5 ⟨rfl,.inr ⟨rfl,.inl h⟩⟩
theorem Zo7: Zhv [.none]=some .none:=by
 apply Pk.eq
 refine Zqh ?_
 unfold Zjm
 walk_at "z"
 refine Zn Zus ?_
 walk_at "z"
 exact Zn Zm5 ⟨rfl,rfl⟩
theorem ZiH(hR:∀i,i<n+1→RestOk (ZC R i))(hd:∀i,i<n+1→G i i=some 0): ∀i,i<n+1→ZaB G R i i=some 0:=by
 intro i hi
 unfold ZaB Zbx
 rw[hd i hi]
 have h0:Z4 (Zbf R i i) 0:=(Zha (hR i hi) (hR i hi) 0).mpr (by simp)
 obtain⟨c,e,hc⟩:=Zk7 (Zdq R i i) h0 (Int.le_refl 0)
 have:=(Zls (Zdq R i i) e).1
 show Zc4 (Zbf R i i) 0=some 0
 rw[e,show c=0 by omega]
structure Sharp(n:Nat)(G:Nat→Nat→Option Int)(R:Nat→Int×Int)(G2:Nat→Nat→Option Int)(R2:Nat→Int×Int)(M:Int)(k:Nat): Prop where
 go:∃R1,¬ZbP (n+1) G∧Hand n (ZW G (n+1)) R R1 M k∧¬Zc0 n (ZW G (n+1)) R1∧¬ZbP (n+1) (ZaB (ZW G (n+1)) R1)∧G2=ZW (ZaB (ZW G (n+1)) R1) (n+1)∧Hand n G2 R1 R2 M k
def Ze5(n:Nat)(G:Nat→Nat→Option Int)(R:Nat→Int×Int)(M:Int)(k:Nat): Prop:=ZbP (n+1) G∨(¬ZbP (n+1) G∧Ze9 n (ZW G (n+1)) R)∨∃R1,¬ZbP (n+1) G∧Hand n (ZW G (n+1)) R R1 M k∧(Zc0 n (ZW G (n+1)) R1∨(¬Zc0 n (ZW G (n+1)) R1∧(ZbP (n+1) (ZaB (ZW G (n+1)) R1)∨(¬ZbP (n+1) (ZaB (ZW G (n+1)) R1)∧Ze9 n (ZW (ZaB (ZW G (n+1)) R1) (n+1)) R1))))
theorem Hand.mono(h:Hand n G R R' M i)(hij:i≤j): Hand n G R R' M j:=fun t ht=>⟨(h t ht).1.mono hij,(h t ht).2⟩
theorem Zvi(hn:n≤100)(hk:k+2*n+4≤7000)(hM:0<M)(bM:Bd k M)(hd:∀i,i<n+1→G i i=some 0)(bG:BdG (n+1) k G)(hR:∀t,t<n→RB M k (R t)): Pk (Zee [Zo n G R]) fun t=>(∃G2 R2,t=Zo n G2 R2∧Sharp n G R G2 R2 M (k+2*n+5))∨(t=.none∧Ze5 n G R M (k+n+2)):=by
 unfold Zee Zhk
 walk_at "z"
 refine(Zqi hn (by omega) hM bM hd bG hR).mono ?_
 rintro t (⟨R1,rfl,nr,h1⟩ | ⟨rfl,h⟩)
 ·have hR1:∀t,t<n→RB M (k+n+2) (R1 t):=fun t ht=>(h1 t ht).1
  have hF1:=ZcQ hR1
  have z1:=Zeg hd (m:=n+1) fun m hm q=>nr ⟨m,hm,q⟩
  walk_at "z"
  refine(ZtI hn (by omega) hM (bM.mono (by omega)) hR1).mono ?_
  rintro t (⟨rfl,nl⟩ | ⟨rfl,fl⟩)
  ·walk_at "z"
   have bG1:BdG (n+1) (k+n+3) (ZaB (ZW G (n+1)) R1):=Zmx hM (bM.mono (by omega)) (fun a b c ha hb e=>(ZdP bG (n+1) (by omega) a b c ha hb e).mono (by omega)) hR1
   refine(Zqi (k:=k+n+3) hn (by omega) hM (bM.mono (by omega)) (ZiH (fun i hi=>(hF1 i hi).1) z1) bG1 (fun t ht=>(hR1 t ht).mono (by omega))).mono ?_
   rintro t (⟨R2,rfl,nr2,h2⟩ | ⟨rfl,h2⟩)
   ·exact .inl ⟨_,R2,rfl,⟨R1,nr,h1.mono (by omega),nl,nr2,rfl,h2.mono (by omega)⟩⟩
   ·exact .inr ⟨rfl,.inr (.inr ⟨R1,nr,h1,.inr ⟨nl,h2⟩⟩)⟩
  ·walk_at "z"
   exact Zn Zo7 (.inr ⟨rfl,.inr (.inr ⟨R1,nr,h1,.inl fl⟩)⟩)
 ·walk_at "z"
  refine Zn ZsR ?_
  walk_at "z"
  refine Zn Zo7 (.inr ⟨rfl,?_⟩)
  rcases h with h | h
  ·exact .inl h
  ·exact .inr (.inl h)
theorem ZgL(h:Zal n G R x): Zal n (ZW G (n+1)) R x:=⟨fun i j hi hj b e=>ZlP (ZoI h) (n+1) (by omega) i j hi hj b e,h.2⟩
theorem Zof(h:Zal n G R x): ¬ZbP (n+1) G:=fun⟨m,hm,q⟩=>Zuq (ZlP (ZoI h) (m+1) (by omega)) q
theorem Zlt(h:Zal n G R x): ∀i,i<n+1→Z4 (ZC R i) (Zaf x i)
 | 0,_=>⟨fun _=>rfl,fun q=>absurd q (show ¬(0:Int)<0 by decide)⟩
 | i+1,hi=>h.2 i (by omega)
theorem Zo8(h:Zal n G R x)(ht:t<n): Zct n G R (t+1) (n+1) (x t):=by
 refine⟨h.2 t ht,fun j hj a b ha hb hab=>?_⟩
 have h1:=h.1 (t+1) j (by omega) hj a ha
 have h2:=h.1 j (t+1) hj (by omega) b hb
 have h3:Zaf x (t+1)=x t:=rfl
 rw[h3]at h1 h2
 rw[show x t-a=Zaf x j by omega]
 exact Zlt h j hj
theorem ZkD(h:Zal n G R x)(q:Hand n G R R' M k): Zal n G R' x:=⟨h.1,fun t ht=>((q t ht).2 _).mpr (Zo8 h ht)⟩
theorem ZpB(hR:∀i,i<n+1→RestOk (ZC R i))(h:Zal n G R x)(hi:i<n+1)(hj:j<n+1): Z4 (Zbf R i j) (Zaf x i-Zaf x j):=by
 rw[Zha (hR i hi) (hR j hj)]
 have h1:=(ZaU (hR i hi).nn _).mp (Zlt h i hi)
 have h2:=(ZaU (hR j hj).nn _).mp (Zlt h j hj)
 have h3:=Int.dvd_sub (Int.dvd_trans (Int.gcd_dvd_left (b:=(ZC R j).1) ..) h1) (Int.dvd_trans (Int.gcd_dvd_right (a:=(ZC R i).1) ..) h2)
 rwa [show Zaf x i-(ZC R i).2-(Zaf x j-(ZC R j).2)=Zaf x i-Zaf x j-((ZC R i).2-(ZC R j).2)by omega]at h3
theorem ZtJ(hR:∀i,i<n+1→RestOk (ZC R i))(h:Zal n G R x): ¬Zc0 n G R:=by
 rintro⟨i,j,hi,hj,b,e,hn⟩
 obtain⟨c,e2,_⟩:=Zk7 (Zdq R i j) (ZpB hR h hi hj) (h.1 i j hi hj b e)
 unfold ZaB Zbx at hn
 rw[e]at hn
 simp only at hn
 rw[e2]at hn
 cases hn
theorem ZpC(hR:∀i,i<n+1→RestOk (ZC R i))(h:Zal n G R x): Zal n (ZaB G R) R x:=by
 refine⟨fun i j hi hj b e=>?_,h.2⟩
 have hd:=ZpB hR h hi hj
 unfold ZaB Zbx at e
 cases hg:G i j with
 | some c=>
  rw[hg]at e
  simp only at e
  obtain⟨d,e2,hle⟩:=Zk7 (Zdq R i j) hd (h.1 i j hi hj c hg)
  rw[e2]at e
  cases e
  exact hle
 | none=>
  rw[hg]at e
  simp only at e
  split at e
  ·rename_i z
   cases e
   rw[ZaU (Zdq R i j).nn,z,Int.zero_dvd]at hd
   omega
  ·cases e
theorem ZtK(h:Zal n G R x)(s:Sharp n G R G2 R2 M k): Zal n G2 R2 x:=by
 obtain⟨R1,h1,h2,h3,h4,rfl,h6⟩:=s.go
 have l1:=ZkD (ZgL h) h2
 have hF:=ZcQ fun t ht=>(h2 t ht).1
 exact ZkD (ZgL (ZpC (fun i hi=>(hF i hi).1) l1)) h6
theorem Zte(h:Zal n G R x): ¬Ze5 n G R M k:=by
 have hf:∀{G:Nat→Nat→Option Int} {R:Nat→Int×Int},Zal n G R x→¬Ze9 n G R:=fun h ⟨i,hi,q⟩=>q _ (Zo8 h hi)
 rintro(q | ⟨_,q⟩ | ⟨R1,_,h2,q⟩)
 ·exact Zof h q
 ·exact hf (ZgL h) q
 ·have l1:=ZkD (ZgL h) h2
  have hF:=ZcQ fun t ht=>(h2 t ht).1
  have l2:=ZpC (fun i hi=>(hF i hi).1) l1
  rcases q with q | ⟨_,q | ⟨_,q⟩⟩
  ·exact ZtJ (fun i hi=>(hF i hi).1) l1 q
  ·exact Zof l2 q
  ·exact hf (ZgL l2) q
theorem ZoL(hk:k≤8000)(op:RestOk p)(oq:RestOk q)(bp:RBd k p)(bq:RBd k q): Pk (Zln [ZD p,ZD q]) fun t=>∃o,t=oR o∧Met p q o:=by
 unfold Zln Ziv
 have ep:ZD p=.tup [.int p.1,.int p.2]:=rfl
 have eq:ZD q=.tup [.int q.1,.int q.2]:=rfl
 have np:=op.nn
 have nq:=oq.nn
 rw[ep,eq]
 walk_at "z"
 have hlt:∀x:Int,0≤x→Bd k x→x<2 ^ 200000:=fun x h0 h1=>by
  have h2:x.natAbs<2 ^ 200000:=Zby h1 (by omega)
  have h3:((x.natAbs:Nat):Int)<2 ^ 200000:=by exact_mod_cast h2
  omega
 obtain⟨m,hm,eu⟩:=ZiE np nq (hlt _ np bp.1) (hlt _ nq bq.1)
 refine Ze6 (fun m σ=>∃l r s t:Int,σ 0=some (.tup [.int p.1,.int p.2])∧σ 1=some (.tup [.int q.1,.int q.2])∧σ 2=some (.int l)∧σ 3=some (.int r)∧σ 4=some (.int s)∧σ 5=some (.int t)∧Eu m l r∧Int.gcd l r=Int.gcd p.1 q.1∧Bd k l∧Bd k r∧(∃z,s*p.1=l+q.1*z)∧(∃z,t*p.1=r+q.1*z)∧Bd (k+1) s∧Bd (k+1) t∧(s.natAbs:Int)*r+(t.natAbs:Int)*l≤q.1∧(1≤l∨t=0)) _ _ ?_ 1000000 (m:=m) ⟨p.1,q.1,1,0,by walk_at "r",by walk_at "r",by walk_at "r",by walk_at "r",by walk_at "r",by walk_at "r",eu,rfl,bp.1,bq.1,⟨0,by omega⟩,⟨-1,by omega⟩,Zdc (by omega),Zb5,by simp,.inr rfl⟩ hm
 rintro m σ ⟨l,r,s,t,e0,e1,e2,e3,e4,e5,eu,gl,kl,kr,⟨z1,h1⟩,⟨z2,h2⟩,ks,kt,hb1,hl⟩
 walk_at "z"
 refine⟨fun h=>?_,fun h=>?_⟩
 ·have hr:r≠0:=by simpa using h
  have hr0:0≤r:=eu.2.1
  have hl0:0≤l:=eu.1
  have hrp:0<r:=by omega
  have hdiv0:0≤l / r:=Int.ediv_nonneg hl0 hr0
  have hdiv1:l / r≤l:=Int.ediv_le_self _ hl0
  have kd:Bd k (l / r):=ZcL kl hdiv0 hdiv1
  walk_at "z"
  refine ZcG hr (Zc3 kr (by omega)) ?_
  rw[Int.fdiv_eq_ediv_of_nonneg _ hr0]
  walk_at "z"
  refine Zbk (Zbz kd kr (by omega) (by omega)) ?_
  walk_at "z"
  refine Zbk (Zbz kd kt (by omega) (by omega)) ?_
  walk_at "z"
  have hover:l-l / r*r=l % r:=by
   have:=Int.emod_add_mul_ediv l r
   rw[Int.mul_comm r (l / r)]at this
   omega
  rw[hover]
  obtain⟨m',hm1,hm2⟩:=eu.step hr
  have o0:=Int.emod_nonneg l hr
  have o1:=Int.emod_lt_of_pos l hrp
  have ht:((s-l / r*t).natAbs:Int)≤(s.natAbs:Int)+l / r*(t.natAbs:Int):=by
   have h3:(s-l / r*t).natAbs≤s.natAbs+(l / r*t).natAbs:=by omega
   have h4:(l / r*t).natAbs=(l / r).natAbs*t.natAbs:=Int.natAbs_mul ..
   have h5:(((l / r).natAbs*t.natAbs:Nat):Int)=l / r*(t.natAbs:Int):=by
    rw[Int.natCast_mul,Int.natAbs_of_nonneg hdiv0]
   rw[h4]at h3
   omega
  have h6:((s-l / r*t).natAbs:Int)*r≤((s.natAbs:Int)+l / r*(t.natAbs:Int))*r:=Int.mul_le_mul_of_nonneg_right ht hr0
  have h7:((s.natAbs:Int)+l / r*(t.natAbs:Int))*r=(s.natAbs:Int)*r+(t.natAbs:Int)*(l / r*r):=by
   rw[Int.add_mul,Int.mul_comm (l / r) (t.natAbs:Int),Int.mul_assoc]
  have h8:(t.natAbs:Int)*(l % r)+(t.natAbs:Int)*(l / r*r)=(t.natAbs:Int)*l:=by
   rw[←Int.mul_add,←hover]
   congr 1
   omega
  have h9:(t.natAbs:Int)*(l % r)+((s-l / r*t).natAbs:Int)*r≤q.1:=by omega
  have hpos:0≤(t.natAbs:Int)*(l % r):=Int.mul_nonneg (by omega) o0
  have kn:Bd (k+1) (s-l / r*t):=by
   have h10:((s-l / r*t).natAbs:Int)*1≤((s-l / r*t).natAbs:Int)*r:=Int.mul_le_mul_of_nonneg_left (by omega) (by omega)
   have h11:((s-l / r*t).natAbs:Int)≤q.1:=by omega
   have h12:=bq.1
   unfold Bd at *
   rw[Nat.pow_succ]
   omega
  refine⟨m',hm1,r,l % r,t,s-l / r*t,by walk_at "r",by walk_at "r",by walk_at "r",by walk_at "r",by walk_at "r",by walk_at "r",hm2,by rw[Zg9 hrp];exact gl,kr,ZcL kr o0 (by omega),⟨z2,h2⟩,⟨z1-l / r*z2,?_⟩,kt,kn,h9,.inl (by omega)⟩
  rw[Int.sub_mul,h1,Int.mul_assoc,h2,Int.mul_add,Int.mul_sub,←hover]
  have e1:q.1*(l / r*z2)=l / r*(q.1*z2):=by rw[←Int.mul_assoc,Int.mul_comm q.1,Int.mul_assoc]
  rw[e1]
  omega
 ·have hr:r=0:=by simpa using h
  subst hr
  rw[Int.gcd_zero_right]at gl
  have hl0:=eu.1
  have hlg:l=(Int.gcd p.1 q.1:Nat):=by omega
  walk_at "z"
  by_cases c:l=0
  ·have hz:p.1=0∧q.1=0:=Int.gcd_eq_zero_iff.mp (by omega)
   have hp1:∀x,Z4 p x↔x=p.2:=fun x=>by rw[ZaU np,hz.1,Int.zero_dvd];omega
   have hq1:∀x,Z4 q x↔x=q.2:=fun x=>by rw[ZaU nq,hz.2,Int.zero_dvd];omega
   walk_at "z"
   by_cases d:q.2-p.2=0
   ·walk_at "z"
    refine⟨some p,rfl,op,fun x=>?_⟩
    rw[hp1,hq1]
    omega
   ·walk_at "z"
    refine⟨none,rfl,fun x hx=>?_⟩
    rw[hp1,hq1]at hx
    omega
  ·have hlp:0<l:=by omega
   obtain⟨a,ea⟩:l ∣ p.1:=by rw[hlg];exact Int.gcd_dvd_left ..
   obtain⟨b,eb⟩:l ∣ q.1:=by rw[hlg];exact Int.gcd_dvd_right ..
   walk_at "z"
   rw[Int.fmod_eq_emod_of_nonneg _ (by omega)]
   by_cases c3:(q.2-p.2) % l=0
   ·obtain⟨d,ed⟩:=Int.dvd_of_emod_eq_zero c3
    have da:p.1 / l=a:=by rw[ea];exact Int.mul_ediv_cancel_left _ (by omega)
    have dd:(q.2-p.2) / l=d:=by rw[ed];exact Int.mul_ediv_cancel_left _ (by omega)
    have ha0:0≤a:=by rw[←da];exact Int.ediv_nonneg np (by omega)
    have ka:Bd k a:=ZcL bp.1 ha0 (by rw[←da];exact Int.ediv_le_self _ np)
    have kdd:Bd (k+1) d:=by
     have h1:Bd (k+1) (q.2-p.2):=Bd.sub bq.2 bp.2
     unfold Bd at *
     rw[ed,Int.natAbs_mul]at h1
     have:1*d.natAbs≤l.natAbs*d.natAbs:=Nat.mul_le_mul_right _ (by omega)
     omega
    walk_at "z"
    refine ZcG (by omega) (Zc3 kl (by omega)) ?_
    rw[Int.fdiv_eq_ediv_of_nonneg _ (by omega),da]
    walk_at "z"
    refine Zbk (Zbz ka bq.1 (by omega) (by omega)) ?_
    walk_at "z"
    refine Zbk (Zbz bp.1 ks (by omega) (by omega)) ?_
    walk_at "z"
    refine ZcG (by omega) (Zc3 kl (by omega)) ?_
    rw[Int.fdiv_eq_ediv_of_nonneg _ (by omega),dd]
    walk_at "z"
    refine Zbk (Zbz (Bd.mul bp.1 ks) kdd (by omega) (by omega)) ?_
    walk_at "z"
    have hm0:0≤a*q.1:=Int.mul_nonneg ha0 nq
    refine Zn ZeX ⟨some _,rfl,ZbV hm0 _,fun x=>?_⟩
    rw[Zcg hm0,ZaU np,ZaU nq]
    have hx0:p.1*s*d=(q.2-p.2)+q.1*(z1*d):=by
     rw[Int.mul_comm p.1 s,h1,Int.add_mul,ed,Int.mul_assoc]
    have hpm:p.1 ∣ a*q.1:=⟨b,by rw[ea,eb];rw[Int.mul_left_comm,Int.mul_assoc]⟩
    have hqm:q.1 ∣ a*q.1:=Int.dvd_mul_left _ _
    constructor
    ·intro hx
     have g1:=Int.dvd_trans hpm hx
     have g2:=Int.dvd_trans hqm hx
     refine⟨?_,?_⟩
     ·have:=Int.dvd_add g1 (show p.1 ∣ p.1*s*d from⟨s*d,by rw[Int.mul_assoc]⟩)
      rwa [show x-(p.2+p.1*s*d)+p.1*s*d=x-p.2 by omega]at this
     ·have:=Int.dvd_add g2 (Int.dvd_mul_right q.1 (z1*d))
      rwa [show x-(p.2+p.1*s*d)+q.1*(z1*d)=x-q.2 by omega]at this
    ·rintro⟨g1,g2⟩
     have g3:p.1 ∣ x-(p.2+p.1*s*d):=by
      have:=Int.dvd_sub g1 (show p.1 ∣ p.1*s*d from⟨s*d,by rw[Int.mul_assoc]⟩)
      rwa [show x-p.2-p.1*s*d=x-(p.2+p.1*s*d)by omega]at this
     have g4:q.1 ∣ x-(p.2+p.1*s*d):=by
      have:=Int.dvd_sub g2 (Int.dvd_mul_right q.1 (z1*d))
      rwa [show x-q.2-q.1*(z1*d)=x-(p.2+p.1*s*d)by omega]at this
     have g5:=Int.coe_lcm_dvd g3 g4
     have g6:(a*q.1).natAbs=Int.lcm p.1 q.1:=by
      have k1:=Int.gcd_mul_lcm p.1 q.1
      have k2:(l.natAbs)*(a*q.1).natAbs=p.1.natAbs*q.1.natAbs:=by
       rw[Int.natAbs_mul,←Nat.mul_assoc]
       congr 1
       rw[←Int.natAbs_mul,←ea]
      have k3:Int.gcd p.1 q.1=l.natAbs:=by omega
      rw[k3]at k1
      exact Nat.eq_of_mul_eq_mul_left (show 0<l.natAbs by omega) (by omega)
     rw[←g6]at g5
     exact Int.natAbs_dvd.mp g5
   ·walk_at "z"
    refine⟨none,rfl,fun x hx=>c3 ?_⟩
    rw[ZaU np,ZaU nq]at hx
    have g1:l ∣ x-p.2:=Int.dvd_trans ⟨a,ea⟩ hx.1
    have g2:l ∣ x-q.2:=Int.dvd_trans ⟨b,eb⟩ hx.2
    have g3:=Int.dvd_sub g1 g2
    rw[show x-p.2-(x-q.2)=q.2-p.2 by omega]at g3
    exact Int.emod_eq_zero_of_dvd g3
theorem Zq4(hk:k≤8000)(op:RestOk p)(oq:RestOk q)(bp:RBd k p)(bq:RBd k q)(h:Met p q o): ∀r,o=some r→(r=p∨r=q∨(p.1≠0∧q.1≠0∧r.1=Int.lcm p.1 q.1)):=by
 obtain⟨t,_,o',rfl,h',wh⟩:=ZkC hk op oq bp bq
 rw[Zk5 h h']
 exact wh
theorem Zut(q:Int×Int)(h:0≤q.1)(a:Int): Zay q.1 (q.2+a)=Zbe q (0,a):=by
 unfold Zbe
 simp only[Int.gcd_zero_right]
 rw[Int.natAbs_of_nonneg h]
theorem Zlu(ho:ZcH n G R M k i j o)(h:∀a b x,G i j=some a→G j i=some b→a+b=0→Zct n G R i j x→Z4 (ZC R j) (x-a)): ZcH n G R M k i (j+1) o:=by
 have hs:∀x,Zct n G R i j x↔Zct n G R i (j+1) x:=fun x=>⟨fun hx=>⟨hx.1,fun j' hj' a b ha hb hab=>by
     by_cases q':j'=j
     ·subst q';exact h a b x ha hb hab hx
     ·exact hx.2 j' (by omega) a b ha hb hab⟩,fun hx=>⟨hx.1,fun j' hj'=>hx.2 j' (by omega)⟩⟩
 cases o with
 | none=>exact fun x hx=>ho x ((hs x).mpr hx)
 | some q=>exact⟨ho.1,fun x=>(ho.2 x).trans (hs x)⟩
theorem Zqj{a:Int}(hM:0<M)(bM:Bd k M)(h:RB M k q)(ba:Bd k a): RB M (k+1) (Zbe q (0,a)):=by
 refine⟨ZiF _ _,?_,?_⟩
 ·unfold Zbe Zay
  simp only[Int.gcd_zero_right]
  rw[Int.natAbs_of_nonneg h.1.nn]
  split
  ·exact .inl rfl
  ·exact h.2.1
 ·have hm:=(h.bd hM bM).1
  refine(ZgX (k:=k+1) (by omega) ?_ (Bd.add h.2.2 ba)).2
  simp only[Int.gcd_zero_right]
  rw[Int.natAbs_of_nonneg h.1.nn]
  exact hm.mono (by omega)
theorem Zuu{o':Option (Int×Int)}{a b:Int}(hk:k≤7000)(hM:0<M)(bM:Bd k M)(ha:G i j=some a)(hb:G j i=some b)(hab:a+b=0)(ba:Bd k a)(hj2:RB M k (ZC R j))(ho:ZcH n G R M (k+1) i j (some q))(mt:Met q (Zbe (ZC R j) (0,a)) o'): ZcH n G R M (k+1) i (j+1) o':=by
 have bM1:Bd (k+1) M:=bM.mono (by omega)
 have hpl:=Zqj hM bM hj2 ba
 have wh:=Zq4 (k:=k+1) (by omega) ho.1.1 hpl.1 (ho.1.bd hM bM1) (hpl.bd hM bM1) mt
 have hset:∀x,(Z4 q x∧Z4 (Zbe (ZC R j) (0,a)) x)↔Zct n G R i (j+1) x:=fun x=>by
  rw[ho.2 x,Zoe hj2.1]
  constructor
  ·rintro⟨h1,h2⟩
   refine⟨h1.1,fun j' hj' c d hc hd hcd=>?_⟩
   by_cases q':j'=j
   ·subst q';rw[ha]at hc;cases hc;exact h2
   ·exact h1.2 j' (by omega) c d hc hd hcd
  ·intro h
   exact⟨⟨h.1,fun j' hj'=>h.2 j' (by omega)⟩,h.2 j (by omega) a b ha hb hab⟩
 cases o' with
 | none=>exact fun x hx=>mt x ((hset x).mpr hx)
 | some r=>
  refine⟨⟨mt.1,?_,?_⟩,fun x=>(mt.2 x).trans (hset x)⟩
  ·rcases wh r rfl with h | h | ⟨h1,h2,h3⟩
   ·rw[h];exact ho.1.2.1
   ·rw[h];exact hpl.2.1
   ·right
    rw[h3]
    exact Int.coe_lcm_dvd (ho.1.2.1.resolve_left h1) (hpl.2.1.resolve_left h2)
  ·rcases wh r rfl with h | h | ⟨h1,h2,h3⟩
   ·rw[h];exact ho.1.2.2
   ·rw[h];exact hpl.2.2
   ·rcases mt.1 with z | z
    ·have:(Int.lcm q.1 (Zbe (ZC R j) (0,a)).1)≠0:=Int.lcm_ne_zero h1 h2
     omega
    ·have hd:r.1 ∣ M:=by
      rw[h3]
      exact Int.coe_lcm_dvd (ho.1.2.1.resolve_left h1) (hpl.2.1.resolve_left h2)
     exact ZcL bM1 z.2.1 (by have:=Int.le_of_dvd hM hd;omega)
theorem Zwv{p:PE}(h:Pk (p σ) fun t=>∃ts,t=.lst ts∧Q (.lst (ts.drop k))): Pk (Zfw p k σ) Q:=by
 obtain⟨t,e,ts,rfl,q⟩:=h
 exact⟨_,by simp only[Zfw,e,Option.bind_some],q⟩
theorem Zuv{f:Nat→T}: (tab (n+1) f).drop 1=tab n fun i=>f (i+1):=by
 apply List.ext_getElem?
 intro i
 rw[List.getElem?_drop]
 by_cases h:i<n
 ·rw[Zbj h,Nat.add_comm 1 i,Zbj (by omega)]
 ·rw[List.getElem?_eq_none (by rw[Zai];omega),List.getElem?_eq_none (by rw[Zai];omega)]
theorem ZnB(hn:n≤100)(hk:k≤7000)(hM:0<M)(bM:Bd k M)(bG:∀a b c,a<n+1→b<n+1→G a b=some c→Bd k c)(hR:∀t,t<n→RB M k (R t)): Pk (Zki [ZH (n+1) G,ZaH n R]) fun t=>(∃R',t=ZaH n R'∧Hand n G R R' M (k+1))∨(t=.none∧Ze9 n G R):=by
 unfold Zki Zh4
 have hF:=ZcQ hR
 have bM1:Bd (k+1) M:=bM.mono (by omega)
 have hr:ZaH n R=.lst (tab n fun i=>ZD (R i)):=rfl
 rw[hr]
 walk_at "z"
 rw[ZmQ]
 walk_at "z"
 refine ZaO (n:=n) (a:=fun i=>.int ((i+1:Nat):Int)) (P:=fun m σ=>∃F:Nat→Option (Int×Int),σ 0=some (ZH (n+1) G)∧σ 2=some (.lst (tab (n+1) fun i=>ZD (ZC R i)))∧σ 3=some (.lst (tab (n+1) fun i=>oR (F i)))∧F 0=some (0,0)∧(∀a,a<m→ZcH n G R M (k+1) (a+1) (n+1) (F (a+1)))∧∀a,m≤a→a<n→F (a+1)=some (R a)) ?_ ⟨fun i=>some (ZC R i),by walk_at "r",by walk_at "r",by walk_at "r",rfl,by omega,fun _ _ _=>rfl⟩ ?_ ?_
 ·by_cases h0:n=0
  ·subst h0
   exact⟨[],Zhh (a:=1) (b:=1) rfl Zq3,rfl⟩
  ·walk_at "z"
   refine Rn.two 1 n (by decide) (by omega) (by omega) (by omega) ?_
   refine ZaZ fun i _=>?_
   congr 1
   omega
 ·rintro i σ hi ⟨F,e0,e2,e3,z0,h1,h2⟩
  have hself:(fun a=>oR (F a))=fun a=>oR (if a=i+1 then F (i+1)else F a):=funext fun a=>by split <;> simp_all
  rw[hself]at e3
  refine ZaO (n:=n+1) (a:=fun j=>.int j) (P:=fun j σ=>∃o,σ 0=some (ZH (n+1) G)∧σ 2=some (.lst (tab (n+1) fun i=>ZD (ZC R i)))∧σ 3=some (.lst (tab (n+1) fun a=>oR (if a=i+1 then o else F a)))∧σ 4=some (.int ((i+1:Nat):Int))∧ZcH n G R M (k+1) (i+1) j o) ?_ ⟨F (i+1),by walk_at "r",by walk_at "r",by walk_at "r",by walk_at "r",?_⟩ ?_ ?_
  ·walk_at "z"
   rfl
  ·rw[h2 i (by omega) hi]
   exact⟨(hF (i+1) (by omega)).mono (by omega),fun x=>⟨fun h=>⟨h,by omega⟩,fun h=>h.1⟩⟩
  ·rintro j σ hj ⟨o,f0,f2,f3,f4,ho⟩
   unfold ZH Zad at f0
   walk_at "z"
   have fin:∀σ':TL,σ' 0=σ 0→σ' 2=σ 2→σ' 3=σ 3→σ' 4=σ 4→ZcH n G R M (k+1) (i+1) (j+1) o→∃o,σ' 0=some (ZH (n+1) G)∧σ' 2=some (.lst (tab (n+1) fun i=>ZD (ZC R i)))∧σ' 3=some (.lst (tab (n+1) fun a=>oR (if a=i+1 then o else F a)))∧σ' 4=some (.int ((i+1:Nat):Int))∧ZcH n G R M (k+1) (i+1) (j+1) o:=fun σ' g0 g2 g3 g4 h=>⟨o,g0.trans f0,g2.trans f2,g3.trans f3,g4.trans f4,h⟩
   refine⟨fun c=>?_,fun c=>⟨fun h=>(nomatch h),fun _=>?_⟩⟩
   ·have cne:i+1≠j:=fun q=>of_decide_eq_true c (by omega)
    cases hg:G (i+1) j with
    | none=>
     rw[ZaN]
     walk_at "z"
     exact fin _ rfl rfl rfl rfl (Zlu ho fun a b x ha=>by rw[hg]at ha;cases ha)
    | some a=>
     rw[Zaa]
     walk_at "z"
     refine Zbb (ZhF (n:=0)) (.int (n:=0)) ?_
     walk_at "z"
     refine⟨fun e=>?_,fun e=>?_⟩
     ·have e':=dec_iff.mp e
      rw[←Zaa,oT_inj]at e'
      cases o with
      | none=>
       walk_at "z"
       rw[if_pos rfl,show oR none=T.none from rfl]
       walk_at "z"
       exact fin _ rfl rfl rfl rfl fun x hx=>ho x ⟨hx.1,fun j' hj'=>hx.2 j' (by omega)⟩
      | some q=>
       walk_at "z"
       rw[if_pos rfl,show oR (some q)=T.tup [.int q.1,.int q.2]from rfl]
       walk_at "z"
       rw[if_pos rfl]
       have hj2:=hF j hj
       have ba:=bG (i+1) j a (by omega) hj hg
       have hpl:=Zqj hM bM hj2 ba
       have eq:ZD (ZC R j)=.tup [.int (ZC R j).1,.int (ZC R j).2]:=rfl
       rw[eq]
       walk_at "z"
       rw[eq]
       walk_at "z"
       refine Zn ZeX ?_
       rw[Zut _ hj2.1.nn]
       walk_at "z"
       refine(ZoL (p:=q) (q:=Zbe (ZC R j) (0,a)) (k:=k+1) (by omega) ho.1.1 hpl.1 (ho.1.bd hM bM1) (hpl.bd hM bM1)).mono ?_
       rintro _ ⟨o',rfl,mt⟩
       refine⟨by cases o' <;> rfl,?_⟩
       walk_at "z"
       refine⟨o',by walk_at "r",by walk_at "r",?_,by walk_at "r",Zuu hk hM bM hg e' (by omega) ba hj2 ho mt⟩
       refine(show _=_ from Zbr).trans ?_
       congr 2
       refine ZaZ fun a _=>?_
       split <;> rfl
     ·walk_at "z"
      refine fin _ rfl rfl rfl rfl (Zlu ho fun a' b x ha hb hab hx=>?_)
      rw[hg]at ha
      cases ha
      have:dec (oT (G j (i+1))=.int (-a))=true:=Zap (by rw[hb,Zaa];congr 1;omega)
      rw[this]at e
      cases e
   ·walk_at "z"
    refine fin _ rfl rfl rfl rfl (Zlu ho fun a b x ha hb hab hx=>?_)
    have cj:i+1=j:=by
     have:=of_decide_eq_false c
     omega
    subst cj
    rw[ha]at hb
    cases hb
    rw[show x-a=x by omega]
    exact hx.1
  ·rintro σ ⟨o,f0,f2,f3,f4,ho⟩
   refine⟨fun a=>if a=i+1 then o else F a,f0,f2,f3,by simp[z0],fun a ha=>?_,fun a ha hb=>?_⟩
   ·by_cases q:a=i
    ·subst q;simpa using ho
    ·simpa [q]using h1 a (by omega)
   ·simpa [show a≠i by omega]using h2 a (by omega) hb
 ·rintro σ ⟨F,e0,e2,e3,z0,h1,-⟩
  walk_at "z"
  refine Zfx (.none (n:=0)) (ZdJ (n:=1) fun i _=>Zjw) ?_
  by_cases hc:∃i,i<n∧F (i+1)=none
  ·obtain⟨i,hi,ei⟩:=hc
   rw[Zap (show T.none∈tab (n+1) fun i=>oR (F i)from List.mem_of_getElem? (i:=i+1) (by rw[Zbj (by omega),ei];rfl))]
   walk_at "z"
   refine .inr ⟨rfl,i,hi,?_⟩
   have:=h1 i hi
   rw[ei]at this
   exact this
  ·rw[Zaq (show ¬T.none∈tab (n+1) fun i=>oR (F i)from fun h=>by
    obtain⟨i,hi,e⟩:=Zci h
    have e':=oR_none.mp e.symm
    cases i with
    | zero=>rw[z0]at e';cases e'
    | succ i=>exact hc ⟨i,by omega,e'⟩)]
   walk_at "z"
   refine Zwv ?_
   walk_at "z"
   refine⟨_,rfl,?_⟩
   rw[Zuv]
   have hs:∀i,i<n→F (i+1)=some ((F (i+1)).getD (1,0)):=fun i hi=>by
    cases e:F (i+1)with
    | none=>exact absurd ⟨i,hi,e⟩ hc
    | some q=>rfl
   refine .inl ⟨fun i=>(F (i+1)).getD (1,0),?_,fun t ht=>?_⟩
   ·unfold ZaH
    congr 1
    refine ZaZ fun i hi=>?_
    conv=>lhs;rw[hs i hi]
    rfl
   ·have:=h1 t ht
    rw[hs t ht]at this
    exact this
theorem Zww(hi:RestOk (ZC R i))(hj:RestOk (ZC R j)): Zbf R i j=Zay (Int.gcd (ZC R i).1 (ZC R j).1:Nat) ((ZC R i).2-(ZC R j).2):=
 Zif (Zdq R i j) (ZbV (by omega) _) fun x=>(Zha hi hj x).trans (Zcg (by omega) x).symm
theorem Zwx(hi:RestOk (ZC R i))(hj:RestOk (ZC R j)): ZaB G R i j=if((Int.gcd (ZC R i).1 (ZC R j).1:Nat):Int)=0 then(match G i j with | none=>some ((ZC R i).2-(ZC R j).2) | some b=>if(ZC R i).2-(ZC R j).2≤b then some ((ZC R i).2-(ZC R j).2)else none)else(match G i j with | none=>none | some b=>some (b-(b-((ZC R i).2-(ZC R j).2)) % (Int.gcd (ZC R i).1 (ZC R j).1:Nat))):=by
 unfold ZaB
 rw[Zww hi hj]
 generalize ((Int.gcd (ZC R i).1 (ZC R j).1:Nat):Int)=m at *
 generalize (ZC R i).2-(ZC R j).2=r
 unfold Zay
 by_cases c:m=0
 ·rw[if_pos c,if_pos c]
  cases G i j with
  | none=>simp[Zbx]
  | some b=>simp[Zbx,Zc4]
 ·rw[if_neg c,if_neg c]
  cases G i j with
  | none=>simp[Zbx,c]
  | some b=>
   have:(b-r.fmod m) % m=(b-r) % m:=by
    have h1:m ∣ (b-r.fmod m)-(b-r):=by
     have:=Int.mul_fdiv_add_fmod r m
     exact⟨r.fdiv m,by omega⟩
    exact Int.emod_eq_emod_iff_emod_sub_eq_zero.mpr (Int.emod_eq_zero_of_dvd h1)
   simp[Zbx,Zc4,c,this]
def Zfz(n:Nat)(G:Nat→Nat→Option Int)(R:Nat→Int×Int)(F:Nat→Nat→Option Int)(i j:Nat): Prop:=∀a b,a<n+1→b<n+1→((a<i∨(a=i∧b<j))→F a b=ZaB G R a b∧∀c,G a b=some c→ZaB G R a b≠none)∧(¬(a<i∨(a=i∧b<j))→F a b=G a b)
theorem ZoM(h:Zfz n G R F i j)(e:G i j=ZaB G R i j): Zfz n G R F i (j+1):=fun a b ha hb=>by
 obtain⟨h1,h2⟩:=h a b ha hb
 refine⟨fun q=>?_,fun q=>h2 (by omega)⟩
 by_cases q':a=i∧b=j
 ·obtain⟨rfl,rfl⟩:=q'
  rw[h2 (by omega)]
  exact⟨e,fun c hc=>by rw[←e,hc];simp⟩
 ·exact h1 (by omega)
theorem Zlv(h:Zfz n G R F i j)(e:ZaB G R i j=some v): Zfz n G R (ZbT F i j (some v)) i (j+1):=fun a b ha hb=>by
 obtain⟨h1,h2⟩:=h a b ha hb
 by_cases q':a=i∧b=j
 ·obtain⟨rfl,rfl⟩:=q'
  rw[Zl8]
  exact⟨fun _=>⟨e.symm,fun c _=>by rw[e];simp⟩,fun q=>by omega⟩
 ·rw[Zl9 q']
  exact⟨fun q=>h1 (by omega),fun q=>h2 (by omega)⟩
theorem Zr6(hn:n≤100)(hk:k≤7000)(hM:0<M)(bM:Bd k M)(hR:∀t,t<n→RB M k (R t))(hd:∀i,i<n+1→G i i=some 0): Pk (Zj7 [ZH (n+1) G,ZaH n R]) fun t=>(t=ZH (n+1) (ZaB G R)∧¬Zc0 n G R)∨(t=.none∧Zc0 n G R):=by
 unfold Zj7 ZhX
 have hF:=ZcQ hR
 have hlz:=ZiH (fun i hi=>(hF i hi).1) hd
 have hr:ZaH n R=.lst (tab n fun i=>ZD (R i)):=rfl
 rw[hr]
 walk_at "z"
 rw[ZmQ]
 refine Zk3 (n:=n+1) (G:=G) (by omega) ?_ ?_
 ·walk_at "z"
  rfl
 walk_at "z"
 refine ZaO (n:=n+1) (a:=fun i=>.int i) (P:=fun i σ=>∃F,σ 0=some (ZH (n+1) G)∧σ 2=some (.lst (tab (n+1) fun i=>ZD (ZC R i)))∧σ 3=some (ZH (n+1) F)∧Zfz n G R F i 0) ?_ ⟨G,by walk_at "r",by walk_at "r",by walk_at "r",fun a b _ _=>⟨fun q=>by omega,fun _=>rfl⟩⟩ ?_ ?_
 ·walk_at "z"
  rfl
 ·rintro i σ hi ⟨F,e0,e2,e3,lt⟩
  refine ZaO (n:=n+1) (a:=fun i=>.int i) (P:=fun j σ=>∃F,σ 0=some (ZH (n+1) G)∧σ 2=some (.lst (tab (n+1) fun i=>ZD (ZC R i)))∧σ 3=some (ZH (n+1) F)∧σ 4=some (.int i)∧Zfz n G R F i j) ?_ ⟨F,by walk_at "r",by walk_at "r",by walk_at "r",by walk_at "r",lt⟩ ?_ ?_
  ·walk_at "z"
   rfl
  ·rintro j σ hj ⟨F,e0,e2,e3,e4,lt⟩
   have hi1:=hF i hi
   have hj1:=hF j hj
   have lw:=Zwx (G:=G) hi1.1 hj1.1
   have f0:σ 0=some (.lst (tab (n+1) fun i=>.lst (tab (n+1) fun j=>oT (G i j)))):=e0
   have f3:σ 3=some (.lst (tab (n+1) fun i=>.lst (tab (n+1) fun j=>oT (F i j)))):=e3
   have eqi:ZD (ZC R i)=.tup [.int (ZC R i).1,.int (ZC R i).2]:=rfl
   have eqj:ZD (ZC R j)=.tup [.int (ZC R j).1,.int (ZC R j).2]:=rfl
   clear e0 e3
   walk_at "z"
   rw[eqi]
   walk_at "z"
   rw[eqj]
   walk_at "z"
   refine Zn (Zk2 (Zby (hi1.bd hM bM).1 (by omega)) (Zby (hj1.bd hM bM).1 (by omega))) ?_
   walk_at "z"
   rw[eqi]
   walk_at "z"
   rw[eqj]
   walk_at "z"
   have hm0:(0:Int)≤((Int.gcd (ZC R i).1 (ZC R j).1:Nat):Int):=by omega
   generalize ((Int.gcd (ZC R i).1 (ZC R j).1:Nat):Int)=m at *
   generalize (ZC R i).2-(ZC R j).2=r at *
   refine⟨fun c=>?_,fun c=>⟨fun h=>(nomatch h),fun _=>?_⟩⟩
   ·have cne:(i:Int)≠j:=of_decide_eq_true c
    by_cases cm:m=0
    ·rw[if_pos cm]at lw
     walk_at "z"
     cases hg:G i j with
     | none=>
      rw[hg]at lw
      rw[ZaN]
      walk_at "z"
      rw[←Zaa (c:=r),Zer]
      exact⟨_,by walk_at "r",by walk_at "r",by walk_at "r",by walk_at "r",Zlv lt lw⟩
     | some b=>
      rw[hg]at lw
      rw[Zaa]
      walk_at "z"
      by_cases cb:b<r
      ·walk_at "z"
       refine .inr ⟨rfl,i,j,hi,hj,b,hg,?_⟩
       rw[lw]
       exact if_neg (by omega)
      ·walk_at "z"
       rw[←Zaa (c:=r),Zer]
       exact⟨_,by walk_at "r",by walk_at "r",by walk_at "r",by walk_at "r",Zlv lt (by rw[lw];exact if_pos (by omega))⟩
    ·rw[if_neg cm]at lw
     walk_at "z"
     cases hg:G i j with
     | none=>
      rw[hg]at lw
      rw[ZaN]
      walk_at "z"
      exact⟨F,by walk_at "r",by walk_at "r",by walk_at "r",by walk_at "r",ZoM lt (by rw[hg,lw])⟩
     | some b=>
      rw[hg]at lw
      rw[Zaa]
      walk_at "z"
      rw[Int.fmod_eq_emod_of_nonneg _ hm0]
      walk_at "z"
      rw[←Zaa (c:=b-(b-r) % m),Zer]
      exact⟨_,by walk_at "r",by walk_at "r",by walk_at "r",by walk_at "r",Zlv lt lw⟩
   ·have ceq:i=j:=by
     have:=of_decide_eq_false c
     omega
    walk_at "z"
    subst ceq
    exact⟨F,by walk_at "r",by walk_at "r",by walk_at "r",by walk_at "r",ZoM lt (by rw[hd _ hi,hlz _ hi])⟩
  ·rintro σ ⟨F,e0,e2,e3,e4,lt⟩
   exact⟨F,e0,e2,e3,fun a b ha hb=>⟨fun q=>(lt a b ha hb).1 (by omega),fun q=>(lt a b ha hb).2 (by omega)⟩⟩
 ·rintro σ ⟨F,e0,e2,e3,lt⟩
  walk_at "z"
  refine .inl ⟨?_,?_⟩
  ·unfold ZH Zad
   congr 1
   refine ZaZ fun a ha=>?_
   congr 1
   refine ZaZ fun b hb=>?_
   rw[((lt a b ha hb).1 (by omega)).1]
  ·rintro⟨a,b,ha,hb,c,hc,e⟩
   exact((lt a b ha hb).1 (by omega)).2 c hc e
noncomputable def ZbF(G:Nat→Nat→Option Int): Nat→List Nat→Nat→Option Int
 | i,[],j=>G i j
 | i,k::l,j=>Z7 (G i k) (ZbF G k l j)
theorem ZcD(G:Nat→Nat→Option Int): ∀(i:Nat) (l1:List Nat) (k:Nat) (l2:List Nat) (j:Nat),ZbF G i (l1++k::l2) j=Z7 (ZbF G i l1 k) (ZbF G k l2 j)
 | i,[],k,l2,j=>rfl
 | i,a::l1,k,l2,j=>by
  show Z7 (G i a) (ZbF G a (l1++k::l2) j)=Z7 (Z7 (G i a) (ZbF G a l1 k)) (ZbF G k l2 j)
  rw[ZcD G a l1 k l2 j,ZgK]
theorem ZpD{n:Nat}{G C:Nat→Nat→Option Int}(hle:∀i j,i<n→j<n→leO (C i j) (G i j))(tri:∀k i j,k<n→i<n→j<n→leO (C i j) (Z7 (C i k) (C k j))): ∀(l:List Nat) (i j:Nat),(∀a∈l,a<n)→i<n→j<n→leO (C i j) (ZbF G i l j)
 | [],i,j,_,hi,hj=>hle i j hi hj
 | k::l,i,j,hl,hi,hj=>by
  have hk:=hl k Zz5
  exact ZbW (tri k i j hk hi hj) (Ze4 (hle i k hi hk) (ZpD hle tri l k j (fun a m=>hl a (Zz2 _ m)) hk hj))
theorem Zhx{n:Nat}{G:Nat→Nat→Option Int}: ∀(m:Nat),m≤n→∀i j c,ZW G m i j=some c→∃l:List Nat,(∀a∈l,a<n)∧ZbF G i l j=some c
 | 0,_,i,j,c,h=>⟨[],by simp,h⟩
 | m+1,hm,i,j,c,h=>by
  rcases Zef (ZW G m i j) (Z7 (ZW G m i m) (ZW G m m j))with e | e
  ·rw[show ZW G (m+1) i j=_ from e]at h
   exact Zhx (n:=n) m (by omega) i j c h
  ·rw[show ZW G (m+1) i j=_ from e]at h
   obtain⟨p,q,h1,h2,h3⟩:=addO_some.mp h
   obtain⟨l1,a1,b1⟩:=Zhx (n:=n) m (by omega) i m p h1
   obtain⟨l2,a2,b2⟩:=Zhx (n:=n) m (by omega) m j q h2
   refine⟨l1++m::l2,fun a ha=>?_,by rw[ZcD,b1,b2];simp[Z7,h3]⟩
   rcases Zz8.mp ha with ha | ha
   ·exact a1 a ha
   ·rcases Zz7.mp ha with rfl | ha
    ·omega
    ·exact a2 a ha
theorem Zlw: ∀(n:Nat) (l:List Nat),l.Nodup→(∀a∈l,a<n)→l.length≤n
 | 0,l,_,h=>by
  cases l with
  | nil=>simp
  | cons a l=>exact absurd (h a Zz5) (by omega)
 | n+1,l,hn,h=>by
  have h1:=Zlw n (l.erase n) (hn.erase n) fun a ha=>by
   have ha':=List.mem_of_mem_erase ha
   have:=h a ha'
   have hne:a≠n:=fun q=>by
    subst q
    exact(List.Nodup.not_mem_erase hn) ha
   omega
  have h2:=List.length_erase_of_mem (a:=n) (l:=l)
  by_cases q:n∈l
  ·have:=h2 q;have:0<l.length:=List.length_pos_of_mem q;omega
  ·rw[List.erase_of_not_mem q]at h1;omega
theorem Zlx: ∀(l:List Nat),¬l.Nodup→∃k l1 l2 l3,l=l1++k::(l2++k::l3)
 | [],h=>absurd List.nodup_nil h
 | a::l,h=>by
  by_cases q:a∈l
  ·obtain⟨l2,l3,e⟩:=List.append_of_mem q
   exact⟨a,[],l2,l3,by rw[e];rfl⟩
  ·have:¬l.Nodup:=fun n=>h (List.nodup_cons.mpr ⟨q,n⟩)
   obtain⟨k,l1,l2,l3,e⟩:=Zlx l this
   exact⟨k,a::l1,l2,l3,by rw[e];rfl⟩
theorem Zwy(pos:∀k l s,k<n→(∀a∈l,a<n)→ZbF G k l k=some s→0≤s)(hi:i<n)(hj:j<n): ∀(L:Nat) (l:List Nat) (s:Int),l.length=L→(∀a∈l,a<n)→ZbF G i l j=some s→∃l' s',l'.length+1≤n∧(∀a∈l',a<n)∧ZbF G i l' j=some s'∧s'≤s:=by
 intro L
 induction L using Nat.strongRecOn with
 | _ L ih=>
  intro l s hL hl h
  by_cases q:i∈l
  ·obtain⟨l1,l2,e⟩:=List.append_of_mem q
   subst e
   rw[ZcD]at h
   obtain⟨p,r,h1,h2,h3⟩:=addO_some.mp h
   have hp:=pos i l1 p hi (fun a ha=>hl a (Zz4 _ ha)) h1
   obtain⟨l',s',k1,k2,k3,k4⟩:=ih l2.length (by rw[←hL];simp;omega) l2 r rfl (fun a ha=>hl a (Zz3 _ (Zz2 _ ha))) h2
   exact⟨l',s',k1,k2,k3,by omega⟩
  ·by_cases nd:l.Nodup
   ·have:=Zlw n (i::l) (List.nodup_cons.mpr ⟨q,nd⟩) (fun a ha=>by
     rcases Zz7.mp ha with rfl | ha
     ·exact hi
     ·exact hl a ha)
    exact⟨l,s,by simpa using this,hl,h,by omega⟩
   ·obtain⟨k,l1,l2,l3,e⟩:=Zlx l nd
    subst e
    rw[ZcD]at h
    obtain⟨p,r,h1,h2,h3⟩:=addO_some.mp h
    rw[ZcD]at h2
    obtain⟨p2,r2,h4,h5,h6⟩:=addO_some.mp h2
    have hk:k<n:=hl k (by simp)
    have hp:=pos k l2 p2 hk (fun a ha=>hl a (by simp[ha])) h4
    have h7:ZbF G i (l1++k::l3) j=some (p+r2):=by rw[ZcD,h1,h5];rfl
    obtain⟨l',s',k1,k2,k3,k4⟩:=ih (l1++k::l3).length (by rw[←hL];simp;omega) (l1++k::l3) (p+r2) rfl (fun a ha=>hl a (by simp at ha ⊢;rcases ha with h | h | h <;> simp[h])) h7
    exact⟨l',s',k1,k2,k3,by omega⟩
theorem ZtL: ∀(L:Nat) (i:Nat) (l:List Nat) (s:Int),l.length=L→i<n→(∀a∈l,a<n)→ZbF G i l i=some s→s<0→∃i' l' s',l'.length+1≤n∧i'<n∧(∀a∈l',a<n)∧ZbF G i' l' i'=some s'∧s'<0:=by
 intro L
 induction L using Nat.strongRecOn with
 | _ L ih=>
  intro i l s hL hi hl h hs
  by_cases q:i∈l
  ·obtain⟨l1,l2,e⟩:=List.append_of_mem q
   subst e
   rw[ZcD]at h
   obtain⟨p,r,h1,h2,h3⟩:=addO_some.mp h
   by_cases hp:p<0
   ·exact ih l1.length (by rw[←hL];simp) i l1 p rfl hi (fun a ha=>hl a (Zz4 _ ha)) h1 hp
   ·exact ih l2.length (by rw[←hL];simp;omega) i l2 r rfl hi (fun a ha=>hl a (Zz3 _ (Zz2 _ ha))) h2 (by omega)
  ·by_cases nd:l.Nodup
   ·have:=Zlw n (i::l) (List.nodup_cons.mpr ⟨q,nd⟩) (fun a ha=>by
     rcases Zz7.mp ha with rfl | ha
     ·exact hi
     ·exact hl a ha)
    exact⟨i,l,s,by simpa using this,hi,hl,h,hs⟩
   ·obtain⟨k,l1,l2,l3,e⟩:=Zlx l nd
    subst e
    rw[ZcD]at h
    obtain⟨p,r,h1,h2,h3⟩:=addO_some.mp h
    rw[ZcD]at h2
    obtain⟨p2,r2,h4,h5,h6⟩:=addO_some.mp h2
    have hk:k<n:=hl k (by simp)
    by_cases hp:p2<0
    ·exact ih l2.length (by rw[←hL];simp;omega) k l2 p2 rfl hk (fun a ha=>hl a (by simp[ha])) h4 hp
    ·have h7:ZbF G i (l1++k::l3) i=some (p+r2):=by rw[ZcD,h1,h5];rfl
     exact ih (l1++k::l3).length (by rw[←hL];simp;omega) i (l1++k::l3) (p+r2) rfl hi (fun a ha=>hl a (by simp at ha ⊢;rcases ha with h | h | h <;> simp[h])) h7 (by omega)
def ZeJ(n r:Nat)(G D:Nat→Nat→Option Int): Prop:=(∀i j,i<n→j<n→∀c,D i j=some c→∃l:List Nat,(∀a∈l,a<n)∧ZbF G i l j=some c)∧∀(l:List Nat) i j,l.length+1≤r→(∀a∈l,a<n)→i<n→j<n→leO (D i j) (ZbF G i l j)
theorem Zvj: ZeJ n 1 G G:=⟨fun i j _ _ c h=>⟨[],by simp,h⟩,fun l i j h _ _ _=>by
 have:l=[]:=List.length_eq_zero_iff.mp (by omega)
 subst this
 exact ZbQ⟩
def Zrp(n:Nat)(D D':Nat→Nat→Option Int): Prop:=∀i j,i<n→j<n→leO (D' i j) (D i j)∧(∀k,k<n→leO (D' i j) (Z7 (D i k) (D k j)))∧(D' i j=D i j∨∃k,k<n∧D' i j=Z7 (D i k) (D k j))
theorem ZtM{r:Nat}{D D':Nat→Nat→Option Int}(h:ZeJ n r G D)(t:Zrp n D D'): ZeJ n (2*r) G D':=by
 refine⟨fun i j hi hj c e=>?_,fun l i j hl ha hi hj=>?_⟩
 ·obtain⟨_,_,e1 | ⟨k,hk,e1⟩⟩:=t i j hi hj
  ·rw[e1]at e;exact h.1 i j hi hj c e
  ·rw[e1]at e
   obtain⟨p,q,h1,h2,h3⟩:=addO_some.mp e
   obtain⟨l1,a1,b1⟩:=h.1 i k hi hk p h1
   obtain⟨l2,a2,b2⟩:=h.1 k j hk hj q h2
   refine⟨l1++k::l2,fun a ha=>?_,by rw[ZcD,b1,b2];simp[Z7,h3]⟩
   rcases Zz8.mp ha with ha | ha
   ·exact a1 a ha
   ·rcases Zz7.mp ha with rfl | ha
    ·exact hk
    ·exact a2 a ha
 ·obtain⟨t1,t2,_⟩:=t i j hi hj
  by_cases q:l.length+1≤r
  ·exact ZbW t1 (h.2 l i j q ha hi hj)
  ·have hr:1≤r:=by omega
   have hlt:r-1<l.length:=by omega
   obtain⟨k,l1,l2,e,hl1⟩:∃k l1 l2,l=l1++k::l2∧l1.length=r-1:=⟨l[r-1],l.take (r-1),l.drop r,by
    have e1:=(List.take_append_drop (r-1) l).symm
    rw[List.drop_eq_getElem_cons hlt,show r-1+1=r by omega]at e1
    exact e1,by simp;omega⟩
   subst e
   have hk:k<n:=ha k (by simp)
   rw[ZcD]
   refine ZbW (t2 k hk) (Ze4 (h.2 l1 i k (by omega) (fun a m=>ha a (Zz4 _ m)) hi hk) (h.2 l2 k j ?_ (fun a m=>ha a (Zz3 _ (Zz2 _ m))) hk hj))
   simp at hl
   omega
theorem ZtN{r:Nat}{D:Nat→Nat→Option Int}(hd:∀i,i<n→G i i=some 0)(hr:n≤r)(b:ZeJ n r G D)(nn:∀m,m<n→¬Neg n (ZW G (m+1))): ∀i j,i<n→j<n→D i j=ZW G n i j:=by
 intro i j hi hj
 have low:=ZpD (n:=n) (G:=G) (C:=ZW G n) (fun i j _ _=>ZhG n i j) (fun k i j hk hi hj=>Zmw hd n (by omega) nn k hk i j hi hj)
 have zero:=Zeg hd (m:=n) nn
 have pos:∀k l s,k<n→(∀a∈l,a<n)→ZbF G k l k=some s→0≤s:=fun k l s hk hl e=>by
  have:=low l k k hl hk hk
  rw[zero k hk,e]at this
  exact leO_some.mp this
 refine ZsP ?_ ?_
 ·intro c e
  obtain⟨l,h1,h2⟩:=Zhx n (Zz10 n) i j c e
  obtain⟨l',s',k1,k2,k3,k4⟩:=Zwy pos hi hj _ l c rfl h1 h2
  have:=b.2 l' i j (by omega) k2 hi hj
  rw[k3]at this
  obtain⟨x,e1,e2⟩:=this s' rfl
  exact⟨x,e1,by omega⟩
 ·intro c e
  obtain⟨l,h1,h2⟩:=b.1 i j hi hj c e
  have:=low l i j h1 hi hj
  rw[h2]at this
  exact this c rfl
theorem Zuw{r:Nat}{D:Nat→Nat→Option Int}(hr:n≤r)(b:ZeJ n r G D)(hm:m<n)(ng:Neg n (ZW G (m+1))): Neg n D:=by
 obtain⟨i,hi,c,e,hc⟩:=ng
 obtain⟨l,h1,h2⟩:=Zhx (n:=n) (m+1) (by omega) i i c e
 obtain⟨i',l',s',k1,k2,k3,k4,k5⟩:=ZtL _ i l c rfl hi h1 h2 hc
 have:=b.2 l' i' i' (by omega) k3 k2 k2
 rw[k4]at this
 obtain⟨x,e1,e2⟩:=this s' rfl
 exact⟨i',k2,x,e1,by omega⟩
def Zdd(n:Nat)(D F:Nat→Nat→Option Int)(done:Nat→Nat→Nat→Prop): Prop:=∀a b,a<n→b<n→leO (F a b) (D a b)∧(F a b=D a b∨∃k,k<n∧F a b=Z7 (D a k) (D k b))∧∀k,k<n→done a b k→leO (F a b) (Z7 (D a k) (D k b))
theorem Zly{D:Nat→Nat→Option Int}(h:Zdd n D F done)(hd:∀a b c,c<n→done' a b c→done a b c∨(a=i∧b=j∧c=k))(hl:leO (F i j) (Z7 (D i k) (D k j))): Zdd n D F done':=fun a b ha hb=>by
 obtain⟨h1,h2,h3⟩:=h a b ha hb
 refine⟨h1,h2,fun c hc q=>?_⟩
 rcases hd a b c hc q with q | ⟨rfl,rfl,rfl⟩
 ·exact h3 c hc q
 ·exact hl
theorem Zvk{D:Nat→Nat→Option Int}(h:Zdd n D F done)(hi:i<n)(hj:j<n)(hk:k<n)(hd:∀a b c,c<n→done' a b c→done a b c∨(a=i∧b=j∧c=k))(hl:leO (Z7 (D i k) (D k j)) (F i j)): Zdd n D (ZbT F i j (Z7 (D i k) (D k j))) done':=fun a b ha hb=>by
 by_cases q:a=i∧b=j
 ·obtain⟨rfl,rfl⟩:=q
  obtain⟨h1,h2,h3⟩:=h a b ha hb
  rw[Zl8]
  refine⟨ZbW hl h1,.inr ⟨k,hk,rfl⟩,fun c hc q=>?_⟩
  rcases hd a b c hc q with q | ⟨_,_,rfl⟩
  ·exact ZbW hl (h3 c hc q)
  ·exact ZbQ
 ·rw[Zl9 q]
  obtain⟨h1,h2,h3⟩:=h a b ha hb
  refine⟨h1,h2,fun c hc q'=>?_⟩
  rcases hd a b c hc q' with q' | ⟨rfl,rfl,_⟩
  ·exact h3 c hc q'
  ·exact absurd ⟨rfl,rfl⟩ q
theorem ZgY{D:Nat→Nat→Option Int}(h:Zdd n D F done)(hd:∀a b c,a<n→b<n→c<n→done' a b c→done a b c): Zdd n D F done':=fun a b ha hb=>by
 obtain⟨h1,h2,h3⟩:=h a b ha hb
 exact⟨h1,h2,fun c hc q=>h3 c hc (hd a b c ha hb hc q)⟩
theorem ZtO{D:Nat→Nat→Option Int}(h:Zdd n D F fun _ _ _=>True): Zrp n D F:=fun a b ha hb=>by
 obtain⟨h1,h2,h3⟩:=h a b ha hb
 exact⟨h1,fun k hk=>h3 k hk trivial,h2⟩
theorem Zsv(h0:0<n)(hn:n≤100)(hd:∀i,i<n→G i i=some 0): Pk (ZhT [ZH n G]) fun t=>∃r D,n≤r∧ZeJ n r G D∧((t=ZH n D∧¬Neg n D)∨(t=.none∧Neg n D)):=by
 unfold ZhT ZhS
 have hg:ZH n G=.lst (tab n fun i=>Zad n (G i)):=rfl
 walk_at "z"
 rw[hg]
 walk_at "z"
 refine Zk3 (n:=n) (G:=G) (by omega) ?_ ?_
 ·walk_at "z"
  rfl
 walk_at "z"
 refine Ze6 (fun m σ=>∃(r:Nat) (D:Nat→Nat→Option Int),σ 1=some (.int n)∧σ 2=some (ZH n D)∧σ 3=some (.int r)∧ZeJ n r G D∧1≤r∧r≤2*n∧m=2*n-r) _ _ ?_ 1000000 (m:=2*n-1) ⟨1,G,by walk_at "r",by walk_at "r",by walk_at "r",Zvj,by omega,by omega,rfl⟩ (by omega)
 rintro m σ ⟨r,D,e1,e2,e3,bs,r1,r2,rfl⟩
 have hdD:∀i,i<n→∃b,D i i=some b:=fun i hi=>by
  have:=bs.2 [] i i (by simpa using r1) (by simp) hi hi
  rw[show ZbF G i [] i=some 0 from hd i hi]at this
  obtain⟨x,e,_⟩:=this 0 rfl
  exact⟨x,e⟩
 walk_at "z"
 refine⟨fun c=>?_,fun c=>?_⟩
 ·have hrn:r<n:=by simpa using c
  walk_at "z"
  refine Zk3 (n:=n) (G:=D) (by omega) ?_ ?_
  ·walk_at "z"
   rfl
  walk_at "z"
  refine ZaO (n:=n) (a:=fun i=>.int i) (P:=fun i σ=>∃F,σ 1=some (.int n)∧σ 2=some (ZH n F)∧σ 3=some (.int r)∧σ 4=some (ZH n D)∧Zdd n D F fun a _ _=>a<i) ?_ ⟨D,by walk_at "r",by walk_at "r",by walk_at "r",by walk_at "r",fun a b _ _=>⟨ZbQ,.inl rfl,fun k _ q=>by omega⟩⟩ ?_ ?_
  ·walk_at "z"
   rfl
  ·rintro i σ hi ⟨F0,f1,f2,f3,f4,pt⟩
   refine ZaO (n:=n) (a:=fun i=>.int i) (P:=fun j σ=>∃F,σ 1=some (.int n)∧σ 2=some (ZH n F)∧σ 3=some (.int r)∧σ 4=some (ZH n D)∧σ 5=some (.int i)∧Zdd n D F fun a b _=>a<i∨(a=i∧b<j)) ?_ ⟨F0,by walk_at "r",by walk_at "r",by walk_at "r",by walk_at "r",by walk_at "r",ZgY pt fun a b c _ _ _ q=>by omega⟩ ?_ ?_
   ·walk_at "z"
    rfl
   ·rintro j σ hj ⟨F1,f1,f2,f3,f4,f5,pt⟩
    refine ZaO (n:=n) (a:=fun i=>.int i) (P:=fun k σ=>∃F,σ 1=some (.int n)∧σ 2=some (ZH n F)∧σ 3=some (.int r)∧σ 4=some (ZH n D)∧σ 5=some (.int i)∧σ 6=some (.int j)∧Zdd n D F fun a b c=>a<i∨(a=i∧(b<j∨(b=j∧c<k)))) ?_ ⟨F1,by walk_at "r",by walk_at "r",by walk_at "r",by walk_at "r",by walk_at "r",by walk_at "r",ZgY pt fun a b c _ _ _ q=>by omega⟩ ?_ ?_
    ·walk_at "z"
     rfl
    ·rintro k σ hk ⟨F,f1,f2,f3,f4,f5,f6,pt⟩
     have hdn:∀a b c,c<n→(a<i∨(a=i∧(b<j∨(b=j∧c<k+1))))→(a<i∨(a=i∧(b<j∨(b=j∧c<k))))∨(a=i∧b=j∧c=k):=fun a b c _ q=>by omega
     have f2':=f2
     unfold ZH Zad at f2 f4
     walk_at "z"
     cases hik:D i k with
     | none=>
      rw[ZaN]
      walk_at "z"
      exact⟨F,by walk_at "r",by walk_at "r",by walk_at "r",by walk_at "r",by walk_at "r",by walk_at "r",Zly pt hdn (by rw[hik];exact ZcC)⟩
     | some p=>
      rw[Zaa]
      walk_at "z"
      cases hkj:D k j with
      | none=>
       rw[ZaN]
       walk_at "z"
       exact⟨F,by walk_at "r",by walk_at "r",by walk_at "r",by walk_at "r",by walk_at "r",by walk_at "r",Zly pt hdn (by rw[hik,hkj];exact ZcC)⟩
      | some q=>
       rw[Zaa]
       walk_at "z"
       rw[hik,hkj,Zaa,Zaa]
       have hs:Z7 (D i k) (D k j)=some (p+q):=by rw[hik,hkj];rfl
       have hset:=Zvk pt hi hj hk hdn
       have hkeep:=Zly pt hdn
       rw[hs]at hset hkeep
       clear f2'
       walk_at "z"
       cases hij:F i j with
       | none=>
        rw[ZaN]
        walk_at "z"
        rw[←Zaa (c:=p+q),Zer]
        exact⟨_,by walk_at "r",by walk_at "r",by walk_at "r",by walk_at "r",by walk_at "r",by walk_at "r",hset (by rw[hij];exact ZcC)⟩
       | some g=>
        rw[Zaa]
        walk_at "z"
        rw[hij,Zaa]
        walk_at "z"
        by_cases hlt:p+q<g
        ·walk_at "z"
         rw[←Zaa (c:=p+q),Zer]
         exact⟨_,by walk_at "r",by walk_at "r",by walk_at "r",by walk_at "r",by walk_at "r",by walk_at "r",hset (by rw[hij];exact leO_some.mpr (by omega))⟩
        ·walk_at "z"
         exact⟨F,by walk_at "r",by walk_at "r",by walk_at "r",by walk_at "r",by walk_at "r",by walk_at "r",hkeep (by rw[hij];exact leO_some.mpr (by omega))⟩
    ·rintro σ ⟨F,f1,f2,f3,f4,f5,f6,pt⟩
     exact⟨F,f1,f2,f3,f4,f5,ZgY pt fun a b c _ _ hc q=>by omega⟩
   ·rintro σ ⟨F,f1,f2,f3,f4,f5,pt⟩
    exact⟨F,f1,f2,f3,f4,ZgY pt fun a b c _ hb _ q=>by omega⟩
  ·rintro σ ⟨F,f1,f2,f3,f4,pt⟩
   walk_at "z"
   refine Zqd (by decide) (by decide) ?_
   walk_at "z"
   exact⟨2*n-2*r,by omega,2*r,F,by walk_at "r",by walk_at "r",by rw[show((2*r:Nat):Int)=2*(r:Int)by omega];walk_at "r",ZtM bs (ZtO (ZgY pt fun a b c ha _ _ _=>ha)),by omega,by omega,rfl⟩
 ·have hrn:n≤r:=by simp at c;omega
  refine ZcF ?_
  refine ZaO (n:=n) (a:=fun i=>.int i) (P:=fun i σ=>σ 2=some (ZH n D)∧∀a,a<i→∀b,D a a=some b→0≤b) ?_ ⟨e2,by omega⟩ ?_ ?_
  ·walk_at "z"
   rfl
  ·rintro i σ hi ⟨f2,f3⟩
   unfold ZH Zad at f2
   obtain⟨b,eb⟩:=hdD i hi
   walk_at "z"
   rw[eb,Zaa]
   walk_at "z"
   by_cases hb:b<0
   ·walk_at "z"
    exact⟨r,D,hrn,bs,.inr ⟨rfl,i,hi,b,eb,hb⟩⟩
   ·walk_at "z"
    refine⟨by walk_at "r",fun a ha c hc=>?_⟩
    by_cases q:a=i
    ·subst q;rw[eb]at hc;cases hc;omega
    ·exact f3 a (by omega) c hc
  ·rintro σ ⟨f2,f3⟩
   walk_at "z"
   refine⟨r,D,hrn,bs,.inl ⟨rfl,?_⟩⟩
   rintro⟨i,hi,b,eb,hb⟩
   have:=f3 i hi b eb
   omega
theorem Zqk(hn:n≤99)(hd:∀i,i<n+1→G i i=some 0): Pk (ZhT [ZH (n+1) G]) fun t=>(t=ZH (n+1) (ZW G (n+1))∧¬ZbP (n+1) G)∨(t=.none∧ZbP (n+1) G):=by
 refine(Zsv (by omega) (by omega) hd).mono ?_
 rintro t ⟨r,D,hr,bs,h⟩
 by_cases hc:ZbP (n+1) G
 ·obtain⟨m,hm,ng⟩:=hc
  have ng2:=Zuw hr bs hm ng
  rcases h with⟨_,h⟩ | ⟨h,_⟩
  ·exact absurd ng2 h
  ·exact .inr ⟨h,m,hm,ng⟩
 ·have nn:∀m,m<n+1→¬Neg (n+1) (ZW G (m+1)):=fun m hm q=>hc ⟨m,hm,q⟩
  have same:=ZtN hd hr bs nn
  have hz:=Zeg hd nn
  rcases h with⟨h,_⟩ | ⟨_,i,hi,b,e,hb⟩
  ·refine .inl ⟨?_,hc⟩
   rw[h]
   unfold ZH Zad
   congr 1
   refine ZaZ fun i hi=>?_
   congr 1
   refine ZaZ fun j hj=>?_
   rw[same i j hi hj]
  ·rw[same i i hi hi,hz i hi]at e
   cases e
   omega
theorem ZsS(hn:n≤99)(hk:k+2*n+4≤7000)(hM:0<M)(bM:Bd k M)(hd:∀i,i<n+1→G i i=some 0)(bG:BdG (n+1) k G)(hR:∀t,t<n→RB M k (R t)): Pk (Zd0 [Zo n G R]) fun t=>(∃G2 R2,t=Zo n G2 R2∧Sharp n G R G2 R2 M (k+2*n+5))∨(t=.none∧Ze5 n G R M (k+n+2)):=by
 unfold Zd0 Zid
 have ht:Zo n G R=.tup [ZH (n+1) G,ZaH n R]:=rfl
 have hg:∀G,ZH (n+1) G=.lst (tab (n+1) fun i=>Zad (n+1) (G i)):=fun _=>rfl
 have hr:∀R,ZaH n R=.lst (tab n fun i=>ZD (R i)):=fun _=>rfl
 rw[ht]
 walk_at "z"
 refine(Zqk hn hd).mono ?_
 rintro t (⟨rfl,nr⟩ | ⟨rfl,h⟩)
 ·rw[hg (ZW G (n+1))]
  walk_at "z"
  rw[←hg (ZW G (n+1))]
  refine(ZnB (k:=k+n+1) (by omega) (by omega) hM (bM.mono (by omega)) (ZdP bG (n+1) (by omega)) (fun t ht=>(hR t ht).mono (by omega))).mono ?_
  rintro t (⟨R1,rfl,h1⟩ | ⟨rfl,h⟩)
  ·have hR1:∀t,t<n→RB M (k+n+2) (R1 t):=fun t ht=>(h1 t ht).1
   have hF1:=ZcQ hR1
   have z1:=Zeg hd (m:=n+1) fun m hm q=>nr ⟨m,hm,q⟩
   rw[hr R1]
   walk_at "z"
   rw[←hr R1]
   refine(Zr6 (k:=k+n+2) (by omega) (by omega) hM (bM.mono (by omega)) hR1 z1).mono ?_
   rintro t (⟨rfl,nl⟩ | ⟨rfl,fl⟩)
   ·have bG1:BdG (n+1) (k+n+3) (ZaB (ZW G (n+1)) R1):=Zmx hM (bM.mono (by omega)) (fun a b c ha hb e=>(ZdP bG (n+1) (by omega) a b c ha hb e).mono (by omega)) hR1
    have z2:=ZiH (fun i hi=>(hF1 i hi).1) z1
    rw[hg (ZaB (ZW G (n+1)) R1)]
    walk_at "z"
    rw[←hg (ZaB (ZW G (n+1)) R1)]
    refine(Zqk hn z2).mono ?_
    rintro t (⟨rfl,nr2⟩ | ⟨rfl,h2⟩)
    ·rw[hg (ZW (ZaB (ZW G (n+1)) R1) (n+1))]
     walk_at "z"
     rw[←hg (ZW (ZaB (ZW G (n+1)) R1) (n+1))]
     refine(ZnB (k:=k+n+3+n+1) (by omega) (by omega) hM (bM.mono (by omega)) (fun a b c ha hb e=>ZdP bG1 (n+1) (by omega) a b c ha hb e) (fun t ht=>(hR1 t ht).mono (by omega))).mono ?_
     rintro t (⟨R2,rfl,h2⟩ | ⟨rfl,h2⟩)
     ·rw[hr R2]
      walk_at "z"
      exact .inl ⟨_,R2,rfl,⟨R1,nr,h1.mono (by omega),nl,nr2,rfl,h2.mono (by omega)⟩⟩
     ·walk_at "z"
      exact .inr ⟨rfl,.inr (.inr ⟨R1,nr,h1,.inr ⟨nl,.inr ⟨nr2,h2⟩⟩⟩)⟩
    ·walk_at "z"
     exact .inr ⟨rfl,.inr (.inr ⟨R1,nr,h1,.inr ⟨nl,.inl h2⟩⟩)⟩
   ·walk_at "z"
    exact .inr ⟨rfl,.inr (.inr ⟨R1,nr,h1,.inl fl⟩)⟩
  ·walk_at "z"
   exact .inr ⟨rfl,.inr (.inl ⟨nr,h⟩)⟩
 ·walk_at "z"
  exact .inr ⟨rfl,.inl h⟩
def SameG(n:Nat)(A B:Nat→Nat→Option Int): Prop:=∀i j,i<n→j<n→A i j=B i j
theorem Zi1{n:Nat}{A B:Nat→Nat→Option Int}(h:SameG n A B): ∀m,m≤n→SameG n (ZW A m) (ZW B m)
 | 0,_=>h
 | m+1,hm=>fun i j hi hj=>by
  have ih:=Zi1 h m (by omega)
  show ZaK (ZW A m i j) (Z7 (ZW A m i m) (ZW A m m j))=ZaK (ZW B m i j) (Z7 (ZW B m i m) (ZW B m m j))
  rw[ih i j hi hj,ih i m hi (by omega),ih m j (by omega) hj]
theorem Zux(h:SameG n A B)(r:ZbP n A): ZbP n B:=by
 obtain⟨m,hm,i,hi,b,e,hb⟩:=r
 exact⟨m,hm,i,hi,b,by rw[←Zi1 h (m+1) (by omega) i i hi hi];exact e,hb⟩
def SameR(n:Nat)(R S:Nat→Int×Int): Prop:=∀t,t<n→R t=S t
theorem Ziy(h:SameR n R S): ∀i,i<n+1→ZC R i=ZC S i
 | 0,_=>rfl
 | i+1,hi=>h i (by omega)
theorem ZlQ(h:SameG (n+1) A B)(hr:SameR n R S): SameG (n+1) (ZaB A R) (ZaB B S):=fun i j hi hj=>by
 unfold ZaB Zbf
 rw[h i j hi hj,Ziy hr i hi,Ziy hr j hj]
theorem ZsT(h:SameG (n+1) A B)(hr:SameR n R S)(q:Zc0 n A R): Zc0 n B S:=by
 obtain⟨i,j,hi,hj,b,e,l⟩:=q
 exact⟨i,j,hi,hj,b,by rw[←h i j hi hj];exact e,by rw[←ZlQ h hr i j hi hj];exact l⟩
theorem Zko(h:SameG (n+1) A B)(hr:SameR n R S)(hi:i<n+1){x:Int}(q:Zct n A R i (n+1) x): Zct n B S i (n+1) x:=by
 refine⟨by rw[←Ziy hr i hi];exact q.1,fun j hj a b ha hb hab=>?_⟩
 rw[←Ziy hr j hj]
 exact q.2 j hj a b (by rw[h i j hi hj];exact ha) (by rw[h j i hj hi];exact hb) hab
theorem SameG.symm(h:SameG n A B): SameG n B A:=fun i j hi hj=>(h i j hi hj).symm
theorem SameR.symm{A B:Nat→Int×Int}(h:SameR n A B): SameR n B A:=fun i hi=>(h i hi).symm
theorem Zlz{S':Nat→Int×Int}(h:SameG (n+1) A B)(hr:SameR n R S)(a:Hand n A R R' M k)(b:Hand n B S S' M' k'): SameR n R' S':=fun t ht=>
 Zif (a t ht).1.1 (b t ht).1.1 fun x=>((a t ht).2 x).trans (Iff.trans ⟨Zko h hr (by omega),Zko h.symm hr.symm (by omega)⟩ ((b t ht).2 x).symm)
theorem Zo9(h:SameG (n+1) A B)(hr:SameR n R S)(a:Hand n A R R' M k): ¬Ze9 n B S:=by
 rintro⟨i,hi,q⟩
 exact q _ (Zko h hr (by omega) (((a i hi).2 _).mp (a i hi).1.1.self))
theorem ZeY: SameG n A A:=fun _ _ _ _=>rfl
theorem Zk8{A:Nat→Int×Int}: SameR n A A:=fun _ _=>rfl
theorem Zuy(h:SameG (n+1) A B)(hr:SameR n R S): Zo n A R=Zo n B S:=by
 unfold Zo ZH ZaH Zad
 have e1:(tab (n+1) fun i=>T.lst (tab (n+1) fun j=>oT (A i j)))=tab (n+1) fun i=>T.lst (tab (n+1) fun j=>oT (B i j)):=ZaZ fun i hi=>by
  congr 1
  exact ZaZ fun j hj=>by rw[h i j hi hj]
 have e2:(tab n fun i=>ZD (R i))=tab n fun i=>ZD (S i):=ZaZ fun i hi=>by rw[hr i hi]
 rw[e1,e2]
theorem ZtP{G2':Nat→Nat→Option Int}{R2':Nat→Int×Int}(a:Sharp n G R G2 R2 M k)(b:Sharp n G R G2' R2' M' k'): Zo n G2 R2=Zo n G2' R2':=by
 obtain⟨R1,a1,a2,a3,a4,rfl,a6⟩:=a.go
 obtain⟨S1,b1,b2,b3,b4,rfl,b6⟩:=b.go
 have r1:=Zlz ZeY Zk8 a2 b2
 have g2:=Zi1 (ZlQ (A:=ZW G (n+1)) ZeY r1) (n+1) (by omega)
 exact Zuy g2 (Zlz g2 r1 a6 b6)
theorem Zpa(a:Sharp n G R G2 R2 M k)(b:Ze5 n G R M' k'): False:=by
 obtain⟨R1,a1,a2,a3,a4,rfl,a6⟩:=a.go
 rcases b with b | ⟨_,b⟩ | ⟨S1,b1,b2,b⟩
 ·exact a1 b
 ·exact Zo9 ZeY Zk8 a2 b
 ·have r1:=Zlz ZeY Zk8 a2 b2
  have g1:=ZlQ (A:=ZW G (n+1)) ZeY r1
  rcases b with b | ⟨_,b | ⟨_,b⟩⟩
  ·exact a3 (ZsT ZeY r1.symm b)
  ·exact a4 (Zux g1.symm b)
  ·exact Zo9 (Zi1 g1 (n+1) (by omega)) r1 a6 b
theorem ZtQ{t u:T}(h:(∃G2 R2,t=Zo n G2 R2∧Sharp n G R G2 R2 M (k+2*n+5))∨(t=.none∧Ze5 n G R M (k+n+2)))(h':(∃G2 R2,u=Zo n G2 R2∧Sharp n G R G2 R2 M (k+2*n+5))∨(u=.none∧Ze5 n G R M (k+n+2))): t=u:=by
 rcases h with⟨A,B,rfl,h⟩ | ⟨rfl,h⟩
 ·rcases h' with⟨C,D,rfl,h'⟩ | ⟨rfl,h'⟩
  ·exact ZtP h h'
  ·exact absurd h' fun q=>Zpa h q
 ·rcases h' with⟨C,D,rfl,h'⟩ | ⟨rfl,h'⟩
  ·exact absurd h fun q=>Zpa h' q
  ·rfl
theorem ZtR(hn:n≤100)(hd:∀i,i<n+1→G i i=some 0)(ok:∀t,t<n→RestOk (R t)): Zgr [Zo n G R,.int n]=some (.bool true):=by
 apply Pk.eq
 unfold Zgr Zgq Zo ZaH
 walk_at "z"
 rw[show(n:Int)+1=((n+1:Nat):Int)by omega]
 refine Zn (Zwq (by omega) hd) ?_
 walk_at "z"
 refine ZaO (n:=n) (a:=fun i=>ZD (R i)) (P:=fun _ _=>True) ?_ trivial ?_ ?_
 ·walk_at "z"
  rfl
 ·rintro t σ ht _
  have ho:=ok t ht
  unfold ZD
  walk_at "z"
  refine Zn Zlr ?_
  walk_at "z"
  refine Zn Zlr ?_
  walk_at "z"
  have h0:=ho.nn
  walk_at "z"
  rcases ho with h | h
  ·walk_at "z"
   trivial
  ·walk_at "z"
   trivial
 ·rintro σ _
  walk_at "z"
  rfl
theorem ZtS(hd:∀i,i<n+1→G i i=some 0)(s:Sharp n G R G2 R2 M k): (∀i,i<n+1→G2 i i=some 0)∧∀k,k<n+1→∀i j,i<n+1→j<n+1→leO (G2 i j) (Z7 (G2 i k) (G2 k j)):=by
 obtain⟨R1,h1,h2,h3,h4,rfl,h6⟩:=s.go
 have hF:=ZcQ fun t ht=>(h2 t ht).1
 have z1:=Zeg hd (m:=n+1) fun m hm q=>h1 ⟨m,hm,q⟩
 have z2:=ZiH (fun i hi=>(hF i hi).1) z1
 exact⟨Zeg z2 fun m hm q=>h4 ⟨m,hm,q⟩,Zmw z2 (n+1) (by omega) fun m hm q=>h4 ⟨m,hm,q⟩⟩
noncomputable def Zcn(R:Nat→Int×Int): Nat→Int
 | 0=>1
 | t+1=>Zcn R t*(if(R t).1=0 then 1 else(R t).1)
theorem ZgZ{n:Nat}{R:Nat→Int×Int}(h:∀t,t<n→RestOk (R t)): ∀m,m≤n→0<Zcn R m
 | 0,_=>by show(0:Int)<1;decide
 | m+1,hm=>by
  have ih:=ZgZ h m (by omega)
  have:=(h m (by omega)).nn
  unfold Zcn
  refine Int.mul_pos ih ?_
  split
  ·decide
  ·omega
theorem Zg0{R:Nat→Int×Int}: ∀m t,t<m→(R t).1=0∨(R t).1 ∣ Zcn R m
 | m+1,t,ht=>by
  by_cases z:(R t).1=0
  ·exact .inl z
  ·right
   unfold Zcn
   by_cases q:t=m
   ·subst q
    rw[if_neg z]
    exact Int.dvd_mul_left _ _
   ·exact Int.dvd_trans ((Zg0 m t (by omega)).resolve_left z) (Int.dvd_mul_right _ _)
theorem Zhb{n k:Nat}{R:Nat→Int×Int}(hk:1≤k)(h:∀t,t<n→Bd k (R t).1): ∀m,m≤n→Bd (k*m+1) (Zcn R m)
 | 0,_=>by rw[Nat.mul_zero];exact Zdc (by omega)
 | m+1,hm=>by
  have ih:=Zhb hk h m (by omega)
  unfold Zcn
  have h2:Bd k (if(R m).1=0 then 1 else(R m).1):=by
   split
   ·exact Zdc hk
   ·exact h m (by omega)
  have:=Bd.mul ih h2
  rw[Nat.mul_succ]
  exact this.mono (by omega)
inductive Dp: Nat→T→Prop where
 | none {n:Nat}:Dp n .none
 | int {n:Nat} {i:Int}:Dp n (.int i)
 | tup {n:Nat} {ts:List T}:(∀t∈ts,Dp n t)→ts.length≤10000→Dp (n+1) (.tup ts)
 | lst {n:Nat} {ts:List T}:(∀t∈ts,Dp n t)→ts.length≤10000→Dp (n+1) (.lst ts)
theorem Dp.mono{t:T}(h:Dp n t): ∀{m:Nat},n≤m→Dp m t:=by
 induction h with
 | none=>intro m _;exact .none
 | int=>intro m _;exact .int
 | tup hs hl ih=>
  intro m hm
  cases m with
  | zero=>omega
  | succ m=>exact .tup (fun t a=>ih t a (by omega)) hl
 | lst hs hl ih=>
  intro m hm
  cases m with
  | zero=>omega
  | succ m=>exact .lst (fun t a=>ih t a (by omega)) hl
theorem Zql{F:List T→Option T}(hg:ZaT g σ=some ts)(hl:ts.length≤10000)(h:∀t∈ts,F [t]=some t)(q:Q (.lst ts)): Pk (ZaC (ZaT g) (Zag j) Zas (ZT F (Zr (Ze j) ZL)) σ) Q:=by
 refine⟨.lst ts,?_,q⟩
 have:=ZoT (σ:=σ) (j:=j) (f:=ZT F (Zr (Ze j) ZL)) (h:=fun t=>t) (ts:=ts) fun t m=>by
  simp only[ZT,Zr,Ze,ZL,Zbr,Option.bind_some,Option.map_some]
  exact h t m
 simp only[ZaC,hg,Option.bind_some,this]
 rw[if_pos (by rw[Za6];omega)]
 simp
theorem Zvl{t:T}(h:Dp n t): Zeb (n+1) [t]=some t:=by
 induction h with
 | none=>rfl
 | int=>rfl
 | @tup n ts hs hl ih=>
  apply Pk.eq
  show Pk (ZN 1 (Zfg (Zeb (n+1))) [.tup ts]) _
  unfold Zfg
  walk_at "z"
  refine Zql (ts:=ts) rfl hl ih ?_
  walk_at "z"
  rfl
 | @lst n ts hs hl ih=>
  apply Pk.eq
  show Pk (ZN 1 (Zfg (Zeb (n+1))) [.lst ts]) _
  unfold Zfg
  walk_at "z"
  exact Zql (ts:=ts) rfl hl ih rfl
theorem ZiI{t:T}(h:Dp 8 t): ZiW [t]=some t:=Zvl h
theorem Zrq: Dp n (oT a):=by cases a;exact .none;exact .int
theorem Zqm(hn:n≤100): Dp 3 (Zo n G R):=by
 refine .tup (fun t m=>?_) (by simp)
 simp at m
 rcases m with rfl | rfl
 ·refine .lst (fun t m=>?_) (by rw[Zai];omega)
  obtain⟨i,hi,rfl⟩:=Zci m
  refine .lst (fun t m=>?_) (by rw[Zai];omega)
  obtain⟨j,hj,rfl⟩:=Zci m
  exact Zrq
 ·refine .lst (fun t m=>?_) (by rw[Zai];omega)
  obtain⟨i,hi,rfl⟩:=Zci m
  refine .tup (fun t m=>?_) (by simp)
  simp at m
  rcases m with rfl | rfl <;> exact .int
theorem Zuz(hn:n≤100)(h:Zal n G R x)(ok:∀t,t<n→RestOk (R t)): Zdk [Zo n G R,Zan n x]=some (.bool true):=by
 apply Pk.eq
 unfold Zdk Zd7 Zo ZH Zad ZaH Zan
 walk_at "z"
 rw[Zmv]
 refine ZaO (n:=n+1) (a:=fun i=>.int i) (P:=fun i σ=>σ 0=some (Zo n G R)∧σ 1=some (.lst (tab n fun i=>.int (x i)))∧σ 2=some (.lst (tab (n+1) fun i=>.int (Zaf x i)))) ?_ ⟨by walk_at "r",by walk_at "r",by walk_at "r"⟩ ?_ ?_
 ·walk_at "z"
  rfl
 ·rintro i σ hi ⟨e0,e1,e2⟩
  refine ZaO (n:=n+1) (a:=fun i=>.int i) (P:=fun j σ=>σ 0=some (Zo n G R)∧σ 1=some (.lst (tab n fun i=>.int (x i)))∧σ 2=some (.lst (tab (n+1) fun i=>.int (Zaf x i)))∧σ 3=some (.int i)) ?_ ⟨by walk_at "r",by walk_at "r",by walk_at "r",by walk_at "r"⟩ ?_ ?_
  ·walk_at "z"
   rfl
  ·rintro j σ hj ⟨f0,f1,f2,f3⟩
   unfold Zo ZH Zad ZaH at f0
   walk_at "z"
   cases hg:G i j with
   | none=>
    rw[ZaN]
    walk_at "z"
    exact⟨by walk_at "r",by walk_at "r",by walk_at "r",by walk_at "r"⟩
   | some b=>
    have:=h.1 i j hi hj b hg
    rw[Zaa]
    walk_at "z"
    rw[hg,Zaa]
    walk_at "z"
    exact⟨by walk_at "r",by walk_at "r",by walk_at "r",by walk_at "r"⟩
  ·rintro σ ⟨f0,f1,f2,f3⟩
   exact⟨f0,f1,f2⟩
 ·rintro σ ⟨e0,e1,e2⟩
  refine ZcF ?_
  refine ZaO (n:=n) (a:=fun i=>.int i) (P:=fun j σ=>σ 0=some (Zo n G R)∧σ 1=some (.lst (tab n fun i=>.int (x i)))) ?_ ⟨e0,e1⟩ ?_ ?_
  ·walk_at "z"
   rfl
  ·rintro t σ ht ⟨f0,f1⟩
   unfold Zo ZH Zad ZaH ZD at f0
   have ho:=ok t ht
   have hh:=h.2 t ht
   unfold Z4 at hh
   walk_at "z"
   by_cases c:(R t).1=0
   ·have:=hh.1 c
    walk_at "z"
    exact⟨by walk_at "r",by walk_at "r"⟩
   ·have hp:0<(R t).1:=by have:=ho.nn;omega
    have h2:(x t-(R t).2) % (R t).1=0:=hh.2 hp
    walk_at "z"
    rw[Int.fmod_eq_emod_of_nonneg _ (by omega),h2]
    walk_at "z"
    exact⟨by walk_at "r",by walk_at "r"⟩
  ·rintro σ _
   walk_at "z"
   rfl
section
variable {σ:TL} {Q:T→Prop}
theorem Zyd{p e:PE}(h:Pk (p σ) fun t=>∃ts,t=.lst ts∧Pk (e σ) fun u=>∃a:Nat,u=.int a∧Q (.lst (ts.drop a))): Pk (Zfm p (Zhp e) Zho σ) Q:=by
 obtain⟨_,e1,ts,rfl,_,e2,a,rfl,q⟩:=h
 refine⟨_,?_,q⟩
 simp only[Zfm,e1,Zho,Zhp,e2,Option.bind_some,ZoR ts rfl]
theorem Zqn{a b:List T}(hl:a.length+b.length≤10000)(h:Q (.lst (a++b))): Pk (ZaJ (.lst a) (.lst b)) Q:=by
 refine⟨_,?_,h⟩
 simp only[ZaJ]
 rw[if_pos (by rw[Za6,List.length_append];omega)]
theorem Zwz{a:T}(hn:n≤1000)(h:Q (.lst (tab n fun _=>a))): Pk (Zb2 (.lst [a]) (.int n)) Q:=by
 have e:∀n,ZhP [a] n=tab n fun _=>a:=fun n=>by
  induction n with
  | zero=>rfl
  | succ n ih=>show ZhP [a] n++[a]=_;rw[ih];exact Zdn (f:=fun _=>a)
 refine⟨_,?_,h⟩
 simp only[Zb2,List.length_cons,List.length_nil,Int.toNat_natCast,e]
 rw[if_pos ⟨by rw[Za6];omega,by omega,by omega⟩]
end
theorem Zqo{x:Nat}{k l:Int}{w:T}{f:Nat→Nat→T}(e:σ x=some (.lst (tab n fun a=>.lst (tab m (f a)))))(hk:k=i)(hl:l=j)(hi:i<n)(hj:j<m)(h:N (ZO σ x (.lst (tab n fun a=>.lst (tab m fun b=>if a=i∧b=j then w else f a b))))): Put2 σ x w (.int k) (.int l) N:=by
 subst hk hl
 exact Zpo e hi hj h
theorem ZlA{v:Option Int}{w:T}(hw:w=oT v): T.lst (tab n fun a=>T.lst (tab n fun b=>if a=i∧b=j then w else oT (G a b)))=T.lst (tab n fun a=>T.lst (tab n fun b=>oT (ZbT G i j v a b))):=by
 subst hw
 exact Zer
theorem Zcs{a b:PS}{R:T→Prop}(M:TL→Prop)(h1:Psk (a σ) R M)(h2:∀σ,M σ→Psk (b σ) R N): Psk (Z3 a b σ) R N:=by
 obtain⟨o,s,e,p,q⟩:=h1
 exact ZcF ⟨o,s,e,p,fun h=>h2 s (q h)⟩
theorem ZwA{a:Nat}(h:a≤4): Zb3 a a 1=some []:=by
 have:a=0∨a=1∨a=2∨a=3∨a=4:=by omega
 obtain rfl | rfl | rfl | rfl | rfl:=this <;> (unfold Zb3;rw[if_pos (by decide +kernel)];rfl)
theorem Zfa{g:PEs}{a:Nat}{L:List T→Prop}(ha:a≤4)(hm:m≤100)(e:g σ=some [.int a,.int (a+m)])(h:L (tab m fun i=>.int ((a+i:Nat):Int))): Pl (ZbC g σ) L:=by
 cases m with
 | zero=>
  have e2:Zb3 (a:Int) ((a:Int)+((0:Nat):Int)) 1=some []:=by simpa using ZwA ha
  exact⟨[],Zhh e e2,h⟩
 | succ m=>
  refine⟨_,Zhh e (by have:=Zp0 (a:=a) (n:=m+1) (by omega) (by omega);simpa using this),?_⟩
  rw[show(tab (m+1) fun i=>T.int ((a:Int)+i))=tab (m+1) fun i=>.int ((a+i:Nat):Int)from ZaZ fun i _=>by congr 1]
  exact h
theorem ZkE{N a:Nat}{v:Option Int}(ha:a<N)(hb:b<N): ZeW [ZH N Γ,.int a,.int b,oT v]=some (ZH N (ZbT Γ a b (ZaK (Γ a b) v))):=by
 apply Pk.eq
 unfold ZeW ZkV
 refine Zl4 rfl ?_
 unfold ZH Zad
 walk_at "z"
 refine Zn Zo6 ?_
 refine⟨Zed,?_⟩
 walk_at "z"
 refine⟨_,Zbr,?_⟩
 exact Zer
noncomputable def ZB(n:Nat)(c:Nat→Int): T:=.lst (tab (n+1) fun i=>.int (c i))
theorem ZdZ{k:Int}(hn:n≤1000)(hb:b≤100000)(bc:∀i,i<n+1→Bd b (c i))(bk:Bd b k): Zie [ZB n c,.int k]=some (ZB n fun i=>c i*k):=by
 apply Pk.eq
 unfold Zie Zgs ZB
 walk_at "z"
 refine ZbR (n:=n+1) (a:=fun i=>.int (c i)) (b:=fun i=>.int (c i*k)) (by omega) ?_ (fun i hi=>?_) rfl
 ·walk_at "z"
  rfl
 ·walk_at "z"
  exact Zbk (Zbz (bc i hi) bk (by omega) (by omega)) rfl
noncomputable def S40(G:Nat→Nat→Option Int)(i:Nat): Sp:=((G 0 (i+1)).map fun y=>y*(-1),G (i+1) 0)
theorem ZrP(hn:n≤90)(hb:b≤100000)(hb1:1≤b)(bG:∀i j,i<n+1→j<n+1→∀y,G i j=some y→Bd b y): ZjW [Zo n G R]=some (.lst (tab n fun i=>spT (S40 G i))):=by
 apply Pk.eq
 unfold ZjW ZfW
 have ht:Zo n G R=.tup [.lst (tab (n+1) fun i=>.lst (tab (n+1) fun j=>oT (G i j))),.lst (tab n fun i=>ZD (R i))]:=rfl
 rw[ht]
 walk_at "z"
 refine ZbR (n:=n) (a:=fun i=>.int ((1+i:Nat):Int)) (b:=fun i=>spT (S40 G i)) (by omega) ?_ (fun i hi=>?_) rfl
 ·refine Zfa (a:=1) (m:=n) (by omega) (by omega) ?_ rfl
  simp only[Zr,Zv,ZL,ZT,Ze,ZO,Option.bind_some,if_true,Za1,Zai]
  congr 3
  congr 1
  omega
 ·have h1:1+i<n+1:=by omega
  have h0:0<n+1:=by omega
  walk_at "z"
  refine Zn (Zia hb (fun y e=>bG 0 (1+i) h0 h1 y e) (show Bd b (-1)by unfold Bd;have:=Zdc hb1;unfold Bd at this;simpa using this)) ?_
  walk_at "z"
  unfold spT S40
  rw[show 1+i=i+1 by omega]
  rfl
theorem Zog{σ:TL}{j:Nat}{cnd:PB}{P:T→Bool}: ∀{ts:List T},(∀t∈ts,cnd (ZO σ j t)=some (P t))→ZbZ (Zag j) cnd (Ze j) σ ts=some (ts.filter P)
 | [],_=>rfl
 | t::ts,h=>by
  have ih:=Zog fun t m=>h t (Zz2 _ m)
  have h0:=h t Zz5
  simp only[ZbZ,Zag,Option.bind_some,h0,Ze,Zbr,ih,Option.map_some,List.filter_cons]
  cases P t <;> rfl
theorem Ziz{g:PG}{cnd:PB}{P:T→Bool}(hl:ts.length≤10000)(hg:Pl (g σ) fun us=>us=ts)(hc:∀t∈ts,Pb (cnd (ZO σ j t)) fun b=>b=P t)(h:Q (.lst (ts.filter P))): Pk (ZaC g (Zag j) cnd (Ze j) σ) Q:=by
 obtain⟨us,e,rfl⟩:=hg
 refine⟨_,?_,h⟩
 have:=Zog (σ:=σ) (j:=j) (cnd:=cnd) (P:=P) (ts:=us) fun t m=>by
  obtain⟨b,e1,rfl⟩:=hc t m
  exact e1
 simp only[ZaC,e,Option.bind_some,this,Option.map_some]
 rw[if_pos (by rw[Za6];omega)]
noncomputable def xsI(n:Nat)(c:Nat→Int): List Int:=tab n fun i=>c (i+1)
noncomputable def nzI(n:Nat)(c:Nat→Int): List Int:=(xsI n c).filter fun x=>decide (x≠0)
def Df(n:Nat)(c:Nat→Int): Prop:=PM.ZcK (nzI n c)=[-1,1]
theorem Zhc(ks:List Int): ZcU (ks.map T.int)=some ks:=by
 induction ks with
 | nil=>rfl
 | cons k ks ih=>simp[ZcU,ih]
theorem Zoh{a b:List Int}(h:a.map T.int=b.map T.int): a=b:=by
 have:=congrArg ZcU h
 rw[Zhc,Zhc]at this
 simpa using this
theorem Zi2(ks:List Int): Pln 1 (.lst (ks.map T.int)):=.lst fun t m=>by
 obtain⟨k,_,rfl⟩:=Zz11.mp m
 exact .int
theorem tab_map{α:Type}{f:Nat→α}{g:α→β}: (tab n f).map g=tab n fun i=>g (f i):=by simp[tab]
theorem ZrE(hn:n≤60): ZjP [ZB n c]=some (.bool (dec (Df n c))):=by
 apply Pk.eq
 unfold ZjP ZfJ ZB
 walk_at "z"
 refine Ziz (ts:=(xsI n c).map T.int) (P:=fun t=>match t with | .int x=>decide (x≠0) | _=>false) (by simp[xsI,Zai];omega) ?_ (fun t m=>?_) ?_
 ·refine Zhg ?_
  refine Zix ?_
  walk_at "z"
  refine⟨_,rfl,?_⟩
  rw[ZiG]
  refine Sq.lst ?_
  unfold xsI
  rw[tab_map]
 ·obtain⟨x,_,rfl⟩:=Zz11.mp m
  walk_at "z"
  rfl
 have ef:((xsI n c).map T.int).filter (fun t=>match t with | .int x=>decide (x≠0) | _=>false)=(nzI n c).map T.int:=by
  unfold nzI
  rw[List.filter_map]
  rfl
 rw[ef]
 have hl:(nzI n c).length≤n:=by
  unfold nzI
  refine Nat.le_trans (List.length_filter_le _ _) ?_
  simp[xsI,Zai]
 walk_at "z"
 refine⟨.lst ((PM.ZcK (nzI n c)).map T.int),?_,?_⟩
 ·simp only[Zff,Zhc,Option.bind_some,List.length_map]
  rw[if_pos (by omega)]
 walk_at "z"
 refine Zbb (n:=1) (m:=1) (Zi2 _) (Zi2 [-1,1]) ?_
 by_cases h:Df n c
 ·rw[Zap h,Zap]
  show T.lst ((PM.ZcK (nzI n c)).map T.int)=_
  rw[show PM.ZcK (nzI n c)=[-1,1]from h]
  rfl
 ·rw[Zaq h,Zaq]
  intro q
  refine h (Zoh ?_)
  simpa using q
noncomputable def Zar(c:Nat→Int): Nat→List Nat
 | 0=>[]
 | n+1=>Zar c n++(if 0<c (n+1)then [n+1]else [])
noncomputable def Zaw(c:Nat→Int): Nat→List Nat
 | 0=>[]
 | n+1=>Zaw c n++(if c (n+1)<0 then [n+1]else [])
theorem ups_mem{c:Nat→Int}: ∀{n i:Nat},i∈Zar c n↔1≤i∧i≤n∧0<c i
 | 0,i=>by simp[Zar];omega
 | n+1,i=>by
  simp only[Zar,List.mem_append,ups_mem (n:=n)]
  by_cases h:0<c (n+1)
  ·simp only[h,if_true,List.mem_singleton]
   constructor
   ·rintro(⟨a,b,d⟩ | rfl)
    ·exact⟨a,by omega,d⟩
    ·exact⟨by omega,by omega,h⟩
   ·rintro⟨a,b,d⟩
    by_cases q:i=n+1
    ·exact .inr q
    ·exact .inl ⟨a,by omega,d⟩
  ·simp only[h,if_false,List.not_mem_nil,or_false]
   constructor
   ·rintro⟨a,b,d⟩;exact⟨a,by omega,d⟩
   ·rintro⟨a,b,d⟩
    have:i≠n+1:=fun q=>h (q▸d)
    exact⟨a,by omega,d⟩
theorem dns_mem{c:Nat→Int}: ∀{n i:Nat},i∈Zaw c n↔1≤i∧i≤n∧c i<0
 | 0,i=>by simp[Zaw];omega
 | n+1,i=>by
  simp only[Zaw,List.mem_append,dns_mem (n:=n)]
  by_cases h:c (n+1)<0
  ·simp only[h,if_true,List.mem_singleton]
   constructor
   ·rintro(⟨a,b,d⟩ | rfl)
    ·exact⟨a,by omega,d⟩
    ·exact⟨by omega,by omega,h⟩
   ·rintro⟨a,b,d⟩
    by_cases q:i=n+1
    ·exact .inr q
    ·exact .inl ⟨a,by omega,d⟩
  ·simp only[h,if_false,List.not_mem_nil,or_false]
   constructor
   ·rintro⟨a,b,d⟩;exact⟨a,by omega,d⟩
   ·rintro⟨a,b,d⟩
    have:i≠n+1:=fun q=>h (q▸d)
    exact⟨a,by omega,d⟩
theorem Zqp{c:Nat→Int}: ∀n,(Zar c n).length≤n
 | 0=>Nat.le_refl 0
 | n+1=>by
  have:=Zqp (c:=c) n
  simp only[Zar,List.length_append]
  split <;> simp <;> omega
theorem Zqq{c:Nat→Int}: ∀n,(Zaw c n).length≤n
 | 0=>Nat.le_refl 0
 | n+1=>by
  have:=Zqq (c:=c) n
  simp only[Zaw,List.length_append]
  split <;> simp <;> omega
theorem ZpE{c:Nat→Int}: ∀n,(Zar c n).map c=(xsI n c).filter fun x=>decide (0<x)
 | 0=>rfl
 | n+1=>by
  have e:xsI (n+1) c=xsI n c++[c (n+1)]:=(Zdn (n:=n) (f:=fun i=>c (i+1))).symm
  rw[e,List.filter_append,←ZpE n]
  simp only[Zar,List.map_append]
  by_cases h:0<c (n+1) <;> simp[h]
theorem ZpF{c:Nat→Int}: ∀n,(Zaw c n).map c=(xsI n c).filter fun x=>decide (x<0)
 | 0=>rfl
 | n+1=>by
  have e:xsI (n+1) c=xsI n c++[c (n+1)]:=(Zdn (n:=n) (f:=fun i=>c (i+1))).symm
  rw[e,List.filter_append,←ZpF n]
  simp only[Zaw,List.map_append]
  by_cases h:c (n+1)<0 <;> simp[h]
theorem df_iff: Df n c↔(Zar c n).map c=[1]∧(Zaw c n).map c=[-1]:=by
 rw[ZpE,ZpF]
 have hp:(nzI n c).Perm ((xsI n c).filter (fun x=>decide (0<x))++(xsI n c).filter (fun x=>decide (x<0))):=by
  unfold nzI
  generalize xsI n c=xs
  induction xs with
  | nil=>exact List.Perm.refl _
  | cons x xs ih=>
   by_cases h1:0<x
   ·have:x≠0:=by omega
    have h2:¬x<0:=by omega
    simp only[List.filter_cons,h1,h2,this,decide_true,decide_false,ne_eq,not_false_eq_true,if_true,Bool.false_eq_true,if_false,List.cons_append]
    exact List.Perm.cons _ ih
   ·by_cases h2:x<0
    ·have:x≠0:=by omega
     simp only[List.filter_cons,h1,h2,this,decide_true,decide_false,ne_eq,not_false_eq_true,if_true,Bool.false_eq_true,if_false]
     exact(List.Perm.cons _ ih).trans List.perm_middle.symm
    ·have:x=0:=by omega
     subst this
     simpa using ih
 constructor
 ·intro h
  have hq:(nzI n c).Perm [-1,1]:=by
   have:=List.mergeSort_perm (nzI n c) fun a b=>decide (a≤b)
   rw[show(nzI n c).mergeSort (fun a b=>decide (a≤b))=[-1,1]from h]at this
   exact this.symm
  have hf:∀q:Int→Bool,(∀x,q x=true→x≠0)→(xsI n c).filter q=(nzI n c).filter q:=fun q hq=>by
   unfold nzI
   rw[List.filter_filter]
   refine List.filter_congr fun x _=>?_
   cases e:q x with
   | false=>simp
   | true=>simp[hq x e]
  rw[hf _ (fun x h=>by simp at h;omega),hf _ (fun x h=>by simp at h;omega)]
  have p1:=hq.filter fun x=>decide (0<x)
  have p2:=hq.filter fun x=>decide (x<0)
  exact⟨List.perm_singleton.mp (by simpa using p1),List.perm_singleton.mp (by simpa using p2)⟩
 ·rintro⟨h1,h2⟩
  rw[h1,h2]at hp
  unfold Df
  refine(PM.Zpq ?_ ?_).symm
  ·exact(hp.trans (List.Perm.swap (-1) 1 [])).symm
  ·simp
theorem ZpG{p q r:PE}(h:Pk (p σ) fun t=>∃ks:List Int,t=.lst (ks.map T.int)∧Pk (q σ) fun u=>∃k,u=.int k∧Pk (r σ) fun v=>v=.int 1∧k∈ks.drop 1∧Q (.int ((1+(ks.drop 1).idxOf k:Nat):Int))): Pk (Zms p q r σ) Q:=by
 obtain⟨_,e1,ks,rfl,_,e2,k,rfl,_,e3,rfl,hm,h⟩:=h
 refine⟨_,?_,h⟩
 simp only[Zms,e1,e2,e3,Option.bind_some,Zhc]
 rw[if_pos ⟨trivial,hm⟩]
theorem Zi3: (tab (n+1) c).drop 1=xsI n c:=by
 unfold xsI
 apply List.ext_getElem
 ·simp[tab]
 ·intro i h1 h2
  simp[tab]
theorem Zq5{k:Int}(h:l.map c=[k]): ∃u,l=[u]∧c u=k:=by
 cases l with
 | nil=>simp at h
 | cons a l=>
  cases l with
  | nil=>exact⟨a,rfl,by simpa using h⟩
  | cons b l=>simp at h
theorem Zrr(hi:i<n): (xsI n c)[i]?=some (c (i+1)):=Zbj (f:=fun i=>c (i+1)) hi
theorem Zq6{u:Nat}{k:Int}(h1:1≤u)(h2:u≤n)(hu:c u=k)(ho:∀i,1≤i→i≤n→c i=k→i=u): 1+(xsI n c).idxOf k=u∧k∈xsI n c:=by
 have hm:k∈xsI n c:=List.mem_of_getElem? (i:=u-1) (by rw[Zrr (by omega),show u-1+1=u by omega,hu])
 have hl:(xsI n c).idxOf k<(xsI n c).length:=List.idxOf_lt_length_iff.mpr hm
 have hn:(xsI n c).length=n:=Zai
 have hk:=List.getElem_idxOf hl
 have hx:(xsI n c)[(xsI n c).idxOf k]?=some k:=by rw[List.getElem?_eq_getElem hl,hk]
 rw[Zrr (by omega)]at hx
 have:=ho ((xsI n c).idxOf k+1) (by omega) (by omega) (by simpa using hx)
 exact⟨by omega,hm⟩
theorem Zg1(h:Df n c): ∃u d,Zar c n=[u]∧Zaw c n=[d]∧c u=1∧c d = -1∧u<n+1∧d<n+1∧1≤u∧1≤d∧1+(xsI n c).idxOf 1=u∧1+(xsI n c).idxOf (-1)=d∧1∈xsI n c∧-1∈xsI n c:=by
 obtain⟨h1,h2⟩:=df_iff.mp h
 obtain⟨u,eu,hu⟩:=Zq5 h1
 obtain⟨d,ed,hd⟩:=Zq5 h2
 have mu:=ups_mem.mp (show u∈Zar c n by rw[eu];simp)
 have md:=dns_mem.mp (show d∈Zaw c n by rw[ed];simp)
 have a1:=Zq6 mu.1 mu.2.1 hu fun i q1 q2 q3=>by
  have:i∈Zar c n:=ups_mem.mpr ⟨q1,q2,by omega⟩
  rw[eu]at this
  simpa using this
 have a2:=Zq6 md.1 md.2.1 hd fun i q1 q2 q3=>by
  have:i∈Zaw c n:=dns_mem.mpr ⟨q1,q2,by omega⟩
  rw[ed]at this
  simpa using this
 exact⟨u,d,eu,ed,hu,hd,by omega,by omega,mu.1,md.1,a1.1,a2.1,a1.2,a2.2⟩
noncomputable def grt(n:Nat)(G:Nat→Nat→Option Int)(c:Nat→Int): Option Int:=if dec (Df n c)then Z7 (G (1+(xsI n c).idxOf 1) (1+(xsI n c).idxOf (-1))) (some (c 0))else(ZbL c (S40 G) n).2
def GB(b n:Nat)(G:Nat→Nat→Option Int): Prop:=∀i j,i<n+1→j<n+1→∀y,G i j=some y→Bd b y
theorem Zq7(hG:GB b n G): ∀i,i<n→SBd b (S40 G i):=fun i hi=>⟨fun x e=>by
 obtain⟨y,e1,e2⟩:=Zz1.mp e
 have:=hG 0 (i+1) (by omega) (by omega) y e1
 subst e2
 unfold Bd at *
 omega,fun x e=>hG (i+1) 0 (by omega) (by omega) x e⟩
theorem ZkF(hn:n≤60)(hb:b≤100000)(hb1:1≤b)(hG:GB b n G)(bc:∀i,i<n+1→Bd b (c i)): ZkX [Zo n G R,ZB n c]=some (oT (grt n G c)):=by
 apply Pk.eq
 unfold ZkX ZgH grt
 have ht:Zo n G R=.tup [.lst (tab (n+1) fun i=>.lst (tab (n+1) fun j=>oT (G i j))),.lst (tab n fun i=>ZD (R i))]:=rfl
 have hs:ZB n c=.lst ((tab (n+1) c).map T.int):=by unfold ZB;rw[tab_map]
 walk_at "z"
 refine Zn (ZrE hn) ?_
 by_cases h:Df n c
 ·obtain⟨u,d,_,_,_,_,hu,hd,_,_,eu,ed,mu,md⟩:=Zg1 h
  rw[Zap h]
  rw[ht]
  walk_at "z"
  refine ZpG ?_
  walk_at "z"
  refine⟨tab (n+1) c,hs,?_⟩
  walk_at "z"
  refine⟨1,rfl,?_⟩
  walk_at "z"
  refine⟨rfl,by rw[Zi3];exact mu,?_⟩
  rw[Zi3,eu]
  walk_at "z"
  refine ZpG ?_
  walk_at "z"
  refine⟨tab (n+1) c,hs,?_⟩
  walk_at "z"
  refine⟨-1,rfl,?_⟩
  walk_at "z"
  refine⟨rfl,by rw[Zi3];exact md,?_⟩
  rw[Zi3,ed]
  unfold ZB
  walk_at "z"
  exact Zn (ZeT (b:=some (c (Int.toNat 0)))) rfl
 ·rw[Zaq h]
  walk_at "z"
  refine Zn (ZrP (by omega) hb hb1 hG) ?_
  walk_at "z"
  refine Zn (Zr3 (by omega) hb bc (Zq7 hG)) ?_
  unfold spT
  walk_at "z"
  rfl
theorem ZwB: ZB n (fun i=>c i * -1)=ZB n fun i=>-(c i):=by
 unfold ZB
 congr 1
 exact ZaZ fun i _=>by show T.int (c i * -1)=T.int (-(c i));congr 1;omega
theorem Zvm(hn:n≤60)(hb:b≤1000)(hb1:1≤b)(hG:GB b n G)(bc:∀i,i<n+1→Bd b (c i))(bg:∀y,grt n G (fun i=>-(c i))=some y→Bd 100000 y): ZiX [Zo n G R,ZB n c]=some (oT ((grt n G fun i=>-(c i)).map fun y=>y * -1)):=by
 apply Pk.eq
 unfold ZiX Zhl
 have b1:Bd b (-1):=by have:=Zdc hb1;unfold Bd at *;simpa using this
 walk_at "z"
 refine Zn (ZdZ (by omega) (by omega) bc b1) ?_
 rw[ZwB]
 walk_at "z"
 refine Zn (ZkF hn (by omega) hb1 hG fun i hi=>by have:=bc i hi;show Bd b (-(c i));unfold Bd at *;omega) ?_
 walk_at "z"
 exact Zn (Zia (i:=100000) (by decide) bg (b1.mono (by omega))) rfl
noncomputable def Zm2(c:Nat→Int): T→Bool
 | .int i=>decide (0<c i.toNat)
 | _=>false
noncomputable def Zm3(c:Nat→Int): T→Bool
 | .int i=>decide (c i.toNat<0)
 | _=>false
theorem ZpH{c:Nat→Int}: ∀n,((tab n fun i=>T.int ((1+i:Nat):Int)).filter (Zm2 c))=(Zar c n).map fun i=>T.int (i:Nat)
 | 0=>rfl
 | n+1=>by
  rw[←Zdn (n:=n) (f:=fun i=>T.int ((1+i:Nat):Int)),List.filter_append,ZpH n]
  simp only[Zar,List.map_append]
  congr 1
  rw[show 1+n=n+1 by omega]
  by_cases h:0<c (n+1) <;> simp[Zm2,h]
theorem ZpI{c:Nat→Int}: ∀n,((tab n fun i=>T.int ((1+i:Nat):Int)).filter (Zm3 c))=(Zaw c n).map fun i=>T.int (i:Nat)
 | 0=>rfl
 | n+1=>by
  rw[←Zdn (n:=n) (f:=fun i=>T.int ((1+i:Nat):Int)),List.filter_append,ZpI n]
  simp only[Zaw,List.map_append]
  congr 1
  rw[show 1+n=n+1 by omega]
  by_cases h:c (n+1)<0 <;> simp[Zm3,h]
theorem ZpJ{us:List Nat}{h:Nat→T}(hl:us.length≤1000)(hg:Pk (g σ) fun t=>t=.lst (us.map fun i=>T.int (i:Nat)))(hf:∀i∈us,Pk (f (ZO σ j (.int (i:Nat)))) fun t=>t=h i)(q:Q (.lst (us.map h))): Pk (ZaC (ZaT g) (Zag j) Zas f σ) Q:=by
 obtain⟨_,e,rfl⟩:=hg
 refine⟨_,?_,q⟩
 have hc:ZbZ (Zag j) Zas f σ (us.map fun i=>T.int (i:Nat))=some (us.map h):=by
  have key:∀l:List Nat,(∀i∈l,i∈us)→ZbZ (Zag j) Zas f σ (l.map fun i=>T.int (i:Nat))=some (l.map h):=by
   intro l
   induction l with
   | nil=>intro _;rfl
   | cons a l ih=>
    intro hm
    obtain⟨_,e1,rfl⟩:=hf a (hm a Zz5)
    simp only[List.map_cons,ZbZ,Zag,Option.bind_some,Zas,if_true,e1,ih fun i m=>hm i (Zz2 _ m),Option.map_some]
  exact key us fun i m=>m
 simp only[ZaC,ZaT,e,Option.bind_some,hc,Option.map_some,List.length_map]
 rw[if_pos (by rw[Za6];omega)]
theorem Zqr{b:PS}{us:List Nat}{R:T→Prop}(hg:Pk (g σ) fun t=>t=.lst (us.map fun i=>T.int (i:Nat)))(P:List Nat→TL→Prop)(h0:P [] σ)(h1:∀pre i σ,i∈us→P pre σ→Psk (b (ZO σ j (.int (i:Nat)))) R (P (pre++[i])))(h2:∀σ,P us σ→N σ): Psk (Zbq (ZaT g) (Zag j) b σ) R N:=by
 refine ZlZ (ts:=us.map fun i=>T.int (i:Nat)) (P:=fun k σ=>P (us.take k) σ) ?_ (by simpa using h0) (fun k t σ hk hP=>?_) (fun σ h=>h2 σ (by simpa using h))
 ·obtain⟨_,e,rfl⟩:=hg
  exact⟨_,by simp only[ZaT,e,Option.bind_some],rfl⟩
 ·rw[List.getElem?_map]at hk
  obtain⟨i,ei,rfl⟩:=Zz1.mp hk
  rw[List.take_add_one,ei]
  exact h1 _ i σ (List.mem_of_getElem? ei) hP
noncomputable def sU(G:Nat→Nat→Option Int)(c:Nat→Int)(l:List Nat): Int:=(l.map fun i=>c i*(G i 0).getD 0).sum
noncomputable def sD(G:Nat→Nat→Option Int)(c:Nat→Int)(l:List Nat): Int:=(l.map fun i=>c i*(G 0 i).getD 0).sum
def ZcN(G:Nat→Nat→Option Int)(c:Nat→Int)(n:Nat): Prop:=(∃i∈Zar c n,G i 0=none)∨∃i∈Zaw c n,G 0 i=none
theorem Zqs: sU G c (l++[i])=sU G c l+c i*(G i 0).getD 0:=by simp[sU]
theorem Zqt: sD G c (l++[i])=sD G c l+c i*(G 0 i).getD 0:=by simp[sD]
theorem tot{G:Nat→Nat→Option Int}{c:Nat→Int}: ∀n,(ZcN G c n→(ZbL c (S40 G) n).2=none)∧(¬ZcN G c n→(ZbL c (S40 G) n).2=some (c 0+sU G c (Zar c n)-sD G c (Zaw c n)))
 | 0=>⟨fun h=>(by rcases h with⟨i,m,_⟩ | ⟨i,m,_⟩ <;> cases m),fun _=>by simp[ZbL,sU,sD,Zar,Zaw]⟩
 | n+1=>by
  obtain⟨ih1,ih2⟩:=tot (G:=G) (c:=c) n
  have step:(ZbL c (S40 G) (n+1)).2=Z7 (ZbL c (S40 G) n).2 (Zcd (S40 G n) (c (n+1))).2:=rfl
  rw[step]
  have mono:ZcN G c n→ZcN G c (n+1):=fun h=>h.imp (fun⟨i,m,e⟩=>⟨i,by simp only[Zar,List.mem_append];exact .inl m,e⟩) fun⟨i,m,e⟩=>⟨i,by simp only[Zaw,List.mem_append];exact .inl m,e⟩
  rcases Int.lt_trichotomy (c (n+1)) 0 with h | h | h
  ·have h0:¬0<c (n+1):=by omega
   have hz:¬c (n+1)=0:=by omega
   have eu:Zar c (n+1)=Zar c n:=by simp[Zar,h0]
   have ed:Zaw c (n+1)=Zaw c n++[n+1]:=by simp[Zaw,h]
   have et:(Zcd (S40 G n) (c (n+1))).2=(G 0 (n+1)).map fun y=>y*(-1)*c (n+1):=by
    unfold Zcd S40
    rw[if_neg hz,if_pos h]
    cases G 0 (n+1) <;> rfl
   rw[et]
   cases hg:G 0 (n+1)with
   | none=>
    refine⟨fun _=>?_,fun q=>absurd (.inr ⟨n+1,by rw[ed];simp,hg⟩) q⟩
    cases (ZbL c (S40 G) n).2 <;> rfl
   | some y=>
    have hl:ZcN G c (n+1)→ZcN G c n:=by
     rintro(⟨i,m,e⟩ | ⟨i,m,e⟩)
     ·rw[eu]at m;exact .inl ⟨i,m,e⟩
     ·rw[ed]at m
      rcases Zz8.mp m with m | m
      ·exact .inr ⟨i,m,e⟩
      ·rw[List.mem_singleton.mp m,hg]at e;cases e
    refine⟨fun q=>by rw[ih1 (hl q)];rfl,fun q=>?_⟩
    rw[ih2 fun r=>q (mono r),eu,ed,Zqt,hg]
    simp only[Z7,Option.map_some,Option.getD_some]
    congr 1
    have:y*(-1)*c (n+1) = -(c (n+1)*y):=by rw[Int.mul_neg,Int.mul_one,Int.neg_mul,Int.mul_comm]
    omega
  ·have h0:¬0<c (n+1):=by omega
   have h1:¬c (n+1)<0:=by omega
   have eu:Zar c (n+1)=Zar c n:=by simp[Zar,h0]
   have ed:Zaw c (n+1)=Zaw c n:=by simp[Zaw,h1]
   have et:(Zcd (S40 G n) (c (n+1))).2=some 0:=by unfold Zcd;rw[if_pos h]
   have el:ZcN G c (n+1)↔ZcN G c n:=by unfold ZcN;rw[eu,ed]
   rw[et,Zq1,el,eu,ed]
   exact⟨ih1,ih2⟩
  ·have h1:¬c (n+1)<0:=by omega
   have hz:¬c (n+1)=0:=by omega
   have eu:Zar c (n+1)=Zar c n++[n+1]:=by simp[Zar,h]
   have ed:Zaw c (n+1)=Zaw c n:=by simp[Zaw,h1]
   have et:(Zcd (S40 G n) (c (n+1))).2=(G (n+1) 0).map fun y=>y*c (n+1):=by
    unfold Zcd S40
    rw[if_neg hz,if_neg h1]
   rw[et]
   cases hg:G (n+1) 0 with
   | none=>
    refine⟨fun _=>?_,fun q=>absurd (.inl ⟨n+1,by rw[eu];simp,hg⟩) q⟩
    cases (ZbL c (S40 G) n).2 <;> rfl
   | some y=>
    have hl:ZcN G c (n+1)→ZcN G c n:=by
     rintro(⟨i,m,e⟩ | ⟨i,m,e⟩)
     ·rw[eu]at m
      rcases Zz8.mp m with m | m
      ·exact .inl ⟨i,m,e⟩
      ·rw[List.mem_singleton.mp m,hg]at e;cases e
     ·rw[ed]at m;exact .inr ⟨i,m,e⟩
    refine⟨fun q=>by rw[ih1 (hl q)];rfl,fun q=>?_⟩
    rw[ih2 fun r=>q (mono r),eu,ed,Zqs,hg]
    simp only[Z7,Option.map_some,Option.getD_some]
    congr 1
    have:y*c (n+1)=c (n+1)*y:=Int.mul_comm _ _
    omega
theorem Zr7(hn:n≤60)(hb:b≤100000)(hG:GB b n G)(bc:∀i,i<n+1→Bd b (c i))(e0:σ 0=some (.tup [.lst (tab (n+1) fun i=>.lst (tab (n+1) fun j=>oT (G i j))),.lst (tab n fun i=>ZD (R i))]))(e1:σ 1=some (.lst (tab (n+1) fun i=>.int (c i))))(e2:σ 2=some (.lst ((Zar c n).map fun i=>T.int (i:Nat))))(e3:σ 3=some (.lst ((Zaw c n).map fun i=>T.int (i:Nat)))): Psk ((Z3 (ZaE 4 (Zm ZaJ (ZaC (ZaT (Ze 2)) (Zag 104) Zas (Zm ZA (Zm ZA (Zm ZA (Ze 0) (Zv 0)) (Ze 104)) (Zv 0))) (ZaC (ZaT (Ze 3)) (Zag 106) Zas (Zm ZA (Zm ZA (Zm ZA (Ze 0) (Zv 0)) (Zv 0)) (Ze 106))))) (Z3 (qIf (Z5 (Zm qIn (Zaz) (Ze 4))) (Zav (Zaz)) ZaD) (Z3 (ZaE 5 (Zm ZA (Ze 1) (Zv 0))) (Z3 (Zbq (ZaT (Ze 2)) (Zag 6) (ZaE 5 (Zm ZaJ (Ze 5) (Zm Zb2 (Zm ZA (Ze 1) (Ze 6)) (Zm ZA (Zm ZA (Zm ZA (Ze 0) (Zv 0)) (Ze 6)) (Zv 0)))))) (Z3 (Zbq (ZaT (Ze 3)) (Zag 6) (ZaE 5 (Zm ZcW (Ze 5) (Zm Zb2 (Zm ZA (Ze 1) (Ze 6)) (Zm ZA (Zm ZA (Zm ZA (Ze 0) (Zv 0)) (Zv 0)) (Ze 6)))))) (Zav (Ze 5))))))) σ) (fun t=>t=oT (ZbL c (S40 G) n).2) N:=by
 have lu:=Zqp (c:=c) n
 have ld:=Zqq (c:=c) n
 have hu:∀i∈Zar c n,i<n+1:=fun i m=>by have:=ups_mem.mp m;omega
 have hd:∀i∈Zaw c n,i<n+1:=fun i m=>by have:=dns_mem.mp m;omega
 have h0:0<n+1:=by omega
 walk_at "z"
 refine ZpJ (us:=Zar c n) (h:=fun i=>oT (G i 0)) (by omega) ?_ (fun i m=>?_) ?_
 ·walk_at "z"
  rfl
 ·have:=hu i m
  walk_at "z"
  rfl
 refine ZpJ (us:=Zaw c n) (h:=fun i=>oT (G 0 i)) (by omega) ?_ (fun i m=>?_) ?_
 ·walk_at "z"
  rfl
 ·have:=hd i m
  walk_at "z"
  rfl
 refine Zqn (by simp;omega) ?_
 walk_at "z"
 refine Zfx (n:=0) (m:=1) .none (.lst fun t m=>?_) ?_
 ·rcases Zz8.mp m with m | m
  ·obtain⟨i,_,rfl⟩:=Zz11.mp m;exact ZhF
  ·obtain⟨i,_,rfl⟩:=Zz11.mp m;exact ZhF
 by_cases hl:ZcN G c n
 ·have hm:T.none∈(Zar c n).map (fun i=>oT (G i 0))++(Zaw c n).map fun i=>oT (G 0 i):=by
   rcases hl with⟨i,m,e⟩ | ⟨i,m,e⟩
   ·exact Zz4 _ (Zz11.mpr ⟨i,m,by rw[e];rfl⟩)
   ·exact Zz3 _ (Zz11.mpr ⟨i,m,by rw[e];rfl⟩)
  rw[Zap hm]
  walk_at "z"
  rw[(tot n).1 hl]
  rfl
 ·have hm:¬T.none∈(Zar c n).map (fun i=>oT (G i 0))++(Zaw c n).map fun i=>oT (G 0 i):=fun m=>hl (by
   rcases Zz8.mp m with m | m
   ·obtain⟨i,m,e⟩:=Zz11.mp m
    exact .inl ⟨i,m,oT_inj.mp (by rw[e];rfl)⟩
   ·obtain⟨i,m,e⟩:=Zz11.mp m
    exact .inr ⟨i,m,oT_inj.mp (by rw[e];rfl)⟩)
  have gu:∀i∈Zar c n,∃y,G i 0=some y:=fun i m=>by
   cases e:G i 0 with
   | none=>exact absurd (.inl ⟨i,m,e⟩) hl
   | some y=>exact⟨y,rfl⟩
  have gd:∀i∈Zaw c n,∃y,G 0 i=some y:=fun i m=>by
   cases e:G 0 i with
   | none=>exact absurd (.inr ⟨i,m,e⟩) hl
   | some y=>exact⟨y,rfl⟩
  rw[Zaq hm]
  walk_at "z"
  refine Zqr (us:=Zar c n) (P:=fun pre σ'=>σ' 0=some (.tup [.lst (tab (n+1) fun i=>.lst (tab (n+1) fun j=>oT (G i j))),.lst (tab n fun i=>ZD (R i))])∧σ' 1=some (.lst (tab (n+1) fun i=>.int (c i)))∧σ' 3=some (.lst ((Zaw c n).map fun i=>T.int (i:Nat)))∧σ' 5=some (.int (c 0+sU G c pre))) ?_ ⟨by walk_at "r",by walk_at "r",by walk_at "r",by simp[sU,ZO]⟩ ?_ ?_
  ·walk_at "z"
   rfl
  ·rintro pre i σ' m ⟨f0,f1,f3,f5⟩
   have hi:=hu i m
   obtain⟨y,ey⟩:=gu i m
   have by_:Bd b y:=hG i 0 hi h0 y ey
   walk_at "z"
   rw[show(Int.toNat 0)=0 from rfl,ey,Zaa]
   refine Zbk (Zbz (bc i hi) by_ (by omega) (by omega)) ?_
   walk_at "z"
   refine⟨by walk_at "r",by walk_at "r",by walk_at "r",?_⟩
   rw[Zbr,Zqs,ey]
   simp only[Option.getD_some]
   congr 2
   omega
  rintro σ1 ⟨f0,f1,f3,f5⟩
  walk_at "z"
  refine Zqr (us:=Zaw c n) (P:=fun pre σ'=>σ' 0=some (.tup [.lst (tab (n+1) fun i=>.lst (tab (n+1) fun j=>oT (G i j))),.lst (tab n fun i=>ZD (R i))])∧σ' 1=some (.lst (tab (n+1) fun i=>.int (c i)))∧σ' 5=some (.int (c 0+sU G c (Zar c n)-sD G c pre))) ?_ ⟨by walk_at "r",by walk_at "r",by simpa [sD]using f5⟩ ?_ ?_
  ·walk_at "z"
   rfl
  ·rintro pre i σ' m ⟨g0,g1,g5⟩
   have hi:=hd i m
   obtain⟨y,ey⟩:=gd i m
   have by_:Bd b y:=hG 0 i h0 hi y ey
   walk_at "z"
   rw[show(Int.toNat 0)=0 from rfl,ey,Zaa]
   refine Zbk (Zbz (bc i hi) by_ (by omega) (by omega)) ?_
   walk_at "z"
   refine⟨by walk_at "r",by walk_at "r",?_⟩
   rw[Zbr,Zqt,ey]
   simp only[Option.getD_some]
   congr 2
   omega
  rintro σ2 ⟨g0,g1,g5⟩
  walk_at "z"
  rw[(tot n).2 hl]
  rfl
theorem ZsU(hn:n≤60)(hb:b≤100000)(hG:GB b n G)(bc:∀i,i<n+1→Bd b (c i))(e0:σ 0=some (.tup [.lst (tab (n+1) fun i=>.lst (tab (n+1) fun j=>oT (G i j))),.lst (tab n fun i=>ZD (R i))]))(e1:σ 1=some (.lst (tab (n+1) fun i=>.int (c i))))(e2:σ 2=some (.lst ((Zar c n).map fun i=>T.int (i:Nat))))(e3:σ 3=some (.lst ((Zaw c n).map fun i=>T.int (i:Nat)))): Psk ((Z3 (qIf (Zbp (Z5 (Zm qEq (ZT Za1 (Zr (Ze 2) ZL)) (Zv 1))) (Zbp (Z5 (Zm qEq (ZT Za1 (Zr (Ze 3) ZL)) (Zv 1))) (Zbp (Z5 (Zm qEq (Zm ZA (Ze 1) (Zm ZA (Ze 2) (Zv 0))) (Zv 1))) (Zbp (Z5 (Zm qEq (Zm ZA (Ze 1) (Zm ZA (Ze 3) (Zv 0))) (pUn ZcX (Zv 1)))) Zas)))) (Z3 (qIf (Z5 (Zm qIs (Zm ZA (Zm ZA (Zm ZA (Ze 0) (Zv 0)) (Zm ZA (Ze 2) (Zv 0))) (Zm ZA (Ze 3) (Zv 0))) (Zaz))) (Zav (Zaz)) ZaD) (Zav (Zm ZaJ (Zm ZA (Zm ZA (Zm ZA (Ze 0) (Zv 0)) (Zm ZA (Ze 2) (Zv 0))) (Zm ZA (Ze 3) (Zv 0))) (Zm ZA (Ze 1) (Zv 0))))) ZaD) (Z3 (ZaE 4 (Zm ZaJ (ZaC (ZaT (Ze 2)) (Zag 104) Zas (Zm ZA (Zm ZA (Zm ZA (Ze 0) (Zv 0)) (Ze 104)) (Zv 0))) (ZaC (ZaT (Ze 3)) (Zag 106) Zas (Zm ZA (Zm ZA (Zm ZA (Ze 0) (Zv 0)) (Zv 0)) (Ze 106))))) (Z3 (qIf (Z5 (Zm qIn (Zaz) (Ze 4))) (Zav (Zaz)) ZaD) (Z3 (ZaE 5 (Zm ZA (Ze 1) (Zv 0))) (Z3 (Zbq (ZaT (Ze 2)) (Zag 6) (ZaE 5 (Zm ZaJ (Ze 5) (Zm Zb2 (Zm ZA (Ze 1) (Ze 6)) (Zm ZA (Zm ZA (Zm ZA (Ze 0) (Zv 0)) (Ze 6)) (Zv 0)))))) (Z3 (Zbq (ZaT (Ze 3)) (Zag 6) (ZaE 5 (Zm ZcW (Ze 5) (Zm Zb2 (Zm ZA (Ze 1) (Ze 6)) (Zm ZA (Zm ZA (Zm ZA (Ze 0) (Zv 0)) (Zv 0)) (Ze 6)))))) (Zav (Ze 5)))))))) σ) (fun t=>t=oT (grt n G c)) N:=by
 by_cases h:Df n c
 ·obtain⟨u,d,eu,ed,hcu,hcd,hu,hd,_,_,iu,id_,_,_⟩:=Zg1 h
  have hg:grt n G c=Z7 (G u d) (some (c 0)):=by unfold grt;rw[Zap h,iu,id_];rfl
  rw[hg]
  rw[eu]at e2
  rw[ed]at e3
  simp only[List.map_cons,List.map_nil]at e2 e3
  walk_at "z"
  cases hx:G u d with
  | none=>
   rw[ZaN]
   walk_at "z"
   rfl
  | some y=>
   rw[Zaa]
   walk_at "z"
   rw[hx,Zaa]
   walk_at "z"
   rfl
 ·have hg:grt n G c=(ZbL c (S40 G) n).2:=by unfold grt;rw[Zaq h];rfl
  rw[hg]
  refine Zcs (fun σ'=>σ'=σ) ?_ ?_
  ·by_cases l1:(Zar c n).length=1
   ·obtain⟨u,eu⟩:=List.length_eq_one_iff.mp l1
    have hu:u<n+1:=by have:=ups_mem.mp (show u∈Zar c n by rw[eu];simp);omega
    by_cases l2:(Zaw c n).length=1
    ·obtain⟨d,ed⟩:=List.length_eq_one_iff.mp l2
     have hd:d<n+1:=by have:=dns_mem.mp (show d∈Zaw c n by rw[ed];simp);omega
     have hno:¬(c u=1∧c d = -1):=fun q=>h (df_iff.mpr ⟨by rw[eu];simp[q.1],by rw[ed];simp[q.2]⟩)
     rw[eu]at e2
     rw[ed]at e3
     simp only[List.map_cons,List.map_nil]at e2 e3
     by_cases q1:c u=1
     ·have q2:c d≠-1:=fun q=>hno ⟨q1,q⟩
      walk_at "z"
      rfl
     ·walk_at "z"
      rfl
    ·rw[eu]at e2
     simp only[List.map_cons,List.map_nil]at e2
     have l3:((((Zaw c n).map fun i=>T.int (i:Nat)).length:Nat):Int)≠1:=by rw[List.length_map];omega
     walk_at "z"
     rfl
   ·have l3:((((Zar c n).map fun i=>T.int (i:Nat)).length:Nat):Int)≠1:=by rw[List.length_map];omega
    walk_at "z"
    rfl
  ·rintro _ rfl
   exact Zr7 hn hb hG bc e0 e1 e2 e3
theorem ZfQ(hn:n≤60)(hb:b≤100000)(hG:GB b n G)(bc:∀i,i<n+1→Bd b (c i)): ZfV [Zo n G R,ZB n c]=some (oT (grt n G c)):=by
 apply Pk.eq
 unfold ZfV ZjV
 have ht:Zo n G R=.tup [.lst (tab (n+1) fun i=>.lst (tab (n+1) fun j=>oT (G i j))),.lst (tab n fun i=>ZD (R i))]:=rfl
 rw[ht]
 unfold ZB
 refine Zep rfl ?_
 have rg:∀{σ:TL} {j:Nat},σ 1=some (.lst (tab (n+1) fun i=>.int (c i)))→Pl (ZbC (Zr (Zv 1) (Zr (ZT Za1 (Zr (Ze 1) ZL)) ZL)) σ) fun us=>us=tab n fun i=>T.int ((1+i:Nat):Int):=fun {σ} {j} e=>by
  refine Zfa (a:=1) (m:=n) (by omega) (by omega) ?_ rfl
  simp only[Zr,Zv,ZL,ZT,Ze,e,Option.bind_some,Za1,Zai]
  congr 3
  congr 1
  omega
 refine Zcs (fun σ'=>σ' 0=some (.tup [.lst (tab (n+1) fun i=>.lst (tab (n+1) fun j=>oT (G i j))),.lst (tab n fun i=>ZD (R i))])∧σ' 1=some (.lst (tab (n+1) fun i=>.int (c i)))∧σ' 2=some (.lst ((Zar c n).map fun i=>T.int (i:Nat)))) ?_ ?_
 ·refine Zeo ?_
  refine Ziz (ts:=tab n fun i=>T.int ((1+i:Nat):Int)) (P:=Zm2 c) (by rw[Zai];omega) (rg (j:=0) rfl) (fun t m=>?_) ?_
  ·obtain⟨i,hi,rfl⟩:=Zci m
   have h1:1+i<n+1:=by omega
   walk_at "z"
   show decide (0<c (1+i))=decide (0<c ((1+i:Nat):Int).toNat)
   rw[Int.toNat_natCast]
  ·rw[ZpH]
   exact⟨rfl,rfl,Zbr⟩
 rintro σ1 ⟨f0,f1,f2⟩
 refine Zcs (fun σ'=>σ' 0=some (.tup [.lst (tab (n+1) fun i=>.lst (tab (n+1) fun j=>oT (G i j))),.lst (tab n fun i=>ZD (R i))])∧σ' 1=some (.lst (tab (n+1) fun i=>.int (c i)))∧σ' 2=some (.lst ((Zar c n).map fun i=>T.int (i:Nat)))∧σ' 3=some (.lst ((Zaw c n).map fun i=>T.int (i:Nat)))) ?_ ?_
 ·refine Zeo ?_
  refine Ziz (ts:=tab n fun i=>T.int ((1+i:Nat):Int)) (P:=Zm3 c) (by rw[Zai];omega) (rg (j:=0) f1) (fun t m=>?_) ?_
  ·obtain⟨i,hi,rfl⟩:=Zci m
   have h1:1+i<n+1:=by omega
   walk_at "z"
   show decide (c (1+i)<0)=decide (c ((1+i:Nat):Int).toNat<0)
   rw[Int.toNat_natCast]
  ·rw[ZpI]
   exact⟨by walk_at "r",by walk_at "r",by walk_at "r",Zbr⟩
 rintro σ2 ⟨g0,g1,g2,g3⟩
 exact ZsU hn hb hG bc g0 g1 g2 g3
theorem Zqu{b n:Nat}{c:Nat→Int}{S:Nat→Sp}(bc:∀i,i<n+1→Bd b (c i))(bS:∀i,i<n→SBd b (S i)): ∀j,j≤n→∀y,(ZbL c S j).2=some y→Bd (b+b+j+1) y
 | 0,_,y,e=>by cases e;exact(bc 0 (by omega)).mono (by omega)
 | j+1,h,y,e=>by
  obtain⟨p,q,h1,h2,rfl⟩:=addO_some.mp (show Z7 (ZbL c S j).2 (Zcd (S j) (c (j+1))).2=some y from e)
  have ih:=Zqu bc bS j (by omega) p h1
  have hq:Bd (b+b) q:=by
   unfold Zcd at h2
   split at h2
   ·cases h2;exact Zb5
   ·split at h2
    ·obtain⟨z,e1,rfl⟩:=Zz1.mp h2
     exact((bS j (by omega)).1 z e1).mul (bc (j+1) (by omega))
    ·obtain⟨z,e1,rfl⟩:=Zz1.mp h2
     exact((bS j (by omega)).2 z e1).mul (bc (j+1) (by omega))
  exact(ih.add (hq.mono (by omega))).mono (by omega)
theorem Zfh(bc:∀i,i<n+1→Bd b (c i)): ∀i,i<n+1→Bd b (-(c i)):=fun i hi=>by
 have:=bc i hi
 unfold Bd at *
 omega
noncomputable def ZX(c:Nat→Int)(x:Nat→Int): Nat→Int
 | 0=>c 0
 | j+1=>ZX c x j+c (j+1)*x j
theorem Zqv{c x:Nat→Int}: ∀n,c 0+(tab n fun i=>c (i+1)*x i).sum=ZX c x n
 | 0=>by simp[tab,ZX]
 | n+1=>by
  rw[←Zdn (n:=n) (f:=fun i=>c (i+1)*x i),List.sum_append]
  have:=Zqv (c:=c) (x:=x) n
  simp only[List.sum_cons,List.sum_nil,ZX]
  omega
theorem Zq8{c x:Nat→Int}{S:Nat→Sp}{n:Nat}(h:∀i,i<n→InS (S i) (x i)): ∀j,j≤n→InS (ZbL c S j) (ZX c x j)
 | 0,_=>⟨fun l e=>by cases e;exact Int.le_refl _,fun l e=>by cases e;exact Int.le_refl _⟩
 | j+1,hj=>Zvh (Zq8 h j (by omega)) (Zur (h j (by omega)))
theorem Zc1{c x:Nat→Int}: ∀n,ZX (fun i=>-(c i)) x n = -(ZX c x n)
 | 0=>rfl
 | n+1=>by
  simp only[ZX,Zc1 n,Int.neg_mul]
  omega
noncomputable def sV(c x:Nat→Int)(l:List Nat): Int:=(l.map fun i=>c i*x (i-1)).sum
theorem Zpb{c x:Nat→Int}: ∀n,ZX c x n=c 0+sV c x (Zar c n)+sV c x (Zaw c n)
 | 0=>by simp[ZX,sV,Zar,Zaw]
 | n+1=>by
  have ih:=Zpb (c:=c) (x:=x) n
  have sn:∀l,sV c x (l++[n+1])=sV c x l+c (n+1)*x n:=fun l=>by simp[sV]
  simp only[ZX,Zar,Zaw,ih]
  rcases Int.lt_trichotomy (c (n+1)) 0 with h | h | h
  ·rw[if_neg (by omega),if_pos h,List.append_nil,sn]
   omega
  ·rw[if_neg (by omega),if_neg (by omega),List.append_nil,List.append_nil,h]
   omega
  ·rw[if_pos h,if_neg (by omega),List.append_nil,sn]
   omega
theorem Zjo(h:Zal n G R x)(e:grt n G c=some y): ZX c x n≤y:=by
 unfold grt at e
 by_cases hd:Df n c
 ·rw[Zap hd]at e
  obtain⟨u,d,eu,ed,hcu,hcd,hu,hdn,hu1,hd1,iu,id_,_,_⟩:=Zg1 hd
  rw[iu,id_]at e
  obtain⟨p,q,h1,h2,rfl⟩:=addO_some.mp (show Z7 (G u d) (some (c 0))=some y from e)
  cases h2
  have hb:=h.1 u d hu hdn p h1
  rw[Zpb,eu,ed]
  have f:∀i,1≤i→Zaf x i=x (i-1):=fun i hi=>by
   cases i with
   | zero=>omega
   | succ i=>rfl
  rw[f u hu1,f d hd1]at hb
  simp only[sV,List.map_cons,List.map_nil,List.sum_cons,List.sum_nil,hcu,hcd]
  omega
 ·rw[Zaq hd]at e
  refine(Zq8 (S:=S40 G) (n:=n) (fun i hi=>⟨fun l el=>?_,fun r er=>?_⟩) n (Zz10 n)).2 y e
  ·obtain⟨z,e1,rfl⟩:=Zz1.mp el
   have:=h.1 0 (i+1) (by omega) (by omega) z e1
   have f0:Zaf x 0=0:=rfl
   have f1:Zaf x (i+1)=x i:=rfl
   show z*(-1)≤x i
   omega
  ·have:=h.1 (i+1) 0 (by omega) (by omega) r er
   have f0:Zaf x 0=0:=rfl
   have f1:Zaf x (i+1)=x i:=rfl
   omega
theorem ZlR(hn:n≤60)(hb:b≤100000)(bc:∀i,i<n+1→Bd b (c i))(bx:∀i,i<n→Bd b (x i)): Zd2 [ZB n c,Zan n x]=some (.int (ZX c x n)):=by
 apply Pk.eq
 unfold Zd2 Zgt ZB Zan
 have h0:0<n+1:=by omega
 walk_at "z"
 refine ZbR (n:=n) (a:=fun i=>.int i) (b:=fun i=>.int (c (i+1)*x i)) (by omega) ?_ (fun i hi=>?_) ?_
 ·walk_at "z"
  rfl
 ·walk_at "z"
  rw[show((i:Int)+1).toNat=i+1 by omega]
  exact Zbk (Zbz (bc (i+1) (by omega)) (bx i hi) (by omega) (by omega)) rfl
 walk_at "z"
 refine⟨.int (tab n fun i=>c (i+1)*x i).sum,by simp only[ZmZ,ZuS,Option.map_some],?_⟩
 walk_at "z"
 rw[show(Int.toNat 0)=0 from rfl,Zqv]
def SumB(n:Nat)(c:Nat→Int)(K:Int): Prop:=Bd 140 (c 0)∧∀i,1≤i→i<n+1→-K≤c i∧c i≤K
theorem SumB.bd(h:SumB n c K)(hK:K≤4000000000): ∀i,i<n+1→Bd 140 (c i):=fun i hi=>by
 by_cases q:i=0
 ·subst q;exact h.1
 ·have:=h.2 i (by omega) hi
  exact Zby (i:=33) (by omega) (by decide)
theorem SumB.mono(h:SumB n c K)(hK:K≤K'): SumB n c K':=⟨h.1,fun i h1 h2=>by have:=h.2 i h1 h2;omega⟩
theorem Zi4{x:Nat}{k:Int}(e:σ x=some (.lst (tab (n+1) fun i=>.int (c i))))(h0:1≤k)(h1:k<(n+1:Nat))(bc:SumB n c K)(hK:K≤K')(v0:-K'≤v)(v1:v≤K')(h:∀c',SumB n c' K'→N (ZO σ x (.lst (tab (n+1) fun i=>.int (c' i))))): PutP σ x (.int v) (.int k) N:=by
 refine Zlf (n:=n+1) (f:=fun i=>.int (c i)) e (by omega) h1 ?_
 have:=h (fun i=>if i=k.toNat then v else c i) ⟨by show Bd 140 (if 0=k.toNat then v else c 0);rw[if_neg (by omega)];exact bc.1,fun i hi1 hi2=>by
  by_cases q:i=k.toNat
  ·simp only[q,if_true];exact⟨v0,v1⟩
  ·simp only[q,if_false];have:=bc.2 i hi1 hi2;omega⟩
 rw[show(tab (n+1) fun i=>if i=k.toNat then T.int v else T.int (c i))=tab (n+1) fun i=>T.int (if i=k.toNat then v else c i)from ZaZ fun i _=>by split <;> rfl]
 exact this
noncomputable def unC(i:Nat): Nat→Int:=fun k=>if 0<i∧k=i then 1 else 0
theorem Zir(hn:n≤900): Ze3 [.int i,.int n]=some (ZB n (unC i)):=by
 apply Pk.eq
 unfold Ze3 ZgT ZB
 walk_at "z"
 refine ZbR (n:=n+1) (a:=fun k=>.int (k:Nat)) (b:=fun k=>.int (unC i k)) (by omega) ?_ (fun k hk=>?_) rfl
 ·walk_at "z"
  exact Zju (n+1) (by omega) (by omega) rfl
 ·walk_at "z"
  by_cases h:0<i
  ·refine⟨fun _=>?_,fun c=>absurd c (by simp;omega)⟩
   walk_at "z"
   by_cases q:k=i
   ·refine⟨fun _=>?_,fun c=>absurd c (by simp[q])⟩
    walk_at "z"
    show _=T.int (unC i k)
    unfold unC
    rw[if_pos ⟨h,q⟩]
   ·refine⟨fun c=>absurd c (by simp;omega),fun _=>?_⟩
    walk_at "z"
    show _=T.int (unC i k)
    unfold unC
    rw[if_neg (fun c=>q c.2)]
  ·refine⟨fun c=>absurd c (by simp;omega),fun _=>⟨fun c=>absurd c (by decide),fun _=>?_⟩⟩
   walk_at "z"
   show _=T.int (unC i k)
   unfold unC
   rw[if_neg (fun c=>h c.1)]
theorem Ztf{d:Nat→Int}(hn:n≤900): ZkZ [ZB n c,ZB n d]=some (ZB n fun k=>c k+d k):=by
 apply Pk.eq
 unfold ZkZ ZgI ZB
 walk_at "z"
 refine ZlJ (n:=n+1) (a:=fun i=>.int (c i)) (b:=fun i=>.int (d i)) (c:=fun i=>.int (c i+d i)) (by omega) ?_ (fun i hi=>?_) rfl
 ·walk_at "z"
  rfl
 ·walk_at "z"
  rfl
theorem ZkG{d:Nat→Int}(hn:n≤900)(hb1:1≤b)(hb:b≤100000)(bd:∀i,i<n+1→Bd b (d i)): Zil [ZB n c,ZB n d]=some (ZB n fun k=>c k-d k):=by
 apply Pk.eq
 unfold Zil ZgJ
 walk_at "z"
 refine Zn (ZdZ (by omega) hb bd (show Bd b (-1)by unfold Bd;have:=Zdc hb1;unfold Bd at this;simpa using this)) ?_
 walk_at "z"
 refine Zn (Ztf hn) ?_
 walk_at "z"
 have:(fun k=>c k+d k * -1)=fun k=>c k-d k:=by funext k;omega
 rw[this]
theorem Zrs: unC 0=fun _=>0:=by funext k;unfold unC;rw[if_neg (by omega)]
theorem Zqw(hG:GB b n G)(bc:∀i,i<n+1→Bd b (c i)): ∀y,grt n G c=some y→Bd (b+b+n+1) y:=fun y e=>by
 unfold grt at e
 by_cases h:Df n c
 ·rw[Zap h]at e
  obtain⟨u,d,_,_,_,_,hu,hd,_,_,iu,id_,_,_⟩:=Zg1 h
  rw[iu,id_]at e
  obtain⟨p,q,h1,h2,rfl⟩:=addO_some.mp (show Z7 (G u d) (some (c 0))=some y from e)
  cases h2
  exact((hG u d hu hd p h1).add (bc 0 (by omega))).mono (by omega)
 ·rw[Zaq h]at e
  exact(Zqu bc (Zq7 hG) n (Zz10 n) y e).mono (by omega)
theorem ZdG{c d x:Nat→Int}: ∀n,ZX (fun k=>c k-d k) x n=ZX c x n-ZX d x n
 | 0=>rfl
 | n+1=>by
  simp only[ZX,ZdG n,Int.sub_mul]
  omega
theorem ZpK{x:Nat→Int}: ∀n,ZX (fun _=>0) x n=0
 | 0=>rfl
 | n+1=>by simp only[ZX,ZpK n,Int.zero_mul];omega
theorem Zmb{c:Nat→Int}{R:Nat→Int×Int}{x:Nat→Int}{n:Nat}(ok:∀t,t<n→RestOk (R t))(h:∀t,t<n→Z4 (R t) (x t)): ∀j,j≤n→Zba c R j ∣ ZX c x j-Zbw c R j
 | 0,_=>by show(0:Int) ∣ c 0-c 0;rw[Int.sub_self];exact Int.dvd_zero _
 | j+1,hj=>by
  have h1:Zba c R (j+1) ∣ Zba c R j:=Int.gcd_dvd_left ..
  have h2:Zba c R (j+1) ∣ c (j+1)*(R j).1:=Int.gcd_dvd_right ..
  obtain⟨z,hz⟩:=(ZaU (ok j (by omega)).nn (x j)).mp (h j (by omega))
  have h3:=Int.dvd_add (Int.dvd_trans h1 (Zmb ok h j (by omega))) (Int.dvd_trans h2 (Int.dvd_mul_right _ z))
  rw[show ZX c x (j+1)=ZX c x j+c (j+1)*x j from rfl,show Zbw c R (j+1)=Zbw c R j+c (j+1)*(R j).2 from rfl,show x j=(R j).2+(R j).1*z by omega,Int.mul_add,←Int.mul_assoc]
  generalize c (j+1)*(R j).1*z=u at *
  generalize c (j+1)*(R j).2=v at *
  rwa [show ZX c x j+(v+u)-(Zbw c R j+v)=ZX c x j-Zbw c R j+u by omega]
theorem Zpc{kk:Int}{w at_ m lo:Int}(hk0:0≤kk)(hk9:kk≤1000)(hm:0<m)(hn:n≤9)(hK:K≤K')(hlo:-K'≤-lo)(hhi:m-1-lo≤K')(e0:σ 0=some (scr ns))(e1:σ 1=some (.int kk))(e2:σ 2=some (.int n))(e4:σ 4=some (.int w))(e5:σ 5=some (.int (1+at_)))(e3:σ 3=some (.lst (tab (n+1) fun i=>.int (c i))))(bc:SumB n c K)(h:∀σ' c',σ' 0=some (scr ns)→σ' 1=some (.int kk)→σ' 2=some (.int n)→σ' 4=some (.int w)→σ' 5=some (.int (1+at_))→σ' 3=some (.lst (tab (n+1) fun i=>.int (c' i)))→SumB n c' K'→N σ')(pm plo:PE)(epm:∀σ,pm σ=some (.int m))(eplo:∀σ,plo σ=some (.int lo)): Psk (Zbq (ZbC (Zr (Ze 2) ZL)) (Zag 7) (Zcq 3 [] (Zm ZcW (ZT ZcP (Zr (Ze 0) (Zr (Zm ZaJ (Zm ZaJ (Ze 1) (Zv 1)) (Ze 7)) (Zr pm ZL)))) plo) ZbK (Zm ZaJ (Ze 7) (Zv 1))) σ) Q N:=by
 refine ZaO (n:=n) (a:=fun i=>.int i) (P:=fun _ σ'=>σ' 0=some (scr ns)∧σ' 1=some (.int kk)∧σ' 2=some (.int n)∧σ' 4=some (.int w)∧σ' 5=some (.int (1+at_))∧∃c',σ' 3=some (.lst (tab (n+1) fun i=>.int (c' i)))∧SumB n c' K') ?_ ⟨e0,e1,e2,e4,e5,c,e3,bc.mono hK⟩ ?_ ?_
 ·walk_at "z"
  rfl
 ·rintro i σ' hi ⟨f0,f1,f2,f4,f5,c',f3,bc'⟩
  obtain⟨k0,k1⟩:=Zcj ns (kk+1+(i:Int)) hm
  walk_at "z"
  refine⟨_,epm _,?_⟩
  walk_at "z"
  refine Zn (Zck (by omega) (by omega) hm) ?_
  refine⟨_,eplo _,?_⟩
  walk_at "z"
  refine Zi4 (n:=n) (c:=c') (K:=K') (K':=K') (by walk_at "r") (by omega) (by omega) bc' (Int.le_refl _) (by omega) (by omega) fun c2 bc2=>?_
  exact⟨by walk_at "r",by walk_at "r",by walk_at "r",by walk_at "r",by walk_at "r",c2,Zbr,bc2⟩
 ·rintro σ' ⟨f0,f1,f2,f4,f5,c',f3,bc'⟩
  exact h σ' c' f0 f1 f2 f4 f5 f3 bc'
theorem Zye{kk:Int}(hk0:0≤kk)(hk9:kk≤1000)(hL:Lay ns)(hn:n≤9): Pk (Zlq [scr ns,.int kk,.int n]) fun t=>∃c,t=ZB n c∧SumB n c 1000000000:=by
 unfold Zlq Zlp
 have bn:Bd 140 (Zb4 ns kk):=Zby (ZiZ ns kk) (by decide)
 obtain⟨p0,p1⟩:=Zcj ns kk (show(0:Int)<6 by decide)
 refine Zep rfl ?_
 refine Zcs (fun σ'=>σ' 0=some (scr ns)∧σ' 1=some (.int kk)∧σ' 2=some (.int n)∧∃c,σ' 3=some (.lst (tab (n+1) fun i=>.int (c i)))∧SumB n c 0) ?_ ?_
 ·walk_at "z"
  refine Zn (ZgW hL (by omega) (by omega)) ?_
  walk_at "z"
  refine Zwz (by omega) ?_
  refine ZpZ (by omega) ?_
  rw[show cn (T.int (Zb4 ns kk)) (fun _=>T.int 0)=fun i=>T.int (cn (Zb4 ns kk) (fun _=>0) i)from by funext i;cases i <;> rfl]
  refine⟨Zop fun _ _=>rfl,?_⟩
  refine⟨rfl,rfl,rfl,_,Zbr,bn,fun i h1 h2=>?_⟩
  cases i with
  | zero=>omega
  | succ i=>exact⟨Int.le_refl 0,Int.le_refl 0⟩
 rintro σ1 ⟨e0,e1,e2,c,e3,bc⟩
 walk_at "z"
 refine Zn (Zck (by omega) (by omega) (by decide)) ?_
 by_cases hz:Zbd ns kk 6=0∨n=0
 ·rcases hz with hz | hz
  ·walk_at "z"
   exact⟨c,rfl,bc.mono (by decide)⟩
  ·by_cases q:Zbd ns kk 6=0
   ·walk_at "z"
    exact⟨c,rfl,bc.mono (by decide)⟩
   ·have:(n:Int)=0:=by omega
    walk_at "z"
    exact⟨c,rfl,bc.mono (by decide)⟩
 have hz1:Zbd ns kk 6≠0:=fun q=>hz (.inl q)
 have hn0:(n:Int)≠0:=fun q=>hz (.inr (by omega))
 obtain⟨a0,a1⟩:=Zcj ns (kk+1) (show(0:Int)<n by omega)
 walk_at "z"
 refine Zn (Zck (by omega) (by omega) (by omega)) ?_
 refine ZqR ?_
 generalize Zbd ns kk 6=w at *
 generalize Zbd ns (kk+1) n=at_ at *
 let M:Int→TL→Prop:=fun K σ'=>σ' 0=some (scr ns)∧σ' 1=some (.int kk)∧σ' 2=some (.int n)∧σ' 4=some (.int w)∧σ' 5=some (.int (1+at_))∧∃c,σ' 3=some (.lst (tab (n+1) fun i=>.int (c i)))∧SumB n c K
 refine Zcs (M 6) ?_ ?_
 ·walk_at "z"
  refine⟨fun q=>?_,fun q=>?_⟩
  ·obtain⟨k0,k1⟩:=Zcj ns (kk+2) (show(0:Int)<13 by decide)
   walk_at "z"
   refine Zn (Zck (by omega) (by omega) (by decide)) ?_
   walk_at "z"
   refine Zi4 (n:=n) (c:=c) (K:=0) (K':=6) (by walk_at "r") (by omega) (by omega) bc (by decide) (by omega) (by omega) fun c' bc'=>?_
   exact⟨by walk_at "r",by walk_at "r",by walk_at "r",by walk_at "r",by walk_at "r",c',Zbr,bc'⟩
  ·walk_at "z"
   exact⟨by walk_at "r",by walk_at "r",by walk_at "r",by walk_at "r",by walk_at "r",c,by walk_at "r",bc.mono (by decide)⟩
 clear bc e3 c
 rintro σ2 ⟨f0,f1,f2,f4,f5,c1,f3,bc1⟩
 refine Zcs (M 7) ?_ ?_
 ·have go:Psk ((Z3 (ZaE 6 (Zm ZaJ (Zv 1) (ZT ZcP (Zr (Ze 0) (Zr (Zm ZaJ (Ze 1) (Zv 2)) (Zr (Ze 2) ZL)))))) (Z3 (Zcq 3 [] (Zv 1) ZbK (Ze 5)) (Zcq 3 [] (Zm ZcW (Zm ZA (Ze 3) (Ze 6)) (Zv 1)) ZbK (Ze 6)))) σ2) (fun t=>∃c,t=ZB n c∧SumB n c 1000000000) (M 7):=by
   obtain⟨k0,k1⟩:=Zcj ns (kk+2) (show(0:Int)<n by omega)
   walk_at "z"
   refine Zn (Zck (by omega) (by omega) (by omega)) ?_
   generalize Zbd ns (kk+2) n=to_ at *
   walk_at "z"
   refine Zi4 (n:=n) (c:=c1) (K:=6) (K':=6) (by walk_at "r") (by omega) (by omega) bc1 (by decide) (by decide) (by decide) fun c' bc'=>?_
   have hto:=bc'.2 (1+to_).toNat (by omega) (by omega)
   walk_at "z"
   refine Zi4 (n:=n) (c:=c') (K:=6) (K':=7) (by walk_at "r") (by omega) (by omega) bc' (by decide) (by omega) (by omega) fun c2 bc2=>?_
   exact⟨by walk_at "r",by walk_at "r",by walk_at "r",by walk_at "r",by walk_at "r",c2,Zbr,bc2⟩
  have no:M 7 σ2:=⟨f0,f1,f2,f4,f5,c1,f3,bc1.mono (by decide)⟩
  by_cases q2:w=2
  ·refine Zmp ?_
   refine⟨true,?_,fun _=>go,fun e=>by cases e⟩
   simp[bOr,Z5,Zm,Ze,f4,Zv,qEq,ZiT,ZbB,q2]
  ·by_cases q3:w=3
   ·refine Zmp ?_
    refine⟨true,?_,fun _=>go,fun e=>by cases e⟩
    simp[bOr,Z5,Zm,Ze,f4,Zv,qEq,ZiT,ZbB,q3]
   ·walk_at "z"
    exact no
 clear bc1 f3 c1
 clear f0 f1 f2 f4 f5
 rintro σ3 ⟨f0,f1,f2,f4,f5,c1,f3,bc1⟩
 refine Zcs (M 7) ?_ ?_
 ·walk_at "z"
  refine⟨fun q=>?_,fun q=>?_⟩
  ·exact Zpc hk0 hk9 (m:=7) (lo:=3) (K:=7) (K':=7) (by decide) hn (by decide) (by decide) (by decide) f0 f1 f2 f4 f5 f3 bc1 (fun σ' c' g0 g1 g2 g4 g5 g3 bc'=>⟨g0,g1,g2,g4,g5,c',g3,bc'⟩) _ _ (fun _=>rfl) (fun _=>rfl)
  ·walk_at "z"
   exact⟨f0,f1,f2,f4,f5,c1,f3,bc1⟩
 clear bc1 f3 c1
 clear f0 f1 f2 f4 f5
 rintro σ4 ⟨f0,f1,f2,f4,f5,c1,f3,bc1⟩
 refine Zcs (M 1000000000) ?_ ?_
 ·walk_at "z"
  refine⟨fun q=>?_,fun q=>?_⟩
  ·exact Zpc hk0 hk9 (m:=2000000001) (lo:=1000000000) (K:=7) (K':=1000000000) (by decide) hn (by decide) (by decide) (by decide) f0 f1 f2 f4 f5 f3 bc1 (fun σ' c' g0 g1 g2 g4 g5 g3 bc'=>⟨g0,g1,g2,g4,g5,c',g3,bc'⟩) _ _ (fun _=>rfl) (fun _=>rfl)
  ·walk_at "z"
   exact⟨f0,f1,f2,f4,f5,c1,f3,bc1.mono (by decide)⟩
 rintro σ5 ⟨g0,g1,g2,g4,g5,c2,g3,bc2⟩
 walk_at "z"
 exact⟨c2,rfl,bc2⟩
theorem Zfq{a:Nat}(h:1≤a): unC a a=1:=by unfold unC;rw[if_pos ⟨by omega,rfl⟩]
theorem Zdu{a:Nat}(h:k≠a): unC a k=0:=by unfold unC;rw[if_neg (fun q=>h q.2)]
theorem Zjp(hp:RestOk p)(hq:RestOk q)(h:∀x,Z4 p x→Z4 q x): RIn p q:=by
 have e:∀x,p.1 ∣ x-p.2→q.1 ∣ x-q.2:=fun x hx=>(ZaU hq.nn x).mp (h x ((ZaU hp.nn x).mpr hx))
 have a1:q.1 ∣ p.2-q.2:=e p.2 (by simp)
 have a2:q.1 ∣ p.2+p.1-q.2:=e (p.2+p.1) (by rw[show p.2+p.1-p.2=p.1 by omega];exact Int.dvd_refl _)
 have c1:q.1 ∣ p.1:=by have:=Int.dvd_sub a2 a1;rwa [show p.2+p.1-q.2-(p.2-q.2)=p.1 by omega]at this
 unfold RIn
 split
 ·rename_i z
  rw[z,Int.zero_dvd]at a1 c1
  exact Prod.ext (by rw[c1,z]) (by omega)
 ·exact⟨Int.emod_eq_zero_of_dvd c1,Int.emod_eq_zero_of_dvd a1⟩
theorem ZsV(hR:∀t,t<n→RestOk (R t))(s:Sharp n G R G2 R2 M k): Zbl n G2 R2 G R:=by
 obtain⟨R1,h1,h2,h3,h4,rfl,h6⟩:=s.go
 refine⟨fun i hi j hj=>?_,fun t ht=>?_⟩
 ·refine ZbW (ZhG (n+1) i j) (ZbW (Zwt fun b e q=>h3 ⟨i,j,hi,hj,b,e,q⟩) (ZhG (n+1) i j))
 ·refine Zjp (h6 t ht).1.1 (hR t ht) fun x hx=>?_
  have a:=((h6 t ht).2 x).mp hx
  have b:=((h2 t ht).2 x).mp a.1
  exact b.1
theorem Zq9{a:Nat}{x:Nat→Int}(h1:1≤a): ∀n,ZX (unC a) x n=if a≤n then x (a-1)else 0
 | 0=>by rw[if_neg (by omega)];exact Zdu (by omega)
 | n+1=>by
  show ZX (unC a) x n+unC a (n+1)*x n=_
  rw[Zq9 h1 n]
  by_cases q:n+1=a
  ·subst q
   rw[Zfq h1,if_neg (by omega),if_pos (by omega),Nat.add_sub_cancel];omega
  ·rw[Zdu q,Int.zero_mul]
   by_cases g:a≤n
   ·rw[if_pos g,if_pos (by omega)];omega
   ·rw[if_neg g,if_neg (by omega)];rfl
def DueOk(m:Nat)(D:T): Prop:=D=.none∨∃G R,D=Zo m G R∧(∀i,i<m+1→G i i=some 0)∧∀t,t<m→RestOk (R t)
theorem DueOk.sh(h:DueOk m D): D=.none∨∃G R,D=Zo m G R:=by
 rcases h with rfl | ⟨G,R,rfl,_,_⟩
 ·exact .inl rfl
 ·exact .inr ⟨G,R,rfl⟩
theorem ZtT{K:Nat}(hM:0<M)(bM:Bd K M)(bG:BdG (n+1) k G)(hk:k+n+1≤K)(s:Sharp n G R G2 R2 M K): BdG (n+1) (K+n+2) G2∧∀t,t<n→RBd K (R2 t):=by
 obtain⟨R1,_,h1,_,_,rfl,h2⟩:=s.go
 refine⟨?_,fun t ht=>(h2 t ht).1.bd hM bM⟩
 have b1:BdG (n+1) K (ZW G (n+1)):=fun a b c ha hb e=>(ZdP bG (n+1) (Zz10 _) a b c ha hb e).mono (by omega)
 have b2:=Zmx hM bM b1 fun t ht=>(h1 t ht).1
 exact fun a b c ha hb e=>(ZdP b2 (n+1) (Zz10 _) a b c ha hb e).mono (by omega)
theorem ZwC: (oR o).flat=true:=by cases o <;> rfl
theorem ZxD{N:Nat}{ρ:Nat→Option (Int×Int)}: (tab N fun t=>if t=k then oR o else oR (ρ t))=tab N fun t=>oR (if t=k then o else ρ t):=ZaZ fun t _=>by
 by_cases c:t=k
 ·rw[if_pos c,if_pos c]
 ·rw[if_neg c,if_neg c]
theorem ZlB{a:Nat}{v:Option Int}(h:v=Γ a b): ZbT Γ a b v=Γ:=by
 funext i j
 by_cases c:i=a∧j=b
 ·obtain⟨rfl,rfl⟩:=c
  rw[Zl8,h]
 ·rw[Zl9 c]
theorem ZxE{b:Option Int}: ZaK none b=b:=by
 unfold ZaK
 by_cases c:leO none b
 ·rw[Zap c]
  cases b with
  | none=>rfl
  | some y=>exact absurd c Zhm
 ·rw[Zaq c];rfl
theorem ZwD{x:Int}(h:y<x): ZaK (some x) (some y)=some y:=by
 unfold ZaK
 rw[Zaq (by rw[leO_some];omega)]
 rfl
noncomputable def apC(c:Nat→Int)(i j:Nat): Nat→Int:=fun k=>unC i k-unC j k-c k
noncomputable def alC(c:Nat→Int)(i:Nat): Nat→Int:=fun k=>unC i k*c i-c k
theorem Zes: unC i k=0∨unC i k=1:=by unfold unC;split;exact .inr rfl;exact .inl rfl
theorem ZmR(hb:1≤b)(bc:∀i,i<n+1→Bd b (c i))(i j:Nat): ∀k,k<n+1→Bd (b+2) (apC c i j k):=fun k hk=>by
 have h:=bc k hk
 have h1:=Zes (i:=i) (k:=k)
 have h2:=Zes (i:=j) (k:=k)
 have h3:2≤2 ^ b:=by
  have:2 ^ 1≤2 ^ b:=Nat.pow_le_pow_right (by decide) hb
  exact this
 unfold Bd apC at *
 rw[Nat.pow_add]
 omega
theorem ZmS(bc:∀i,i<n+1→Bd b (c i))(i:Nat)(hi:i<n+1): ∀k,k<n+1→Bd (b+2) (alC c i k):=fun k hk=>by
 have h:=bc k hk
 have g:=bc i hi
 unfold alC
 rcases Zes (i:=i) (k:=k)with e | e
 ·rw[e,Int.zero_mul];unfold Bd at *;rw[Nat.pow_add];omega
 ·rw[e,Int.one_mul];unfold Bd at *;rw[Nat.pow_add];omega
theorem ZnC{d:Nat→Int}(hn:n≤60)(hb:b≤1000)(hb1:1≤b)(hG:GB b n G)(bc:∀i,i<n+1→Bd b (c i))(bd:∀i,i<n+1→Bd b (d i-c i)): Zgc [Zo n G R,ZB n d,ZB n c,.int top]=some (oT (Z7 (grt n G fun k=>d k-c k) (some top))):=by
 apply Pk.eq
 unfold Zgc Zgb
 walk_at "z"
 refine Zn (ZkG (by omega) hb1 (by omega) bc) ?_
 walk_at "z"
 refine Zn (ZkF hn (by omega) hb1 hG bd) ?_
 walk_at "z"
 exact Zn (ZeT (b:=some top)) rfl
theorem ZoN{N:Nat}{G':Nat→Nat→Option Int}(h:∀i j,i<N→j<N→G i j=G' i j): ZH N G=ZH N G':=by
 unfold ZH Zad
 rw[show(tab N fun i=>T.lst (tab N fun j=>oT (G i j)))=tab N fun i=>T.lst (tab N fun j=>oT (G' i j))from ZaZ fun i hi=>by rw[ZaZ fun j hj=>by rw[h i j hi hj]]]
noncomputable def Wv(w G:Nat→Nat→Option Int)(i j:Nat): Nat→Nat→Option Int:=fun a b=>if a<i∨(a=i∧b<j)then w a b else G a b
theorem Zmy: ZbT (Wv w G i j) i j (w i j)=Wv w G i (j+1):=by
 funext a b
 unfold ZbT Wv
 by_cases h:a=i∧b=j
 ·rw[if_pos h,if_pos (by omega),h.1,h.2]
 ·rw[if_neg h]
  by_cases q:a<i∨(a=i∧b<j)
  ·rw[if_pos q,if_pos (by omega)]
  ·rw[if_neg q,if_neg (by omega)]
theorem ZmT: Wv w G i j i j=G i j:=by unfold Wv;rw[if_neg (by omega)]
theorem Wv_row{N:Nat}: ZH N (Wv w G i N)=ZH N (Wv w G (i+1) 0):=ZoN fun a b ha hb=>by
 unfold Wv
 by_cases q:a<i∨(a=i∧b<N)
 ·rw[if_pos q,if_pos (by omega)]
 ·rw[if_neg q,if_neg (by omega)]
theorem Zrw: Wv w G 0 0=G:=by funext a b;unfold Wv;rw[if_neg (by omega)]
theorem Wv_all{N:Nat}: ZH N (Wv w G N 0)=ZH N w:=ZoN fun a b ha hb=>by unfold Wv;rw[if_pos (.inl ha)]
noncomputable def apW(n:Nat)(G:Nat→Nat→Option Int)(c:Nat→Int)(top:Int)(a b:Nat): Option Int:=if a=b then G a b else ZaK (G a b) (Z7 (grt n G (apC c a b)) (some top))
theorem Zr8(hn:n≤60)(hb:b≤900)(hb1:1≤b)(hG:GB b n G)(bc:∀i,i<n+1→Bd b (c i))(hd:∀i,i<n+1→G i i=some 0)(hc:∀y,grt n G (fun k=>-(c k))=some y→-y≤top): Zj9 [ZH (n+1) G,Zo n G R,ZB n c,.int top]=some (ZH (n+1) (apW n G c top)):=by
 apply Pk.eq
 unfold Zj9 Zj8
 refine Zl4 rfl ?_
 have ht:Zo n G R=.tup [ZH (n+1) G,.lst (tab n fun i=>ZD (R i))]:=rfl
 have bu:∀i k,k<n+1→Bd b (unC i k):=fun i k _=>by
  rcases Zes (i:=i) (k:=k)with e | e <;> rw[e]
  ·exact Zb5
  ·exact Zdc hb1
 have hw:∀i j,i<n+1→ZaK (G i j) (Z7 (grt n G (apC c i j)) (some top))=apW n G c top i j:=fun i j hi=>by
  unfold apW
  split
  ·rename_i e
   subst e
   rw[hd i hi]
   refine ZdF ?_
   have:apC c i i=fun k=>-(c k):=by funext k;unfold apC;omega
   rw[this]
   cases e:grt n G fun k=>-(c k)with
   | none=>exact ZcC
   | some y=>exact leO_some.mpr (by have:=hc y e;omega)
  ·rfl
 rw[ht]
 walk_at "z"
 rw[←ht]
 refine ZaO (n:=n+1) (a:=fun i=>.int i) (P:=fun i σ=>σ 0=some (ZH (n+1) (Wv (apW n G c top) G i 0))∧σ 1=some (Zo n G R)∧σ 2=some (ZB n c)∧σ 3=some (.int top)∧σ 4=some (.int n)) ?_ ⟨by rw[Zrw];rfl,rfl,rfl,rfl,rfl⟩ ?_ ?_
 ·walk_at "z"
  exact Zju (n+1) (by omega) (by omega) rfl
 ·rintro i σ hi ⟨e0,e1,e2,e3,e4⟩
  refine ZaO (n:=n+1) (a:=fun j=>.int j) (P:=fun j σ=>σ 0=some (ZH (n+1) (Wv (apW n G c top) G i j))∧σ 1=some (Zo n G R)∧σ 2=some (ZB n c)∧σ 3=some (.int top)∧σ 4=some (.int n)∧σ 5=some (.int i)) ?_ ⟨by walk_at "r",by walk_at "r",by walk_at "r",by walk_at "r",by walk_at "r",by walk_at "r"⟩ ?_ ?_
  ·walk_at "z"
   exact Zju (n+1) (by omega) (by omega) rfl
  ·rintro j σ hj ⟨e0,e1,e2,e3,e4,e5⟩
   walk_at "z"
   refine Zn (Zir (by omega)) ?_
   walk_at "z"
   refine Zn (Zir (by omega)) ?_
   walk_at "z"
   refine Zn (ZkG (b:=b) (by omega) hb1 (by omega) (bu j)) ?_
   refine Zht (t:=ZH (n+1) (Wv (apW n G c top) G i j)) (by walk_at "r") ?_
   walk_at "z"
   refine Zn (ZnC (b:=b+2) (d:=fun k=>unC i k-unC j k) hn (by omega) (by omega) (fun a b ha hb y e=>(hG a b ha hb y e).mono (by omega)) (fun k hk=>(bc k hk).mono (by omega)) (ZmR hb1 bc i j)) ?_
   walk_at "z"
   refine Zn (ZkE hi hj) ?_
   rw[ZmT,show(fun k=>unC i k-unC j k-c k)=apC c i j from rfl,hw i j hi,Zmy]
   exact⟨Zbr,by walk_at "r",by walk_at "r",by walk_at "r",by walk_at "r",by walk_at "r"⟩
  ·rintro σ ⟨e0,e1,e2,e3,e4,e5⟩
   exact⟨by rw[←Wv_row];exact e0,e1,e2,e3,e4⟩
 ·rintro σ ⟨e0,e1,e2,e3,e4⟩
  exact⟨_,e0,Wv_all⟩
theorem ZnD{k:Int}(hi:i≤9000)(hk0:k≠0)(hk:Bd i k): Zge [oT a,.int k]=some (oT (a.map fun x=>x.fdiv k)):=by
 apply Pk.eq
 unfold Zge Zgd
 cases a with
 | none=>
  simp only[ZaN]
  walk_at "z"
  rfl
 | some x=>
  rw[Zaa]
  walk_at "z"
  refine ZcG hk0 (Zc3 hk hi) ?_
  rfl
noncomputable def prt(n:Nat)(G:Nat→Nat→Option Int)(c:Nat→Int)(top:Int)(i:Nat): Option Int:=(Z7 (grt n G (alC c i)) (some top)).map fun y=>y.fdiv (if c i<0 then -(c i)else c i)
noncomputable def alW(n:Nat)(G:Nat→Nat→Option Int)(c:Nat→Int)(top:Int)(Γ:Nat→Nat→Option Int)(m:Nat): Nat→Nat→Option Int:=fun a b=>if b=0∧1≤a∧a≤m∧0<c a then ZaK (Γ a 0) (prt n G c top a)else if a=0∧1≤b∧b≤m∧c b<0 then ZaK (Γ 0 b) (prt n G c top b)else Γ a b
theorem Zrt: alW n G c top Γ 0=Γ:=by
 funext a b
 unfold alW
 rw[if_neg (by omega),if_neg (by omega)]
theorem Zmc(h:0<c (m+1)): ZbT (alW n G c top Γ m) (m+1) 0 (ZaK (alW n G c top Γ m (m+1) 0) (prt n G c top (m+1)))=alW n G c top Γ (m+1):=by
 have e:alW n G c top Γ m (m+1) 0=Γ (m+1) 0:=by unfold alW;rw[if_neg (by omega),if_neg (by omega)]
 rw[e]
 funext a b
 unfold ZbT alW
 by_cases q:a=m+1∧b=0
 ·obtain⟨rfl,rfl⟩:=q
  rw[if_pos ⟨rfl,rfl⟩,if_pos ⟨rfl,by omega,by omega,h⟩]
 ·have i1:(b=0∧1≤a∧a≤m+1∧0<c a)↔(b=0∧1≤a∧a≤m∧0<c a):=by omega
  have i2:(a=0∧1≤b∧b≤m+1∧c b<0)↔(a=0∧1≤b∧b≤m∧c b<0):=by
   by_cases g:b=m+1
   ·subst g;omega
   ·omega
  rw[if_neg q]
  simp only[i1,i2]
theorem Zmd(h:c (m+1)<0): ZbT (alW n G c top Γ m) 0 (m+1) (ZaK (alW n G c top Γ m 0 (m+1)) (prt n G c top (m+1)))=alW n G c top Γ (m+1):=by
 have e:alW n G c top Γ m 0 (m+1)=Γ 0 (m+1):=by unfold alW;rw[if_neg (by omega),if_neg (by omega)]
 rw[e]
 funext a b
 unfold ZbT alW
 by_cases q:a=0∧b=m+1
 ·obtain⟨rfl,rfl⟩:=q
  rw[if_pos ⟨rfl,rfl⟩,if_neg (by omega),if_pos ⟨rfl,by omega,by omega,h⟩]
 ·have i1:(b=0∧1≤a∧a≤m+1∧0<c a)↔(b=0∧1≤a∧a≤m∧0<c a):=by
   by_cases g:a=m+1
   ·subst g;omega
   ·omega
  have i2:(a=0∧1≤b∧b≤m+1∧c b<0)↔(a=0∧1≤b∧b≤m∧c b<0):=by omega
  rw[if_neg q]
  simp only[i1,i2]
theorem ZpL(h:c (m+1)=0): alW n G c top Γ m=alW n G c top Γ (m+1):=by
 funext a b
 unfold alW
 have i1:(b=0∧1≤a∧a≤m+1∧0<c a)↔(b=0∧1≤a∧a≤m∧0<c a):=by
  by_cases g:a=m+1
  ·subst g;omega
  ·omega
 have i2:(a=0∧1≤b∧b≤m+1∧c b<0)↔(a=0∧1≤b∧b≤m∧c b<0):=by
  by_cases g:b=m+1
  ·subst g;omega
  ·omega
 simp only[i1,i2]
theorem Zr9(hn:n≤60)(hb:b≤900)(hb1:1≤b)(hG:GB b n G)(bc:∀i,i<n+1→Bd b (c i)): Zkb [ZH (n+1) Γ,Zo n G R,ZB n c,.int top]=some (ZH (n+1) (alW n G c top Γ n)):=by
 apply Pk.eq
 unfold Zkb Zka
 refine Zl4 rfl ?_
 have ht:Zo n G R=.tup [ZH (n+1) G,.lst (tab n fun i=>ZD (R i))]:=rfl
 have bu:∀i k,k<n+1→Bd b (unC i k):=fun i k _=>by
  rcases Zes (i:=i) (k:=k)with e | e <;> rw[e]
  ·exact Zb5
  ·exact Zdc hb1
 rw[ht]
 walk_at "z"
 rw[←ht]
 refine ZaO (n:=n) (a:=fun i=>.int ((1+i:Nat):Int)) (P:=fun i σ=>σ 0=some (ZH (n+1) (alW n G c top Γ i))∧σ 1=some (Zo n G R)∧σ 2=some (ZB n c)∧σ 3=some (.int top)∧σ 4=some (.int n)) ?_ ⟨by rw[Zrt];rfl,rfl,rfl,rfl,rfl⟩ ?_ ?_
 ·refine Zfa (a:=1) (m:=n) (by omega) (by omega) ?_ rfl
  simp only[Zr,Zv,ZL,Zm,Ze,ZO,Option.bind_some,if_true,ZaJ]
  congr 3
  congr 1
  omega
 ·rintro i σ hi ⟨e0,e1,e2,e3,e4⟩
  have h1:1+i<n+1:=by omega
  have hs:ZB n c=.lst (tab (n+1) fun k=>.int (c k)):=rfl
  rw[hs]at e2
  walk_at "z"
  rw[←hs]at e2
  have ci:=bc (1+i) h1
  have hG2:GB (b+2) n G:=fun a b ha hb y e=>(hG a b ha hb y e).mono (by omega)
  have bc2:∀k,k<n+1→Bd (b+2) (c k):=fun k hk=>(bc k hk).mono (by omega)
  refine Zn (Zir (by omega)) ?_
  walk_at "z"
  refine Zn (ZdZ (b:=b) (by omega) (by omega) (bu (1+i)) ci) ?_
  walk_at "z"
  refine Zn (ZnC (b:=b+2) (d:=fun k=>unC (1+i) k*c (1+i)) hn (by omega) (by omega) hG2 bc2 (ZmS bc (1+i) h1)) ?_
  rw[show(fun k=>unC (1+i) k*c (1+i)-c k)=alC c (1+i)from rfl]
  have hp:∀k,k=(if c (1+i)<0 then -(c (1+i))else c (1+i))→(Z7 (grt n G (alC c (1+i))) (some top)).map (fun y=>y.fdiv k)=prt n G c top (1+i):=fun k e=>by unfold prt;rw[e]
  rw[Nat.add_comm 1 i]at *
  rcases Int.lt_trichotomy (c (i+1)) 0 with q | q | q
  ·have q':¬0<c (i+1):=by omega
   walk_at "z"
   refine Zht (t:=ZH (n+1) (alW n G c top Γ i)) (by walk_at "r") ?_
   walk_at "z"
   refine Zn (ZnD (i:=b) (by omega) (by omega) (show Bd b (-(c (i+1)))by unfold Bd at *;omega)) ?_
   walk_at "z"
   refine Zn (ZkE (a:=0) (by omega) h1) ?_
   rw[hp _ (by rw[if_pos q]),Zmd q]
   exact⟨Zbr,by walk_at "r",by walk_at "r",by walk_at "r",by walk_at "r"⟩
  ·have q':¬0<c (i+1):=by omega
   have q'':¬c (i+1)<0:=by omega
   walk_at "z"
   rw[←ZpL q]
   exact⟨by walk_at "r",by walk_at "r",by walk_at "r",by walk_at "r",by walk_at "r"⟩
  ·have q':¬c (i+1)<0:=by omega
   walk_at "z"
   refine Zht (t:=ZH (n+1) (alW n G c top Γ i)) (by walk_at "r") ?_
   walk_at "z"
   refine Zn (ZnD (i:=b) (by omega) (by omega) ci) ?_
   walk_at "z"
   refine Zn (ZkE (b:=0) h1 (by omega)) ?_
   rw[hp _ (by rw[if_neg q']),Zmc q]
   walk_at "z"
   exact⟨by walk_at "r",by walk_at "r",by walk_at "r",by walk_at "r",by walk_at "r"⟩
 ·rintro σ ⟨e0,e1,e2,e3,e4⟩
  exact⟨_,e0,rfl⟩
theorem Zig{k:Int}(hn:n≤60)(hi:i<n+1): Zin [ZB n c,.int i,.int k]=some (ZB n fun a=>c a+unC i a*k):=by
 apply Pk.eq
 unfold Zin Zim ZB
 by_cases h:(0:Int)<(i:Int)
 ·walk_at "z"
  show T.lst _=T.lst _
  congr 1
  refine ZaZ fun a _=>?_
  show _=T.int (c a+unC i a*k)
  by_cases q:a=i
  ·rw[if_pos q,q,Zfq (by omega),Int.one_mul]
  ·rw[if_neg q,Zdu q,Int.zero_mul,Int.add_zero]
 ·walk_at "z"
  show T.lst _=T.lst _
  congr 1
  refine ZaZ fun a _=>?_
  have:i=0:=by omega
  show T.int (c a)=T.int (c a+unC i a*k)
  rw[this,Zrs,Int.zero_mul,Int.add_zero]
theorem Zh1{b:Option Int}: Zh8 [oT a,oT b]=some (oT (ZaK a b)):=by
 apply Pk.eq
 unfold Zh8 Zh7
 cases a with
 | none=>
  simp only[ZaN]
  walk_at "z"
  rw[ZxE]
 | some x=>
  rw[Zaa]
  cases b with
  | none=>
   rw[ZaN]
   walk_at "z"
   rw[ZdF ZcC,Zaa]
  | some y=>
   rw[Zaa]
   walk_at "z"
   by_cases h:y<x
   ·rw[if_pos h,ZwD h,Zaa]
   ·rw[if_neg h,ZdF (leO_some.mpr (by omega)),Zaa]
noncomputable def amG(n:Nat)(G:Nat→Nat→Option Int)(c:Nat→Int)(top:Int): Nat→Nat→Option Int:=alW n G c top (apW n G c top) n
noncomputable def gT(N:Nat)(Γ:Nat→Nat→Option Int): T:=.lst (tab N fun a=>.lst (tab N fun b=>oT (Γ a b)))
theorem Zsa(hn:n≤60)(hb:b≤900)(hb1:1≤b)(hG:GB b n G)(bc:∀i,i<n+1→Bd b (c i))(hc:∀y,grt n G (fun k=>-(c k))=some y→-y≤top)(h:Zd0 [Zo n (amG n G c top) R]=some D): Zcx [Zo n G R,ZB n c,.int top]=some D:=by
 apply Pk.eq
 unfold Zcx ZeM
 have ht:Zo n G R=.tup [gT (n+1) G,.lst (tab n fun i=>ZD (R i))]:=rfl
 have hs:ZB n c=.lst (tab (n+1) fun k=>.int (c k)):=rfl
 have hG2:GB (b+2) n G:=fun a b ha hb y e=>(hG a b ha hb y e).mono (by omega)
 have cp:∀{σ:TL} {N:TL→Prop},σ 0=some (Zo n G R)→(∀t,t=gT (n+1) G→N (ZO σ 5 t))→Psk (ZaE 5 (ZaC (ZaT (Zm ZA (Ze 0) (Zv 0))) (Zag 102) Zas (pFl (ZT Zds (Zr (Ze 102) ZL)))) σ) (fun t=>t=D) N:=fun e k=>by
  rw[ht]at e
  unfold gT at e
  walk_at "z"
  refine ZbR (n:=n+1) (a:=fun a=>.lst (tab (n+1) fun b=>oT (G a b))) (b:=fun a=>.lst (tab (n+1) fun b=>oT (G a b))) (by omega) ?_ (fun a ha=>?_) ?_
  ·walk_at "z"
   rfl
  ·walk_at "z"
   rfl
  ·exact k _ rfl
 have hne:∀{Q:T→Prop},Q (.bool false)→Pk (qIs (Zo n G R) .none) Q:=fun h=>⟨_,by rw[ht];rfl,h⟩
 rw[hs]
 walk_at "z"
 refine hne ?_
 walk_at "z"
 refine ZbR (n:=n+1) (a:=fun k=>.int (c k)) (b:=fun k=>.int (-(c k))) (by omega) ?_ (fun k hk=>?_) ?_
 ·walk_at "z"
  rfl
 ·walk_at "z"
  rfl
 rw[show(T.lst (tab (n+1) fun k=>T.int (-(c k))))=ZB n (fun k=>-(c k))from rfl]
 walk_at "z"
 refine Zn (ZfQ (b:=b) hn (by omega) hG (Zfh bc)) ?_
 refine Zcs (fun σ'=>σ' 0=some (Zo n G R)∧σ' 1=some (.lst (tab (n+1) fun k=>.int (c k)))∧σ' 2=some (.int top)∧σ' 3=some (ZB n (fun k=>-(c k)))) ?_ ?_
 ·cases e:grt n G (fun k=>-(c k))with
  | none=>
   rw[ZaN]
   walk_at "z"
   exact⟨by walk_at "r",by walk_at "r",by walk_at "r",by walk_at "r"⟩
  | some y=>
   have hy:=hc y e
   have hy':¬-y>top:=by omega
   rw[Zaa]
   walk_at "z"
   exact⟨by walk_at "r",by walk_at "r",by walk_at "r",by walk_at "r"⟩
 rintro σ1 ⟨e0,e1,e2,e3⟩
 have hli:∀{a b:Option Int},Pk (Zh8 [oT a,oT b]) fun t=>t=oT (ZaK a b):=Zn Zh1 rfl
 refine ZcF ?_
 refine cp e0 fun t et=>?_
 subst et
 refine Zcs (fun σ'=>σ' 0=some (Zo n G R)∧σ' 1=some (.lst (tab (n+1) fun k=>.int (c k)))∧σ' 2=some (.int top)∧σ' 3=some (ZB n (fun k=>-(c k)))∧σ' 5=some (gT (n+1) (apW n G c top))) ?_ ?_
 ·refine ZaO (n:=n+1) (a:=fun i=>.int i) (P:=fun i σ'=>σ' 0=some (Zo n G R)∧σ' 1=some (.lst (tab (n+1) fun k=>.int (c k)))∧σ' 2=some (.int top)∧σ' 3=some (ZB n (fun k=>-(c k)))∧σ' 5=some (gT (n+1) (Wv (apW n G c top) G i 0))) ?_ ⟨by walk_at "r",by walk_at "r",by walk_at "r",by walk_at "r",by rw[Zrw];exact Zbr⟩ ?_ ?_
  ·unfold gT
   walk_at "z"
   rfl
  ·rintro i σ hi ⟨f0,f1,f2,f3,f5⟩
   refine ZaO (n:=n+1) (a:=fun j=>.int j) (P:=fun j σ'=>σ' 0=some (Zo n G R)∧σ' 1=some (.lst (tab (n+1) fun k=>.int (c k)))∧σ' 2=some (.int top)∧σ' 3=some (ZB n (fun k=>-(c k)))∧σ' 5=some (gT (n+1) (Wv (apW n G c top) G i j))∧σ' 6=some (.int i)) ?_ ⟨by walk_at "r",by walk_at "r",by walk_at "r",by walk_at "r",by walk_at "r",by walk_at "r"⟩ ?_ ?_
   ·unfold gT at f5
    walk_at "z"
    rfl
   ·rintro j σ hj ⟨g0,g1,g2,g3,g5,g6⟩
    have ea:(fun a=>-(c a)+unC i a*1+unC j a * -1)=apC c i j:=by funext a;unfold apC;omega
    have same:apW n G c top i j=G i j→Wv (apW n G c top) G i (j+1)=Wv (apW n G c top) G i j:=fun e=>by rw[←Zmy,ZlB (by rw[ZmT,e])]
    walk_at "z"
    refine Zn (Zig hn hi) ?_
    walk_at "z"
    refine Zn (Zig hn hj) ?_
    rw[ea]
    walk_at "z"
    refine Zn (ZfQ (b:=b+2) hn (by omega) hG2 (ZmR hb1 bc i j)) ?_
    by_cases q:(i:Int)=j
    ·have q2:i=j:=by omega
     walk_at "z"
     rw[same (by unfold apW;rw[if_pos q2])]
     exact⟨by walk_at "r",by walk_at "r",by walk_at "r",by walk_at "r",by walk_at "r",by walk_at "r"⟩
    ·have q2:¬i=j:=by omega
     cases e:grt n G (apC c i j)with
     | none=>
      rw[ZaN]
      walk_at "z"
      rw[same (by unfold apW;rw[if_neg q2,e];exact ZdF ZcC)]
      exact⟨by walk_at "r",by walk_at "r",by walk_at "r",by walk_at "r",by walk_at "r",by walk_at "r"⟩
     | some y=>
      rw[Zaa]
      unfold gT at g5
      walk_at "z"
      refine Zn (Zh1 (b:=some (y+top))) ?_
      refine⟨Zed,?_⟩
      walk_at "z"
      rw[ZlA (w:=oT (ZaK (Wv (apW n G c top) G i j i j) (some (y+top)))) (v:=apW n G c top i j) (by rw[ZmT];unfold apW;rw[if_neg q2,e];rfl),Zmy]
      exact⟨by walk_at "r",by walk_at "r",by walk_at "r",by walk_at "r",Zbr,by walk_at "r"⟩
   ·rintro σ ⟨g0,g1,g2,g3,g5,g6⟩
    exact⟨g0,g1,g2,g3,by rw[show gT (n+1) (Wv (apW n G c top) G (i+1) 0)=gT (n+1) (Wv (apW n G c top) G i (n+1))from Wv_row.symm];exact g5⟩
  ·rintro σ ⟨g0,g1,g2,g3,g5⟩
   exact⟨g0,g1,g2,g3,by rw[show gT (n+1) (apW n G c top)=gT (n+1) (Wv (apW n G c top) G (n+1) 0)from Wv_all.symm];exact g5⟩
 clear e0 e1 e2 e3
 rintro σ2 ⟨e0,e1,e2,e3,e5⟩
 refine Zcs (fun σ'=>σ' 0=some (Zo n G R)∧σ' 5=some (gT (n+1) (amG n G c top))) ?_ ?_
 ·refine ZaO (n:=n) (a:=fun i=>.int ((1+i:Nat):Int)) (P:=fun i σ'=>σ' 0=some (Zo n G R)∧σ' 1=some (.lst (tab (n+1) fun k=>.int (c k)))∧σ' 2=some (.int top)∧σ' 3=some (ZB n (fun k=>-(c k)))∧σ' 5=some (gT (n+1) (alW n G c top (apW n G c top) i))) ?_ ⟨by walk_at "r",by walk_at "r",by walk_at "r",by walk_at "r",by rw[Zrt];exact e5⟩ ?_ ?_
  ·refine Zfa (a:=1) (m:=n) (by omega) (by omega) ?_ rfl
   simp only[Zr,Zv,ZL,Ze,ZT,e5,gT,Za1,Zai,Option.bind_some]
   congr 3
   congr 1
   omega
  ·rintro i σ hi ⟨g0,g1,g2,g3,g5⟩
   have h1:1+i<n+1:=by omega
   have ci:=bc (1+i) h1
   have ea:(fun a=>-(c a)+unC (1+i) a*c (1+i))=alC c (1+i):=by funext a;unfold alC;omega
   walk_at "z"
   refine Zn (Zig hn h1) ?_
   rw[ea]
   walk_at "z"
   refine Zn (ZfQ (b:=b+2) hn (by omega) hG2 (ZmS bc (1+i) h1)) ?_
   rw[Nat.add_comm 1 i]at *
   have no:grt n G (alC c (i+1))=none→c (i+1)≠0→alW n G c top (apW n G c top) (i+1)=alW n G c top (apW n G c top) i:=fun e q=>by
    have ep:prt n G c top (i+1)=none:=by unfold prt;rw[e];rfl
    rcases Int.lt_trichotomy (c (i+1)) 0 with w | w | w
    ·rw[←Zmd w,ep,ZlB (ZdF ZcC)]
    ·exact absurd w q
    ·rw[←Zmc w,ep,ZlB (ZdF ZcC)]
   rcases Int.lt_trichotomy (c (i+1)) 0 with q | q | q
   ·have q':¬0<c (i+1):=by omega
    cases e:grt n G (alC c (i+1))with
    | none=>
     rw[ZaN]
     walk_at "z"
     rw[no e (by omega)]
     exact⟨by walk_at "r",by walk_at "r",by walk_at "r",by walk_at "r",by walk_at "r"⟩
    | some y=>
     rw[Zaa]
     unfold gT at g5
     walk_at "z"
     refine ZcG (by omega) (Zc3 (i:=b) (show Bd b _ by unfold Bd at *;omega) (by omega)) ?_
     walk_at "z"
     have ep:prt n G c top (i+1)=some ((y+top).fdiv (if c (i+1)<0 then -(c (i+1))else c (i+1))):=by unfold prt;rw[e];rfl
     refine Zn (Zh1 (b:=some _)) ?_
     refine⟨Zed,?_⟩
     walk_at "z"
     rw[←ep,show Int.toNat 0=0 from rfl]
     refine Zqo (n:=n+1) (m:=n+1) (i:=0) (j:=i+1) (f:=fun a b=>oT (alW n G c top (apW n G c top) i a b)) (by walk_at "r") rfl (by omega) (by omega) (by omega) ?_
     rw[ZlA (v:=ZaK (alW n G c top (apW n G c top) i 0 (i+1)) (prt n G c top (i+1))) rfl,Zmd q]
     exact⟨by walk_at "r",by walk_at "r",by walk_at "r",by walk_at "r",Zbr⟩
   ·have q':¬0<c (i+1):=by omega
    have q'':¬c (i+1)<0:=by omega
    walk_at "z"
    rw[←ZpL q]
    exact⟨by walk_at "r",by walk_at "r",by walk_at "r",by walk_at "r",by walk_at "r"⟩
   ·have q':¬c (i+1)<0:=by omega
    cases e:grt n G (alC c (i+1))with
    | none=>
     rw[ZaN]
     walk_at "z"
     rw[no e (by omega)]
     exact⟨by walk_at "r",by walk_at "r",by walk_at "r",by walk_at "r",by walk_at "r"⟩
    | some y=>
     rw[Zaa]
     unfold gT at g5
     walk_at "z"
     refine ZcG (by omega) (Zc3 (i:=b) ci (by omega)) ?_
     walk_at "z"
     have ep:prt n G c top (i+1)=some ((y+top).fdiv (c (i+1))):=by unfold prt;rw[e,if_neg q'];rfl
     refine Zn (Zh1 (b:=some _)) ?_
     refine⟨Zed,?_⟩
     walk_at "z"
     rw[←ep,show Int.toNat 0=0 from rfl]
     refine Zqo (n:=n+1) (m:=n+1) (i:=i+1) (j:=0) (f:=fun a b=>oT (alW n G c top (apW n G c top) i a b)) (by walk_at "r") (by omega) rfl (by omega) (by omega) ?_
     rw[ZlA (v:=ZaK (alW n G c top (apW n G c top) i (i+1) 0) (prt n G c top (i+1))) rfl,Zmc q]
     rw[show(T.lst (tab (n+1) fun a=>T.lst (tab (n+1) fun b=>oT (alW n G c top (apW n G c top) (i+1) a b))))=gT (n+1) (alW n G c top (apW n G c top) (i+1))from rfl]
     walk_at "z"
     exact⟨by walk_at "r",by walk_at "r",by walk_at "r",by walk_at "r",by walk_at "r"⟩
  ·rintro σ ⟨g0,g1,g2,g3,g5⟩
   exact⟨g0,g5⟩
 rintro σ3 ⟨f0,f5⟩
 rw[ht]at f0
 walk_at "z"
 exact Zn h rfl
theorem Zme{b:Option Int}(ha:∀y,a=some y→Bd k y)(hb:∀y,b=some y→Bd k y): ∀y,ZaK a b=some y→Bd k y:=fun y e=>by
 rcases Zef a b with q | q
 ·exact ha y (q▸e)
 ·exact hb y (q▸e)
theorem Zvn{x k:Int}(hk:0<k): (x.fdiv k).natAbs≤x.natAbs:=by
 rw[Int.fdiv_eq_ediv_of_nonneg x (by omega)]
 have e1:x / k*k≤x:=Int.ediv_mul_le x (by omega)
 have e2:x<(x / k+1)*k:=Int.lt_ediv_add_one_mul_self x hk
 generalize x / k=q at *
 rcases Int.lt_trichotomy q 0 with h | h | h
 ·-- q≤-1,x<(q+1) k≤q+1
  have:(q+1)*k≤q+1:=by
   have:=Int.mul_le_mul_of_nonpos_left (a:=q+1) (b:=k) (c:=1) (by omega) (by omega)
   simpa using this
  omega
 ·omega
 ·have:q*1≤q*k:=Int.mul_le_mul_of_nonneg_left (by omega) (by omega)
  omega
theorem ZwE{x k:Int}(h:Bd i x)(hk:0<k): Bd i (x.fdiv k):=Nat.lt_of_le_of_lt (Zvn hk) h
theorem Zyf{B:Nat}(hb1:1≤b)(hG:GB b n G)(bc:∀i,i<n+1→Bd b (c i))(bt:Bd b top)(hB:b+b+n+6≤B): SmG B n (amG n G c top):=by
 have hG2:GB (b+2) n G:=fun a b ha hb y e=>(hG a b ha hb y e).mono (by omega)
 have s1:∀{d:Nat→Int},(∀k,k<n+1→Bd (b+2) (d k))→∀y,Z7 (grt n G d) (some top)=some y→Bd B y:=fun bd y e=>by
  obtain⟨p,q,h1,h2,rfl⟩:=addO_some.mp e
  cases h2
  exact((Zqw hG2 bd p h1).add (bt.mono (by omega))).mono (by omega)
 have sG:∀i j,i<n+1→j<n+1→∀y,G i j=some y→Bd B y:=fun i j hi hj y e=>(hG i j hi hj y e).mono (by omega)
 have sA:∀i j,i<n+1→j<n+1→∀y,apW n G c top i j=some y→Bd B y:=fun i j hi hj y e=>by
  unfold apW at e
  split at e
  ·exact sG i j hi hj y e
  ·exact Zme (sG i j hi hj) (s1 (ZmR hb1 bc i j)) y e
 have sP:∀i,i<n+1→c i≠0→∀y,prt n G c top i=some y→Bd B y:=fun i hi h0 y e=>by
  unfold prt at e
  obtain⟨z,h1,rfl⟩:=Zz1.mp e
  exact ZwE (s1 (ZmS bc i hi) z h1) (by split <;> omega)
 intro i j hi hj y e
 show Bd B y
 unfold amG alW at e
 split at e
 ·rename_i q
  exact Zme (sA i 0 hi (by omega)) (sP i hi (by omega)) y e
 ·split at e
  ·rename_i q
   exact Zme (sA 0 j (by omega) hj) (sP j hj (by omega)) y e
  ·exact sA i j hi hj y e
theorem Zym(hd:∀i,i<n+1→G i i=some 0): ∀i,i<n+1→amG n G c top i i=some 0:=fun i hi=>by
 unfold amG alW
 rw[if_neg (by omega),if_neg (by omega)]
 unfold apW
 rw[if_pos rfl,hd i hi]
theorem ZmU(i j:Nat): leO (apW n G c top i j) (G i j):=by
 unfold apW
 split
 ·exact ZbQ
 ·exact Zfp
theorem Zyg(i j:Nat): leO (amG n G c top i j) (G i j):=by
 unfold amG alW
 split
 ·rename_i q
  rw[q.1]
  exact ZbW Zfp (ZmU i 0)
 ·split
  ·rename_i q
   rw[q.1]
   exact ZbW Zfp (ZmU 0 j)
  ·exact ZmU i j
theorem Zeh: ∀i,i<n+1→ZX (unC i) x n=Zaf x i
 | 0,_=>by rw[Zrs,ZpK];rfl
 | i+1,hi=>by rw[Zq9 (by omega),if_pos (by omega)];rfl
theorem ZiA{u x:Nat→Int}{k:Int}: ∀n,ZX (fun a=>u a*k) x n=ZX u x n*k
 | 0=>rfl
 | n+1=>by
  show ZX (fun a=>u a*k) x n+u (n+1)*k*x n=(ZX u x n+u (n+1)*x n)*k
  rw[ZiA n,Int.add_mul,Int.mul_assoc,Int.mul_comm k,←Int.mul_assoc]
theorem ZlC{b:Option Int}{x:Int}(h:ZaK a b=some y)(ha:∀z,a=some z→x≤z)(hb:∀z,b=some z→x≤z): x≤y:=by
 rcases Zef a b with q | q
 ·exact ha y (q▸h)
 ·exact hb y (q▸h)
theorem Zqx(h:Zal n G R x)(ht:ZX c x n≤top): Zal n (amG n G c top) R x:=by
 have f1:∀i j,i<n+1→j<n+1→∀y,apW n G c top i j=some y→Zaf x i-Zaf x j≤y:=fun i j hi hj y e=>by
  unfold apW at e
  split at e
  ·exact h.1 i j hi hj y e
  ·refine ZlC e (h.1 i j hi hj) fun z ez=>?_
   obtain⟨p,q,h1,h2,rfl⟩:=addO_some.mp ez
   cases h2
   have:=Zjo h h1
   rw[show apC c i j=fun k=>(fun a=>unC i a-unC j a) k-c k from rfl,ZdG,ZdG,Zeh i hi,Zeh j hj]at this
   omega
 have f2:∀i,i<n+1→∀z,Z7 (grt n G (alC c i)) (some top)=some z→Zaf x i*c i≤z:=fun i hi z ez=>by
  obtain⟨p,q,h1,h2,rfl⟩:=addO_some.mp ez
  cases h2
  have:=Zjo h h1
  rw[show alC c i=fun k=>(fun a=>unC i a*c i) k-c k from rfl,ZdG,ZiA,Zeh i hi]at this
  omega
 refine⟨fun i j hi hj y e=>?_,h.2⟩
 unfold amG alW at e
 split at e
 ·rename_i q
  obtain⟨rfl,q1,q2,q3⟩:=q
  refine ZlC e (f1 i 0 hi hj) fun z ez=>?_
  unfold prt at ez
  obtain⟨p,h1,rfl⟩:=Zz1.mp ez
  have:=f2 i hi p h1
  rw[if_neg (by omega),show Zaf x 0=0 from rfl,Int.sub_zero]
  exact by rw[Int.fdiv_eq_ediv_of_nonneg _ (by omega)];exact(Int.le_ediv_iff_mul_le q3).mpr this
 ·split at e
  ·rename_i q
   obtain⟨rfl,q1,q2,q3⟩:=q
   refine ZlC e (f1 0 j hi hj) fun z ez=>?_
   unfold prt at ez
   obtain⟨p,h1,rfl⟩:=Zz1.mp ez
   have:=f2 j hj p h1
   rw[if_pos q3,show Zaf x 0=0 from rfl,Int.zero_sub]
   rw[Int.fdiv_eq_ediv_of_nonneg _ (by omega)];refine(Int.le_ediv_iff_mul_le (by omega)).mpr ?_
   rw[Int.neg_mul_neg]
   exact this
  ·exact f1 i j hi hj y e
theorem ZwF(hn:n≤100): Dp 8 (ZH (n+1) G):=by
 refine .lst (fun t m=>?_) (by rw[Zai];omega)
 obtain⟨i,hi,rfl⟩:=Zci m
 refine .lst (fun t m=>?_) (by rw[Zai];omega)
 obtain⟨j,hj,rfl⟩:=Zci m
 exact Zrq
theorem ZsW{c t:T}: Zcy [.none,c,t]=some .none:=by
 apply Pk.eq
 unfold Zcy Zea
 walk_at "z"
 rfl
theorem ZrF{c t:T}: Zcx [.none,c,t]=some .none:=by
 apply Pk.eq
 unfold Zcx ZeM
 walk_at "z"
 rfl
theorem ZpM(hn:n≤60)(hb:b≤900)(hb1:1≤b)(hG:GB b n G)(bc:∀i,i<n+1→Bd b (c i)): ZiX [Zo n G R,ZB n c]=some (oT ((grt n G fun i=>-(c i)).map fun y=>y * -1)):=Zvm hn (by omega) hb1 hG bc fun y e=>(Zqw hG (Zfh bc) y e).mono (by omega)
theorem ZtU(hn:n≤60)(hb:b≤900)(hb1:1≤b)(hG:GB b n G)(bc:∀i,i<n+1→Bd b (c i))(hd:∀i,i<n+1→G i i=some 0)(hc:∀y,grt n G (fun k=>-(c k))=some y→-y≤top)(h:Zee [Zo n (amG n G c top) R]=some D): Zcy [Zo n G R,ZB n c,.int top]=some D:=by
 apply Pk.eq
 unfold Zcy Zea
 have ht:Zo n G R=.tup [ZH (n+1) G,.lst (tab n fun i=>ZD (R i))]:=rfl
 have hne:∀{Q:T→Prop},Q (.bool false)→Pk (qIs (Zo n G R) .none) Q:=fun h=>⟨_,by rw[ht];rfl,h⟩
 have hx:ZgR [oT ((grt n G fun i=>-(c i)).map fun y=>y * -1),.int top]=some (.bool false):=by
  rw[show T.int top=oT (some top)from rfl,ZoJ,Zaq]
  rintro⟨x,y,h1,h2,h3⟩
  cases h2
  obtain⟨z,e1,rfl⟩:=Zz1.mp h1
  have:=hc z e1
  omega
 have hg:∀{Q:T→Prop},Q (ZH (n+1) G)→Pk (ZA (Zo n G R) (.int 0)) Q:=fun h=>⟨_,by rw[ht];rfl,h⟩
 walk_at "z"
 refine hne ?_
 walk_at "z"
 refine Zn (ZpM hn hb hb1 hG bc) ?_
 walk_at "z"
 refine Zn hx ?_
 walk_at "z"
 refine hg ?_
 walk_at "z"
 refine Zn (ZiI (ZwF (by omega))) ?_
 walk_at "z"
 refine Zht (t:=ZH (n+1) G) (by walk_at "r") ?_
 walk_at "z"
 refine Zn (Zr8 hn hb hb1 hG bc hd hc) ?_
 walk_at "z"
 refine Zht (t:=ZH (n+1) (apW n G c top)) (by walk_at "r") ?_
 walk_at "z"
 refine Zn (Zr9 hn hb hb1 hG bc) ?_
 rw[ht]
 walk_at "z"
 exact Zn h rfl
theorem Ztg(hn:n≤60)(hb:b≤900)(hb1:1≤b)(hG:GB b n G)(bc:∀i,i<n+1→Bd b (c i))(e:grt n G (fun k=>-(c k))=some y)(hy:top < -y): Zcy [Zo n G R,ZB n c,.int top]=some .none∧Zcx [Zo n G R,ZB n c,.int top]=some .none:=by
 have ht:Zo n G R=.tup [ZH (n+1) G,.lst (tab n fun i=>ZD (R i))]:=rfl
 have hne:∀{Q:T→Prop},Q (.bool false)→Pk (qIs (Zo n G R) .none) Q:=fun h=>⟨_,by rw[ht];rfl,h⟩
 have hx:ZgR [oT ((grt n G fun i=>-(c i)).map fun y=>y * -1),.int top]=some (.bool true):=by
  rw[show T.int top=oT (some top)from rfl,ZoJ,Zap]
  exact⟨y * -1,top,by rw[e];rfl,rfl,by omega⟩
 constructor
 ·apply Pk.eq
  unfold Zcy Zea
  walk_at "z"
  refine hne ?_
  walk_at "z"
  refine Zn (ZpM hn hb hb1 hG bc) ?_
  walk_at "z"
  refine Zn hx ?_
  walk_at "z"
  rfl
 ·apply Pk.eq
  unfold Zcx ZeM
  have hs:ZB n c=.lst (tab (n+1) fun k=>.int (c k)):=rfl
  rw[hs]
  walk_at "z"
  refine hne ?_
  walk_at "z"
  refine ZbR (n:=n+1) (a:=fun k=>.int (c k)) (b:=fun k=>.int (-(c k))) (by omega) ?_ (fun k hk=>?_) ?_
  ·walk_at "z"
   rfl
  ·walk_at "z"
   rfl
  rw[show(T.lst (tab (n+1) fun k=>T.int (-(c k))))=ZB n (fun k=>-(c k))from rfl]
  walk_at "z"
  refine Zn (ZfQ (b:=b) hn (by omega) hG (Zfh bc)) ?_
  have hy':-y>top:=hy
  rw[e,Zaa]
  walk_at "z"
  rfl
theorem Zra{n b:Nat}{c x:Nat→Int}(bc:∀i,i<n+1→Bd b (c i))(bx:∀i,i<n→Bd b (x i)): ∀j,j≤n→Bd (b+b+j) (ZX c x j)
 | 0,_=>(bc 0 (by omega)).mono (by omega)
 | j+1,hj=>by
  have h1:=Zra bc bx j (by omega)
  have h2:=((bc (j+1) (by omega)).mul (bx j (by omega))).mono (show b+b≤b+b+j by omega)
  exact h1.add h2
noncomputable def Zb6(c:Nat→Int)(top:Int): Nat→Int:=fun k=>if k=0 then c 0-top else c k
theorem ZxF(bc:∀i,i<n+1→Bd b (c i))(bt:Bd b top): ∀i,i<n+1→Bd (b+1) (Zb6 c top i):=fun i hi=>by
 unfold Zb6
 split
 ·exact(bc 0 (by omega)).sub bt
 ·exact(bc i hi).mono (by omega)
theorem su: PyData.strOk (Str.ofString "under")=true:=by decide +kernel
noncomputable def unT(n:Nat)(c:Nat→Int): T:=.tup [.str (Str.ofString "under"),ZB n c]
theorem ZlD: (fun k=>c k * -1)=fun k=>-(c k):=by funext k;omega
theorem Zsb(h:Zcy [T0,ZB n c,.int (-1)]=some D): ZeP [T0,ZB n c,.bool true]=some D:=by
 apply Pk.eq
 unfold ZeP ZeO
 walk_at "z"
 exact Zn h rfl
theorem Zsw(hn:n≤900)(hb1:1≤b)(hb:b≤1000)(bc:∀i,i<n+1→Bd b (c i))(h:Zcy [T0,ZB n fun k=>-(c k),.int 0]=some D): ZeP [T0,ZB n c,.bool false]=some D:=by
 apply Pk.eq
 unfold ZeP ZeO
 walk_at "z"
 refine Zn (ZdZ (b:=b) (by omega) (by omega) bc (show Bd b (-1)by unfold Bd;have:=Zdc hb1;unfold Bd at this;simpa using this)) ?_
 rw[ZlD]
 walk_at "z"
 exact Zn h rfl
theorem Zqy{b:Bool}(hT:T0=.none∨∃G R,T0=Zo n G R)(h0:T0=.none→D=.none)(h:ZeP [T0,ZB n c,.bool b]=some D): Zcl [T0,unT n c,.bool b]=some D:=by
 apply Pk.eq
 unfold Zcl Zeq
 rcases hT with rfl | ⟨G,R,rfl⟩
 ·rw[h0 rfl]
  walk_at "z"
  rfl
 ·have ht:Zo n G R=.tup [ZH (n+1) G,.lst (tab n fun i=>ZD (R i))]:=rfl
  have hne:∀{Q:T→Prop},Q (.bool false)→Pk (qIs (Zo n G R) .none) Q:=fun h=>⟨_,by rw[ht];rfl,h⟩
  unfold unT
  walk_at "z"
  refine hne ?_
  walk_at "z"
  refine Zbb (n:=1) (m:=1) (.str su) (.str su) ?_
  rw[Zap rfl]
  walk_at "z"
  exact Zn h rfl
def Tm(n K:Nat)(M:Int)(P:(Nat→Int)→Prop)(I:(Nat→Nat→Option Int)→(Nat→Int×Int)→Prop)(D:T): Prop:=(D=.none∧∀x,¬P x)∨∃G R,D=Zo n G R∧(∀i,i<n+1→G i i=some 0)∧(∀t,t<n→RB M K (R t))∧GB K n G∧(∀x,P x→Zal n G R x)∧I G R
theorem Zqz(hn:n≤20)(hk:k+2*n+4≤7000)(hM:0<M)(bM:Bd k M)(hd:∀i,i<n+1→G i i=some 0)(bG:GB k n G)(hR:∀t,t<n→RB M k (R t)): ∃D,Zee [Zo n G R]=some D∧Zd0 [Zo n G R]=some D∧Tm n (k+3*n+7) M (Zal n G R) (fun G2 R2=>Zbl n G2 R2 G R) D:=by
 have bG2:BdG (n+1) k G:=fun a b c ha hb e=>bG a b ha hb c e
 obtain⟨D,et,hD⟩:=Zvi (k:=k) (by omega) (by omega) hM bM hd bG2 hR
 obtain⟨u,eu,hu⟩:=ZsS (k:=k) (by omega) (by omega) hM bM hd bG2 hR
 have:=ZtQ hD hu
 subst this
 refine⟨D,et,eu,?_⟩
 rcases hD with⟨G2,R2,rfl,s⟩ | ⟨rfl,f⟩
 ·obtain⟨z1,z2⟩:=ZtT hM (bM.mono (by omega)) bG2 (by omega) s
  obtain⟨_,_,_,_,_,_,h6⟩:=s.go
  exact .inr ⟨G2,R2,rfl,(ZtS hd s).1,fun t ht=>(h6 t ht).1.mono (by omega),fun i j hi hj b e=>(z1 i j b hi hj e).mono (by omega),fun x li=>ZtK li s,ZsV (fun t ht=>(hR t ht).1) s⟩
 ·exact .inl ⟨rfl,fun x li=>absurd f (Zte li)⟩
theorem Zg2(hn:n≤20)(hb1:1≤b)(hb:b≤900)(hB:b+b+n+6≤k)(hk:k+2*n+4≤7000)(hM:0<M)(bM:Bd k M)(hd:∀i,i<n+1→G i i=some 0)(bG:GB b n G)(hR:∀t,t<n→RB M k (R t))(bc:∀i,i<n+1→Bd b (c i))(bt:Bd b top): ∃D,Zcy [Zo n G R,ZB n c,.int top]=some D∧Zcx [Zo n G R,ZB n c,.int top]=some D∧Tm n (k+3*n+7) M (fun x=>Zal n G R x∧ZX c x n≤top) (fun G2 R2=>Zbl n G2 R2 (amG n G c top) R∧∀y,grt n G (fun k=>-(c k))=some y→-y≤top) D:=by
 by_cases hc:∀y,grt n G (fun k=>-(c k))=some y→-y≤top
 ·obtain⟨D,e1,e2,hD⟩:=Zqz (k:=k) hn hk hM bM (Zym (c:=c) (top:=top) hd) (Zyf hb1 bG bc bt hB) hR
  refine⟨D,ZtU (by omega) hb hb1 bG bc hd hc e1,Zsa (by omega) hb hb1 bG bc hc e2,?_⟩
  rcases hD with⟨rfl,no⟩ | ⟨G2,R2,rfl,h1,h2,h3,h4,h5⟩
  ·exact .inl ⟨rfl,fun x h=>no x (Zqx h.1 h.2)⟩
  ·exact .inr ⟨G2,R2,rfl,h1,h2,h3,fun x h=>h4 x (Zqx h.1 h.2),h5,hc⟩
 ·have:∃y,grt n G (fun k=>-(c k))=some y∧top < -y:=by
   refine Classical.byContradiction fun q=>hc fun y e=>?_
   refine Classical.byContradiction fun z=>q ⟨y,e,by omega⟩
  obtain⟨y,e,hy⟩:=this
  obtain⟨a1,a2⟩:=Ztg (R:=R) (b:=b) (by omega) hb hb1 bG bc e hy
  refine⟨.none,a1,a2,.inl ⟨rfl,fun x h=>?_⟩⟩
  have:=Zjo h.1 e
  rw[Zc1]at this
  omega
theorem Zgf(hn:n≤100)(hi:1≤i)(hi2:i≤9000)(bc:∀j,j<n+1→Bd i (c j))(bR:∀j,j<n→RBd i (R j))(ok:∀j,j<n→RestOk (R j)): ZkT [ZB n c,.lst (tab n fun j=>ZD (R j))]=some (ZD (ZaA c R n)):=by
 apply Pk.eq
 unfold ZkT ZgF ZB
 walk_at "z"
 refine ZiV (n:=n) (a:=fun j=>.int (c (j+1))) (c:=fun j=>ZD (R j)) (P:=fun j σ=>σ 2=some (ZD (ZaA c R j))) ?_ rfl ?_ ?_
 ·refine Zmq ?_
  refine Zix ?_
  walk_at "z"
  refine⟨_,rfl,?_⟩
  rw[ZiG]
  walk_at "z"
  rfl
 ·rintro j σ hj e2
  have hr:=(ok j hj).nn
  have bt:Bd (i+i) (Zcc (R j) (c (j+1))).1:=by
   unfold Zcc
   rw[Zdl]
   exact(bR j hj).1.mul (Zqf (bc (j+1) (by omega)))
  have bv:Bd (i+i) (ZaA c R j).1:=by
   rw[ZcE ok j (by omega),Zdl]
   exact Zi0 bc bR j (by omega)
  walk_at "z"
  refine Zn (Zkd (k:=i) (by omega) hr (bR j hj) (bc (j+1) (by omega))) ?_
  walk_at "z"
  refine Zn (Zkn (k:=i+i) (by omega) bv bt) ?_
  walk_at "z"
  exact Zbr
 ·rintro σ e2
  walk_at "z"
  rfl
theorem ZjL(hn:n≤100)(hb:b≤9000)(bc:∀j,j<n+1→Bd b (c j))(bR:∀j,j<n→RBd b (R j))(ok:∀j,j<n→RestOk (R j)): ZjX [ZB n c,.lst (tab n fun j=>ZD (R j))]=some (ZD (ZaA c R n)):=by
 apply Pk.eq
 unfold ZjX ZhW ZB
 rw[ZcE ok n (Zz10 n)]
 walk_at "z"
 refine ZaO (n:=n) (a:=fun i=>.int i) (P:=fun j σ=>σ 0=some (.lst (tab (n+1) fun i=>.int (c i)))∧σ 1=some (.lst (tab n fun j=>ZD (R j)))∧σ 2=some (.int (Zba c R j))∧σ 3=some (.int (Zbw c R j))) ?_ ⟨by walk_at "r",by walk_at "r",by walk_at "r",by walk_at "r"⟩ ?_ ?_
 ·walk_at "z"
  rfl
 ·rintro j σ hj ⟨e0,e1,e2,e3⟩
  have bj:=bR j hj
  have cj:=bc (j+1) (by omega)
  have h1:j+1<n+1:=by omega
  have e1':ZO (ZO (ZO σ 4 (.int (j:Nat))) 2 (.int (Zba c R (j+1)))) 3 (.int (Zbw c R (j+1))) 1=some (.lst (tab n fun j=>ZD (R j))):=e1
  unfold ZD at e1
  have e':((j:Int)+1).toNat=j+1:=by omega
  walk_at "z"
  rw[e']
  refine Zbk (Zbz cj bj.1 (by omega) (by omega)) ?_
  walk_at "z"
  refine Zn (Zk2 ((Zi0 bc bR j (by omega)).mono (by omega)) ((cj.mul bj.1).mono (by omega))) ?_
  walk_at "z"
  rw[e']
  refine Zbk (Zbz cj bj.2 (by omega) (by omega)) ?_
  walk_at "z"
  exact⟨by walk_at "r",e1',by walk_at "r",by walk_at "r"⟩
 ·rintro σ ⟨e0,e1,e2,e3⟩
  walk_at "z"
  exact Zn ZeX rfl
noncomputable def Zat(c:Nat→Int)(i:Nat): Nat→Int:=fun k=>c k-unC i k*c i
theorem ZxG(bc:∀i,i<n+1→Bd b (c i))(i:Nat)(hi:i<n+1): ∀k,k<n+1→Bd (b+1) (Zat c i k):=fun k hk=>by
 have h1:=bc k hk
 have h2:=bc i hi
 have h3:Bd b (unC i k*c i):=by
  rcases Zes (i:=i) (k:=k)with e | e <;> rw[e]
  ·rw[Int.zero_mul];exact Zb5
  ·rw[Int.one_mul];exact h2
 exact h1.sub h3
noncomputable def Zdy(p:Int×Int)(d:Int): Int×Int:=Zay (Int.gcd p.1 d) p.2
theorem Zm6(hk:k≤200000)(hp:Bd k p.1)(hd:Bd k d): ZjQ [ZD p,.int d]=some (ZD (Zdy p d)):=by
 apply Pk.eq
 unfold ZjQ ZfK ZD Zdy
 walk_at "z"
 refine Zn (Zk4 (Zby hp hk) (Zby hd hk)) ?_
 walk_at "z"
 exact Zn (Zh9 (by omega)) rfl
noncomputable def ZcO(n:Nat)(R:Nat→Int×Int)(c:Nat→Int)(d:Int)(i:Nat): Int×Int:=Zay (Int.gcd (ZaA (Zat c i) R n).1 d) (-(c i)*(ZaA (Zat c i) R n).2)
theorem ZxH(ok:∀t,t<n→RestOk (R t))(h1:c i=1∨c i = -1): Zdy (Zcc (ZaA (Zat c i) R n) (-(c i))) d=ZcO n R c d i:=by
 have hr:RestOk (ZaA (Zat c i) R n):=by rw[ZcE ok n (Zz10 n)];exact ZbV (Zdp _ _ _) _
 generalize hp:ZaA (Zat c i) R n=p at *
 unfold Zdy ZcO Zcc
 rw[hp,Zdl]
 have ha:ZaQ (-(c i))=1:=by rcases h1 with e | e <;> rw[e] <;> rfl
 rw[ha,Int.mul_one]
 refine ZnN (by omega) ?_
 have h2:((Int.gcd p.1 d:Nat):Int) ∣ p.1:=Int.gcd_dvd_left ..
 have:=Int.dvd_trans h2 (Ziq (m:=p.1) (r:=p.2 * -(c i)) hr.nn)
 rwa [Int.mul_comm (-(c i))]
theorem Zmz: RestOk (ZcO n R c d i):=ZbV (by omega) _
def BesO(n:Nat)(R:Nat→Int×Int)(c:Nat→Int)(d:Int)(t:Nat)(o:Option (Int×Int)): Prop:=if c (t+1)=1∨c (t+1) = -1 then Met (R t) (ZcO n R c d (t+1)) o else o=some (R t)
theorem BesO.one{o':Option (Int×Int)}(h:BesO n R c d t o)(h':BesO n R c d t o'): o=o':=by
 unfold BesO at *
 split at h
 ·rename_i q
  rw[if_pos q]at h'
  exact Zk5 h h'
 ·rename_i q
  rw[if_neg q]at h'
  rw[h,h']
theorem Zi5(ok:∀t,t<n→RestOk (R t))(bm:∀t,t<n→Bd m (R t).1)(bR:∀t,t<n→RBd k (R t))(bc:∀i,i<n+1→Bd k (c i)): RBd (k+k+n) (ZaA c R n):=by
 rw[ZcE ok n (Zz10 n)]
 exact ZgX (Zdp _ _ _) ((Zi0 bc bR n (Zz10 n)).mono (by omega)) (Zqg bc bR n (Zz10 n))
theorem ZmA(ok:∀t,t<n→RestOk (R t))(bR:∀t,t<n→RBd k (R t))(bc:∀j,j<n+1→Bd k (Zat c i j))(bd:Bd k d)(h1:c i=1∨c i = -1): RBd (k+k+n) (ZcO n R c d i):=by
 have h:=Zi5 (m:=k) ok (fun t ht=>(bR t ht).1) bR bc
 generalize hp:ZaA (Zat c i) R n=p at *
 unfold ZcO
 rw[hp]
 refine ZgX (by omega) (Zjn h.1 (bd.mono (by omega))) ?_
 rcases h1 with e | e <;> rw[e]
 ·have:=h.2;unfold Bd at *;omega
 ·have:=h.2;unfold Bd at *;omega
theorem Zsc(hn:n≤60)(hk1:1≤k)(hk:k+k+n≤8000)(ht:t<n)(ok:∀t,t<n→RestOk (R t))(bR:∀t,t<n→RBd k (R t))(bc:∀j,j<n+1→Bd k (c j))(bo:∀j,j<n+1→Bd k (Zat c (t+1) j))(bd:Bd k d): Pk (Zh0 [.lst (tab n fun j=>ZD (R j)),ZB n c,.int d,.int ((t+1:Nat):Int)]) fun u=>∃o,u=oR o∧BesO n R c d t o:=by
 unfold Zh0 Zf6
 have hs:ZB n c=.lst (tab (n+1) fun k=>.int (c k)):=rfl
 have h1:t+1<n+1:=by omega
 have e1:(((t+1:Nat):Int)).toNat=t+1:=by omega
 have e2:(((t+1:Nat):Int)-1).toNat=t:=by omega
 have ab:ZaQ (c (t+1))=1↔(c (t+1)=1∨c (t+1) = -1):=by unfold ZaQ;split <;> omega
 have bu:∀j,j<n+1→Bd k (unC (t+1) j):=fun j _=>by
  rcases Zes (i:=t+1) (k:=j)with e | e <;> rw[e]
  ·exact Zb5
  ·exact Zdc hk1
 rw[hs]
 walk_at "z"
 rw[←hs]
 rw[e2]
 by_cases q:c (t+1)=1∨c (t+1) = -1
 ·have qa:=ab.mpr q
  have bp:=Zi5 (m:=k) ok (fun t ht=>(bR t ht).1) bR bo
  have op:RestOk (ZaA (Zat c (t+1)) R n):=by rw[ZcE ok n (Zz10 n)];exact ZbV (Zdp _ _ _) _
  have bs:=ZmA ok bR bo bd q
  have bk:=bc (t+1) h1
  have be:=ZxH (d:=d) ok q
  walk_at "z"
  refine Zn (Zir (i:=t+1) (n:=n) (by omega)) ?_
  walk_at "z"
  refine Zn (ZdZ (b:=k) (by omega) (by omega) bu bk) ?_
  walk_at "z"
  refine Zn (ZkG (b:=k+k) (by omega) (by omega) (by omega) (fun j hj=>(bu j hj).mul bk)) ?_
  rw[show(fun k=>c k-unC (t+1) k*c (t+1))=Zat c (t+1)from rfl]
  walk_at "z"
  refine Zn (Zgf (i:=k) (by omega) hk1 (by omega) bo bR ok) ?_
  walk_at "z"
  refine Zn (Zkd (k:=k+k+n) (by omega) op.nn bp (show Bd (k+k+n) (-(c (t+1)))by have:=bk.mono (show k≤k+k+n by omega);unfold Bd at *;omega)) ?_
  walk_at "z"
  refine Zn (Zm6 (k:=k+k+n+k) (by omega) (by unfold Zcc;rw[Zdl];exact bp.1.mul (Zqf (show Bd k (-(c (t+1)))by unfold Bd at *;omega))) (bd.mono (by omega))) ?_
  rw[be]
  walk_at "z"
  refine(ZkC (k:=k+k+n) hk (ok t ht) Zmz ⟨(bR t ht).1.mono (by omega),(bR t ht).2.mono (by omega)⟩ bs).mono ?_
  rintro _ ⟨o,rfl,hm,_⟩
  exact⟨o,rfl,by unfold BesO;rw[if_pos q];exact hm⟩
 ·have qa:¬ZaQ (c (t+1))=1:=fun h=>q (ab.mp h)
  walk_at "z"
  exact⟨some (R t),rfl,by unfold BesO;rw[if_neg q]⟩
theorem ZsX(hn:n≤60)(hk1:1≤k)(hk:k+k+n≤8000)(ok:∀t,t<n→RestOk (R t))(bR:∀t,t<n→RBd k (R t))(bc:∀j,j<n+1→Bd k (c j))(bo:∀t,t<n→∀j,j<n+1→Bd k (Zat c (t+1) j))(bd:Bd k d): ∃o:Nat→Option (Int×Int),(∀t,t<n→BesO n R c d t (o t))∧((∃t,t<n∧o t=none)→Zdg [Zo n G R,ZB n c,.int d]=some .none)∧∀R' D,(∀t,t<n→o t=some (R' t))→Zee [Zo n G R']=some D→Zdg [Zo n G R,ZB n c,.int d]=some D:=by
 have ex:∀t,∃o,t<n→Zh0 [.lst (tab n fun j=>ZD (R j)),ZB n c,.int d,.int ((t+1:Nat):Int)]=some (oR o)∧BesO n R c d t o:=fun t=>by
  by_cases ht:t<n
  ·obtain⟨u,e,o,rfl,h⟩:=Zsc hn hk1 hk ht ok bR bc (bo t ht) bd
   exact⟨o,fun _=>⟨e,h⟩⟩
  ·exact⟨none,fun h=>absurd h ht⟩
 obtain⟨o,ho⟩:=Classical.axiomOfChoice ex
 refine⟨o,fun t ht=>(ho t ht).2,?_⟩
 have ht:Zo n G R=.tup [ZH (n+1) G,.lst (tab n fun i=>ZD (R i))]:=rfl
 have hs:ZB n c=.lst (tab (n+1) fun k=>.int (c k)):=rfl
 have key:∀{D:T},((∃t,t<n∧o t=none)∧D=.none∨(¬(∃t,t<n∧o t=none))∧Zee [.tup [ZH (n+1) G,.lst (tab n fun t=>oR (o t))]]=some D)→Zdg [Zo n G R,ZB n c,.int d]=some D:=fun {D} hD=>by
  apply Pk.eq
  unfold Zdg ZeQ
  rw[ht,hs]
  walk_at "z"
  rw[←hs]
  refine ZbR (n:=n) (a:=fun i=>.int ((1+i:Nat):Int)) (b:=fun t=>oR (o t)) (by omega) ?_ (fun t ht'=>?_) ?_
  ·refine Zfa (a:=1) (m:=n) (by omega) (by omega) ?_ rfl
   simp only[Zr,Zv,ZL,Ze,ZT,hs,Za1,Zai,Option.bind_some]
   show some [T.int 1,T.int (((tab (n+1) fun k=>T.int (c k)).length:Nat):Int)]=_
   rw[Zai]
   congr 3
   congr 1
   omega
  ·rw[Nat.add_comm 1 t]
   walk_at "z"
   exact Zn (ho t ht').1 rfl
  walk_at "z"
  refine Zfx (.none (n:=0)) (ZdJ (n:=1) fun i _=>Zjw) ?_
  rcases hD with⟨⟨t,h1,h2⟩,rfl⟩ | ⟨hc,hD⟩
  ·rw[Zap (show T.none∈tab n fun i=>oR (o i)from List.mem_of_getElem? (i:=t) (by rw[Zbj h1,h2];rfl))]
   walk_at "z"
   rfl
  ·rw[Zaq (show ¬T.none∈tab n fun i=>oR (o i)from fun h=>by
    obtain⟨i,hi,e⟩:=Zci h
    exact hc ⟨i,hi,oR_none.mp e.symm⟩)]
   walk_at "z"
   exact Zn hD rfl
 refine⟨fun h=>key (.inl ⟨h,rfl⟩),fun R' D h hD=>key (.inr ⟨fun⟨t,h1,h2⟩=>(by rw[h t h1]at h2;cases h2),?_⟩)⟩
 have e:T.tup [ZH (n+1) G,.lst (tab n fun t=>oR (o t))]=Zo n G R':=by
  show T.tup [ZH (n+1) G,.lst (tab n fun t=>oR (o t))]=.tup [ZH (n+1) G,.lst (tab n fun i=>ZD (R' i))]
  rw[ZaZ fun i hi=>(show oR (o i)=ZD (R' i)by rw[h i hi];rfl)]
 rw[e]
 exact hD
theorem Zth{o:Nat→Option (Int×Int)}(hn:n≤60)(hk1:1≤k)(hk:k+k+n≤8000)(ok:∀t,t<n→RestOk (R t))(bR:∀t,t<n→RBd k (R t))(bc:∀j,j<n+1→Bd k (c j))(bo:∀t,t<n→∀j,j<n+1→Bd k (Zat c (t+1) j))(bd:Bd k d)(ho:∀t,t<n→BesO n R c d t (o t)): ((∃t,t<n∧o t=none)→Zd9 [Zo n G R,ZB n c,.int d]=some .none)∧∀R' D,(∀t,t<n→o t=some (R' t))→Zd0 [Zo n G R']=some D→Zd9 [Zo n G R,ZB n c,.int d]=some D:=by
 have ht:Zo n G R=.tup [ZH (n+1) G,.lst (tab n fun i=>ZD (R i))]:=rfl
 have hs:ZB n c=.lst (tab (n+1) fun k=>.int (c k)):=rfl
 have key:∀{D:T},((∃t,t<n∧o t=none)∧D=.none∨(¬(∃t,t<n∧o t=none))∧Zd0 [.tup [ZH (n+1) G,.lst (tab n fun t=>oR (o t))]]=some D)→Zd9 [Zo n G R,ZB n c,.int d]=some D:=fun {D} hD=>by
  apply Pk.eq
  unfold Zd9 Zip
  let ρ:Nat→Nat→Option (Int×Int):=fun m t=>if t<m then o t else some (R t)
  have hw:∀{t:Nat} {Q:T→Prop},t<n→Q (ZB n (Zat c (t+1)))→Pk (Zin [ZB n c,.int ((t+1:Nat):Int),.int (-(c (t+1)))]) Q:=fun {t Q} h q=>Zn (Zig (by omega) (by omega)) (by rw[show(fun a=>c a+unC (t+1) a * -(c (t+1)))=Zat c (t+1)by funext a;unfold Zat;rw[Int.mul_neg];omega];exact q)
  rw[ht,hs]
  walk_at "z"
  refine ZaO (n:=n) (a:=fun i=>.int ((1+i:Nat):Int)) (P:=fun m σ=>σ 0=some (.tup [ZH (n+1) G,.lst (tab n fun i=>ZD (R i))])∧σ 1=some (.lst (tab (n+1) fun k=>.int (c k)))∧σ 2=some (.int d)∧σ 3=some (.lst (tab n fun t=>oR (ρ m t)))) ?_ ⟨by walk_at "r",by walk_at "r",by walk_at "r",?_⟩ ?_ ?_
  ·refine Zfa (a:=1) (m:=n) (by omega) (by omega) ?_ rfl
   show some [T.int 1,T.int (((tab (n+1) fun k=>T.int (c k)).length:Nat):Int)]=_
   rw[Zai]
   congr 3
   congr 1
   omega
  ·walk_at "z"
   rfl
  ·rintro t σ ht' ⟨e0,e1,e2,e3⟩
   have h1:t+1<n+1:=by omega
   have i1:(((t+1:Nat):Int)).toNat=t+1:=by omega
   have i2:(((t+1:Nat):Int)-1).toNat=t:=by omega
   have hr:ρ t t=some (R t):=by show(if t<t then _ else _)=_;rw[if_neg (by omega)]
   have hne:∀a,a≠t→ρ (t+1) a=ρ t a:=fun a ha=>by
    show(if a<t+1 then _ else _)=(if a<t then _ else _)
    by_cases q:a<t
    ·rw[if_pos q,if_pos (by omega)]
    ·rw[if_neg q,if_neg (by omega)]
   have hat:ρ (t+1) t=o t:=by show(if t<t+1 then _ else _)=_;rw[if_pos (by omega)]
   have hb:=ho t ht'
   rw[Nat.add_comm 1 t]
   by_cases q:c (t+1)=1∨c (t+1) = -1
   ·unfold BesO at hb
    rw[if_pos q]at hb
    have bp:=Zi5 (m:=k) ok (fun t ht=>(bR t ht).1) bR (bo t ht')
    have op:RestOk (ZaA (Zat c (t+1)) R n):=by rw[ZcE ok n (Zz10 n)];exact ZbV (Zdp _ _ _) _
    have bs:=ZmA ok bR (bo t ht') bd q
    have bn:Bd (k+k+n) (-(c (t+1))):=by have:=(bc (t+1) h1).mono (show k≤k+k+n by omega);unfold Bd at *;omega
    have em:ZD (ZcO n R c d (t+1))=ZD (Zay (Int.gcd (ZaA (Zat c (t+1)) R n).1 d) (-(c (t+1))*(ZaA (Zat c (t+1)) R n).2)):=rfl
    have q':c (t+1)=1∨(¬c (t+1)=1∧c (t+1) = -1):=by omega
    have ep:ZD (ZaA (Zat c (t+1)) R n)=.tup [.int (ZaA (Zat c (t+1)) R n).1,.int (ZaA (Zat c (t+1)) R n).2]:=rfl
    rcases q' with q1 | ⟨q1,q2⟩
    all_goals
     walk_at "z"
     refine hw ht' ?_
     walk_at "z"
     refine Zn (ZjL (b:=k) (by omega) (by omega) (bo t ht') bR ok) ?_
     rw[ep]
     walk_at "z"
     refine Zn (Zk2 (bp.1.mono (by omega)) (bd.mono (by omega))) ?_
     walk_at "z"
     refine Zbk (Zbz bn bp.2 (by omega) (by omega)) ?_
     walk_at "z"
     refine Zn ZeX ?_
     rw[←em]
     walk_at "z"
     rw[i2,hr]
     refine(ZoL (k:=k+k+n) hk (ok t ht') Zmz ⟨(bR t ht').1.mono (by omega),(bR t ht').2.mono (by omega)⟩ bs).mono ?_
     rintro _ ⟨o',rfl,hm⟩
     refine⟨ZwC,?_⟩
     walk_at "z"
     refine Zlf (n:=n) (f:=fun a=>oR (ρ t a)) (by walk_at "r") (by omega) (by omega) ?_
     rw[i2,ZxD,Zk5 hm hb]
     refine⟨by walk_at "r",by walk_at "r",by walk_at "r",?_⟩
     rw[show(tab n fun a=>oR (ρ (t+1) a))=tab n fun a=>oR (if a=t then o t else ρ t a)from ZaZ fun a _=>by
      by_cases z:a=t
      ·rw[z,hat,if_pos rfl]
      ·rw[hne a z,if_neg z]]
     walk_at "r"
   ·have q1:¬c (t+1)=1:=fun h=>q (.inl h)
    have q2:¬c (t+1) = -1:=fun h=>q (.inr h)
    unfold BesO at hb
    rw[if_neg q]at hb
    walk_at "z"
    refine⟨by walk_at "r",by walk_at "r",by walk_at "r",?_⟩
    rw[show(tab n fun a=>oR (ρ (t+1) a))=tab n fun a=>oR (ρ t a)from ZaZ fun a _=>by
     by_cases z:a=t
     ·rw[z,hat,hr,hb]
     ·rw[hne a z]]
    walk_at "r"
  ·rintro σ ⟨e0,e1,e2,e3⟩
   rw[show(tab n fun a=>oR (ρ n a))=tab n fun a=>oR (o a)from ZaZ fun a ha=>by show oR (if a<n then _ else _)=_;rw[if_pos ha]]at e3
   walk_at "z"
   refine Zfx (.none (n:=0)) (ZdJ (n:=1) fun i _=>Zjw) ?_
   rcases hD with⟨⟨t,h1,h2⟩,rfl⟩ | ⟨hc,hD⟩
   ·rw[Zap (show T.none∈tab n fun i=>oR (o i)from List.mem_of_getElem? (i:=t) (by rw[Zbj h1,h2];rfl))]
    walk_at "z"
    rfl
   ·rw[Zaq (show ¬T.none∈tab n fun i=>oR (o i)from fun h=>by
     obtain⟨i,hi,e⟩:=Zci h
     exact hc ⟨i,hi,oR_none.mp e.symm⟩)]
    walk_at "z"
    exact Zn hD rfl
 refine⟨fun h=>key (.inl ⟨h,rfl⟩),fun R' D h hD=>key (.inr ⟨fun⟨t,h1,h2⟩=>(by rw[h t h1]at h2;cases h2),?_⟩)⟩
 have e:T.tup [ZH (n+1) G,.lst (tab n fun t=>oR (o t))]=Zo n G R':=by
  show T.tup [ZH (n+1) G,.lst (tab n fun t=>oR (o t))]=.tup [ZH (n+1) G,.lst (tab n fun i=>ZD (R' i))]
  rw[ZaZ fun i hi=>(show oR (o i)=ZD (R' i)by rw[h i hi];rfl)]
 rw[e]
 exact hD
theorem ZpN{c:Nat→Int}{R:Nat→Int×Int}{n i m:Nat}(bc:∀j,j<n+1→Bd i (c j))(bm:∀j,j<n→Bd m (R j).1): ∀j,j≤n→Bd (i+m) (Zba c R j)
 | 0,_=>Zb5
 | j+1,h=>Zjn (ZpN bc bm j (by omega)) ((bc (j+1) (by omega)).mul (bm j (by omega)))
theorem Zrb{a b:Int}(ha:Bd i a)(hb:Bd j b): Bd (i+j) ((Int.lcm a b:Nat):Int):=by
 unfold Bd at *
 by_cases h:a=0∨b=0
 ·rcases h with e | e <;> subst e
  ·rw[Int.lcm_zero_left];exact Nat.pow_pos (by decide)
  ·rw[Int.lcm_zero_right];exact Nat.pow_pos (by decide)
 ·have:Int.lcm a b≤a.natAbs*b.natAbs:=Nat.le_of_dvd (Nat.mul_pos (by omega) (by omega)) (Nat.lcm_dvd_mul _ _)
  rw[Int.natAbs_natCast,Nat.pow_add]
  exact Nat.lt_of_le_of_lt this (Nat.mul_lt_mul'' ha hb)
theorem ZwG(ok:∀t,t<n→RestOk (R t))(bm:∀t,t<n→Bd m (R t).1)(bo:∀j,j<n+1→Bd b (Zat c (t+1) j))(bd:Bd (b+m) d): Bd (b+m) (ZcO n R c d (t+1)).1:=by
 unfold ZcO
 rw[Zdl,ZcE ok n (Zz10 n),Zdl]
 exact Zjn (ZpN bo bm n (Zz10 n)) bd
theorem ZwH{r:Int×Int}(hk:k+k+n≤8000)(ht:t<n)(ok:∀t,t<n→RestOk (R t))(bm:∀t,t<n→Bd m (R t).1)(bR:∀t,t<n→RBd k (R t))(bo:∀j,j<n+1→Bd b (Zat c (t+1) j))(hbk:b+m≤k)(bd:Bd (b+m) d)(h:BesO n R c d t (some r)): RestOk r∧Bd (b+m+m) r.1∧Bd (k+k+n) r.2:=by
 have g1:Bd (k+k+n) (R t).2:=(bR t ht).2.mono (by omega)
 unfold BesO at h
 split at h
 ·rename_i q
  have bs:=ZmA ok bR (fun j hj=>(bo j hj).mono (by omega)) (bd.mono (by omega)) q
  have hm:=ZwG ok bm bo bd
  have wh:=Zq4 (k:=k+k+n) hk (ok t ht) Zmz ⟨(bR t ht).1.mono (by omega),g1⟩ bs h r rfl
  refine⟨h.1,?_,?_⟩
  ·rcases wh with rfl | rfl | ⟨_,_,e⟩
   ·exact(bm t ht).mono (by omega)
   ·exact hm.mono (by omega)
   ·rw[e]
    exact(Zrb (bm t ht) hm).mono (by omega)
  ·rcases wh with rfl | rfl | ⟨z1,z2,e⟩
   ·exact g1
   ·exact bs.2
   ·have b1:Bd (k+k+n) r.1:=by rw[e];exact(Zrb (bm t ht) hm).mono (by omega)
    have n0:r.1≠0:=by rw[e];intro h;exact(Int.lcm_ne_zero z1 z2) (by omega)
    rcases h.1 with q | ⟨_,q2,q3⟩
    ·exact absurd q n0
    ·unfold Bd at *;omega
 ·cases h
  exact⟨ok t ht,(bm t ht).mono (by omega),g1⟩
def Tf(n:Nat)(P:(Nat→Int)→Prop)(I:(Nat→Nat→Option Int)→(Nat→Int×Int)→Prop)(D:T): Prop:=(D=.none∧∀x,¬P x)∨∃G R,D=Zo n G R∧(∀i,i<n+1→G i i=some 0)∧(∀t,t<n→RestOk (R t))∧(∀x,P x→Zal n G R x)∧I G R
theorem Tm.tf{K:Nat}(h:Tm n K M P I D): Tf n P I D:=by
 rcases h with h | ⟨G,R,rfl,h1,h2,h3,h4,h5⟩
 ·exact .inl h
 ·exact .inr ⟨G,R,rfl,h1,fun t ht=>(h2 t ht).1,h4,h5⟩
theorem Tf.due(h:Tf n P I D): DueOk n D:=by
 rcases h with⟨rfl,_⟩ | ⟨G,R,rfl,h1,h2,h3,h4⟩
 ·exact .inl rfl
 ·exact .inr ⟨G,R,rfl,h1,h2⟩
theorem ZwI(ht:t<n)(ok:∀t,t<n→RestOk (R t))(hx:∀t,t<n→Z4 (R t) (x t))(hd:d ∣ ZX c x n)(q:c (t+1)=1∨c (t+1) = -1): Z4 (ZcO n R c d (t+1)) (x t):=by
 unfold ZcO
 refine(Zcg (by omega) _).mpr ?_
 have hv:ZX (Zat c (t+1)) x n=ZX c x n-x t*c (t+1):=by
  rw[show Zat c (t+1)=fun k=>c k-(fun a=>unC (t+1) a*c (t+1)) k from rfl,ZdG,ZiA,Zeh (t+1) (by omega)]
  rfl
 have h1:=Zmb (c:=Zat c (t+1)) ok hx n (Zz10 n)
 rw[ZcE ok n (Zz10 n),Zdl]
 have h2:=Ziq (m:=Zba (Zat c (t+1)) R n) (r:=Zbw (Zat c (t+1)) R n) (Zdp _ _ _)
 have g1:((Int.gcd (Zba (Zat c (t+1)) R n) d:Nat):Int) ∣ Zba (Zat c (t+1)) R n:=Int.gcd_dvd_left ..
 have g2:((Int.gcd (Zba (Zat c (t+1)) R n) d:Nat):Int) ∣ d:=Int.gcd_dvd_right ..
 have h3:=Int.dvd_trans g1 (Int.dvd_sub h1 h2)
 have h4:=Int.dvd_trans g2 hd
 rw[hv]at h3
 generalize ((Int.gcd (Zba (Zat c (t+1)) R n) d:Nat):Int)=g at *
 generalize (Zay (Zba (Zat c (t+1)) R n) (Zbw (Zat c (t+1)) R n)).2=s at *
 generalize Zbw (Zat c (t+1)) R n=r at *
 have h5:=Int.dvd_sub h4 h3
 rcases q with e | e <;> rw[e]at h5 ⊢
 ·rwa [show ZX c x n-(ZX c x n-x t*1-r-(s-r))=x t - -1*s by omega]at h5
 ·have:=(Int.dvd_neg).mpr h5
  rwa [show -(ZX c x n-(ZX c x n-x t * -1-r-(s-r)))=x t - -(-1)*s by omega]at this
theorem ZpO(ht:t<n)(ok:∀t,t<n→RestOk (R t))(hx:∀t,t<n→Z4 (R t) (x t))(hd:d ∣ ZX c x n)(h:BesO n R c d t o): ∃r,o=some r∧Z4 r (x t):=by
 unfold BesO at h
 split at h
 ·rename_i q
  have hb:=ZwI ht ok hx hd q
  cases o with
  | none=>exact absurd ⟨hx t ht,hb⟩ (h (x t))
  | some r=>exact⟨r,rfl,(h.2 (x t)).mpr ⟨hx t ht,hb⟩⟩
 ·exact⟨R t,h,hx t ht⟩
theorem ZqA{K:Nat}(hn:n≤20)(hk1:1≤k)(hk:k+k+n≤K)(hbk:b+m≤k)(hb1:1≤b)(hK:(b+m+m)*n+1≤K)(hK2:K+2*n+4≤7000)(hd0:∀i,i<n+1→G i i=some 0)(bG:GB K n G)(ok:∀t,t<n→RestOk (R t))(bm:∀t,t<n→Bd m (R t).1)(bR:∀t,t<n→RBd k (R t))(bc:∀j,j<n+1→Bd k (c j))(bo:∀t,t<n→∀j,j<n+1→Bd b (Zat c (t+1) j))(bd:Bd (b+m) d): ∃D,Zdg [Zo n G R,ZB n c,.int d]=some D∧Zd9 [Zo n G R,ZB n c,.int d]=some D∧Tf n (fun x=>Zal n G R x∧d ∣ ZX c x n) (fun G2 R2=>∃R',(∀t,t<n→RestOk (R' t))∧(∀t,t<n→BesO n R c d t (some (R' t)))∧Zbl n G2 R2 G R') D:=by
 have bo2:∀t,t<n→∀j,j<n+1→Bd k (Zat c (t+1) j):=fun t ht j hj=>(bo t ht j hj).mono (by omega)
 obtain⟨o,ho,a1,a2⟩:=ZsX (G:=G) (c:=c) (d:=d) (by omega) hk1 (by omega) ok bR bc bo2 (bd.mono (by omega))
 obtain⟨l1,l2⟩:=Zth (G:=G) (c:=c) (d:=d) (by omega) hk1 (by omega) ok bR bc bo2 (bd.mono (by omega)) ho
 by_cases hc:∃t,t<n∧o t=none
 ·refine⟨.none,a1 hc,l1 hc,.inl ⟨rfl,fun x h=>?_⟩⟩
  obtain⟨t,h1,h2⟩:=hc
  obtain⟨r,e,_⟩:=ZpO h1 ok h.1.2 h.2 (ho t h1)
  rw[h2]at e
  cases e
 ·have hs:∀t,t<n→o t=some ((o t).getD (1,0)):=fun t ht=>by
   cases e:o t with
   | none=>exact absurd ⟨t,ht,e⟩ hc
   | some q=>rfl
  generalize hR':(fun t=>(o t).getD (1,0))=R'
  have hs2:∀t,t<n→o t=some (R' t):=fun t ht=>by rw[←hR'];exact hs t ht
  have hB:∀t,t<n→BesO n R c d t (some (R' t)):=fun t ht=>by rw[←hs2 t ht];exact ho t ht
  have hr:=fun t (ht:t<n)=>ZwH (k:=k) (by omega) ht ok bm bR (bo t ht) hbk bd (hB t ht)
  have bM:Bd K (Zcn R' n):=(Zhb (k:=b+m+m) (by omega) (fun t ht=>(hr t ht).2.1) n (Zz10 n)).mono (by omega)
  obtain⟨D,e1,e2,hD⟩:=Zqz (k:=K) (R:=R') hn hK2 (ZgZ (fun t ht=>(hr t ht).1) n (Zz10 n)) bM hd0 bG (fun t ht=>⟨(hr t ht).1,Zg0 n t ht,(hr t ht).2.2.mono (by omega)⟩)
  refine⟨D,a2 R' D hs2 e1,l2 R' D hs2 e2,?_⟩
  have lies:∀x,Zal n G R x∧d ∣ ZX c x n→Zal n G R' x:=fun x h=>⟨h.1.1,fun t ht=>by
   obtain⟨r,e,q⟩:=ZpO ht ok h.1.2 h.2 (hB t ht)
   cases e
   exact q⟩
  rcases hD.tf with⟨rfl,no⟩ | ⟨G2,R2,rfl,h1,h2,h3,h4⟩
  ·exact .inl ⟨rfl,fun x h=>no x (lies x h)⟩
  ·exact .inr ⟨G2,R2,rfl,h1,h2,fun x h=>h3 x (lies x h),R',fun t ht=>(hr t ht).1,hB,h4⟩
theorem Zi6{x:Int}(op:RestOk p)(oq:RestOk q)(h:RIn p q)(hx:Z4 p x): Z4 q x:=by
 unfold RIn at h
 split at h
 ·rw[←h];exact hx
 ·refine(ZaU oq.nn x).mpr ?_
  have a:=(ZaU op.nn x).mp hx
  have b:=Int.dvd_trans (Int.dvd_of_emod_eq_zero h.1) a
  have:=Int.dvd_add b (Int.dvd_of_emod_eq_zero h.2)
  rwa [show x-p.2+(p.2-q.2)=x-q.2 by omega]at this
theorem Zei(o2:∀t,t<n→RestOk (R2 t))(o:∀t,t<n→RestOk (R t))(h:Zbl n G2 R2 G R)(l:Zal n G2 R2 x): Zal n G R x:=by
 refine⟨fun i j hi hj b e=>?_,fun t ht=>Zi6 (o2 t ht) (o t ht) (h.2 t ht) (l.2 t ht)⟩
 obtain⟨y,h1,h2⟩:=h.1 i hi j hj b e
 have:=l.1 i j hi hj y h1
 omega
theorem Zgg{G1 G3:Nat→Nat→Option Int}{R1 R3:Nat→Int×Int}(o1:∀t,t<n→RestOk (R1 t))(o2:∀t,t<n→RestOk (R2 t))(o3:∀t,t<n→RestOk (R3 t))(h:Zbl n G1 R1 G2 R2)(k:Zbl n G2 R2 G3 R3): Zbl n G1 R1 G3 R3:=⟨fun i hi j hj=>ZbW (h.1 i hi j hj) (k.1 i hi j hj),fun t ht=>Zjp (o1 t ht) (o3 t ht) fun x hx=>Zi6 (o2 t ht) (o3 t ht) (k.2 t ht) (Zi6 (o1 t ht) (o2 t ht) (h.2 t ht) hx)⟩
theorem Zg3(o:∀t,t<n→RestOk (R t))(h:Zbl n G2 R2 (amG n G c top) R): Zbl n G2 R2 G R:=⟨fun i hi j hj=>ZbW (h.1 i hi j hj) (Zyg i j),h.2⟩
def AM(n:Nat)(c:Nat→Int)(top:Int)(x:Nat→Int): Prop:=∃G R,(∀y,grt n G (fun k=>-(c k))=some y→-y≤top)∧Zal n (amG n G c top) R x
theorem Zns{a b:T}: Zdg [.none,a,b]=some .none:=by
 apply Pk.eq
 unfold Zdg ZeQ
 walk_at "z"
 rfl
theorem ZxI(hM:0<M)(bM:Bd m M)(h:RB M k q): Bd m q.1:=by
 rcases h.2.1 with e | e
 ·rw[e];exact Zb5
 ·have:=Nat.le_of_dvd (by omega) (Int.natAbs_dvd_natAbs.mpr e)
  unfold Bd at *
  omega
theorem Zpd(h:RestOk q): Z4 q 0↔q.2=0:=by
 rw[ZaU h.nn]
 constructor
 ·intro d
  rcases h with z | ⟨z1,z2,z3⟩
  ·rw[z]at d
   have:=Int.zero_dvd.mp d
   omega
  ·refine Classical.byContradiction fun q=>?_
   have:=Int.le_of_dvd (by omega) ((Int.dvd_neg).mpr d)
   omega
 ·intro e
  rw[e]
  exact Int.dvd_zero _
theorem ZlS(ok:∀t,t<n→RestOk (R t))(h:∀t,t<n→Z4 (R t) (x t)): Z4 (ZaA c R n) (ZX c x n):=by
 rw[ZcE ok n (Zz10 n)]
 exact(Zcg (Zdp _ _ _) _).mpr (Zmb ok h n (Zz10 n))
theorem Zfi(ok:∀t,t<n→RestOk (R t)): RestOk (ZaA c R n):=by
 rw[ZcE ok n (Zz10 n)]
 exact ZbV (Zdp _ _ _) _
theorem Zmf(hn:n≤20)(ok:∀t,t<n→RestOk (R t))(bR:∀t,t<n→RBd 300 (R t))(bc:∀i,i<n+1→Bd 300 (c i))(hr:Z4 (ZaA c R n) 0)(h1:Zcy [Zo n G R,ZB n c,.int 0]=some D1∧Zcx [Zo n G R,ZB n c,.int 0]=some D1)(h2:Zcy [D1,ZB n fun k=>-(c k),.int 0]=some D2∧Zcx [D1,ZB n fun k=>-(c k),.int 0]=some D2)(h3:Zdg [D2,ZB n c,.int 0]=some D)(h4:(D2=.none∧D=.none)∨((∃G R,D2=Zo n G R)∧Zd9 [D2,ZB n c,.int 0]=some D)): Zd3 [Zo n G R,ZB n c]=some D∧ZfN [Zo n G R,ZB n c]=some D:=by
 have ht:Zo n G R=.tup [ZH (n+1) G,.lst (tab n fun i=>ZD (R i))]:=rfl
 have hs:ZB n c=.lst (tab (n+1) fun k=>.int (c k)):=rfl
 have hg:∀{Q:T→Prop},Q (.lst (tab n fun i=>ZD (R i)))→Pk (ZA (Zo n G R) (.int 1)) Q:=fun h=>⟨_,by rw[ht];rfl,h⟩
 have bn:Bd 300 (-1):=(show Bd 1 (-1)by unfold Bd;decide).mono (by decide)
 have ep:ZD (ZaA c R n)=.tup [.int (ZaA c R n).1,.int (ZaA c R n).2]:=rfl
 have hz:=(Zpd (Zfi (c:=c) ok)).mp hr
 constructor
 ·apply Pk.eq
  unfold Zd3 ZeS
  walk_at "z"
  refine hg ?_
  walk_at "z"
  refine Zn (Zgf (i:=300) (by omega) (by decide) (by decide) bc bR ok) ?_
  walk_at "z"
  refine Zn (Zd5 (Zfi ok)) ?_
  rw[Zap hr]
  walk_at "z"
  refine Zn h1.1 ?_
  walk_at "z"
  refine Zn (ZdZ (b:=300) (by omega) (by decide) bc bn) ?_
  rw[ZlD]
  walk_at "z"
  refine Zn h2.1 ?_
  walk_at "z"
  exact Zn h3 rfl
 ·apply Pk.eq
  unfold ZfN ZjR
  have hcp:∀{σ:TL},σ 1=some (ZB n c)→Pk (ZaC (ZaT (Ze 1)) (Zag 100) Zas (pUn ZcX (Ze 100)) σ) fun t=>t=ZB n fun k=>-(c k):=fun e=>by
   unfold ZB at e
   refine ZbR (n:=n+1) (a:=fun k=>.int (c k)) (b:=fun k=>.int (-(c k))) (by omega) ?_ (fun k hk=>?_) rfl
   ·walk_at "z"
    rfl
   ·walk_at "z"
    rfl
  walk_at "z"
  refine hg ?_
  walk_at "z"
  refine Zn (ZjL (b:=300) (by omega) (by decide) bc bR ok) ?_
  rw[ep,hz]
  walk_at "z"
  refine Zn h1.2 ?_
  walk_at "z"
  refine(hcp (by walk_at "r")).mono ?_
  rintro _ rfl
  walk_at "z"
  refine Zn h2.2 ?_
  rcases h4 with⟨rfl,rfl⟩ | ⟨⟨G3,R3,rfl⟩,h4⟩
  ·walk_at "z"
   rfl
  ·have hne:∀{Q:T→Prop},Q (.bool false)→Pk (qIs (Zo n G3 R3) .none) Q:=fun h=>⟨_,rfl,h⟩
   walk_at "z"
   refine hne ?_
   walk_at "z"
   exact Zn h4 rfl
theorem Zvo(hn:n≤20)(ok:∀t,t<n→RestOk (R t))(bR:∀t,t<n→RBd 300 (R t))(bc:∀i,i<n+1→Bd 300 (c i))(hr:¬Z4 (ZaA c R n) 0): Zd3 [Zo n G R,ZB n c]=some .none∧ZfN [Zo n G R,ZB n c]=some .none:=by
 have ht:Zo n G R=.tup [ZH (n+1) G,.lst (tab n fun i=>ZD (R i))]:=rfl
 have hg:∀{Q:T→Prop},Q (.lst (tab n fun i=>ZD (R i)))→Pk (ZA (Zo n G R) (.int 1)) Q:=fun h=>⟨_,by rw[ht];rfl,h⟩
 have ep:ZD (ZaA c R n)=.tup [.int (ZaA c R n).1,.int (ZaA c R n).2]:=rfl
 have hz:¬(ZaA c R n).2=0:=fun h=>hr ((Zpd (Zfi (c:=c) ok)).mpr h)
 constructor
 ·apply Pk.eq
  unfold Zd3 ZeS
  walk_at "z"
  refine hg ?_
  walk_at "z"
  refine Zn (Zgf (i:=300) (by omega) (by decide) (by decide) bc bR ok) ?_
  walk_at "z"
  refine Zn (Zd5 (Zfi ok)) ?_
  rw[Zaq hr]
  walk_at "z"
  rfl
 ·apply Pk.eq
  unfold ZfN ZjR
  walk_at "z"
  refine hg ?_
  walk_at "z"
  refine Zn (ZjL (b:=300) (by omega) (by decide) bc bR ok) ?_
  rw[ep]
  walk_at "z"
  rfl
theorem ZqB(bc:∀i,i<n+1→Bd b (c i)): ∀t,t<n→∀j,j<n+1→Bd (b+1) (Zat c (t+1) j):=fun t ht=>ZxG bc (t+1) (by omega)
theorem ZxJ(hn:n≤4)(hd:∀i,i<n+1→G i i=some 0)(ok:∀t,t<n→RestOk (R t))(sG:SmG 137 n G)(sR:SmR 137 n R)(bc:∀i,i<n+1→Bd 300 (c i)): ∃D,Zd3 [Zo n G R,ZB n c]=some D∧ZfN [Zo n G R,ZB n c]=some D∧Tf n (fun x=>Zal n G R x∧ZX c x n=0) (fun G2 R2=>Zbl n G2 R2 G R∧∀x,Zal n G2 R2 x→AM n c 0 x∧AM n (fun k=>-(c k)) 0 x) D:=by
 have bR:∀t,t<n→RBd 300 (R t):=fun t ht=>⟨(show Bd 137 _ from(sR t ht).1).mono (by decide),(show Bd 137 _ from(sR t ht).2).mono (by decide)⟩
 have bM:Bd 549 (Zcn R n):=(Zhb (k:=137) (by decide) (fun t ht=>(sR t ht).1) n (Zz10 n)).mono (by omega)
 have hM:=ZgZ ok n (Zz10 n)
 have hR:∀t,t<n→RB (Zcn R n) 610 (R t):=fun t ht=>⟨ok t ht,Zg0 n t ht,(show Bd 137 _ from(sR t ht).2).mono (by decide)⟩
 by_cases hr:Z4 (ZaA c R n) 0
 ·obtain⟨D1,a1,b1,t1⟩:=Zg2 (b:=300) (k:=610) (c:=c) (top:=0) (by omega) (by decide) (by decide) (by omega) (by omega) hM (bM.mono (by decide)) hd (fun i j hi hj y e=>(show Bd 137 y from sG i j hi hj y e).mono (by decide)) hR bc Zb5
  rcases t1 with⟨rfl,no⟩ | ⟨G1,R1,rfl,hd1,hR1,bG1,li1,in1,hc1⟩
  ·obtain⟨e1,e2⟩:=Zmf (D:=.none) (by omega) ok bR bc hr ⟨a1,b1⟩ ⟨ZsW,ZrF⟩ Zns (.inl ⟨rfl,rfl⟩)
   exact⟨.none,e1,e2,.inl ⟨rfl,fun x h=>no x ⟨h.1,by omega⟩⟩⟩
  ·obtain⟨D2,a2,b2,t2⟩:=Zg2 (b:=629) (k:=1268) (c:=fun k=>-(c k)) (top:=0) (by omega) (by decide) (by decide) (by omega) (by omega) hM (bM.mono (by decide)) hd1 (fun i j hi hj y e=>(bG1 i j hi hj y e).mono (by omega)) (fun t ht=>(hR1 t ht).mono (by omega)) (fun i hi=>(Zfh bc i hi).mono (by decide)) Zb5
   rcases t2 with⟨rfl,no⟩ | ⟨G2,R2,rfl,hd2,hR2,bG2,li2,in2,hc2⟩
   ·obtain⟨e1,e2⟩:=Zmf (D:=.none) (by omega) ok bR bc hr ⟨a1,b1⟩ ⟨a2,b2⟩ Zns (.inl ⟨rfl,rfl⟩)
    exact⟨.none,e1,e2,.inl ⟨rfl,fun x h=>no x ⟨li1 x ⟨h.1,by omega⟩,by rw[Zc1];omega⟩⟩⟩
   ·obtain⟨D,a3,b3,t3⟩:=ZqA (k:=1287) (b:=301) (m:=549) (K:=5600) (G:=G2) (R:=R2) (c:=c) (d:=0) (by omega) (by decide) (by omega) (by decide) (by decide) (by omega) (by omega) hd2 (fun i j hi hj y e=>(bG2 i j hi hj y e).mono (by omega)) (fun t ht=>(hR2 t ht).1) (fun t ht=>ZxI hM bM (hR2 t ht)) (fun t ht=>((hR2 t ht).mono (show 1268+3*n+7≤1287 by omega)).bd hM (bM.mono (by decide))) (fun i hi=>(bc i hi).mono (by decide)) (ZqB bc) Zb5
    obtain⟨e1,e2⟩:=Zmf (by omega) ok bR bc hr ⟨a1,b1⟩ ⟨a2,b2⟩ a3 (.inr ⟨⟨G2,R2,rfl⟩,b3⟩)
    refine⟨D,e1,e2,?_⟩
    rcases t3 with⟨rfl,no⟩ | ⟨G3,R3,rfl,hd3,ok3,li3,R',ok',bes,in3⟩
    ·exact .inl ⟨rfl,fun x h=>no x ⟨li2 x ⟨li1 x ⟨h.1,by omega⟩,by rw[Zc1];omega⟩,by rw[h.2];exact Int.dvd_zero _⟩⟩
    ·have ok1:∀t,t<n→RestOk (R1 t):=fun t ht=>(hR1 t ht).1
     have ok2:∀t,t<n→RestOk (R2 t):=fun t ht=>(hR2 t ht).1
     have i32:Zbl n G3 R3 G2 R2:=Zgg ok3 ok' ok2 in3 ⟨fun i hi j hj=>ZbQ,fun t ht=>by
      refine Zjp (ok' t ht) (ok2 t ht) fun x hx=>?_
      have b:=bes t ht
      unfold BesO at b
      split at b
      ·exact((b.2 x).mp hx).1
      ·rw[Option.some.inj b]at hx;exact hx⟩
     have i31:Zbl n G3 R3 (amG n G1 (fun k=>-(c k)) 0) R1:=Zgg ok3 ok2 ok1 i32 in2
     have i30:Zbl n G3 R3 (amG n G c 0) R:=Zgg ok3 ok1 ok (Zg3 ok1 i31) in1
     refine .inr ⟨G3,R3,rfl,hd3,ok3,fun x h=>li3 x ⟨li2 x ⟨li1 x ⟨h.1,by omega⟩,by rw[Zc1];omega⟩,by rw[h.2];exact Int.dvd_zero _⟩,Zg3 ok i30,fun x l=>⟨⟨G,R,hc1,Zei ok3 ok i30 l⟩,⟨G1,R1,hc2,Zei ok3 ok1 i31 l⟩⟩⟩
 ·obtain⟨e1,e2⟩:=Zvo (G:=G) (by omega) ok bR bc hr
  exact⟨.none,e1,e2,.inl ⟨rfl,fun x h=>hr (by rw[←h.2];exact ZlS ok h.1.2)⟩⟩
def Off(n:Nat)(c:Nat→Int)(D D':T): Prop:=(D=.none∧D'=.none)∨∃G R,D=Zo n G R∧ZfV [D,ZB n c]=some (oT (grt n G c))∧(((∃y,grt n G c=some y∧y≤0)∧Zcx [D,ZB n c,.int (-1)]=some D')∨((¬∃y,grt n G c=some y∧y≤0)∧D'=D))
theorem Zsx{a:T}: ZdB [.none,a]=some .none:=by
 apply Pk.eq
 unfold ZdB Zd8
 walk_at "z"
 rfl
theorem leO_0: leO a (some 0)↔∃y,a=some y∧y≤0:=⟨fun h=>h 0 rfl,fun h z e=>by cases e;exact h⟩
theorem Zrc(hn:n≤20)(hb1:1≤b)(hb:b≤900)(hB:b+b+n+6≤k)(hk:k+2*n+4≤7000)(hM:0<M)(bM:Bd k M)(hd:∀i,i<n+1→G i i=some 0)(bG:GB b n G)(hR:∀t,t<n→RB M k (R t))(bc:∀i,i<n+1→Bd b (c i)): ∃D,ZdB [Zo n G R,ZB n c]=some D∧Off n c (Zo n G R) D∧Tm n (k+3*n+7) M (fun x=>Zal n G R x∧ZX c x n≠0) (fun G2 R2=>Zbl n G2 R2 G R∧∀x,Zal n G2 R2 x→(∃y,grt n G c=some y∧y≤0)→AM n c (-1) x) D:=by
 have ht:Zo n G R=.tup [ZH (n+1) G,.lst (tab n fun i=>ZD (R i))]:=rfl
 have hne:∀{Q:T→Prop},Q (.bool true)→Pk (ZcR (Zo n G R) .none) Q:=fun h=>⟨_,by rw[ht];rfl,h⟩
 have hg:=ZkF (R:=R) (c:=c) (b:=b) (by omega) (by omega) hb1 bG bc
 have hlg:=ZfQ (R:=R) (c:=c) (b:=b) (by omega) (by omega) bG bc
 have ok:∀t,t<n→RestOk (R t):=fun t ht=>(hR t ht).1
 by_cases h:∃y,grt n G c=some y∧y≤0
 ·obtain⟨D,e1,e2,hD⟩:=Zg2 (top:=-1) hn hb1 hb hB hk hM bM hd bG hR bc ((show Bd 1 (-1)by unfold Bd;decide).mono hb1)
  refine⟨D,?_,.inr ⟨G,R,rfl,hlg,.inl ⟨h,e2⟩⟩,?_⟩
  ·apply Pk.eq
   unfold ZdB Zd8
   walk_at "z"
   refine hne ?_
   walk_at "z"
   refine Zn hg ?_
   walk_at "z"
   refine Zn (Zkl (b:=some 0)) ?_
   rw[Zap (leO_0.mpr h)]
   walk_at "z"
   exact Zn e1 rfl
  ·have lt:∀x,Zal n G R x∧ZX c x n≠0→ZX c x n≤-1:=fun x q=>by
    obtain⟨y,h1,h2⟩:=h
    have:=Zjo q.1 h1
    omega
   rcases hD with⟨rfl,no⟩ | ⟨G2,R2,rfl,h1,h2,h3,h4,h5,hc⟩
   ·exact .inl ⟨rfl,fun x q=>no x ⟨q.1,lt x q⟩⟩
   ·exact .inr ⟨G2,R2,rfl,h1,h2,h3,fun x q=>h4 x ⟨q.1,lt x q⟩,Zg3 ok h5,fun x l _=>⟨G,R,hc,Zei (fun t ht=>(h2 t ht).1) ok h5 l⟩⟩
 ·refine⟨_,?_,.inr ⟨G,R,rfl,hlg,.inr ⟨h,rfl⟩⟩,.inr ⟨G,R,rfl,hd,fun t ht=>(hR t ht).mono (by omega),fun i j hi hj y e=>(bG i j hi hj y e).mono (by omega),fun x q=>q.1,⟨fun i hi j hj=>ZbQ,fun t ht=>Zpz⟩,fun x _ q=>absurd q h⟩⟩
  apply Pk.eq
  unfold ZdB Zd8
  walk_at "z"
  refine hne ?_
  walk_at "z"
  refine Zn hg ?_
  walk_at "z"
  refine Zn (Zkl (b:=some 0)) ?_
  rw[Zaq (fun q=>h (leO_0.mp q))]
  walk_at "z"
  rfl
theorem Zpe(hn:n≤20)(h1:Off n c D D1)(h2:Off n (fun k=>-(c k)) D1 D2): Zkk [D,ZB n c]=some D2:=by
 apply Pk.eq
 unfold Zkk ZnM
 have hs:ZB n c=.lst (tab (n+1) fun k=>.int (c k)):=rfl
 have step:∀{c:Nat→Int} {D D':T} {σ:TL} {P:T→Prop} {N:TL→Prop},Off n c D D'→σ 0=some D→(∀σ',σ' 0=some D'→N σ')→Psk (qIf (Z5 (Zm ZcR (Ze 0) (Zaz))) (Z3 (ZaE 3 (ZT ZfV (Zr (Ze 0) (Zr (Ze 2) ZL)))) (qIf (Zbp (Z5 (Zm ZcR (Ze 3) (Zaz))) (Zbp (Z5 (Zm qLe (Ze 3) (Zv 0))) Zas)) (ZaE 0 (ZT Zcx (Zr (Ze 0) (Zr (Ze 2) (Zr (pUn ZcX (Zv 1)) ZL))))) ZaD)) ZaD (ZO σ 2 (ZB n c))) P N:=fun {c D D' σ P N} h e0 hN=>by
  rcases h with⟨rfl,rfl⟩ | ⟨G,R,rfl,hg,h⟩
  ·walk_at "z"
   exact hN _ (by walk_at "r")
  ·have hne:∀{Q:T→Prop},Q (.bool true)→Pk (ZcR (Zo n G R) .none) Q:=fun h=>⟨_,rfl,h⟩
   generalize Zo n G R=T0 at *
   walk_at "z"
   refine hne ?_
   walk_at "z"
   refine Zn hg ?_
   walk_at "z"
   rcases h with⟨⟨y,ey,hy⟩,ha⟩ | ⟨h,rfl⟩
   ·rw[ey,Zaa]
    walk_at "z"
    refine Zn ha ?_
    exact hN _ Zbr
   ·cases e:grt n G c with
    | none=>
     rw[ZaN]
     walk_at "z"
     exact hN _ (by walk_at "r")
    | some y=>
     have hy:¬y≤0:=fun q=>h ⟨y,e,q⟩
     rw[Zaa]
     walk_at "z"
     exact hN _ (by walk_at "r")
 have hcp:∀{σ:TL},σ 1=some (ZB n c)→Pk (ZaC (ZaT (Ze 1)) (Zag 100) Zas (pUn ZcX (Ze 100)) σ) fun t=>t=ZB n fun k=>-(c k):=fun e=>by
  unfold ZB at e
  refine ZbR (n:=n+1) (a:=fun k=>.int (c k)) (b:=fun k=>.int (-(c k))) (by omega) ?_ (fun k hk=>?_) rfl
  ·walk_at "z"
   rfl
  ·walk_at "z"
   rfl
 refine Zep rfl ?_
 refine ZcF ?_
 refine ZlZ (ts:=[ZB n c,ZB n fun k=>-(c k)]) (P:=fun m σ=>σ 0=some (if m=0 then D else if m=1 then D1 else D2)) ?_ rfl ?_ ?_
 ·walk_at "z"
  refine(hcp (by walk_at "r")).mono ?_
  rintro _ rfl
  walk_at "z"
  rfl
 ·rintro i t σ ei e0
  match i,ei with
  | 0,ei=>cases ei;exact step h1 e0 fun σ' h=>h
  | 1,ei=>cases ei;exact step h2 e0 fun σ' h=>h
 ·rintro σ e0
  have e0:σ 0=some D2:=e0
  walk_at "z"
  rfl
theorem Zm7(hn:n≤20)(bc:∀i,i<n+1→Bd 300 (c i))(h1:ZdB [T0,ZB n c]=some D1)(h2:ZdB [D1,ZB n fun k=>-(c k)]=some D2)(h3:DueOk n D2): ZfM [T0,ZB n c]=some D2:=by
 apply Pk.eq
 unfold ZfM ZfL
 have bn:Bd 300 (-1):=(show Bd 1 (-1)by unfold Bd;decide).mono (by decide)
 have hf:ZiW [D2]=some D2:=by
  rcases h3 with rfl | ⟨G,R,rfl,_⟩
  ·exact ZiI .none
  ·exact ZiI ((Zqm (by omega)).mono (by decide))
 walk_at "z"
 refine Zn h1 ?_
 walk_at "z"
 refine Zn (ZdZ (b:=300) (by omega) (by decide) bc bn) ?_
 rw[ZlD]
 walk_at "z"
 refine Zn h2 ?_
 walk_at "z"
 exact Zn hf rfl
theorem Zvp(hn:n≤4)(hd:∀i,i<n+1→G i i=some 0)(ok:∀t,t<n→RestOk (R t))(sG:SmG 137 n G)(sR:SmR 137 n R)(bc:∀i,i<n+1→Bd 300 (c i)): ∃D,ZfM [Zo n G R,ZB n c]=some D∧Zkk [Zo n G R,ZB n c]=some D∧Tf n (fun x=>Zal n G R x∧ZX c x n≠0) (fun G2 R2=>Zbl n G2 R2 G R∧∀x,Zal n G2 R2 x→(∃y,grt n G c=some y∧y≤0)→AM n c (-1) x) D:=by
 have bM:Bd 549 (Zcn R n):=(Zhb (k:=137) (by decide) (fun t ht=>(sR t ht).1) n (Zz10 n)).mono (by omega)
 have hM:=ZgZ ok n (Zz10 n)
 have hR:∀t,t<n→RB (Zcn R n) 610 (R t):=fun t ht=>⟨ok t ht,Zg0 n t ht,(show Bd 137 _ from(sR t ht).2).mono (by decide)⟩
 obtain⟨D1,a1,o1,t1⟩:=Zrc (b:=300) (k:=610) (c:=c) (by omega) (by decide) (by decide) (by omega) (by omega) hM (bM.mono (by decide)) hd (fun i j hi hj y e=>(show Bd 137 y from sG i j hi hj y e).mono (by decide)) hR bc
 rcases t1 with⟨rfl,no⟩ | ⟨G1,R1,rfl,hd1,hR1,bG1,li1,in1,am1⟩
 ·exact⟨.none,Zm7 (by omega) bc a1 Zsx (.inl rfl),Zpe (by omega) o1 (.inl ⟨rfl,rfl⟩),.inl ⟨rfl,no⟩⟩
 ·obtain⟨D2,a2,o2,t2⟩:=Zrc (b:=629) (k:=1268) (c:=fun k=>-(c k)) (by omega) (by decide) (by decide) (by omega) (by omega) hM (bM.mono (by decide)) hd1 (fun i j hi hj y e=>(bG1 i j hi hj y e).mono (by omega)) (fun t ht=>(hR1 t ht).mono (by omega)) (fun i hi=>(Zfh bc i hi).mono (by decide))
  have t3:=t2.tf
  refine⟨D2,Zm7 (by omega) bc a1 a2 t3.due,Zpe (by omega) o1 o2,?_⟩
  rcases t3 with⟨rfl,no⟩ | ⟨G2,R2,rfl,hd2,ok2,li2,in2,am2⟩
  ·exact .inl ⟨rfl,fun x h=>no x ⟨li1 x h,by rw[Zc1];omega⟩⟩
  ·exact .inr ⟨G2,R2,rfl,hd2,ok2,fun x h=>li2 x ⟨li1 x h,by rw[Zc1];omega⟩,Zgg ok2 (fun t ht=>(hR1 t ht).1) ok in2 in1,fun x l=>am1 x (Zei ok2 (fun t ht=>(hR1 t ht).1) in2 l)⟩
theorem ZwJ: [T.int (c 0-top)]++(tab (n+1) fun i=>T.int (c i)).drop 1=tab (n+1) fun i=>T.int (Zb6 c top i):=by
 apply List.ext_getElem
 ·simp[tab]
 ·intro i h1 h2
  cases i with
  | zero=>simp[tab,Zb6]
  | succ i=>simp[tab,Zb6]
theorem ZwK(hn:n≤100)(ok:∀t,t<n→RestOk (R t)): Pk (Zdk [Zo n G R,Zan n x]) fun t=>t=.bool false∨(t=.bool true∧Zal n G R x):=by
 unfold Zdk Zd7 Zo ZH Zad ZaH Zan
 walk_at "z"
 rw[Zmv]
 refine ZaO (n:=n+1) (a:=fun i=>.int i) (P:=fun m σ=>σ 0=some (Zo n G R)∧σ 1=some (.lst (tab n fun i=>.int (x i)))∧σ 2=some (.lst (tab (n+1) fun i=>.int (Zaf x i)))∧∀i j,i<m→j<n+1→∀b,G i j=some b→Zaf x i-Zaf x j≤b) ?_ ⟨by walk_at "r",by walk_at "r",by walk_at "r",fun i j hi=>by omega⟩ ?_ ?_
 ·walk_at "z"
  rfl
 ·rintro i σ hi ⟨e0,e1,e2,hm⟩
  refine ZaO (n:=n+1) (a:=fun i=>.int i) (P:=fun m σ=>σ 0=some (Zo n G R)∧σ 1=some (.lst (tab n fun i=>.int (x i)))∧σ 2=some (.lst (tab (n+1) fun i=>.int (Zaf x i)))∧σ 3=some (.int i)∧∀j,j<m→∀b,G i j=some b→Zaf x i-Zaf x j≤b) ?_ ⟨by walk_at "r",by walk_at "r",by walk_at "r",by walk_at "r",fun j hj=>by omega⟩ ?_ ?_
  ·walk_at "z"
   rfl
  ·rintro j σ hj ⟨f0,f1,f2,f3,hj2⟩
   unfold Zo ZH Zad ZaH at f0
   walk_at "z"
   cases hg:G i j with
   | none=>
    rw[ZaN]
    walk_at "z"
    refine⟨by walk_at "r",by walk_at "r",by walk_at "r",by walk_at "r",fun j' h' b e=>?_⟩
    by_cases z:j'=j
    ·rw[z,hg]at e;cases e
    ·exact hj2 j' (by omega) b e
   | some b=>
    rw[Zaa]
    walk_at "z"
    rw[hg,Zaa]
    walk_at "z"
    refine⟨fun q=>?_,fun q=>?_⟩
    ·walk_at "z"
     exact .inl rfl
    ·walk_at "z"
     refine⟨by walk_at "r",by walk_at "r",by walk_at "r",by walk_at "r",fun j' h' b' e=>?_⟩
     by_cases z:j'=j
     ·rw[z,hg]at e
      cases e
      have:=of_decide_eq_false q
      rw[z]
      omega
     ·exact hj2 j' (by omega) b' e
  ·rintro σ ⟨f0,f1,f2,f3,f4⟩
   refine⟨f0,f1,f2,fun i' j hi' hj b e=>?_⟩
   by_cases z:i'=i
   ·rw[z]at e ⊢;exact f4 j hj b e
   ·exact hm i' j (by omega) hj b e
 ·rintro σ ⟨e0,e1,e2,hm⟩
  refine ZcF ?_
  refine ZaO (n:=n) (a:=fun i=>.int i) (P:=fun m σ=>σ 0=some (Zo n G R)∧σ 1=some (.lst (tab n fun i=>.int (x i)))∧∀t,t<m→Z4 (R t) (x t)) ?_ ⟨e0,e1,fun t h=>by omega⟩ ?_ ?_
  ·walk_at "z"
   rfl
  ·rintro t σ ht ⟨f0,f1,hr⟩
   unfold Zo ZH Zad ZaH ZD at f0
   have ho:=ok t ht
   have step:Z4 (R t) (x t)→∀t',t'<t+1→Z4 (R t') (x t'):=fun h t' ht'=>by
    by_cases z:t'=t
    ·rw[z];exact h
    ·exact hr t' (by omega)
   walk_at "z"
   by_cases c:(R t).1=0
   ·by_cases d:x t-(R t).2=0
    ·walk_at "z"
     refine⟨by walk_at "r",by walk_at "r",step ?_⟩
     unfold Z4
     exact⟨fun _=>by omega,fun q=>by omega⟩
    ·walk_at "z"
     exact .inl rfl
   ·have hp:0<(R t).1:=by have:=ho.nn;omega
    walk_at "z"
    rw[Int.fmod_eq_emod_of_nonneg _ (by omega)]
    refine⟨fun q=>?_,fun q=>?_⟩
    ·walk_at "z"
     exact .inl rfl
    ·walk_at "z"
     refine⟨by walk_at "r",by walk_at "r",step ?_⟩
     unfold Z4
     refine⟨fun z=>absurd z c,fun _=>?_⟩
     have:=of_decide_eq_false q
     exact Classical.byContradiction fun h=>this h
  ·rintro σ ⟨f0,f1,hr⟩
   walk_at "z"
   exact .inr ⟨rfl,hm,hr⟩
theorem ZpP(hn:n≤100)(ok:∀t,t<n→RestOk (R t)): ∃b,Zdk [Zo n G R,Zan n x]=some (.bool b)∧(b=true↔Zal n G R x):=by
 obtain⟨t,e,h⟩:=ZwK (x:=x) (G:=G) hn ok
 rcases h with rfl | ⟨rfl,h⟩
 ·refine⟨false,e,⟨fun q=>(by cases q),fun h=>?_⟩⟩
  have:=Zuz hn h ok
  rw[e]at this
  cases this
 ·exact⟨true,e,⟨fun _=>h,fun _=>rfl⟩⟩
theorem ZuA: Zdk [.none,Zan n x]=some (.bool false):=by
 apply Pk.eq
 unfold Zdk Zd7
 walk_at "z"
 rfl
def ZbU(n:Nat)(c:Nat→Int): Prop:=∀k,1≤k→k≤n→c k=0
theorem Zi7(h:ZbU n c): grt n G c=some (c 0):=by
 unfold grt
 have hu:Zar c n=[]:=List.eq_nil_iff_forall_not_mem.mpr fun i hi=>by
  have:=ups_mem.mp hi
  have z:=h i (by omega) (by omega)
  omega
 have hd:¬Df n c:=fun q=>by have:=(df_iff.mp q).1;rw[hu]at this;cases this
 rw[Zaq hd]
 have:∀j,j≤n→ZbL c (S40 G) j=(some (c 0),some (c 0)):=fun j=>by
  induction j with
  | zero=>intro _;rfl
  | succ j ih=>
   intro hj
   show Zjv (ZbL c (S40 G) j) (Zcd (S40 G j) (c (j+1)))=_
   rw[ih (by omega),h (j+1) (by omega) hj]
   show(some (c 0+0),some (c 0+0))=_
   rw[Int.add_zero]
 show(ZbL c (S40 G) n).2=some (c 0)
 rw[this n (Zz10 n)]
theorem Zej{n:Nat}{c x:Nat→Int}(h:ZbU n c): ∀j,j≤n→ZX c x j=c 0
 | 0,_=>rfl
 | j+1,hj=>by
  show ZX c x j+c (j+1)*x j=_
  rw[Zej h j (by omega),h (j+1) (by omega) hj,Int.zero_mul,Int.add_zero]
def ZhR(n:Nat)(c:Nat→Int)(i:Nat): Prop:=1≤i∧i≤n∧∀k,1≤k→k≤n→k≠i→c k=0
def Zrx(n:Nat)(c:Nat→Int)(i j:Nat): Prop:=1≤i∧i≤n∧1≤j∧j≤n∧i≠j∧c i=1∧c j = -1∧∀k,1≤k→k≤n→k≠i→k≠j→c k=0
def PlC(n:Nat)(c:Nat→Int): Prop:=ZbU n c∨(∃i,ZhR n c i∧c i≠0)∨∃i j,Zrx n c i j
theorem PlC.neg(h:PlC n c): PlC n fun k=>-(c k):=by
 rcases h with h | ⟨i,⟨h1,h2,h3⟩,h4⟩ | ⟨i,j,h1,h2,h3,h4,h5,h6,h7,h8⟩
 ·exact .inl fun k a b=>by show -(c k)=0;rw[h k a b];rfl
 ·exact .inr (.inl ⟨i,⟨h1,h2,fun k a b q=>by show -(c k)=0;rw[h3 k a b q];rfl⟩,fun q=>h4 (by have:-(c i)=0:=q;omega)⟩)
 ·exact .inr (.inr ⟨j,i,h3,h4,h1,h2,Ne.symm h5,by show -(c j)=1;rw[h7];rfl,by show -(c i) = -1;rw[h6],fun k a b q r=>by show -(c k)=0;rw[h8 k a b r q];rfl⟩)
theorem Zhy: unC i 0=0:=by unfold unC;rw[if_neg (by omega)]
theorem ZqC(h:ZhR n c i): ZbU n (Zat c i):=fun k a b=>by
 show c k-unC i k*c i=0
 by_cases q:k=i
 ·rw[q,Zfq h.1];omega
 ·rw[Zdu q,h.2.2 k a b q];omega
theorem ZqD(h:ZhR n c i): ZX c x n=c 0+Zaf x i*c i:=by
 have hv:ZX (Zat c i) x n=ZX c x n-Zaf x i*c i:=by
  rw[show Zat c i=fun k=>c k-(fun a=>unC i a*c i) k from rfl,ZdG,ZiA,Zeh i (by have:=h.2.1;omega)]
 rw[Zej (ZqC h) n (Zz10 n)]at hv
 have:Zat c i 0=c 0:=by show c 0-unC i 0*c i=c 0;rw[Zhy];omega
 omega
theorem Zhd(h:PlC n c)(a:AM n c top x): ZX c x n≤top:=by
 obtain⟨G,R,hc,l⟩:=a
 rcases h with h | ⟨i,h,h0⟩ | ⟨i,j,h1,h2,h3,h4,h5,h6,h7,h8⟩
 ·have z:=hc (-(c 0)) (Zi7 (c:=fun k=>-(c k)) fun k a b=>by show -(c k)=0;rw[h k a b];rfl)
  rw[Zej h n (Zz10 n)]
  omega
 ·have hi:=h.1
  have hn:=h.2.1
  have hcon:ZbU n (alC c i):=fun k a b=>by
   show unC i k*c i-c k=0
   by_cases q:k=i
   ·rw[q,Zfq h.1];omega
   ·rw[Zdu q,h.2.2 k a b q];omega
  have e0:alC c i 0 = -(c 0):=by show unC i 0*c i-c 0=_;rw[Zhy];omega
  have ep:prt n G c top i=some ((-(c 0)+top).fdiv (if c i<0 then -(c i)else c i)):=by unfold prt;rw[Zi7 hcon,e0];rfl
  rw[ZqD h]
  have f0:Zaf x 0=0:=rfl
  rcases Int.lt_trichotomy (c i) 0 with q | q | q
  ·have e:amG n G c top 0 i=ZaK (apW n G c top 0 i) (prt n G c top i):=by
    unfold amG alW
    rw[if_neg (by omega),if_pos ⟨rfl,hi,hn,q⟩]
   obtain⟨y,e1,e2⟩:=Zhw (a:=apW n G c top 0 i) (b:=prt n G c top i) _ ep
   have:=l.1 0 i (by omega) (by omega) y (e.trans e1)
   rw[if_pos q]at e2
   rw[Int.fdiv_eq_ediv_of_nonneg _ (by omega)]at e2
   have m:=(Int.le_ediv_iff_mul_le (show 0 < -(c i)by omega)).mp (show -(Zaf x i)≤(-(c 0)+top) / -(c i)by omega)
   rw[Int.neg_mul_neg]at m
   omega
  ·exact absurd q h0
  ·have e:amG n G c top i 0=ZaK (apW n G c top i 0) (prt n G c top i):=by
    unfold amG alW
    rw[if_pos ⟨rfl,hi,hn,q⟩]
   obtain⟨y,e1,e2⟩:=Zhw (a:=apW n G c top i 0) (b:=prt n G c top i) _ ep
   have:=l.1 i 0 (by omega) (by omega) y (e.trans e1)
   rw[if_neg (by omega)]at e2
   rw[Int.fdiv_eq_ediv_of_nonneg _ (by omega)]at e2
   have m:=(Int.le_ediv_iff_mul_le q).mp (show Zaf x i≤(-(c 0)+top) / c i by omega)
   omega
 ·have hcon:ZbU n (apC c i j):=fun k a b=>by
   show unC i k-unC j k-c k=0
   by_cases q:k=i
   ·rw[q,Zfq h1,Zdu h5,h6];rfl
   ·by_cases r:k=j
    ·rw[r,Zfq h3,Zdu (Ne.symm h5),h7];rfl
    ·rw[Zdu q,Zdu r,h8 k a b q r];rfl
  have e0:apC c i j 0 = -(c 0):=by show unC i 0-unC j 0-c 0=_;rw[Zhy,Zhy];omega
  have hv:ZX (apC c i j) x n=Zaf x i-Zaf x j-ZX c x n:=by
   rw[show apC c i j=fun k=>(fun a=>unC i a-unC j a) k-c k from rfl,ZdG,ZdG,Zeh i (by omega),Zeh j (by omega)]
  rw[Zej hcon n (Zz10 n),e0]at hv
  have e:amG n G c top i j=ZaK (G i j) (some (-(c 0)+top)):=by
   unfold amG alW
   rw[if_neg (by omega),if_neg (by omega)]
   unfold apW
   rw[if_neg h5,Zi7 hcon,e0]
   rfl
  obtain⟨y,e1,e2⟩:=Zhw (a:=G i j) (b:=some (-(c 0)+top)) _ rfl
  have:=l.1 i j (by omega) (by omega) y (e.trans e1)
  omega
theorem ZlT(ok:∀t,t<n→RestOk (R t))(h:ZbU n c): ZaA c R n=(0,c 0):=by
 have h1:∀j,j≤n→Zba c R j=0∧Zbw c R j=c 0:=fun j=>by
  induction j with
  | zero=>intro _;exact⟨rfl,rfl⟩
  | succ j ih=>
   intro hj
   obtain⟨a,b⟩:=ih (by omega)
   have z:=h (j+1) (by omega) hj
   constructor
   ·show((Int.gcd (Zba c R j) (c (j+1)*(R j).1):Nat):Int)=0
    rw[a,z,Int.zero_mul]
    rfl
   ·show Zbw c R j+c (j+1)*(R j).2=c 0
    rw[b,z,Int.zero_mul,Int.add_zero]
 obtain⟨a,b⟩:=h1 n (Zz10 n)
 rw[ZcE ok n (Zz10 n),a,b]
 rfl
theorem Zru(h:0<d): ((Int.gcd 0 d:Nat):Int)=d:=by
 rw[Int.gcd_zero_left]
 omega
theorem ZwL(op:RestOk p)(h:Z4 p v)(hd:d ∣ v): Z4 (Zdy p d) 0:=by
 unfold Zdy
 refine(Zcg (by omega) _).mpr ?_
 have a:=(ZaU op.nn v).mp h
 have g1:((Int.gcd p.1 d:Nat):Int) ∣ p.1:=Int.gcd_dvd_left ..
 have g2:((Int.gcd p.1 d:Nat):Int) ∣ d:=Int.gcd_dvd_right ..
 have:=Int.dvd_sub (Int.dvd_trans g1 a) (Int.dvd_trans g2 hd)
 rwa [show v-p.2-v=0-p.2 by omega]at this
theorem Zrd: RestOk (Zdy p d):=ZbV (by omega) _
def EvC(n:Nat)(c:Nat→Int): Prop:=ZbU n c∨∃i,ZhR n c i∧(c i=1∨c i = -1)
theorem ZtV(hd:0<d)(ok:∀t,t<n→RestOk (R t))(h0:Z4 (Zdy (ZaA c R n) d) 0)(hb:∀t,t<n→BesO n R c d t (some (R' t)))(l:∀t,t<n→Z4 (R' t) (x t))(h:EvC n c): d ∣ ZX c x n:=by
 rcases h with h | ⟨i,h,q⟩
 ·rw[ZlT ok h]at h0
  have:=(Zcg (by omega) _).mp h0
  rw[Zru hd]at this
  rw[Zej h n (Zz10 n)]
  have t:=(Int.dvd_neg).mpr this
  rwa [show -(0-(0,c 0).2)=c 0 by show -(0-c 0)=c 0;omega]at t
 ·obtain⟨t,rfl⟩:∃t,i=t+1:=⟨i-1,by have:=h.1;omega⟩
  have ht:t<n:=by have:=h.2.1;omega
  have b:=hb t ht
  unfold BesO at b
  rw[if_pos q]at b
  have hx:=((b.2 (x t)).mp (l t ht)).2
  unfold ZcO at hx
  rw[ZlT ok (ZqC h)]at hx
  have hx:=(Zcg (by omega) _).mp hx
  have e0:Zat c (t+1) 0=c 0:=by show c 0-unC (t+1) 0*c (t+1)=c 0;rw[Zhy];omega
  rw[Zru hd,e0]at hx
  rw[ZqD h]
  have hx:d ∣ x t - -(c (t+1))*c 0:=hx
  show d ∣ c 0+x t*c (t+1)
  rcases q with e | e <;> rw[e]at hx ⊢
  ·rwa [show x t - -1*c 0=c 0+x t*1 by omega]at hx
  ·have:=(Int.dvd_neg).mpr hx
   rwa [show -(x t - -(-1)*c 0)=c 0+x t * -1 by omega]at this
theorem Zre(hn:n≤4)(hd:∀i,i<n+1→G i i=some 0)(ok:∀t,t<n→RestOk (R t))(sG:SmG 137 n G)(sR:SmR 137 n R)(bc:∀i,i<n+1→Bd 301 (c i))(hd0:0<d)(bd:Bd 140 d): ∃D,Zgu [Zo n G R,ZB n c,.int d]=some D∧Tf n (fun x=>Zal n G R x∧d ∣ ZX c x n) (fun G2 R2=>Zbl n G2 R2 G R∧∀x,Zal n G2 R2 x→EvC n c→d ∣ ZX c x n) D:=by
 have bR:∀t,t<n→RBd 500 (R t):=fun t ht=>⟨(show Bd 137 _ from(sR t ht).1).mono (by decide),(show Bd 137 _ from(sR t ht).2).mono (by decide)⟩
 have bc5:∀i,i<n+1→Bd 500 (c i):=fun i hi=>(bc i hi).mono (by decide)
 have ht:Zo n G R=.tup [ZH (n+1) G,.lst (tab n fun i=>ZD (R i))]:=rfl
 have hg:∀{Q:T→Prop},Q (.lst (tab n fun i=>ZD (R i)))→Pk (ZA (Zo n G R) (.int 1)) Q:=fun h=>⟨_,by rw[ht];rfl,h⟩
 have bp:=Zi5 (m:=500) ok (fun t ht=>(bR t ht).1) bR bc5
 have hs:=Zgf (i:=500) (R:=R) (by omega) (by decide) (by decide) bc5 bR ok
 have hl:=Zm6 (p:=ZaA c R n) (d:=d) (k:=1100) (by decide) (bp.1.mono (by omega)) (bd.mono (by decide))
 by_cases hr:Z4 (Zdy (ZaA c R n) d) 0
 ·obtain⟨D,a,_,t⟩:=ZqA (k:=500) (b:=302) (m:=137) (K:=2400) (G:=G) (R:=R) (c:=c) (d:=d) (by omega) (by decide) (by omega) (by decide) (by decide) (by omega) (by omega) hd (fun i j hi hj y e=>(show Bd 137 y from sG i j hi hj y e).mono (by decide)) ok (fun t ht=>(sR t ht).1) bR bc5 (ZqB bc) (bd.mono (by decide))
  refine⟨D,?_,?_⟩
  ·apply Pk.eq
   unfold Zgu ZeR
   clear t ht
   generalize Zo n G R=T0 at *
   walk_at "z"
   refine hg ?_
   walk_at "z"
   refine Zn hs ?_
   walk_at "z"
   refine Zn hl ?_
   walk_at "z"
   refine Zn (Zd5 Zrd) ?_
   rw[Zap hr]
   walk_at "z"
   exact Zn a rfl
  ·rcases t with h | ⟨G2,R2,rfl,h1,h2,h3,R',ok',bes,ins⟩
   ·exact .inl h
   ·refine .inr ⟨G2,R2,rfl,h1,h2,h3,Zgg h2 ok' ok ins ⟨fun i hi j hj=>ZbQ,fun t ht=>?_⟩,fun x l e=>ZtV hd0 ok hr bes (Zei h2 ok' ins l).2 e⟩
    refine Zjp (ok' t ht) (ok t ht) fun x hx=>?_
    have b:=bes t ht
    unfold BesO at b
    split at b
    ·exact((b.2 x).mp hx).1
    ·rw[Option.some.inj b]at hx;exact hx
 ·refine⟨.none,?_,.inl ⟨rfl,fun x h=>hr (ZwL (Zfi ok) (ZlS ok h.1.2) h.2)⟩⟩
  apply Pk.eq
  unfold Zgu ZeR
  walk_at "z"
  refine hg ?_
  walk_at "z"
  refine Zn hs ?_
  walk_at "z"
  refine Zn hl ?_
  walk_at "z"
  refine Zn (Zd5 Zrd) ?_
  rw[Zaq hr]
  walk_at "z"
  rfl
theorem ss_: PyData.strOk (Str.ofString "same")=true:=by decide +kernel
theorem Zrf: ¬(T.str (Str.ofString "same")=T.str (Str.ofString "under")):=by
 intro h
 have:=T.str.inj h
 revert this
 decide +kernel
noncomputable def smT(n:Nat)(c:Nat→Int): T:=.tup [.str (Str.ofString "same"),ZB n c]
theorem ZqE{b:Bool}(h:(if b then Zd3 [Zo n G R,ZB n c]else ZfM [Zo n G R,ZB n c])=some D): Zcl [Zo n G R,smT n c,.bool b]=some D:=by
 apply Pk.eq
 unfold Zcl Zeq
 have ht:Zo n G R=.tup [ZH (n+1) G,.lst (tab n fun i=>ZD (R i))]:=rfl
 have hne:∀{Q:T→Prop},Q (.bool false)→Pk (qIs (Zo n G R) .none) Q:=fun h=>⟨_,by rw[ht];rfl,h⟩
 unfold smT
 walk_at "z"
 refine hne ?_
 walk_at "z"
 refine Zbb (n:=1) (m:=1) (.str ss_) (.str su) ?_
 rw[Zaq Zrf]
 walk_at "z"
 refine Zbb (n:=1) (m:=1) (.str ss_) (.str ss_) ?_
 rw[Zap rfl]
 cases b with
 | true=>
  rw[if_pos rfl]at h
  walk_at "z"
  exact Zn h rfl
 | false=>
  rw[if_neg (by decide)]at h
  walk_at "z"
  exact Zn h rfl
theorem ZqF{c x:Nat→Int}{top:Int}: ∀j,ZX (Zb6 c top) x j=ZX c x j-top
 | 0=>rfl
 | j+1=>by
  show ZX (Zb6 c top) x j+Zb6 c top (j+1)*x j=ZX c x j+c (j+1)*x j-top
  rw[ZqF j,show Zb6 c top (j+1)=c (j+1)from rfl]
  omega
theorem ZxK(h:EvC n c): EvC n (Zb6 c top):=by
 have e:∀k,1≤k→Zb6 c top k=c k:=fun k hk=>by unfold Zb6;rw[if_neg (by omega)]
 rcases h with h | ⟨i,⟨h1,h2,h3⟩,q⟩
 ·exact .inl fun k a b=>by rw[e k a];exact h k a b
 ·exact .inr ⟨i,⟨h1,h2,fun k a b r=>by rw[e k a];exact h3 k a b r⟩,by rw[e i h1];exact q⟩
theorem Zyh(hd:0<d): Z4 (d,0) v↔d ∣ v:=by
 rw[ZaU (show(0:Int)≤(d,(0:Int)).1 from by show 0≤d;omega)]
 show d ∣ v-0↔d ∣ v
 rw[Int.sub_zero]
theorem Zry(hd:0<d): RestOk (d,0):=.inr ⟨hd,Int.le_refl 0,hd⟩
def NeC(n:Nat)(c:Nat→Int)(d:Int): Prop:=ZbU n c∨d=1∨(d=2∧EvC n c)
theorem ZtW(hn:n≤4)(hd:∀i,i<n+1→G i i=some 0)(ok:∀t,t<n→RestOk (R t))(sG:SmG 137 n G)(sR:SmR 137 n R)(bc:∀i,i<n+1→Bd 300 (c i))(hd0:0<d)(bd:Bd 140 d): ∃D,ZeK [Zo n G R,ZB n c,.int d]=some D∧Tf n (fun x=>Zal n G R x∧¬d ∣ ZX c x n) (fun G2 R2=>Zbl n G2 R2 G R∧∀x,Zal n G2 R2 x→NeC n c d→¬d ∣ ZX c x n) D:=by
 have bR:∀t,t<n→RBd 500 (R t):=fun t ht=>⟨(show Bd 137 _ from(sR t ht).1).mono (by decide),(show Bd 137 _ from(sR t ht).2).mono (by decide)⟩
 have bc5:∀i,i<n+1→Bd 500 (c i):=fun i hi=>(bc i hi).mono (by decide)
 have ht:Zo n G R=.tup [ZH (n+1) G,.lst (tab n fun i=>ZD (R i))]:=rfl
 have hg:∀{Q:T→Prop},Q (.lst (tab n fun i=>ZD (R i)))→Pk (ZA (Zo n G R) (.int 1)) Q:=fun h=>⟨_,by rw[ht];rfl,h⟩
 have hs:=Zgf (i:=500) (R:=R) (by omega) (by decide) (by decide) bc5 bR ok
 have hri:=Zr1 (p:=ZaA c R n) (Zry hd0)
 have ed:ZD (d,(0:Int))=.tup [.int d,.int 0]:=rfl
 rw[ed]at hri
 have hq0:∀{Q:T→Prop},Q (.int (c 0))→Pk (ZA (ZB n c) (.int 0)) Q:=fun h=>by
  unfold ZB
  walk_at "z"
  exact h
 by_cases hr:RIn (ZaA c R n) (d,0)
 ·refine⟨.none,?_,.inl ⟨rfl,fun x h=>h.2 ((Zyh hd0).mp (Zi6 (Zfi ok) (Zry hd0) hr (ZlS ok h.1.2)))⟩⟩
  apply Pk.eq
  unfold ZeK ZdW
  walk_at "z"
  refine hg ?_
  walk_at "z"
  refine Zn hs ?_
  walk_at "z"
  refine Zn hri ?_
  rw[Zap hr]
  walk_at "z"
  rfl
 ·have con:ZbU n c→∀x,¬d ∣ ZX c x n:=fun h x q=>hr (by
   rw[Zej h n (Zz10 n)]at q
   rw[ZlT ok h]
   unfold RIn
   rw[if_neg (by show ¬d=0;omega)]
   exact⟨Int.zero_emod d,by show(c 0-0) % d=0;rw[Int.sub_zero];exact Int.emod_eq_zero_of_dvd q⟩)
  have one:d≠1:=fun e=>hr (by
   subst e
   unfold RIn
   rw[if_neg (by decide)]
   exact⟨Int.emod_one _,Int.emod_one _⟩)
  by_cases h2:d=2
  ·subst h2
   obtain⟨D,a,t⟩:=Zre (c:=Zb6 c (-1)) hn hd ok sG sR (ZxF bc ((show Bd 1 (-1)by unfold Bd;decide).mono (by decide))) (by decide) bd
   refine⟨D,?_,?_⟩
   ·apply Pk.eq
    unfold ZeK ZdW
    clear t ht
    generalize Zo n G R=T0 at *
    walk_at "z"
    refine hg ?_
    walk_at "z"
    refine Zn hs ?_
    walk_at "z"
    refine Zn hri ?_
    rw[Zaq hr]
    walk_at "z"
    refine hq0 ?_
    walk_at "z"
    refine Zix ?_
    walk_at "z"
    refine⟨_,rfl,?_⟩
    refine Zqn (by simp[tab];omega) ?_
    rw[show c 0+1=c 0 - -1 by omega,ZwJ,show T.lst (tab (n+1) fun i=>T.int (Zb6 c (-1) i))=ZB n (Zb6 c (-1))from rfl]
    walk_at "z"
    exact Zn a rfl
   ·have vl:∀x,ZX (Zb6 c (-1)) x n=ZX c x n+1:=fun x=>by rw[ZqF];omega
    rcases t with⟨rfl,no⟩ | ⟨G2,R2,rfl,h1,h2,h3,h4,h5⟩
    ·exact .inl ⟨rfl,fun x h=>no x ⟨h.1,by rw[vl];omega⟩⟩
    ·refine .inr ⟨G2,R2,rfl,h1,h2,fun x h=>h3 x ⟨h.1,by rw[vl];omega⟩,h4,fun x l p=>?_⟩
     rcases p with p | p | ⟨_,p⟩
     ·exact con p x
     ·exact absurd p one
     ·have:=h5 x l (ZxK p)
      rw[vl]at this
      omega
  ·refine⟨Zo n G R,?_,.inr ⟨G,R,rfl,hd,ok,fun x h=>h.1,⟨fun i hi j hj=>ZbQ,fun t ht=>Zpz⟩,fun x l p=>?_⟩⟩
   ·have hf:ZiW [Zo n G R]=some (Zo n G R):=ZiI ((Zqm (by omega)).mono (by decide))
    apply Pk.eq
    unfold ZeK ZdW
    clear ht
    generalize Zo n G R=T0 at *
    walk_at "z"
    refine hg ?_
    walk_at "z"
    refine Zn hs ?_
    walk_at "z"
    refine Zn hri ?_
    rw[Zaq hr]
    walk_at "z"
    exact Zn hf rfl
   ·rcases p with p | p | ⟨p,_⟩
    ·exact con p x
    ·exact absurd p one
    ·exact absurd p h2
theorem ZqG: nzI (n+1) c=nzI n c++(if c (n+1)≠0 then [c (n+1)]else []):=by
 unfold nzI xsI
 rw[show(tab (n+1) fun i=>c (i+1))=(tab n fun i=>c (i+1))++[c (n+1)]by simp[tab,List.range_succ]]
 rw[List.filter_append]
 by_cases h:c (n+1)=0 <;> simp[h]
theorem Zhz{c:Nat→Int}: ∀{n:Nat},nzI n c=[]→ZbU n c
 | 0,_=>fun k a b=>by omega
 | n+1,h=>fun k a b=>by
  rw[ZqG]at h
  obtain⟨h1,h2⟩:=List.append_eq_nil_iff.mp h
  by_cases q:k=n+1
  ·subst q
   refine Classical.byContradiction fun z=>?_
   rw[if_pos z]at h2
   cases h2
  ·exact Zhz h1 k a (by omega)
theorem ZmB{c:Nat→Int}{v:Int}: ∀{n:Nat},nzI n c=[v]→∃i,ZhR n c i∧c i=v∧c i≠0
 | 0,h=>by cases h
 | n+1,h=>by
  rw[ZqG]at h
  by_cases z:c (n+1)=0
  ·rw[if_neg (by simp[z]),List.append_nil]at h
   obtain⟨i,⟨h1,h2,h3⟩,h4,h5⟩:=ZmB h
   refine⟨i,⟨h1,by omega,fun k a b q=>?_⟩,h4,h5⟩
   by_cases r:k=n+1
   ·rw[r];exact z
   ·exact h3 k a (by omega) q
  ·rw[if_pos z]at h
   cases e:nzI n c with
   | nil=>
    rw[e]at h
    refine⟨n+1,⟨by omega,Nat.le_refl _,fun k a b q=>Zhz e k a (by omega)⟩,?_,z⟩
    simpa using h
   | cons a l=>
    rw[e]at h
    have:=congrArg List.length h
    simp at this
theorem ZxL(h:Df n c): ∃i j,Zrx n c i j:=by
 obtain⟨u,d,e1,e2,e3,e4,h1,h2,h3,h4,_⟩:=Zg1 h
 refine⟨u,d,h3,by omega,h4,by omega,fun q=>(by rw[q,e4]at e3;cases e3),e3,e4,fun k a b q r=>?_⟩
 have n1:¬0<c k:=fun z=>q (by have:=ups_mem.mpr ⟨a,b,z⟩;rw[e1]at this;simpa using this)
 have n2:¬c k<0:=fun z=>r (by have:=dns_mem.mpr ⟨a,b,z⟩;rw[e2]at this;simpa using this)
 omega
theorem se_: PyData.strOk (Str.ofString "even")=true:=by decide +kernel
theorem ZhA{a b:Str}(h:a≠b): ¬(T.str a=T.str b):=fun q=>h (T.str.inj q)
noncomputable def evT(n:Nat)(c:Nat→Int)(d:Int): T:=.tup [.str (Str.ofString "even"),ZB n c,.int d]
theorem Zmg(hn:n≤60)(hi:ZA Cl (.int 1)=some (ZB n c))(e:σ 0=some Cl): Pk (ZaC (ZaT (Zfm (Zm ZA (Ze 0) (Zv 1)) (Zhp (Zv 1)) Zho)) (Zag 100) (Z5 (Zm qNe (Ze 100) (Zv 0))) (Ze 100) σ) fun t=>t=.lst ((nzI n c).map T.int):=by
 refine Ziz (ts:=(xsI n c).map T.int) (P:=fun t=>match t with | .int x=>decide (x≠0) | _=>false) (by simp[xsI,Zai];omega) ?_ (fun t m=>?_) ?_
 ·refine Zhg ?_
  refine Zyd ?_
  have hq:Pk (Zm ZA (Ze 0) (Zv 1) σ) fun t=>t=ZB n c:=by
   walk_at "z"
   exact Zn hi rfl
  refine hq.mono ?_
  rintro _ rfl
  refine⟨_,rfl,?_⟩
  walk_at "z"
  refine⟨1,rfl,?_⟩
  rw[ZiG]
  refine Sq.lst ?_
  unfold xsI
  rw[tab_map]
 ·obtain⟨x,_,rfl⟩:=Zz11.mp m
  walk_at "z"
  rfl
 ·unfold nzI
  rw[List.filter_map]
  rfl
theorem ZxM: (nzI n c).length≤n:=by
 unfold nzI
 refine Nat.le_trans (List.length_filter_le _ _) ?_
 simp[xsI,Zai]
theorem Zrg: ¬(T.str (Str.ofString "under")=T.str (Str.ofString "even")):=ZhA (by decide +kernel)
theorem Zrh: ¬(T.str (Str.ofString "same")=T.str (Str.ofString "even")):=ZhA (by decide +kernel)
theorem ZxN: ¬(T.str (Str.ofString "under")=T.str (Str.ofString "same")):=ZhA (by decide +kernel)
theorem Zri: ¬(T.str (Str.ofString "even")=T.str (Str.ofString "under")):=ZhA (by decide +kernel)
theorem Zrj: ¬(T.str (Str.ofString "even")=T.str (Str.ofString "same")):=ZhA (by decide +kernel)
theorem Zvq(h:Zd2 [ZB n c,Zan n x]=some (.int v)): Zdh [unT n c,Zan n x]=some (.bool (decide (v<0))):=by
 apply Pk.eq
 unfold Zdh Zd4 unT
 walk_at "z"
 refine Zn h ?_
 walk_at "z"
 refine Zbb (n:=1) (m:=1) (.str su) (.str su) ?_
 rw[Zap rfl]
 walk_at "z"
 rfl
theorem Zvr(h:Zd2 [ZB n c,Zan n x]=some (.int v)): Zdh [smT n c,Zan n x]=some (.bool (decide (v=0))):=by
 apply Pk.eq
 unfold Zdh Zd4 smT
 walk_at "z"
 refine Zn h ?_
 walk_at "z"
 refine Zbb (n:=1) (m:=1) (.str ss_) (.str su) ?_
 rw[Zaq Zrf]
 walk_at "z"
 refine Zbb (n:=1) (m:=1) (.str ss_) (.str ss_) ?_
 rw[Zap rfl]
 walk_at "z"
 rfl
theorem Zvs(hd:0<d)(h:Zd2 [ZB n c,Zan n x]=some (.int v)): Zdh [evT n c d,Zan n x]=some (.bool (decide (v.fmod d=0))):=by
 apply Pk.eq
 unfold Zdh Zd4 evT
 walk_at "z"
 refine Zn h ?_
 walk_at "z"
 refine Zbb (n:=1) (m:=1) (.str se_) (.str su) ?_
 rw[Zaq Zri]
 walk_at "z"
 refine Zbb (n:=1) (m:=1) (.str se_) (.str ss_) ?_
 rw[Zaq Zrj]
 walk_at "z"
 rfl
theorem Zrz(h:(nzI n c).length=1): ∃v,nzI n c=[v]:=by
 match e:nzI n c,h with
 | [v],_=>exact⟨v,rfl⟩
theorem ZxO(h:nzI n c=[v]): ZA (.lst ((nzI n c).map T.int)) (.int 0)=some (.int v):=by rw[h];rfl
theorem Zrk(h:(((nzI n c).map T.int).length:Int)=1): PlC n c:=by
 obtain⟨v,ev⟩:=Zrz (n:=n) (c:=c) (by rw[List.length_map]at h;omega)
 obtain⟨i,h2,_,h3⟩:=ZmB ev
 exact .inr (.inl ⟨i,h2,h3⟩)
theorem ZoO(hn:n≤60)(e:σ 2=some (.lst ((nzI n c).map T.int))): Pk (Zm qEq (ZT Zff (Zr (Ze 2) ZL)) (ZdN (Zr (pUn ZcX (Zv 1)) (Zr (Zv 1) ZL))) σ) fun t=>∃p,t=.bool p∧(p=true→PlC n c):=by
 have hl:=ZxM (n:=n) (c:=c)
 walk_at "z"
 refine⟨.lst ((PM.ZcK (nzI n c)).map T.int),?_,?_⟩
 ·simp only[Zff,Zhc,Option.bind_some,List.length_map]
  rw[if_pos (by omega)]
 walk_at "z"
 refine Zbb (n:=1) (m:=1) (Zi2 _) (Zi2 [-1,1]) ?_
 exact⟨_,rfl,fun q=>.inr (.inr (ZxL (Zoh (b:=[-1,1]) (T.lst.inj (dec_iff.mp q)))))⟩
theorem Zvt{b:Bool}(hn:n≤60): Pk (Zdi [unT n c,.bool b]) fun t=>∃p,t=.bool p∧(p=true→PlC n c):=by
 unfold Zdi Zgv
 have h0:∀{Q:T→Prop},Q (.str (Str.ofString "under"))→Pk (ZA (unT n c) (.int 0)) Q:=fun h=>⟨_,rfl,h⟩
 refine Zep rfl ?_
 refine ZcF ?_
 refine Zeo ?_
 refine(Zmg (c:=c) hn rfl rfl).mono ?_
 rintro _ rfl
 by_cases hz:(nzI n c).length=0
 ·have hz':(((nzI n c).map T.int).length:Int)=0:=by rw[List.length_map];omega
  walk_at "z"
  exact⟨true,rfl,fun _=>.inl (Zhz (List.length_eq_zero_iff.mp hz))⟩
 ·have hz':¬(((nzI n c).map T.int).length:Int)=0:=by rw[List.length_map];omega
  walk_at "z"
  refine h0 ?_
  walk_at "z"
  refine Zbb (n:=1) (m:=1) (.str su) (.str se_) ?_
  rw[Zaq Zrg]
  walk_at "z"
  refine h0 ?_
  walk_at "z"
  refine Zbb (n:=1) (m:=1) (.str su) (.str se_) ?_
  rw[Zaq Zrg]
  walk_at "z"
  refine h0 ?_
  walk_at "z"
  refine Zbb (n:=1) (m:=1) (.str su) (.str ss_) ?_
  rw[Zaq ZxN]
  walk_at "z"
  exact⟨fun q=>⟨_,rfl,fun _=>Zrk (of_decide_eq_true q)⟩,fun _=>ZoO hn (by walk_at "r")⟩
theorem Zvu{b:Bool}(hn:n≤60): Pk (Zdi [smT n c,.bool b]) fun t=>∃p,t=.bool p∧(p=true→if b then PlC n c else ZbU n c):=by
 unfold Zdi Zgv
 have h0:∀{Q:T→Prop},Q (.str (Str.ofString "same"))→Pk (ZA (smT n c) (.int 0)) Q:=fun h=>⟨_,rfl,h⟩
 refine Zep rfl ?_
 refine ZcF ?_
 refine Zeo ?_
 refine(Zmg (c:=c) hn rfl rfl).mono ?_
 rintro _ rfl
 by_cases hz:(nzI n c).length=0
 ·have hz':(((nzI n c).map T.int).length:Int)=0:=by rw[List.length_map];omega
  have hc:ZbU n c:=Zhz (List.length_eq_zero_iff.mp hz)
  walk_at "z"
  exact⟨true,rfl,fun _=>by cases b;exact hc;exact .inl hc⟩
 ·have hz':¬(((nzI n c).map T.int).length:Int)=0:=by rw[List.length_map];omega
  walk_at "z"
  refine h0 ?_
  walk_at "z"
  refine Zbb (n:=1) (m:=1) (.str ss_) (.str se_) ?_
  rw[Zaq Zrh]
  walk_at "z"
  refine h0 ?_
  walk_at "z"
  refine Zbb (n:=1) (m:=1) (.str ss_) (.str se_) ?_
  rw[Zaq Zrh]
  walk_at "z"
  refine h0 ?_
  walk_at "z"
  refine Zbb (n:=1) (m:=1) (.str ss_) (.str ss_) ?_
  rw[Zap rfl]
  cases b with
  | true=>
   walk_at "z"
   exact⟨fun q=>⟨_,rfl,fun _=>Zrk (of_decide_eq_true q)⟩,fun _=>ZoO hn (by walk_at "r")⟩
  | false=>
   walk_at "z"
   exact⟨false,rfl,fun q=>by cases q⟩
theorem ZxP(h:nzI n c=[v])(a:ZaQ v=1): EvC n c:=by
 obtain⟨i,h2,h3,_⟩:=ZmB h
 refine .inr ⟨i,h2,?_⟩
 rw[h3]
 unfold ZaQ at a
 split at a <;> omega
theorem Zvv{b:Bool}(hn:n≤60): Pk (Zdi [evT n c d,.bool b]) fun t=>∃p,t=.bool p∧(p=true→if b then EvC n c else NeC n c d):=by
 unfold Zdi Zgv
 have h0:∀{Q:T→Prop},Q (.str (Str.ofString "even"))→Pk (ZA (evT n c d) (.int 0)) Q:=fun h=>⟨_,rfl,h⟩
 have h2:∀{Q:T→Prop},Q (.int d)→Pk (ZA (evT n c d) (.int 2)) Q:=fun h=>⟨_,rfl,h⟩
 refine Zep rfl ?_
 refine ZcF ?_
 refine Zeo ?_
 refine(Zmg (c:=c) hn rfl rfl).mono ?_
 rintro _ rfl
 by_cases hz:(nzI n c).length=0
 ·have hz':(((nzI n c).map T.int).length:Int)=0:=by rw[List.length_map];omega
  have hc:ZbU n c:=Zhz (List.length_eq_zero_iff.mp hz)
  walk_at "z"
  exact⟨true,rfl,fun _=>by cases b;exact .inl hc;exact .inl hc⟩
 ·have hz':¬(((nzI n c).map T.int).length:Int)=0:=by rw[List.length_map];omega
  walk_at "z"
  refine h0 ?_
  walk_at "z"
  refine Zbb (n:=1) (m:=1) (.str se_) (.str se_) ?_
  rw[Zap rfl]
  by_cases h1:(nzI n c).length=1
  ·have h1':(((nzI n c).map T.int).length:Int)=1:=by rw[List.length_map];omega
   obtain⟨v,ev⟩:=Zrz h1
   have hx:=ZxO ev
   have oe:=ZxP ev
   generalize (nzI n c).map T.int=L0 at *
   cases b with
   | true=>
    walk_at "z"
    refine Zn hx ?_
    walk_at "z"
    exact⟨_,rfl,fun q=>oe (of_decide_eq_true q)⟩
   | false=>
    walk_at "z"
    refine h0 ?_
    walk_at "z"
    refine Zbb (n:=1) (m:=1) (.str se_) (.str se_) ?_
    rw[Zap rfl]
    walk_at "z"
    refine h2 ?_
    walk_at "z"
    refine⟨fun q=>⟨_,rfl,fun _=>.inr (.inl (of_decide_eq_true q))⟩,fun q=>?_⟩
    walk_at "z"
    refine h2 ?_
    walk_at "z"
    refine⟨fun q2=>?_,fun q2=>?_⟩
    ·walk_at "z"
     refine Zn hx ?_
     walk_at "z"
     exact⟨_,rfl,fun z=>.inr (.inr ⟨of_decide_eq_true q2,oe (of_decide_eq_true z)⟩)⟩
    ·walk_at "z"
     exact⟨_,rfl,fun z=>absurd z (by rw[q2];decide)⟩
  ·have h1':¬(((nzI n c).map T.int).length:Int)=1:=by rw[List.length_map];omega
   cases b with
   | true=>
    walk_at "z"
    exact⟨_,rfl,fun z=>absurd (of_decide_eq_true z) h1'⟩
   | false=>
    walk_at "z"
    refine h0 ?_
    walk_at "z"
    refine Zbb (n:=1) (m:=1) (.str se_) (.str se_) ?_
    rw[Zap rfl]
    walk_at "z"
    refine h2 ?_
    walk_at "z"
    refine⟨fun q=>⟨_,rfl,fun _=>.inr (.inl (of_decide_eq_true q))⟩,fun q=>?_⟩
    walk_at "z"
    refine h2 ?_
    walk_at "z"
    refine⟨fun q2=>?_,fun q2=>?_⟩
    ·walk_at "z"
     exact⟨_,rfl,fun z=>absurd (of_decide_eq_true z) h1'⟩
    ·walk_at "z"
     exact⟨_,rfl,fun z=>absurd z (by rw[q2];decide)⟩
def Fnd(n:Nat)(G:Nat→Nat→Option Int)(R:Nat→Int×Int)(c:Nat→Int)(hb:Int→Bool)(PL:Prop)(b:Bool)(D:T): Prop:=Tf n (fun x=>Zal n G R x∧hb (ZX c x n)=b) (fun G2 R2=>Zbl n G2 R2 G R∧∀x,Zal n G2 R2 x→PL→hb (ZX c x n)=b) D
theorem Zvw{b:Bool}(hn:n≤100)(h:Fnd n G R c hb PL b D): ∃l,Zdk [D,Zan n x]=some (.bool l)∧(Zal n G R x→hb (ZX c x n)=b→l=true)∧(l=true→PL→hb (ZX c x n)=b):=by
 rcases h with⟨rfl,no⟩ | ⟨G2,R2,rfl,h1,h2,h3,h4,h5⟩
 ·exact⟨false,ZuA,fun a q=>absurd ⟨a,q⟩ (no x),fun q=>by cases q⟩
 ·obtain⟨l,e,hl⟩:=ZpP (x:=x) (G:=G2) hn h2
  exact⟨l,e,fun a q=>hl.mpr (h3 x ⟨a,q⟩),fun q p=>h5 x (hl.mp q) p⟩
theorem ZqH{b:Bool}(hn:n≤100)(ok:∀t,t<n→RestOk (R t))(hh:Zdh [Cl,Zan n x]=some (.bool (hb (ZX c x n))))(hp:Pk (Zdi [Cl,.bool b]) fun t=>∃p,t=.bool p∧(p=true→PL))(hD:Fnd n G R c hb PL b D): Zde [Zo n G R,Cl,.bool b,Zan n x,D]=some (.bool true):=by
 obtain⟨lD,eD,d1,d2⟩:=Zvw (x:=x) hn hD
 obtain⟨lT,eT,hT⟩:=ZpP (x:=x) (G:=G) hn ok
 obtain⟨_,ep,p,rfl,hpl⟩:=hp
 apply Pk.eq
 unfold Zde ZfP
 clear hD
 generalize Zo n G R=T0 at *
 generalize Zan n x=B at *
 generalize hb (ZX c x n)=v at *
 walk_at "z"
 refine Zn hh ?_
 walk_at "z"
 by_cases hr:v=b
 ·have e:(v == b)=true:=by simp[hr]
  rw[e]
  walk_at "z"
  refine Zn eT ?_
  cases lT with
  | true=>
   walk_at "z"
   refine Zn eD ?_
   rw[d1 (hT.mp rfl) hr]
  | false=>
   walk_at "z"
   rfl
 ·have e:(v == b)=false:=by simpa using hr
  rw[e]
  walk_at "z"
  refine Zn ep ?_
  cases p with
  | false=>
   walk_at "z"
   rfl
  | true=>
   walk_at "z"
   refine Zn eD ?_
   cases lD with
   | true=>exact absurd (d2 rfl (hpl rfl)) hr
   | false=>
    walk_at "z"
    rfl
theorem ZqI{b:Bool}(h:(if b then Zgu [Zo n G R,ZB n c,.int d]else ZeK [Zo n G R,ZB n c,.int d])=some D): Zcl [Zo n G R,evT n c d,.bool b]=some D:=by
 apply Pk.eq
 unfold Zcl Zeq
 have ht:Zo n G R=.tup [ZH (n+1) G,.lst (tab n fun i=>ZD (R i))]:=rfl
 have hne:∀{Q:T→Prop},Q (.bool false)→Pk (qIs (Zo n G R) .none) Q:=fun h=>⟨_,by rw[ht];rfl,h⟩
 unfold evT
 walk_at "z"
 refine hne ?_
 walk_at "z"
 refine Zbb (n:=1) (m:=1) (.str se_) (.str su) ?_
 rw[Zaq Zri]
 walk_at "z"
 refine Zbb (n:=1) (m:=1) (.str se_) (.str ss_) ?_
 rw[Zaq Zrj]
 cases b with
 | true=>
  rw[if_pos rfl]at h
  walk_at "z"
  exact Zn h rfl
 | false=>
  rw[if_neg (by decide)]at h
  walk_at "z"
  exact Zn h rfl
theorem Zfr{b:Bool}(h:Tf n P I D)(hP:∀x,Zal n G R x→hb (ZX c x n)=b→P x)(hI:∀G2 R2,(∀t,t<n→RestOk (R2 t))→I G2 R2→Zbl n G2 R2 G R∧∀x,Zal n G2 R2 x→PL→hb (ZX c x n)=b): Fnd n G R c hb PL b D:=by
 rcases h with⟨rfl,no⟩ | ⟨G2,R2,rfl,h1,h2,h3,h4⟩
 ·exact .inl ⟨rfl,fun x q=>no x (hP x q.1 q.2)⟩
 ·exact .inr ⟨G2,R2,rfl,h1,h2,fun x q=>h3 x (hP x q.1 q.2),hI G2 R2 h2 h4⟩
section
variable {n:Nat} {G:Nat→Nat→Option Int} {R:Nat→Int×Int} {c:Nat→Int} (hn:n≤4) (hd:∀i,i<n+1→G i i=some 0) (ok:∀t,t<n→RestOk (R t)) (sG:SmG 137 n G) (sR:SmR 137 n R) (bc:∀i,i<n+1→Bd 300 (c i))
include hn hd ok sG sR bc
theorem Zvx(b:Bool): ∃D,Zcl [Zo n G R,unT n c,.bool b]=some D∧Fnd n G R c (fun v=>decide (v<0)) (PlC n c) b D:=by
 have bM:Bd 549 (Zcn R n):=(Zhb (k:=137) (by decide) (fun t ht=>(sR t ht).1) n (Zz10 n)).mono (by omega)
 have hM:=ZgZ ok n (Zz10 n)
 have hR:∀t,t<n→RB (Zcn R n) 610 (R t):=fun t ht=>⟨ok t ht,Zg0 n t ht,(show Bd 137 _ from(sR t ht).2).mono (by decide)⟩
 have gG:GB 300 n G:=fun i j hi hj y e=>(show Bd 137 y from sG i j hi hj y e).mono (by decide)
 cases b with
 | true=>
  obtain⟨D,a,_,t⟩:=Zg2 (b:=300) (k:=610) (c:=c) (top:=-1) (by omega) (by decide) (by decide) (by omega) (by omega) hM (bM.mono (by decide)) hd gG hR bc ((show Bd 1 (-1)by unfold Bd;decide).mono (by decide))
  refine⟨D,Zqy (.inr ⟨G,R,rfl⟩) (fun h=>by cases h) (Zsb a),Zfr t.tf (fun x l q=>⟨l,by have:=of_decide_eq_true q;omega⟩) fun G2 R2 o2 i=>⟨Zg3 ok i.1,fun x l p=>decide_eq_true (by have:=Zhd p ⟨G,R,i.2,Zei o2 ok i.1 l⟩;omega)⟩⟩
 | false=>
  obtain⟨D,a,_,t⟩:=Zg2 (b:=300) (k:=610) (c:=fun k=>-(c k)) (top:=0) (by omega) (by decide) (by decide) (by omega) (by omega) hM (bM.mono (by decide)) hd gG hR (Zfh bc) Zb5
  refine⟨D,Zqy (.inr ⟨G,R,rfl⟩) (fun h=>by cases h) (Zsw (b:=300) (by omega) (by decide) (by decide) bc a),Zfr t.tf (fun x l q=>⟨l,by have:=of_decide_eq_false q;rw[Zc1];omega⟩) fun G2 R2 o2 i=>⟨Zg3 ok i.1,fun x l p=>decide_eq_false (by have:=Zhd p.neg ⟨G,R,i.2,Zei o2 ok i.1 l⟩;rw[Zc1]at this;omega)⟩⟩
theorem Zvy(b:Bool): ∃D,Zcl [Zo n G R,smT n c,.bool b]=some D∧Fnd n G R c (fun v=>decide (v=0)) (if b then PlC n c else ZbU n c) b D:=by
 cases b with
 | true=>
  obtain⟨D,a,_,t⟩:=ZxJ hn hd ok sG sR bc
  refine⟨D,ZqE a,Zfr t (fun x l q=>⟨l,of_decide_eq_true q⟩) fun G2 R2 o2 i=>⟨i.1,fun x l p=>decide_eq_true ?_⟩⟩
  have p:PlC n c:=p
  obtain⟨a1,a2⟩:=i.2 x l
  have h1:=Zhd p a1
  have h2:=Zhd p.neg a2
  rw[Zc1]at h2
  omega
 | false=>
  obtain⟨D,a,_,t⟩:=Zvp hn hd ok sG sR bc
  refine⟨D,ZqE a,Zfr t (fun x l q=>⟨l,of_decide_eq_false q⟩) fun G2 R2 o2 i=>⟨i.1,fun x l p=>decide_eq_false fun z=>?_⟩⟩
  have p:ZbU n c:=p
  have e:=Zej (x:=x) p n (Zz10 n)
  have:=Zhd (.inl p) (i.2 x l ⟨c 0,Zi7 p,by omega⟩)
  omega
theorem Zvz(hd0:0<d)(bd:Bd 140 d)(b:Bool): ∃D,Zcl [Zo n G R,evT n c d,.bool b]=some D∧Fnd n G R c (fun v=>decide (v.fmod d=0)) (if b then EvC n c else NeC n c d) b D:=by
 have hm:∀v:Int,v.fmod d=0↔d ∣ v:=fun v=>by
  rw[Int.fmod_eq_emod_of_nonneg _ (by omega)]
  exact⟨Int.dvd_of_emod_eq_zero,Int.emod_eq_zero_of_dvd⟩
 cases b with
 | true=>
  obtain⟨D,a,t⟩:=Zre hn hd ok sG sR (fun i hi=>(bc i hi).mono (by decide)) hd0 bd
  exact⟨D,ZqI a,Zfr t (fun x l q=>⟨l,(hm _).mp (of_decide_eq_true q)⟩) fun G2 R2 o2 i=>⟨i.1,fun x l p=>decide_eq_true ((hm _).mpr (i.2 x l p))⟩⟩
 | false=>
  obtain⟨D,a,t⟩:=ZtW hn hd ok sG sR bc hd0 bd
  exact⟨D,ZqI a,Zfr t (fun x l q=>⟨l,fun z=>of_decide_eq_false q ((hm _).mpr z)⟩) fun G2 R2 o2 i=>⟨i.1,fun x l p=>decide_eq_false fun z=>i.2 x l p ((hm _).mp z)⟩⟩
end
def ClT(n:Nat)(c:Nat→Int)(t:T): Prop:=t=unT n c∨t=smT n c∨∃d,0<d∧Bd 140 d∧t=evT n c d
theorem ZwM(hL:Lay ns)(hn:n≤4)(bx:∀i,i<n→Bd 140 (x i)): Pk (ZjS [scr ns,Zan n x]) fun t=>∃c,(∀i,i<n+1→Bd 300 (c i))∧ClT n c t:=by
 unfold ZjS ZfO Zan
 walk_at "z"
 refine(Zye (n:=n) (kk:=8) (by decide) (by decide) hL (by omega)).mono ?_
 rintro _ ⟨c0,rfl,hc⟩
 have bc:=hc.bd (by decide)
 have hv:=ZlR (n:=n) (b:=140) (c:=c0) (x:=x) (by omega) (by decide) bc bx
 have bv:=(Zra bc bx n (Zz10 n)).mono (show 140+140+n≤285 by omega)
 refine Zcs (fun σ'=>σ' 0=some (scr ns)∧∃c,σ' 2=some (ZB n c)∧∀i,i<n+1→Bd 300 (c i)) ?_ ?_
 ·walk_at "z"
  refine Zn (Zck (by decide) (by decide) (by decide)) ?_
  walk_at "z"
  refine⟨fun q=>?_,fun q=>?_⟩
  ·have hs:ZB n c0=.lst (tab (n+1) fun k=>.int (c0 k)):=rfl
   rw[hs]at hv ⊢
   walk_at "z"
   refine Zn hv ?_
   walk_at "z"
   refine Zn (Zck (by decide) (by decide) (by decide)) ?_
   walk_at "z"
   obtain⟨z0,z1⟩:=Zcj ns 6 (show(0:Int)<5 by decide)
   generalize Zbd ns 6 5=pp at *
   refine Zlf (n:=n+1) (f:=fun k=>.int (c0 k)) (by walk_at "r") (by omega) (by omega) ?_
   rw[show Int.toNat 0=0 from rfl]
   refine⟨by walk_at "r",fun k=>if k=0 then c0 0-ZX c0 x n+pp-2 else c0 k,?_,fun i hi=>?_⟩
   ·rw[show(ZB n fun k=>if k=0 then c0 0-ZX c0 x n+pp-2 else c0 k)=.lst (tab (n+1) fun k=>if k=0 then T.int (c0 0-ZX c0 x n+pp-2)else .int (c0 k))from congrArg T.lst (ZaZ fun k _=>by by_cases z:k=0 <;> simp only[z,if_true,if_false])]
    walk_at "r"
   ·show Bd 300 (if i=0 then _ else _)
    split
    ·have h1:Bd 286 (pp-2):=(show Bd 3 (pp-2)by unfold Bd;omega).mono (by decide)
     have h2:=((bc 0 (by omega)).mono (show 140≤285 by decide)).sub bv
     rw[show c0 0-ZX c0 x n+pp-2=c0 0-ZX c0 x n+(pp-2)by omega]
     exact(h2.add h1).mono (by decide)
    ·exact(bc i hi).mono (by decide)
  ·walk_at "z"
   exact⟨by walk_at "r",c0,by walk_at "r",fun i hi=>(bc i hi).mono (by decide)⟩
 rintro σ1 ⟨e0,c,e2,bc'⟩
 walk_at "z"
 refine Zn (Zck (by decide) (by decide) (by decide)) ?_
 generalize Zbd ns 13 12=wy at *
 walk_at "z"
 refine⟨fun q=>?_,fun q=>?_⟩
 ·walk_at "z"
  exact⟨c,bc',.inl rfl⟩
 walk_at "z"
 refine⟨fun q=>?_,fun q=>?_⟩
 ·walk_at "z"
  exact⟨c,bc',.inr (.inl rfl)⟩
 walk_at "z"
 refine⟨fun q=>?_,fun q=>?_⟩
 ·walk_at "z"
  refine Zn (ZgW hL (by decide) (by decide)) ?_
  have b1:Bd 134 (Zb4 ns 1):=ZiZ ns 1
  generalize Zb4 ns 1=nu at *
  walk_at "z"
  refine⟨c,bc',.inr (.inr ⟨_,?_,?_,rfl⟩)⟩
  ·split <;> split <;> omega
  ·refine(show Bd 135 _ from ?_).mono (by decide)
   have:1<2 ^ 134:=by decide
   unfold Bd at *
   rw[Nat.pow_succ]
   split <;> split <;> omega
 ·walk_at "z"
  refine Zn (Zck (by decide) (by decide) (by decide)) ?_
  obtain⟨z0,z1⟩:=Zcj ns 1 (show(0:Int)<4 by decide)
  generalize Zbd ns 1 4=pp at *
  walk_at "z"
  exact⟨c,bc',.inr (.inr ⟨1+pp,by omega,(show Bd 3 (1+pp)by unfold Bd;omega).mono (by decide),rfl⟩)⟩
theorem ZxQ(hn:n≤4)(hd:∀i,i<n+1→G i i=some 0)(ok:∀t,t<n→RestOk (R t))(sG:SmG 137 n G)(sR:SmR 137 n R)(bc:∀i,i<n+1→Bd 300 (c i))(h:ClT n c Cl): ∃(hb:Int→Bool) (PL:Bool→Prop),(∀x v,Zd2 [ZB n c,Zan n x]=some (.int v)→Zdh [Cl,Zan n x]=some (.bool (hb v)))∧(∀b,Pk (Zdi [Cl,.bool b]) fun t=>∃p,t=.bool p∧(p=true→PL b))∧∀b,∃D,Zcl [Zo n G R,Cl,.bool b]=some D∧Fnd n G R c hb (PL b) b D:=by
 rcases h with rfl | rfl | ⟨d,h1,h2,rfl⟩
 ·exact⟨_,fun _=>PlC n c,fun x v e=>Zvq e,fun b=>Zvt (by omega),Zvx hn hd ok sG sR bc⟩
 ·exact⟨_,fun b=>if b then PlC n c else ZbU n c,fun x v e=>Zvr e,fun b=>Zvu (by omega),Zvy hn hd ok sG sR bc⟩
 ·exact⟨_,fun b=>if b then EvC n c else NeC n c d,fun x v e=>Zvs h1 e,fun b=>Zvv (by omega),Zvz hn hd ok sG sR bc h1 h2⟩
theorem ZwN{x2:Nat→Int}{b:Bool}(hn:n≤4)(ok:∀t,t<n→RestOk (R t))(a:∃D,Zcl [Zo n G R,Cl,.bool b]=some D∧(D=.none∨∃G2 R2,D=Zo n G2 R2∧(∀i,i<n+1→G2 i i=some 0)∧(∀t,t<n→RestOk (R2 t))∧Zbl n G2 R2 G R)∧Zde [Zo n G R,Cl,.bool b,Zan n x,D]=some (.bool true)∧Zde [Zo n G R,Cl,.bool b,Zan n x2,D]=some (.bool true))(e2:σ 2=some (Zan n x))(e3:σ 3=some (Zo n G R))(e4:σ 4=some (Zo n G R))(e5:σ 5=some Cl)(e6:σ 6=some (Zan n x2))(e8:σ 8=some (.bool b))(hN:∀σ',σ' 2=some (Zan n x)→σ' 3=some (Zo n G R)→σ' 4=some (Zo n G R)→σ' 5=some Cl→σ' 6=some (Zan n x2)→N σ'): Psk ((Z3 (ZaE 9 (ZT Zcl (Zr (Ze 3) (Zr (Ze 5) (Zr (Ze 8) ZL))))) (Z3 (qIf (bOr (Zbp (Z5 (Zm ZcR (Ze 9) (Zaz))) (Zbp (ZdT (Z5 (ZT Zgr (Zr (Ze 9) (Zr (ZT Za1 (Zr (Ze 2) ZL)) ZL))))) Zas)) (bOr (Z5 (Zm qNe (Ze 3) (Ze 4))) Zfk)) (Zav (Zev false)) ZaD) (Z3 (qIf (bOr (ZdT (Z5 (ZT ZdY (Zr (Ze 9) (Zr (Ze 3) ZL))))) (bOr (ZdT (Z5 (ZT Zde (Zr (Ze 3) (Zr (Ze 5) (Zr (Ze 8) (Zr (Ze 2) (Zr (Ze 9) ZL)))))))) Zfk)) (Zav (Zev false)) ZaD) (qIf (ZdT (Z5 (ZT Zde (Zr (Ze 3) (Zr (Ze 5) (Zr (Ze 8) (Zr (Ze 6) (Zr (Ze 9) ZL)))))))) (Zav (Zev false)) ZaD)))) σ) (fun t=>t=.bool true) N:=by
 obtain⟨D,w,hD,k1,k2⟩:=a
 have pl:Pln 3 (Zo n G R):=ZuZ
 have hlen:∀{Q:T→Prop},Q (.int n)→Pk (Za1 [Zan n x]) Q:=fun h=>by
  unfold Zan
  walk_at "z"
  exact h
 have hin:ZdY [D,Zo n G R]=some (.bool true):=by
  rcases hD with rfl | ⟨G2,R2,rfl,_,_,i⟩
  ·exact Zst
  ·rw[Zss (by omega) ok,Zap i]
 have hsh:∀{Q:T→Prop},(D=.none→Q (.bool false))→((∃G2 R2,D=Zo n G2 R2)→Zgr [D,.int n]=some (.bool true)→Q (.bool true))→Pk (ZcR D .none) Q:=fun {Q} h1 h2=>by
  rcases hD with e | ⟨G2,R2,e,d2,o2,_⟩
  ·exact⟨_,by rw[e];rfl,h1 e⟩
  ·exact⟨_,by rw[e];rfl,h2 ⟨G2,R2,e⟩ (by rw[e];exact ZtR (by omega) d2 o2)⟩
 clear hD
 generalize Zo n G R=T0 at *
 have fin:∀{σ:TL},σ 2=some (Zan n x)→σ 3=some T0→σ 4=some T0→σ 5=some Cl→σ 6=some (Zan n x2)→σ 8=some (.bool b)→σ 9=some D→True:=fun _ _ _ _ _ _ _=>trivial
 walk_at "z"
 refine Zn w ?_
 walk_at "z"
 refine hsh (fun z=>?_) (fun z zs=>?_)
 all_goals
  walk_at "z"
  try (refine hlen ?_;walk_at "z";refine Zn zs ?_;walk_at "z")
  refine Zxy pl pl ?_
  rw[Zap rfl]
  walk_at "z"
  refine Zn hin ?_
  walk_at "z"
  refine Zn k1 ?_
  walk_at "z"
  refine Zn k2 ?_
  walk_at "z"
  exact hN _ (by walk_at "r") (by walk_at "r") (by walk_at "r") (by walk_at "r") (by walk_at "r")
theorem Zti(hL:Lay ns): ZlN [scr ns]=some (.bool true):=by
 apply Pk.eq
 unfold ZlN Zg8
 obtain⟨p0,p1⟩:=Zcj ns 0 (show(0:Int)<9 by decide)
 obtain⟨w,ew,hw⟩:=Zq0 p0 (show Zbd ns 0 9<(9:Nat)by omega)
 walk_at "z"
 refine Zn (Zck (by decide) (by decide) (by decide)) ?_
 rw[ew]
 obtain⟨n,hn,hidx⟩:∃n:Nat,n≤4∧[T.int 0,.int 1,.int 2,.int 1,.int 2,.int 1,.int 3,.int 2,.int 4][w]?=some (.int n):=by
  match w,hw with
  | 0,_=>exact⟨0,by decide,rfl⟩
  | 1,_=>exact⟨1,by decide,rfl⟩
  | 2,_=>exact⟨2,by decide,rfl⟩
  | 3,_=>exact⟨1,by decide,rfl⟩
  | 4,_=>exact⟨2,by decide,rfl⟩
  | 5,_=>exact⟨1,by decide,rfl⟩
  | 6,_=>exact⟨3,by decide,rfl⟩
  | 7,_=>exact⟨2,by decide,rfl⟩
  | 8,_=>exact⟨4,by decide,rfl⟩
 refine ZiU (t:=.int n) (by omega) (by rw[Int.toNat_natCast];exact hidx) ?_
 walk_at "z"
 refine ZbR (n:=n) (a:=fun i=>.int i) (b:=fun i=>.int (Zb4 ns (2+i))) (by omega) ?_ (fun t ht=>?_) ?_
 ·walk_at "z"
  rfl
 ·walk_at "z"
  exact Zn (ZgW hL (by omega) (by omega)) rfl
 generalize hx:(fun i:Nat=>Zb4 ns (2+i))=x
 have sx:∀i,i<n→(x i).natAbs<2 ^ 134:=fun i _=>by rw[←hx];exact ZiZ ns _
 rw[show(fun i:Nat=>T.int (Zb4 ns (2+i)))=fun i=>T.int (x i)by rw[←hx]]
 walk_at "z"
 refine Zn (Zwm (x:=x) hL (by decide) (by decide) (by omega)) ?_
 have gd:=Zul ns 14 n x
 have smG:SmG 136 n (Zb0 ns 14 n x):=Zvf sx
 have smR:SmR 136 n (Zfy ns 14 n x):=fun t ht=>⟨Zby (Zpy (ns:=ns) (k:=14) sx t ht).1 (by decide),Zby (Zpy (ns:=ns) (k:=14) sx t ht).2 (by decide)⟩
 generalize Zb0 ns 14 n x=G at *
 generalize Zfy ns 14 n x=R at *
 walk_at "z"
 have bx:∀i,i<n→Bd 140 (x i):=fun i hi=>Zby (sx i hi) (by decide)
 have sG:SmG 137 n G:=fun a b ha hb c e=>Zby (smG a b ha hb c e) (by decide)
 have sR:SmR 137 n R:=fun t ht=>⟨Zby (smR t ht).1 (by decide),Zby (smR t ht).2 (by decide)⟩
 have cp:Zii [Zo n G R]=some (Zo n G R):=Zwn (by omega)
 have hbx:T.lst (tab n fun i=>T.int (x i))=Zan n x:=rfl
 refine Zn cp ?_
 rw[hbx]
 walk_at "z"
 refine(ZwM hL hn bx).mono ?_
 rintro Cl ⟨c,bc,hCl⟩
 obtain⟨hb,PL,k1,k2,k3⟩:=ZxQ hn gd.1 gd.2 sG sR bc hCl
 clear hCl
 refine ZcF ?_
 refine Zeo ?_
 have hls:∀{σ:TL},σ 2=some (Zan n x)→Pk (pFl (ZT Zds (Zr (Ze 2) ZL)) σ) fun t=>t=Zan n x:=fun e=>by
  unfold Zan at e ⊢
  walk_at "z"
  rfl
 refine(hls (by walk_at "r")).mono ?_
 rintro _ rfl
 refine Zcs (fun σ'=>σ' 2=some (Zan n x)∧σ' 3=some (Zo n G R)∧σ' 4=some (Zo n G R)∧σ' 5=some Cl∧∃x2,σ' 6=some (Zan n x2)∧∀i,i<n→Bd 140 (x2 i)) ?_ ?_
 ·clear k1 k2 k3 smG smR
  have hs:Zan n x=.lst (tab n fun i=>.int (x i)):=rfl
  by_cases h0:n=0
  ·subst h0
   have hz:¬(0:Int)>0:=by decide
   rw[hs]
   walk_at "z"
   exact⟨by walk_at "r",by walk_at "r",by walk_at "r",by walk_at "r",x,by walk_at "r",bx⟩
  ·have hp:((n:Nat):Int)>0:=by omega
   obtain⟨y0,y1⟩:=Zcj ns 43 (show(0:Int)<((n:Nat):Int)by omega)
   obtain⟨z0,z1⟩:=Zcj ns 44 (show(0:Int)<5 by decide)
   rw[hs]
   walk_at "z"
   refine Zn (Zck (by decide) (by decide) (by omega)) ?_
   obtain⟨a,ea,ha⟩:=Zq0 y0 (show Zbd ns 43 ((n:Nat):Int)<(n:Nat)by omega)
   rw[ea]
   walk_at "z"
   refine Zn (Zck (by decide) (by decide) (by decide)) ?_
   generalize Zbd ns 44 5=pp at *
   walk_at "z"
   refine⟨by walk_at "r",by walk_at "r",by walk_at "r",by walk_at "r",fun k=>if k=a then x a+pp-2 else x k,?_,fun i hi=>?_⟩
   ·rw[show(Zan n fun k=>if k=a then x a+pp-2 else x k)=.lst (tab n fun k=>if k=a then T.int (x a+pp-2)else .int (x k))from congrArg T.lst (ZaZ fun k _=>by by_cases z:k=a <;> simp only[z,if_true,if_false])]
    walk_at "r"
   ·show Bd 140 (if i=a then _ else _)
    split
    ·have h1:Bd 134 (x a):=sx a ha
     have h2:Bd 134 (pp-2):=(show Bd 3 (pp-2)by unfold Bd;omega).mono (by decide)
     rw[show x a+pp-2=x a+(pp-2)by omega]
     exact(h1.add h2).mono (by decide)
    ·exact bx i hi
 rintro σ1 ⟨e2,e3,e4,e5,x2,e6,bx2⟩
 have bc3:∀i,i<n+1→Bd 300 (c i):=bc
 have hv:=ZlR (n:=n) (b:=300) (c:=c) (x:=x) (by omega) (by decide) bc (fun i hi=>(bx i hi).mono (by decide))
 have hv2:=ZlR (n:=n) (b:=300) (c:=c) (x:=x2) (by omega) (by decide) bc (fun i hi=>(bx2 i hi).mono (by decide))
 have all:∀b,∃D,Zcl [Zo n G R,Cl,.bool b]=some D∧(D=.none∨∃G2 R2,D=Zo n G2 R2∧(∀i,i<n+1→G2 i i=some 0)∧(∀t,t<n→RestOk (R2 t))∧Zbl n G2 R2 G R)∧Zde [Zo n G R,Cl,.bool b,Zan n x,D]=some (.bool true)∧Zde [Zo n G R,Cl,.bool b,Zan n x2,D]=some (.bool true):=fun b=>by
  obtain⟨D,w,f⟩:=k3 b
  refine⟨D,w,?_,ZqH (by omega) gd.2 (k1 x _ hv) (k2 b) f,ZqH (by omega) gd.2 (k1 x2 _ hv2) (k2 b) f⟩
  rcases f with⟨e,_⟩ | ⟨G2,R2,e,h1,h2,h3,h4,_⟩
  ·exact .inl e
  ·exact .inr ⟨G2,R2,e,h1,h2,h4⟩
 refine ZcF ?_
 refine ZlZ (ts:=[.bool true,.bool false]) (P:=fun _ σ'=>σ' 2=some (Zan n x)∧σ' 3=some (Zo n G R)∧σ' 4=some (Zo n G R)∧σ' 5=some Cl∧σ' 6=some (Zan n x2)) ?_ ⟨e2,e3,e4,e5,e6⟩ ?_ ?_
 ·walk_at "z"
  rfl
 ·rintro i t σ' ei ⟨f2,f3,f4,f5,f6⟩
  have:∃b,t=.bool b:=by
   match i,ei with
   | 0,ei=>cases ei;exact⟨_,rfl⟩
   | 1,ei=>cases ei;exact⟨_,rfl⟩
  obtain⟨b,rfl⟩:=this
  exact ZwN (Cl:=Cl) hn gd.2 (all b) (by walk_at "r") (by walk_at "r") (by walk_at "r") (by walk_at "r") (by walk_at "r") (by walk_at "r") fun σ'' g2 g3 g4 g5 g6=>⟨g2,g3,g4,g5,g6⟩
 ·rintro σ' _
  walk_at "z"
  rfl
theorem ZsY(hlen:ns.length≤63)(hL:PyData.layable0 (.list (ns.map .int))=true): ∃H',Zpu [.ref 0] [ns.map V.int]=some (.bool true,H'):=Zub Zva ns (Zti hL)
end L
end
section
open PySem PySem.W PyProof.Rows
namespace PySem.W.Fast
def tw13698048360955963301:=0
def tw550859730669387710:=0
def tw8005766506721756608:=0
def tw10667965978278278033:=0
def tw3520363519792060846:=0
def tw12048056826642495367:=0
def tw10609323587221475018:=0
def tw13436231055378572716:=0
def tw5055051069096525434:=0
def tw12533650973541477374:=0
def tw2496939508604703423:=0
def tw4006126910494036212:=0
def tw12027893231959348502:=0
def tw16550838102048051623:=0
def tw13412699021565736533:=0
def tw6012122021747098740:=0
def tw16459021049253542911:=0
def tw1541540961381408409:=0
def tw15622835117965313283:=0
def tw10785849952161257653:=0
def tw7363425622247834253:=0
def tw3094701115853657799:=0
def tw16279701975793424917:=0
def tw15213048550514571353:=0
def tw17334881123488906936:=0
def tw6459200953577825518:=0
def tw1147522009701800784:=0
def tw14846608996346228861:=0
def tw8646929664414959583:=0
def tw1880258362356491002:=0
def tw14439765378166140033:=0
def tw13432873828021710899:=0
def tw12059592832596718669:=0
def tw1286790713380490605:=0
def tw10188337973796604112:=0
def tw5488966160659634681:=0
def tw12221415409051222339:=0
def tw9685044298169568939:=0
def tw3241244739717862871:=0
def tw6951939212644042833:=0
def tw9032336229301285499:=0
def tw4218939439129018664:=0
def tw5759927347364260171:=0
def tw4952506757814975653:=0
def tw9516800180062724845:=0
def tw10042499479572932358:=0
def tw10015853644003576960:=0
def tw931956834028986255:=0
def tw1157979631877120646:=0
def tw13673065589402620214:=0
def tw15740581520725410121:=0
def tw16406923672382228973:=0
def tw3555141088238359772:=0
def tw17093224777342109595:=0
def tw9218752888244210615:=0
def tw1611551182742943237:=0
def tw5764117369366255280:=0
def tw11717690317537128808:=0
def tw14987661418082201831:=0
def tw2754692670688779762:=0
def tw5266450434754204200:=0
def tw10069975712529536831:=0
def tw2337977823195543630:=0
def tw17698735102306075112:=0
def tw4227517698962585424:=0
def tw1647960591809683682:=0
def tw4185518321428705831:=0
def tw13991396874942911051:=0
def tw7089793799200125183:=0
def tw14734032772098568817:=0
def tw8667492640987031791:=0
def tw6905212232875527693:=0
def tw12674656310777702994:=0
def tw12392129776423771058:=0
def tw3934833063311361131:=0
def tw15261137711255440680:=0
def tw18182889222666715495:=0
def tw7894344252036594922:=0
def tw17338234738716814015:=0
def tw9161490523856799436:=0
def tw3133745999044795564:=0
def tw670427922429333600:=0
def tw3302770140995672700:=0
def tw16884622931589843948:=0
def tw11586196018267737339:=0
def tw8558524655760831906:=0
def tw8249347019533418915:=0
def tw1173414789623836638:=0
def tw7945405709010385892:=0
def tw12694112234171929671:=0
def tw7717702957765121957:=0
def tw5674458297940323589:=0
def tw11269825475406603969:=0
def tw10184835648761350555:=0
def tw16970792351503237766:=0
def tw1620389302784492585:=0
def tw3478894487363246031:=0
def tw9835382159548102362:=0
def tw1833547357909804662:=0
def tw12328853128172473661:=0
end PySem.W.Fast
set_option maxRecDepth 100000 in
set_option maxHeartbeats 8000000 in
open_top head for PySem.Challenge.rw_seer_k47_claims_keep_boxes
end
section
open PySem PySem.W PySem.Calls PyProof.Rows PM
seal PM.J PM.Js PM.JT PM.JA PM.JF PM.JI PM.JI2 PM.JP PM.S1 PM.Ss PM.Sto PM.Rd PM.Nm PM.OpN PM.Op2 PM.Def
namespace L
noncomputable abbrev DD(w:World)(s₀:Shared)(mg mb:Str→Option Value)(f:Addr)(r:Nat)(F:List V→Hp→Option (V×Hp)): Prop:=Def PySem.Challenge.rw_seer_k47_claims_keep_boxes.row.prog w (head.heap_39 w.params) head.view_39 (looseW head.view_39 []) (ExcName.means s₀.heap) mg mb f r F
section
variable {w:World} {s₀:Shared} {mg mb:Str→Option Value}
theorem Zoi: DD w s₀ mg mb 414 1 ZnT:=by
 unfold DD;k_fill
 refine Z1 (names:=["_law_script","_law_k","_law_number_here"]) (g:=(TM.XS.g Zgi)) ?_
 exact fun _ _ _ _ _ _ _ c _ _=>(Zt (Z2 sL (ZI (ZI (ZI vL vL ZbH) jI ZbH) jI Zax)) (Zt (ZR (ZP (Zao (nB c) (jc vL Zh) ZaR) jI Zdv) (Zp (Z2 sL (ZI vL (Zs vL (ZI vL (Zao (nB c) (jc vL Zh) ZaR) Za3)) Zax))) ZQ) (Zp (Zx vL))))
theorem law_pick_d: DD w s₀ mg mb 421 2 ZdA:=by
 unfold DD;k_fill
 refine Z1 (names:=["_law_script","_law_k","_law_many"]) (g:=(TM.XS.g Zgx)) ?_
 exact fun _ _ _ _ _ _ _ c _ _=>(Zp (Zx (ZI (ZI (ZI (cF c Zoi (jc vL (jc vL Zh))) jI ZbH) jI Za3) vL Za3)))
theorem Zgh: DD w s₀ mg mb 428 2 Zke:=by
 unfold DD;k_fill
 refine Z1 (names:=["_law_script","_law_k","_law_number_here","_law_reach"]) (g:=(TM.XS.g Zf7)) ?_
 exact fun _ _ _ _ _ _ _ c _ _=>(Zt (Z2 sL (cF c Zoi (jc vL (jc vL Zh)))) (Zt (Z2 sL (Zs (J.list (jc jI (jc jI (jc (ZI jI jI Zmi) (jc (ZI jI jI Zmi) Zh))))) (ZI (ZI (ZI vL jI ZbH) jI Za3) jI Za3))) (Zp (Zx (ZI (ZI (ZI vL (ZI jI jI Zmi) ZbH) (ZI (ZI jI vL ZbH) jI Zax) Za3) vL ZbM)))))
theorem Ztj: DD w s₀ mg mb 435 3 ZnV:=by
 unfold DD;k_fill
 refine Z1 (names:=["_law_script","_law_k","_law_way"]) (g:=(TM.XS.g Zgj)) ?_
 exact fun _ _ _ _ _ _ _ c _ _=>(Zt (Z2 sL (cF c law_pick_d (jc vL (jc vL (jc jI Zh))))) (Zt (ZR (ZP (ZI vL jI Za3) jI Zc5) (Zp (Zx jN)) ZQ) (Zt (ZR (ZP (ZI vL jI Za3) jI Zc5) (Zp (Zx jI)) ZQ) (Zt (ZR (ZP (ZI vL jI Za3) jI Zae) (Zp (Zx (ZI vL jI Zek))) ZQ) (Zp (Zx (Zao (nB c) (jc (cF c Zgh (jc vL (jc vL Zh))) Zh) Zdr)))))))
theorem ZnE: DD w s₀ mg mb 442 1 Znt:=by
 unfold DD;k_fill
 refine Z1 (names:=["_law_m","_law_r"]) (g:=(TM.XS.g ZfX)) ?_
 exact fun _ _ _ _ _ _ _ c _ _=>(Zt (ZR (ZP vL jI Zae) (Zp (Zx (J.tup (jc jI (jc vL Zh))))) ZQ) (Zp (Zx (J.tup (jc vL (jc (ZI vL vL Za3) Zh))))))
theorem ZtX: DD w s₀ mg mb 449 3 Zos:=by
 unfold DD;k_fill
 refine Z1 (names:=["_law_script","_law_k","_law_number_here","_law_way"]) (g:=(TM.XS.g Zgy)) ?_
 exact fun _ _ _ _ _ _ _ c _ _=>(Zt (Z2 sL (cF c law_pick_d (jc vL (jc vL (jc jI Zh))))) (Zt (ZR (ZP (ZI vL jI Za3) jI Zc5) (Zp (Zx (J.tup (jc jI (jc jI Zh))))) ZQ) (Zt (ZR (ZP (ZI vL jI Za3) jI Zae) (Zp (Zx (J.tup (jc jI (jc vL Zh))))) ZQ) (Zt (ZR (ZP (ZI vL jI Za3) jI Zae) (Zp (Zx (cF c ZnE (jc (ZI (ZI vL jI Zek) jI Zax) (jc vL Zh))))) ZQ) (Zp (Zx (cF c ZnE (jc (Zao (nB c) (jc (cF c Zgh (jc vL (jc vL Zh))) Zh) Zdr) (jc vL Zh)))))))))
theorem ZtY: DD w s₀ mg mb 454 4 Zot:=by
 unfold DD;k_fill
 refine Z1 (names:=["_law_script","_law_k","_law_boxes","_law_full","_law_size","_law_bounds","_law_i","_law_row","_law_j","_law_top"]) (g:=(TM.XS.g Zgz)) ?_
 exact fun _ _ _ _ _ _ _ c _ _=>(Zt (Z2 sL (ZI (J.list (jc jI Zh)) vC Zax)) (Zt (Z2 sC (Zao (nB c) (jc vL Zh) ZaR)) (Zt (Z2 sL (J.list Zh)) (Zt (ZbN sL (JI.range (nB c) (jc vC Zh)) (Zt (Z2 sL (J.list Zh)) (Zt (ZbN sL (JI.range (nB c) (jc vC Zh)) (Zt (Z2 sL (cF c Ztj (jc vC (jc (ZI (ZI vC (ZI vL vC ZbH) Zax) vL Zax) Zh)))) (Zt (ZR (ZP vL jN ZcA) (Zp (Z2 sL (ZI (ZI (Zs vL vL) (Zs vL vL) ZbM) vL Zax))) ZQ) (Zp (ZdI (J.append vL vL)))))) (Zt (S1.put jI vL vL) (Zp (ZdI (J.append vL vL))))))) (Zp (Zx (J.tup (jc vL (jc (by refine cO ?_ ?_ ?_;(exact(JI.range (nB c) (jc (ZI vC jI ZbM) Zh)));(exact fun _ _=>(cF (ZcB c) ZtX (jc vD (jc (ZI (ZI vD (ZI vD vD ZbH) Zax) vO Zax) (jc (Zs vD vO) Zh)))));(exact fun _ _=>JF.nil)) Zh)))))))))
theorem ZtZ: DD w s₀ mg mb 459 1 Zou:=by
 unfold DD;k_fill
 refine Z1 (names:=["_law_told_here"]) (g:=ZkN) ?_
 exact fun _ _ _ _ _ _ _ c _ _=>(Zt (ZR (ZP vL jN ZbJ) (Zp (Zx jN)) ZQ) (Zp (Zx (J.tup (jc (by refine cO ?_ ?_ ?_;(exact(JI.seq (Zs vL jI)));(exact fun _ _=>(ZiJ (nB (ZcB c)) (jc vO Zh) ZlF));(exact fun _ _=>JF.nil)) (jc (ZiJ (nB c) (jc (Zs vL jI) Zh) ZlF) Zh))))))
theorem ZuB: DD w s₀ mg mb 515 3 Zo3:=by
 unfold DD;k_fill
 refine Z1 (names:=["_law_script","_law_k","_law_many","_law_one","_law_way","_law_at","_law_to","_law_i"]) (g:=Zlo) ?_
 exact fun _ _ _ _ _ _ _ c _ _=>(Zt (Z2 sL (ZI (J.list (jc (cF c Zgh (jc vL (jc vL Zh))) Zh)) (ZI (J.list (jc jI Zh)) vL ZbH) Zax)) (Zt (Z2 sL (cF c law_pick_d (jc vL (jc vL (jc jI Zh))))) (Zt (ZR (Za2 (ZaY (ZP vL jI Zae) (ZaY (ZP vL jI Zae) Zch))) (Zp (Zx vL)) ZQ) (Zt (Z2 sL (ZI jI (cF c law_pick_d (jc vL (jc (ZI vL jI Zax) (jc vL Zh)))) Zax)) (Zt (ZR (ZP vL jI Zae) (Zp (S1.put (ZI (cF c law_pick_d (jc vL (jc (ZI vL jI Zax) (jc jI Zh)))) jI ZbM) vL vL)) ZQ) (Zt (ZR (Za2 (ZaY (ZP vL jI Zae) (ZaY (ZP vL jI Zae) Zch))) (Zt (Z2 sL (ZI jI (cF c law_pick_d (jc vL (jc (ZI vL jI Zax) (jc vL Zh)))) Zax)) (Zt (S1.put jI vL vL) (Zp (S1.put (ZI (Zs vL vL) jI ZbM) vL vL)))) ZQ) (Zt (ZR (ZP vL jI Zae) (Zp (ZbN sL (JI.range (nB c) (jc vL Zh)) (Zp (S1.put (ZI (cF c law_pick_d (jc vL (jc (ZI (ZI vL jI Zax) vL Zax) (jc jI Zh)))) jI ZbM) vL (ZI vL jI Zax))))) ZQ) (Zt (ZR (ZP vL jI Zae) (Zp (ZbN sL (JI.range (nB c) (jc vL Zh)) (Zp (S1.put (ZI (cF c law_pick_d (jc vL (jc (ZI (ZI vL jI Zax) vL Zax) (jc jI Zh)))) jI ZbM) vL (ZI vL jI Zax))))) ZQ) (Zp (Zx vL))))))))))
theorem Zoj: DD w s₀ mg mb 520 1 Zn5:=by
 unfold DD;k_fill
 refine Z1 (names:=["_law_one","_law_boxes"]) (g:=(TM.XS.g Zgt)) ?_
 exact fun _ _ _ _ _ _ _ c _ _=>(Zp (Zx (ZI (Zs vC jI) (Zao (nB c) (jc (by refine cO ?_ ?_ ?_;(exact(JI.range (nB c) (jc (Zao (nB c) (jc vC Zh) ZaR) Zh)));(exact fun _ _=>(ZI (Zs vD (ZI vO jI Zax)) (Zs vD vO) ZbH));(exact fun _ _=>JF.nil)) Zh) ZwP) Zax)))
theorem ZrQ: DD w s₀ mg mb 539 4 Znf:=by
 unfold DD;k_fill
 refine Z1 (names:=["_law_script","_law_boxes","_law_one","_law_way"]) (g:=(TM.XS.g ZfO)) ?_
 exact fun _ _ _ _ _ _ _ c _ _=>(Zt (Z2 sL (cF c ZuB (jc vL (jc jI (jc (Zao (nB c) (jc vL Zh) ZaR) Zh))))) (Zt (ZR (ZP (cF c law_pick_d (jc vL (jc jI (jc jI Zh)))) jI Zdv) (Zp (S1.put (ZI (ZI (ZI (Zs vL jI) (cF c Zoj (jc vL (jc vL Zh))) ZbM) (cF c law_pick_d (jc vL (jc jI (jc jI Zh)))) Zax) jI ZbM) vL jI)) ZQ) (Zt (Z2 sL (cF c law_pick_d (jc vL (jc jI (jc jI Zh))))) (Zt (ZR (ZP (ZI vL jI Za3) jI Zae) (Zp (Zx (J.tup (jc jS (jc vL Zh))))) ZQ) (Zt (ZR (ZP (ZI vL jI Za3) jI Zae) (Zp (Zx (J.tup (jc jS (jc vL Zh))))) ZQ) (Zt (ZR (ZP vL jI Zae) (Zp (Zx (J.tup (jc jS (jc vL (jc (Zao (nB c) (jc jI (jc (Zao (nB c) (jc (cF c Zgh (jc vL (jc jI Zh))) Zh) Zdr) Zh)) ZvD) Zh)))))) ZQ) (Zp (Zx (J.tup (jc jS (jc vL (jc (ZI jI (cF c law_pick_d (jc vL (jc jI (jc jI Zh)))) Zax) Zh))))))))))))
theorem ZpQ: ∀n:Nat,Def PySem.Challenge.rw_seer_k47_claims_keep_boxes.row.prog w (head.heap_39 w.params) head.view_39 (looseW head.view_39 []) (ExcName.means s₀.heap) mg mb 19 (n) (Ze8 n)
 | 0=>Zu8
 | n+1=>by
  have ih:=ZpQ n
  k_fill
  refine' ZqL (names:=["thing"]) (n:=1) (room:=n) (g:=Zl6 (Ze8 n)) (ho:=?ho) (hcd:=?hcd) (nd:=by decide) (hn:=by decide) (hbind:=?hb) (hkinds:=?hk) (hone:=?h1) (hco:=?z1) (hgen:=?z2) (hk:=?z3) (hbody:=?hbody)
  case ho=>k_is
  case z1=>rfl
  case z2=>rfl
  case z3=>rfl
  case hcd=>k_is
  case hb=>intro s xs hx;match xs,hx with | [x0],_=>exact BindsTo.of_eq rfl
  case hk=>decide
  case h1=>decide +kernel
  case hbody=>
   intro dp un gd L outer h₀ hu clr hd1 hu1
   exact(Zt (ZR (ZaL (Zdm (nB clr) (nB clr) (.inr (.inr (.inl rfl))) vL)) (Zp (Zx (by refine cO ?_ ?_ ?_;(exact(JI.seq vL));(exact fun _ _=>(cF (ZcB clr) ih (jc vO Zh)));(exact fun _ _=>JF.nil)))) ZQ) (Zt (ZR (ZaL (Zdm (nB clr) (nB clr) (.inr (.inr (.inr rfl))) vL)) (Zp (Zx (ZiJ (nB clr) (jc (by refine cO ?_ ?_ ?_;(exact(JI.seq vL));(exact fun _ _=>(cF (ZcB clr) ih (jc vO Zh)));(exact fun _ _=>JF.nil)) Zh) Zt8))) ZQ) (Zp (Zx vL))))
theorem Zmh: Def PySem.Challenge.rw_seer_k47_claims_keep_boxes.row.prog w (head.heap_39 w.params) head.view_39 (looseW head.view_39 []) (ExcName.means s₀.heap) mg mb 19 9 Zqb:=ZpQ 9
theorem Zt0: DD w s₀ mg mb 209 1 ZoE:=by
 unfold DD;k_fill
 refine Z1 (names:=["one","other"]) (g:=(TM.XS.g ZgI)) ?_
 exact fun _ _ _ _ _ _ _ c _ _=>(Zp (Zx (by refine cT ?_ ?_;(exact(JI2.zip (nB c) vL vL));(exact fun _ _=>(ZI vO vO Zax)))))
theorem Zd6: DD w s₀ mg mb 214 1 ZkA:=by
 unfold DD;k_fill
 refine Z1 (names:=["one","k"]) (g:=(TM.XS.g Zgs)) ?_
 exact fun _ _ _ _ _ _ _ c _ _=>(Zp (Zx (by refine cO ?_ ?_ ?_;(exact(JI.seq vL));(exact fun _ _=>(ZI vO vD ZbH));(exact fun _ _=>JF.nil))))
theorem Zk9: DD w s₀ mg mb 221 2 Zk0:=by
 unfold DD;k_fill
 refine Z1 (names:=["one","other"]) (g:=(TM.XS.g ZgJ)) ?_
 exact fun _ _ _ _ _ _ _ c _ _=>(Zp (Zx (cF c Zt0 (jc vL (jc (cF c Zd6 (jc vL (jc (Zcf jI Zb9) Zh))) Zh)))))
theorem Zok: DD w s₀ mg mb 93 1 ZnW:=by
 unfold DD;k_fill
 refine Z1 (names:=["one","other"]) (g:=(TM.XS.g Zgk)) ?_
 exact fun _ _ _ _ _ _ _ c _ _=>(Zp (Zx (Zjy (ZaV vL jN ZbJ) (ZdM (ZaV vL jN ZcA) (ZaV vL vL Zjs)))))
theorem ZpR: DD w s₀ mg mb 100 2 ZlL:=by
 unfold DD;k_fill
 refine Z1 (names:=["one","other"]) (g:=(TM.XS.g Zg5)) ?_
 exact fun _ _ _ _ _ _ _ c _ _=>(Zp (Zx (Zeu (ZaL (cF c Zok (jc vL (jc vL Zh)))) vL vL)))
theorem Zla: DD w s₀ mg mb 107 3 ZgG:=by
 unfold DD;k_fill
 refine Z1 (names:=["bounds","i","j","bound"]) (g:=Zik) ?_
 exact fun _ _ _ _ _ _ _ c _ _=>(Zp (S1.put (cF c ZpR (jc (Zs (Zs vL vL) vL) (jc vL Zh))) (Zs vL vL) vL))
theorem ZiB: DD w s₀ mg mb 204 1 ZgU:=by
 unfold DD;k_fill
 refine Z1 (names:=["i","n"]) (g:=(TM.XS.g ZgT)) ?_
 exact fun _ _ _ _ _ _ _ c _ _=>(Zp (Zx (by refine cO ?_ ?_ ?_;(exact(JI.range (nB c) (jc (ZI vL jI Zax) Zh)));(exact fun _ _=>(Zeu (Za2 (Za5 (ZP vD jI Zdv) (Za5 (ZP vO vD Zae) Zcr))) jI jI));(exact fun _ _=>JF.nil))))
theorem ZeZ: DD w s₀ mg mb 65 1 Zoy:=by
 unfold DD;k_fill
 refine Z1 (names:=["one","other"]) (g:=(TM.XS.g ZgD)) ?_
 exact fun _ _ _ _ _ _ _ c _ _=>(Zt (ZR (Za2 (ZaY (ZP vL jN ZbJ) (ZaY (ZP vL jN ZbJ) Zch))) (Zp (Zx jN)) ZQ) (Zp (Zx (ZI vL vL Zax))))
theorem ZrR: DD w s₀ mg mb 311 1 Zna:=by
 unfold DD;k_fill
 refine Z1 (names:=["one"]) (g:=(TM.XS.g ZfJ)) ?_
 exact fun _ _ _ _ _ _ _ c _ _=>(Zp (Zx (ZaV (Zao (nB c) (jc (by refine cO ?_ ?_ ?_;(exact(JI.seq (Zi8 vL jI)));(exact fun _ _=>vO);(exact fun _ _=>JF.one (ZP vO jI Zce))) Zh) ZoV) (J.list (jc (Zcf jI Zb9) (jc jI Zh))) Zae)))
theorem Zsd: DD w s₀ mg mb 58 2 Znm:=by
 unfold DD;k_fill
 refine Z1 (names:=["one","other"]) (g:=(TM.XS.g ZfS)) ?_
 exact fun _ _ _ _ _ _ _ c _ _=>(Zp (Zx (J.tup (jc (cF c ZeZ (jc (Zs vL jI) (jc (Zs vL jI) Zh))) (jc (cF c ZeZ (jc (Zs vL jI) (jc (Zs vL jI) Zh))) Zh)))))
theorem Zih: DD w s₀ mg mb 79 1 Zn2:=by
 unfold DD;k_fill
 refine Z1 (names:=["end","k"]) (g:=(TM.XS.g Zgp)) ?_
 exact fun _ _ _ _ _ _ _ c _ _=>(Zt (ZR (ZP vL jN ZbJ) (Zp (Zx jN)) ZQ) (Zp (Zx (ZI vL vL ZbH))))
theorem ZrS: DD w s₀ mg mb 72 2 Zm9:=by
 unfold DD;k_fill
 refine Z1 (names:=["one","k","lo","hi"]) (g:=(TM.XS.g ZfH)) ?_
 exact fun _ _ _ _ _ _ _ c _ _=>(Zt (ZR (ZP vL jI Zae) (Zp (Zx (J.tup (jc jI (jc jI Zh))))) ZQ) (Zt (Z2 sL (cF c Zih (jc (Zs vL jI) (jc vL Zh)))) (Zt (Z2 sL (cF c Zih (jc (Zs vL jI) (jc vL Zh)))) (Zt (ZR (ZP vL jI Zc5) (Zp (Zx (J.tup (jc vL (jc vL Zh))))) ZQ) (Zp (Zx (J.tup (jc vL (jc vL Zh)))))))))
theorem Zsy: DD w s₀ mg mb 228 3 Znw:=by
 unfold DD;k_fill
 refine Z1 (names:=["one","stretches","whole","k","part"]) (g:=(TM.XS.g Zf0)) ?_
 exact fun _ _ _ _ _ _ _ c _ _=>(Zt (Z2 sL (J.tup (jc (Zs vL jI) (jc (Zs vL jI) Zh)))) (Zt (ZiL sL sL (JI2.zip (nB c) (Zi8 vL jI) vL) (Zp (Z2 sL (cF c Zsd (jc vL (jc (cF c ZrS (jc vL (jc vL Zh))) Zh)))))) (Zp (Zx vL))))
theorem Zse: DD w s₀ mg mb 299 2 Znp:=by
 unfold DD;k_fill
 refine Z1 (names:=["told","bounds"]) (g:=(TM.XS.g ZfW)) ?_
 exact fun _ _ _ _ _ _ _ c _ _=>(Zt (Z2 sC (Zs vL jI)) (Zp (Zx (by refine cO ?_ ?_ ?_;(exact(JI.range (nB c) (jc jI (jc (Zao (nB c) (jc vC Zh) ZaR) Zh))));(exact fun _ _=>(J.tup (jc (cF (ZcB c) Zih (jc (Zs (Zs vD jI) vO) (jc (Zcf jI Zb9) Zh))) (jc (Zs (Zs vD vO) jI) Zh))));(exact fun _ _=>JF.nil)))))
theorem Zlb: DD w s₀ mg mb 306 4 ZoD:=by
 unfold DD;k_fill
 refine Z1 (names:=["told","one"]) (g:=(TM.XS.g ZgH)) ?_
 exact fun _ _ _ _ _ _ _ c _ _=>(Zt (ZR (ZaL (cF c ZrR (jc vL Zh))) (Zp (Zx (cF c ZeZ (jc (Zs (Zs (Zs vL jI) (J.index vL jI jI)) (J.index vL (Zcf jI Zb9) jI)) (jc (Zs vL jI) Zh))))) ZQ) (Zp (Zx (Zs (cF c Zsy (jc vL (jc (cF c Zse (jc vL Zh)) Zh))) jI))))
theorem ZnO: DD w s₀ mg mb 346 5 Zh5:=by
 unfold DD;k_fill
 refine Z1 (names:=["told","part","one","top"]) (g:=(TM.XS.g Zgb)) ?_
 exact fun _ _ _ _ _ _ _ c _ _=>(Zp (Zx (cF c ZeZ (jc (cF c Zlb (jc vL (jc (cF c Zk9 (jc vL (jc vL Zh))) Zh))) (jc vL Zh)))))
theorem Zsz: DD w s₀ mg mb 332 6 Zny:=by
 unfold DD;k_fill
 refine Z1 (names:=["bounds","told","one","top","n","i","j","apart"]) (g:=ZhY) ?_
 exact fun _ _ _ _ _ _ _ c _ _=>(Zt (Z2 sL (Zao (nB c) (jc (Zs vL jI) Zh) ZaR)) (Zp (ZbN sL (JI.range (nB c) (jc (ZI vL jI Zax) Zh)) (Zp (ZbN sL (JI.range (nB c) (jc (ZI vL jI Zax) Zh)) (Zt (Z2 sL (cF c Zk9 (jc (cF c ZiB (jc vL (jc vL Zh))) (jc (cF c ZiB (jc vL (jc vL Zh))) Zh)))) (Zp (ZdI (cF c Zla (jc vL (jc vL (jc vL (jc (cF c ZnO (jc vL (jc vL (jc vL (jc vL Zh))))) Zh)))))))))))))
theorem ZnP: DD w s₀ mg mb 86 1 Zh6:=by
 unfold DD;k_fill
 refine Z1 (names:=["end","k"]) (g:=(TM.XS.g Zgd)) ?_
 exact fun _ _ _ _ _ _ _ c _ _=>(Zt (ZR (ZP vL jN ZbJ) (Zp (Zx jN)) ZQ) (Zp (Zx (ZI vL vL Zek))))
theorem ZsA: DD w s₀ mg mb 339 6 Znz:=by
 unfold DD;k_fill
 refine Z1 (names:=["bounds","told","one","top","n","i","k","bound"]) (g:=ZhZ) ?_
 exact fun _ _ _ _ _ _ _ c _ _=>(Zt (Z2 sL (Zao (nB c) (jc (Zs vL jI) Zh) ZaR)) (Zp (ZbN sL (JI.range (nB c) (jc jI (jc (ZI vL jI Zax) Zh))) (Zt (Z2 sL (Zs vL vL)) (Zt (Z2 sL (cF c ZnO (jc vL (jc (cF c Zd6 (jc (cF c ZiB (jc vL (jc vL Zh))) (jc vL Zh))) (jc vL (jc vL Zh)))))) (Zt (ZR (ZP vL jI Zdv) (Zp (ZdI (cF c Zla (jc vL (jc vL (jc jI (jc (cF c ZnP (jc vL (jc vL Zh))) Zh))))))) ZQ) (Zp (ZR (ZP vL jI Zc5) (Zp (ZdI (cF c Zla (jc vL (jc jI (jc vL (jc (cF c ZnP (jc vL (jc (Zcf vL Zb9) Zh))) Zh))))))) ZQ))))))))
theorem ZnF: DD w s₀ mg mb 268 1 Zf2:=by
 unfold DD;k_fill
 refine Z1 (names:=["rests"]) (g:=(TM.XS.g Zf1)) ?_
 exact fun _ _ _ _ _ _ _ c _ _=>(Zp (Zx (ZI (J.list (jc (J.tup (jc jI (jc jI Zh))) Zh)) vL Zax)))
theorem ZlE: DD w s₀ mg mb 136 1 ZoX:=by
 unfold DD;k_fill
 refine Z1 (names:=["one","other","left","right","over"]) (g:=(TM.XS.g ZgO)) ?_
 exact fun _ _ _ _ _ _ _ c _ _=>(Zt (Z2 sL (Zao (nB c) (jc vL Zh) Zdr)) (Zt (Z2 sL (Zao (nB c) (jc vL Zh) Zdr)) (Zt (Zph 1000000 (ZP vL jI Zce) (Zt (Z2 sL (ZI vL vL Za3)) (Zt (Z2 sL vL) (Zp (Z2 sL vL))))) (Zp (Zx vL)))))
theorem Zjq: DD w s₀ mg mb 150 1 ZqV:=by
 unfold DD;k_fill
 refine Z1 (names:=["m","r"]) (g:=(TM.XS.g Zhu)) ?_
 exact fun _ _ _ _ _ _ _ c _ _=>(Zt (ZR (ZP vL jI Zc5) (Zp (Zx8)) ZQ) (Zt (ZR (ZP vL jI Zae) (Zp (Zx (J.tup (jc jI (jc vL Zh))))) ZQ) (Zp (Zx (J.tup (jc vL (jc (ZI vL vL Za3) Zh)))))))
theorem ZuC: DD w s₀ mg mb 143 1 ZoY:=by
 unfold DD;k_fill
 refine Z1 (names:=["one","by","left","right","left_turns","right_turns","part","over","over_turns"]) (g:=(TM.XS.g ZgP)) ?_
 exact fun _ _ _ _ _ _ _ c _ _=>(Zt (Z2 sL (ZI vL vL Za3)) (Zt (Z2 sL vL) (Zt (Z2 sL jI) (Zt (Z2 sL jI) (Zt (Zph 1000000 (ZP vL jI Zce) (Zt (Z2 sL (ZI vL vL Zek)) (Zt (Z2 sL (ZI vL (ZI vL vL ZbH) ZbM)) (Zt (Z2 sL (ZI vL (ZI vL vL ZbH) ZbM)) (Zt (Z2 sL vL) (Zt (Z2 sL vL) (Zt (Z2 sL vL) (Zp (Z2 sL vL))))))))) (Zp (Zx (ZI vL vL Za3))))))))
theorem ZgM: DD w s₀ mg mb 157 1 Zov:=by
 unfold DD;k_fill
 refine Z1 (names:=["one","number"]) (g:=(TM.XS.g ZgA)) ?_
 exact fun _ _ _ _ _ _ _ c _ _=>(Zt (ZR (ZP (Zs vL jI) jI Zae) (Zp (Zx (ZaV vL (Zs vL jI) Zae))) ZQ) (Zp (Zx (ZaV (ZI vL (Zs vL jI) Za3) (Zs vL jI) Zae))))
theorem ZoP: DD w s₀ mg mb 171 2 Zow:=by
 unfold DD;k_fill
 refine Z1 (names:=["one","other","common","apart","width","turns"]) (g:=(TM.XS.g ZgC)) ?_
 exact fun _ _ _ _ _ _ _ c _ _=>(Zt (ZR (ZP (Zs vL jI) jI Zae) (Zp (Zx (Zeu (ZaL (cF c ZgM (jc vL (jc (Zs vL jI) Zh)))) vL jN))) ZQ) (Zt (ZR (ZP (Zs vL jI) jI Zae) (Zp (Zx (Zeu (ZaL (cF c ZgM (jc vL (jc (Zs vL jI) Zh)))) vL jN))) ZQ) (Zt (Z2 sL (cF c ZlE (jc (Zs vL jI) (jc (Zs vL jI) Zh)))) (Zt (Z2 sL (ZI (Zs vL jI) (Zs vL jI) ZbM)) (Zt (ZR (ZP (ZI vL vL Za3) jI Zce) (Zp (Zx jN)) ZQ) (Zt (Z2 sL (ZI (Zs vL jI) vL Zek)) (Zt (Z2 sL (ZI (ZI vL vL Zek) (cF c ZuC (jc (ZI (Zs vL jI) vL Zek) (jc vL Zh))) ZbH)) (Zp (Zx (cF c Zjq (jc (ZI (Zs vL jI) vL ZbH) (jc (ZI (Zs vL jI) (ZI (Zs vL jI) vL ZbH) Zax) Zh))))))))))))
theorem ZkH: DD w s₀ mg mb 178 2 Zku:=by
 unfold DD;k_fill
 refine Z1 (names:=["one","other"]) (g:=(TM.XS.g Zgm)) ?_
 exact fun _ _ _ _ _ _ _ c _ _=>(Zp (Zx (cF c Zjq (jc (cF c ZlE (jc (Zs vL jI) (jc (Zs vL jI) Zh))) (jc (ZI (Zs vL jI) (Zs vL jI) Zax) Zh)))))
theorem Zsf: DD w s₀ mg mb 275 3 ZfU:=by
 unfold DD;k_fill
 refine Z1 (names:=["bounds","rests","i","met","j","other"]) (g:=(TM.XS.g ZfT)) ?_
 exact fun _ _ _ _ _ _ _ c _ _=>(Zt (Z2 sL (Zs vL vL)) (Zt (ZiL sL sL (Zu0 (nB c) vL) (Zp (ZR (Za2 (Za5 (ZP vL jN ZcA) (Za5 (ZP (cF c ZeZ (jc (Zs (Zs vL vL) vL) (jc (Zs (Zs vL vL) vL) Zh))) jI Zae) Zcr))) (Zp (Z2 sL (cF c ZoP (jc vL (jc (cF c ZkH (jc vL (jc (J.tup (jc jI (jc (Zs (Zs vL vL) vL) Zh))) Zh))) Zh))))) ZQ))) (Zp (Zx vL))))
theorem ZsB: DD w s₀ mg mb 261 4 Zdz:=by
 unfold DD;k_fill
 refine Z1 (names:=["told","rests","met"]) (g:=Zf4) ?_
 exact fun _ _ _ _ _ _ _ c _ _=>(Zt (ZR (ZP vC jN ZbJ) (Zp (Zx jN)) ZQ) (Zt (Z2 sC (cF c ZnF (jc (Zs vC jI) Zh))) (Zt (by refine sO sL ?_ ?_ ?_;(exact(JI.range (nB c) (jc jI (jc (Zao (nB c) (jc vC Zh) ZaR) Zh))));(exact fun _ _=>(cF (ZcB c) Zsf (jc (Zs vD jI) (jc vD (jc vO Zh)))));(exact fun _ _=>JF.nil)) (Zt (ZR (ZP jN vL ZmM) (Zp (Zx jN)) ZQ) (Zp (Zx (J.tup (jc (Zs vC jI) (jc vL Zh)))))))))
theorem ZrT: DD w s₀ mg mb 124 3 Zm8:=by
 unfold DD;k_fill
 refine Z1 (names:=["row","there","further"]) (g:=(TM.XS.g ZfG)) ?_
 exact fun _ _ _ _ _ _ _ c _ _=>(Zp (Zx (by refine cT ?_ ?_;(exact(JI2.zip (nB c) vL vL));(exact fun _ _=>(cF (ZcB c) ZpR (jc vO (jc (cF (ZcB c) ZeZ (jc vD (jc vO Zh))) Zh)))))))
theorem Ztk: DD w s₀ mg mb 119 4 ZnZ:=by
 unfold DD;k_fill
 refine Z1 (names:=["bounds","mid"]) (g:=(TM.XS.g Zgn)) ?_
 exact fun _ _ _ _ _ _ _ c _ _=>(Zp (Zx (by refine cO ?_ ?_ ?_;(exact(JI.seq vC));(exact fun _ _=>(cF (ZcB c) ZrT (jc vO (jc (Zs vO vD) (jc (Zs vD vD) Zh)))));(exact fun _ _=>JF.nil))))
theorem Zsg: DD w s₀ mg mb 129 1 Znk:=by
 unfold DD;k_fill
 refine Z1 (names:=["bounds"]) (g:=(TM.XS.g ZfR)) ?_
 exact fun _ _ _ _ _ _ _ c _ _=>(Zp (Zx (Zao (nB c) (jc (by refine cO ?_ ?_ ?_;(exact(JI.range (nB c) (jc (Zao (nB c) (jc vC Zh) ZaR) Zh)));(exact fun _ _=>(ZaV (Zs (Zs vD vO) vO) jI Zc5));(exact fun _ _=>JF.nil)) Zh) ZwV)))
theorem ZvA: DD w s₀ mg mb 114 5 Ze7:=by
 unfold DD;k_fill
 refine Z1 (names:=["bounds","near","mid"]) (g:=(TM.XS.g Zg6)) ?_
 exact fun _ _ _ _ _ _ _ c _ _=>(Zt (Z2 sL vL) (Zt (ZbN sL (JI.range (nB c) (jc (Zao (nB c) (jc vL Zh) ZaR) Zh)) (Zt (Z2 sL (cF c Ztk (jc vL (jc vL Zh)))) (Zp (ZR (ZaL (cF c Zsg (jc vL Zh))) (Zp (Zx jN)) ZQ)))) (Zp (Zx vL))))
theorem ZxR: DD w s₀ mg mb 256 6 ZdK:=by
 unfold DD;k_fill
 refine Z1 (names:=["told","bounds"]) (g:=Zjj) ?_
 exact fun _ _ _ _ _ _ _ c _ _=>(Zt (ZR (ZP vL jN ZbJ) (Zp (Zx jN)) ZQ) (Zt (Z2 sL (cF c ZvA (jc (Zs vL jI) Zh))) (Zt (ZR (ZP vL jN ZbJ) (Zp (Zx jN)) ZQ) (Zp (Zx (J.tup (jc vL (jc (Zs vL jI) Zh))))))))
theorem Zrl: DD w s₀ mg mb 249 7 Zjl:=by
 unfold DD;k_fill
 refine Z1 (names:=["told"]) (g:=Zmu) ?_
 exact fun _ _ _ _ _ _ _ c _ _=>(Zp (Zx (cF c ZsB (jc (cF c ZxR (jc vL Zh)) Zh))))
theorem ZsZ: DD w s₀ mg mb 199 1 ZnH:=by
 unfold DD;k_fill
 refine Z1 (names:=["one","top"]) (g:=(TM.XS.g Zga)) ?_
 exact fun _ _ _ _ _ _ _ c _ _=>(Zt (ZR (ZP (Zs vL jI) jI Zae) (Zp (Zx (Zeu (ZP (Zs vL jI) vL Zjs) (Zs vL jI) jN))) ZQ) (Zp (Zx (ZI vL (ZI (ZI vL (Zs vL jI) ZbM) (Zs vL jI) Za3) ZbM))))
theorem ZrU: DD w s₀ mg mb 294 2 ZjO:=by
 unfold DD;k_fill
 refine Z1 (names:=["bound","left"]) (g:=(TM.XS.g ZfI)) ?_
 exact fun _ _ _ _ _ _ _ c _ _=>(Zt (ZR (ZP vL jN ZcA) (Zp (Zx (cF c ZsZ (jc vL (jc vL Zh))))) ZQ) (Zt (ZR (ZP (Zs vL jI) jI Zae) (Zp (Zx (Zs vL jI))) ZQ) (Zp (Zx jN))))
theorem Zkp: DD w s₀ mg mb 185 2 Zkf:=by
 unfold DD;k_fill
 refine Z1 (names:=["one","k"]) (g:=(TM.XS.g Zf9)) ?_
 exact fun _ _ _ _ _ _ _ c _ _=>(Zp (Zx (cF c Zjq (jc (ZI (Zs vL jI) (Zao (nB c) (jc vL Zh) Zdr) ZbH) (jc (ZI (Zs vL jI) vL ZbH) Zh)))))
theorem ZsC: DD w s₀ mg mb 287 3 Znx:=by
 unfold DD;k_fill
 refine Z1 (names:=["row","left","rests","new","bound","other","low"]) (g:=Zj4) ?_
 exact fun _ _ _ _ _ _ _ c _ _=>(Zt (Z2 sL (J.list Zh)) (Zt (ZiL sL sL (JI2.zip (nB c) vL vL) (Zt (Z2 sL (cF c ZrU (jc vL (jc (cF c ZkH (jc vL (jc (cF c Zkp (jc vL (jc (Zcf jI Zb9) Zh))) Zh))) Zh)))) (Zt (ZR (Za2 (Za5 (ZP vL jN ZbJ) (Za5 (ZP vL jN ZcA) Zcr))) (Zp (Zx jN)) ZQ) (Zp (ZdI (J.append vL vL)))))) (Zp (Zx vL))))
theorem ZuD: DD w s₀ mg mb 280 4 Zo1:=by
 unfold DD;k_fill
 refine Z1 (names:=["told","rests","bounds"]) (g:=(TM.XS.g Ze2)) ?_
 exact fun _ _ _ _ _ _ _ c _ _=>(Zt (ZR (ZP vL jN ZbJ) (Zp (Zx jN)) ZQ) (Zt (Z2 sC (cF c ZnF (jc (Zs vL jI) Zh))) (Zt (by refine sT sL ?_ ?_;(exact(JI2.zip (nB c) (Zs vL jI) vC));(exact fun _ _=>(cF (ZcB c) ZsC (jc vO (jc vO (jc vD Zh)))))) (Zt (ZR (ZP jN vL ZmM) (Zp (Zx jN)) ZQ) (Zp (Zx (J.tup (jc vL (jc (Zs vL jI) Zh)))))))))
theorem ZqJ: DD w s₀ mg mb 242 8 Zp9:=by
 unfold DD;k_fill
 refine Z1 (names:=["told"]) (g:=(TM.XS.g Zhk)) ?_
 exact fun _ _ _ _ _ _ _ c _ _=>(Zp (Zx (cF c Zrl (jc (cF c ZuD (jc (cF c Zrl (jc vL Zh)) Zh)) Zh))))
theorem ZuE: DD w s₀ mg mb 51 1 ZoZ:=by
 unfold DD;k_fill
 refine Z1 (names:=["lo","hi"]) (g:=(TM.XS.g ZgQ)) ?_
 exact fun _ _ _ _ _ _ _ c _ _=>(Zp (Zx (ZqT (ZaV vL jN ZcA) (ZdM (ZaV vL jN ZcA) (ZaV vL vL Zdv)))))
theorem ZwO: DD w s₀ mg mb 318 5 Zqc:=by
 unfold DD;k_fill
 refine Z1 (names:=["told","one"]) (g:=(TM.XS.g Zhl)) ?_
 exact fun _ _ _ _ _ _ _ c _ _=>(Zp (Zx (cF c Zih (jc (cF c Zlb (jc vL (jc (cF c Zd6 (jc vL (jc (Zcf jI Zb9) Zh))) Zh))) (jc (Zcf jI Zb9) Zh)))))
theorem Zg4: DD w s₀ mg mb 325 10 Zo4:=by
 unfold DD;k_fill
 refine Z1 (names:=["told","one","top","bounds"]) (g:=(TM.XS.g Zea)) ?_
 exact fun _ _ _ _ _ _ _ c _ _=>(Zt (ZR (Za2 (ZaY (ZP vL jN ZbJ) (ZaY (ZaL (cF c ZuE (jc (cF c ZwO (jc vL (jc vL Zh))) (jc vL Zh)))) Zch))) (Zp (Zx jN)) ZQ) (Zt (Z2 sL (cF c Zmh (jc (Zs vL jI) Zh))) (Zt (ZdI (cF c Zsz (jc vL (jc vL (jc vL (jc vL Zh)))))) (Zt (ZdI (cF c ZsA (jc vL (jc vL (jc vL (jc vL Zh)))))) (Zp (Zx (cF c ZqJ (jc (J.tup (jc vL (jc (Zs vL jI) Zh))) Zh))))))))
theorem Zs0: DD w s₀ mg mb 360 11 ZnL:=by
 unfold DD;k_fill
 refine Z1 (names:=["told","one","truth"]) (g:=(TM.XS.g ZeO)) ?_
 exact fun _ _ _ _ _ _ _ c _ _=>(Zt (ZR (ZaL vL) (Zp (Zx (cF c Zg4 (jc vL (jc vL (jc (Zcf jI Zb9) Zh)))))) ZQ) (Zp (Zx (cF c Zg4 (jc vL (jc (cF c Zd6 (jc vL (jc (Zcf jI Zb9) Zh))) (jc jI Zh)))))))
theorem Zni: DD w s₀ mg mb 192 2 Znb:=by
 unfold DD;k_fill
 refine Z1 (names:=["one","k"]) (g:=(TM.XS.g ZfK)) ?_
 exact fun _ _ _ _ _ _ _ c _ _=>(Zp (Zx (cF c Zjq (jc (cF c ZlE (jc (Zs vL jI) (jc vL Zh))) (jc (Zs vL jI) Zh)))))
theorem Zis: DD w s₀ mg mb 235 3 ZoA:=by
 unfold DD;k_fill
 refine Z1 (names:=["one","rests","whole","k","part"]) (g:=(TM.XS.g ZgF)) ?_
 exact fun _ _ _ _ _ _ _ c _ _=>(Zt (Z2 sL (J.tup (jc jI (jc (Zs vL jI) Zh)))) (Zt (ZiL sL sL (JI2.zip (nB c) (Zi8 vL jI) vL) (Zp (Z2 sL (cF c ZkH (jc vL (jc (cF c Zkp (jc vL (jc vL Zh))) Zh)))))) (Zp (Zx vL))))
theorem ZsD: DD w s₀ mg mb 407 4 ZnA:=by
 unfold DD;k_fill
 refine Z1 (names:=["rests","one","d","i","k","left","others"]) (g:=(TM.XS.g Zf6)) ?_
 exact fun _ _ _ _ _ _ _ c _ _=>(Zt (Z2 sL (Zs vL vL)) (Zt (Z2 sL (Zs vL (ZI vL jI ZbM))) (Zt (ZR (ZP (Zao (nB c) (jc vL Zh) Zdr) jI Zce) (Zp (Zx vL)) ZQ) (Zt (Z2 sL (cF c Zk9 (jc vL (jc (cF c Zd6 (jc (cF c ZiB (jc vL (jc (Zao (nB c) (jc vL Zh) ZaR) Zh))) (jc vL Zh))) Zh)))) (Zp (Zx (cF c ZoP (jc vL (jc (cF c Zni (jc (cF c Zkp (jc (cF c Zis (jc vL (jc vL Zh))) (jc (Zcf vL Zb9) Zh))) (jc vL Zh))) Zh)))))))))
theorem Zol: DD w s₀ mg mb 400 9 Zn7:=by
 unfold DD;k_fill
 refine Z1 (names:=["told","one","d","rests"]) (g:=(TM.XS.g ZeQ)) ?_
 exact fun _ _ _ _ _ _ _ c _ _=>(Zt (ZR (ZP vC jN ZbJ) (Zp (Zx jN)) ZQ) (Zt (by refine sO sL ?_ ?_ ?_;(exact(JI.range (nB c) (jc jI (jc (Zao (nB c) (jc vC Zh) ZaR) Zh))));(exact fun _ _=>(cF (ZcB c) ZsD (jc (Zs vD jI) (jc vD (jc vD (jc vO Zh))))));(exact fun _ _=>JF.nil)) (Zt (ZR (ZP jN vL ZmM) (Zp (Zx jN)) ZQ) (Zp (Zx (cF c ZqJ (jc (J.tup (jc (Zs vC jI) (jc vL Zh))) Zh)))))))
theorem Zom: DD w s₀ mg mb 388 10 Zn9:=by
 unfold DD;k_fill
 refine Z1 (names:=["told","one","d"]) (g:=(TM.XS.g ZeR)) ?_
 exact fun _ _ _ _ _ _ _ c _ _=>(Zt (ZR (ZbG (ZaL (cF c ZgM (jc (cF c Zni (jc (cF c Zis (jc vL (jc (Zs vL jI) Zh))) (jc vL Zh))) (jc jI Zh))))) (Zp (Zx jN)) ZQ) (Zp (Zx (cF c Zol (jc vL (jc vL (jc vL Zh)))))))
theorem ZsE: DD w s₀ mg mb 164 2 Znu:=by
 unfold DD;k_fill
 refine Z1 (names:=["one","other"]) (g:=(TM.XS.g ZfY)) ?_
 exact fun _ _ _ _ _ _ _ c _ _=>(Zt (ZR (ZP (Zs vL jI) jI Zae) (Zp (Zx (ZaV vL vL Zae))) ZQ) (Zp (Zx (ZdM (ZaV (ZI (Zs vL jI) (Zs vL jI) Za3) jI Zae) (cF c ZgM (jc vL (jc (Zs vL jI) Zh)))))))
theorem ZrV: DD w s₀ mg mb 395 11 Znd:=by
 unfold DD;k_fill
 refine Z1 (names:=["told","one","d"]) (g:=(TM.XS.g ZdW)) ?_
 exact fun _ _ _ _ _ _ _ c _ _=>(Zt (ZR (ZaL (cF c ZsE (jc (cF c Zis (jc vL (jc (Zs vL jI) Zh))) (jc (J.tup (jc vL (jc jI Zh))) Zh)))) (Zp (Zx jN)) ZQ) (Zt (ZR (ZP vL jI Zae) (Zp (Zx (cF c Zom (jc vL (jc (ZI (J.list (jc (ZI (Zs vL jI) jI Zax) Zh)) (Zi8 vL jI) Zax) (jc jI Zh)))))) ZQ) (Zp (Zx (cF c Zmh (jc vL Zh))))))
theorem Ztl: DD w s₀ mg mb 367 11 Zob:=by
 unfold DD;k_fill
 refine Z1 (names:=["told","one","held"]) (g:=(TM.XS.g ZeS)) ?_
 exact fun _ _ _ _ _ _ _ c _ _=>(Zt (ZR (ZbG (ZaL (cF c ZgM (jc (cF c Zis (jc vL (jc (Zs vL jI) Zh))) (jc jI Zh))))) (Zp (Zx jN)) ZQ) (Zt (Z2 sL (cF c Zg4 (jc (cF c Zg4 (jc vL (jc vL (jc jI Zh)))) (jc (cF c Zd6 (jc vL (jc (Zcf jI Zb9) Zh))) (jc jI Zh))))) (Zp (Zx (cF c Zol (jc vL (jc vL (jc jI Zh))))))))
theorem ZoQ: DD w s₀ mg mb 381 11 ZoF:=by
 unfold DD;k_fill
 refine Z1 (names:=["told","one"]) (g:=(TM.XS.g Zd8)) ?_
 exact fun _ _ _ _ _ _ _ c _ _=>(Zt (ZR (Za2 (Za5 (ZP vL jN ZcA) (Za5 (ZaL (cF c Zok (jc (cF c Zlb (jc vL (jc vL Zh))) (jc jI Zh)))) Zcr))) (Zp (Zx (cF c Zg4 (jc vL (jc vL (jc (Zcf jI Zb9) Zh)))))) ZQ) (Zp (Zx vL)))
theorem ZrW: DD w s₀ mg mb 374 12 Zne:=by
 unfold DD;k_fill
 refine Z1 (names:=["told","one"]) (g:=(TM.XS.g ZfL)) ?_
 exact fun _ _ _ _ _ _ _ c _ _=>(Zp (Zx (cF c Zmh (jc (cF c ZoQ (jc (cF c ZoQ (jc vL (jc vL Zh))) (jc (cF c Zd6 (jc vL (jc (Zcf jI Zb9) Zh))) Zh))) Zh))))
theorem ZxS: DD w s₀ mg mb 353 13 ZqY:=by
 unfold DD;k_fill
 refine Z1 (names:=["told","claim","truth"]) (g:=(TM.XS.g Zeq)) ?_
 exact fun _ _ _ _ _ _ _ c _ _=>(Zt (ZR (ZP vL jN ZbJ) (Zp (Zx jN)) ZQ) (Zt (ZR (ZP (Zs vL jI) jS Zae) (Zp (Zx (cF c Zs0 (jc vL (jc (Zs vL jI) (jc vL Zh)))))) ZQ) (Zt (ZR (ZP (Zs vL jI) jS Zae) (Zp (Zx (Zeu (ZaL vL) (cF c Ztl (jc vL (jc (Zs vL jI) Zh))) (cF c ZrW (jc vL (jc (Zs vL jI) Zh)))))) ZQ) (Zp (Zx (Zeu (ZaL vL) (cF c Zom (jc vL (jc (Zs vL jI) (jc (Zs vL jI) Zh)))) (cF c ZrV (jc vL (jc (Zs vL jI) (jc (Zs vL jI) Zh))))))))))
theorem Ztm: DD w s₀ mg mb 527 2 Zoc:=by
 unfold DD;k_fill
 refine Z1 (names:=["_law_claim_here","_law_boxes","_law_number_here"]) (g:=(TM.XS.g Zd4)) ?_
 exact fun _ _ _ _ _ _ _ c _ _=>(Zt (Z2 sL (cF c Zoj (jc (Zs vL jI) (jc vL Zh)))) (Zt (ZR (ZP (Zs vL jI) jS Zae) (Zp (Zx (ZaV vL jI Zc5))) ZQ) (Zt (ZR (ZP (Zs vL jI) jS Zae) (Zp (Zx (ZaV vL jI Zae))) ZQ) (Zp (Zx (ZaV (ZI vL (Zs vL jI) Za3) jI Zae))))))
theorem Zlc: DD w s₀ mg mb 466 1 ZoC:=by
 unfold DD;k_fill
 refine Z1 (names:=["_law_told_here","_law_boxes","_law_full","_law_i","_law_j","_law_t","_law_apart"]) (g:=(TM.XS.g Zd7)) ?_
 exact fun _ _ _ _ _ _ _ c _ _=>(Zt (ZR (ZP vL jN ZbJ) (Zp (Zx jB)) ZQ) (Zt (Z2 sL (ZI (J.list (jc jI Zh)) vL Zax)) (Zt (ZbN sL (JI.range (nB c) (jc (Zao (nB c) (jc vL Zh) ZaR) Zh)) (Zp (ZbN sL (JI.range (nB c) (jc (Zao (nB c) (jc vL Zh) ZaR) Zh)) (Zp (ZR (Za2 (Za5 (ZP (Zs (Zs (Zs vL jI) vL) vL) jN ZcA) (Za5 (ZP (Zs vL vL) (ZI (Zs vL vL) (Zs (Zs (Zs vL jI) vL) vL) Zax) Zdv) Zcr))) (Zp (Zx jB)) ZQ))))) (Zt (ZbN sL (JI.range (nB c) (jc (Zao (nB c) (jc vL Zh) ZaR) Zh)) (Zt (Z2 sL (ZI (Zs vL vL) (Zs (Zs (Zs vL jI) vL) jI) ZbM)) (Zt (ZR (Za2 (Za5 (ZP (Zs (Zs (Zs vL jI) vL) jI) jI Zae) (Za5 (ZP vL jI Zce) Zcr))) (Zp (Zx jB)) ZQ) (Zp (ZR (Za2 (Za5 (ZP (Zs (Zs (Zs vL jI) vL) jI) jI Zdv) (Za5 (ZP (ZI vL (Zs (Zs (Zs vL jI) vL) jI) Za3) jI Zce) Zcr))) (Zp (Zx jB)) ZQ))))) (Zp (Zx jB))))))
theorem Ztn: DD w s₀ mg mb 532 1 Zod:=by
 unfold DD;k_fill
 refine Z1 (names:=["_law_claim_here","_law_truth","_law_some"]) (g:=ZkB) ?_
 exact fun _ _ _ _ _ _ _ c _ _=>(Zt (by refine sO sL ?_ ?_ ?_;(exact(JI.seq (Zu7 (Zs vL jI) (JP.some jI) JP.none)));(exact fun _ _=>vO);(exact fun _ _=>JF.one (ZP vO jI Zce))) (Zt (ZR (ZP (Zao (nB c) (jc vL Zh) ZaR) jI Zae) (Zp (Zx jB)) ZQ) (Zt (ZR (Za2 (Za5 (ZP (Zs vL jI) jS Zae) (Za5 (ZaL vL) Zcr))) (Zp (Zx (ZdM (ZaV (Zao (nB c) (jc vL Zh) ZaR) jI Zae) (ZaV (Zao (nB c) (jc (Zs vL jI) Zh) Zdr) jI Zae)))) ZQ) (Zt (ZR (ZP (Zs vL jI) jS Zae) (Zp (Zx (Zjy (ZaV (Zs vL jI) jI Zae) (ZqT (ZaV (Zs vL jI) jI Zae) (ZdM (ZaV (Zao (nB c) (jc vL Zh) ZaR) jI Zae) (ZaV (Zao (nB c) (jc (Zs vL jI) Zh) Zdr) jI Zae)))))) ZQ) (Zt (ZR (Za2 (Za5 (ZP (Zs vL jI) jS Zae) (Za5 (ZbG (ZaL vL)) Zcr))) (Zp (Zx jB)) ZQ) (Zp (Zx (Zjy (ZaV (Zao (nB c) (jc vL Zh) ZaR) jI Zae) (ZaV (Zao (nB c) (jc vL Zh) ZoV) (J.list (jc (Zcf jI Zb9) (jc jI Zh))) Zae)))))))))
theorem Znj: DD w s₀ mg mb 546 3 Zng:=by
 unfold DD;k_fill
 refine Z1 (names:=["_law_told_here","_law_claim_here","_law_truth","_law_some","_law_found","_law_right"]) (g:=(TM.XS.g ZfP)) ?_
 exact fun _ _ _ _ _ _ _ c _ _=>(Zt (Z2 sL (ZaV (cF c Ztm (jc vL (jc vL Zh))) vL Zae)) (Zt (ZR (Za2 (Za5 (ZaL vL) (Za5 (ZaL (cF c Zlc (jc vL (jc vL Zh)))) Zcr))) (Zp (Zx (cF c Zlc (jc vL (jc vL Zh))))) ZQ) (Zp (Zx (Zx9 vL (Zjy (ZmC (cF c Ztn (jc vL (jc vL Zh)))) (ZmC (cF c Zlc (jc vL (jc vL Zh))))))))))
theorem ZsF: DD w s₀ mg mb 501 1 Znv:=by
 unfold DD;k_fill
 refine Z1 (names:=["_law_one","_law_other"]) (g:=(TM.XS.g ZfZ)) ?_
 exact fun _ _ _ _ _ _ _ c _ _=>(Zt (ZR (ZP (Zs vL jI) jI Zae) (Zp (Zx (ZaV vL vL Zae))) ZQ) (Zp (Zx (ZdM (ZaV (ZI (Zs vL jI) (Zs vL jI) Za3) jI Zae) (ZaV (ZI (ZI (Zs vL jI) (Zs vL jI) ZbM) (Zs vL jI) Za3) jI Zae)))))
theorem Zto: DD w s₀ mg mb 494 1 ZnY:=by
 unfold DD;k_fill
 refine Z1 (names:=["_law_one","_law_other"]) (g:=(TM.XS.g Zgl)) ?_
 exact fun _ _ _ _ _ _ _ c _ _=>(Zt (ZR (ZP vL jN ZbJ) (Zp (Zx jB)) ZQ) (Zp (Zx (ZdM (ZaV vL jN ZcA) (ZaV vL vL Zjs)))))
theorem Zs1: DD w s₀ mg mb 508 2 ZnG:=by
 unfold DD;k_fill
 refine Z1 (names:=["_law_one","_law_other","_law_i","_law_j","_law_t"]) (g:=(TM.XS.g ZeN)) ?_
 exact fun _ _ _ _ _ _ _ c _ _=>(Zt (ZR (Za2 (ZaY (ZP vL jN ZbJ) (ZaY (ZP vL jN ZbJ) Zch))) (Zp (Zx (ZaV vL jN ZbJ))) ZQ) (Zt (ZbN sL (JI.range (nB c) (jc (Zao (nB c) (jc (Zs vL jI) Zh) ZaR) Zh)) (Zp (ZbN sL (JI.range (nB c) (jc (Zao (nB c) (jc (Zs vL jI) Zh) ZaR) Zh)) (Zp (ZR (ZbG (ZaL (cF c Zto (jc (Zs (Zs (Zs vL jI) vL) vL) (jc (Zs (Zs (Zs vL jI) vL) vL) Zh))))) (Zp (Zx jB)) ZQ))))) (Zt (ZbN sL (JI.range (nB c) (jc (Zao (nB c) (jc (Zs vL jI) Zh) ZaR) Zh)) (Zp (ZR (ZbG (ZaL (cF c ZsF (jc (Zs (Zs vL jI) vL) (jc (Zs (Zs vL jI) vL) Zh))))) (Zp (Zx jB)) ZQ))) (Zp (Zx jB)))))
theorem ZkI: DD w s₀ mg mb 473 1 Zn1:=by
 unfold DD;k_fill
 refine Z1 (names:=["_law_thing"]) (g:=(TM.XS.g Zgo)) ?_
 exact fun _ _ _ _ _ _ _ c _ _=>(Zp (Zx (ZdM (Zdm (nB c) (nB c) (.inl rfl) vL) (ZmC (Zdm (nB c) (nB c) (.inr (.inl rfl)) vL)))))
theorem Zt1: DD w s₀ mg mb 480 2 Zoz:=by
 unfold DD;k_fill
 refine Z1 (names:=["_law_thing","_law_size","_law_i","_law_top"]) (g:=(TM.XS.g ZgE)) ?_
 exact fun _ _ _ _ _ _ _ c _ _=>(Zt (ZR (Za2 (ZaY (ZbG (ZaL (Zdm (nB c) (nB c) (.inr (.inr (.inl rfl))) vL))) (ZaY (ZP (Zao (nB c) (jc vL Zh) ZaR) vL Zce) Zch))) (Zp (Zx jB)) ZQ) (Zt (ZbN sL (JI.range (nB c) (jc vL Zh)) (Zt (ZR (Za2 (ZaY (ZbG (ZaL (Zdm (nB c) (nB c) (.inr (.inr (.inl rfl))) (Zs vL vL)))) (ZaY (ZP (Zao (nB c) (jc (Zs vL vL) Zh) ZaR) vL Zce) Zch))) (Zp (Zx jB)) ZQ) (Zt (ZbN sL (JI.seq (Zs vL vL)) (Zp (ZR (Za2 (Za5 (ZP vL jN ZcA) (Za5 (ZbG (ZaL (cF c ZkI (jc vL Zh)))) Zcr))) (Zp (Zx jB)) ZQ))) (Zp (ZR (ZP (Zs (Zs vL vL) vL) jI Zce) (Zp (Zx jB)) ZQ))))) (Zp (Zx jB))))
theorem Ztp: DD w s₀ mg mb 487 3 Zn4:=by
 unfold DD;k_fill
 refine Z1 (names:=["_law_thing","_law_many","_law_pair"]) (g:=(TM.XS.g Zgq)) ?_
 exact fun _ _ _ _ _ _ _ c _ _=>(Zt (ZR (Za2 (ZaY (ZbG (ZaL (Zdm (nB c) (nB c) (.inr (.inr (.inr rfl))) vL))) (ZaY (ZP (Zao (nB c) (jc vL Zh) ZaR) jI Zce) (ZaY (ZbG (ZaL (cF c Zt1 (jc (Zs vL jI) (jc (ZI vL jI Zax) Zh))))) Zch)))) (Zp (Zx jB)) ZQ) (Zt (ZR (Za2 (ZaY (ZbG (ZaL (Zdm (nB c) (nB c) (.inr (.inr (.inl rfl))) (Zs vL jI)))) (ZaY (ZP (Zao (nB c) (jc (Zs vL jI) Zh) ZaR) vL Zce) Zch))) (Zp (Zx jB)) ZQ) (Zt (ZbN sL (JI.seq (Zs vL jI)) (Zt (ZR (Za2 (ZaY (ZbG (ZaL (Zdm (nB c) (nB c) (.inr (.inr (.inr rfl))) vL))) (ZaY (ZP (Zao (nB c) (jc vL Zh) ZaR) jI Zce) Zch))) (Zp (Zx jB)) ZQ) (Zt (ZR (Za2 (ZaY (ZbG (ZaL (cF c ZkI (jc (Zs vL jI) Zh)))) (ZaY (ZbG (ZaL (cF c ZkI (jc (Zs vL jI) Zh)))) Zch))) (Zp (Zx jB)) ZQ) (Zp (ZR (Za2 (ZaY (ZP (Zs vL jI) jI Zc5) (ZaY (Za2 (Za5 (ZP (Zs vL jI) jI Zdv) (Za5 (ZbG (Zu3 jI (Zs vL jI) (Zs vL jI) Zjs Zc5)) Zcr))) Zch))) (Zp (Zx jB)) ZQ))))) (Zp (Zx jB)))))
end
end L
end
section
open PySem PySem.W PySem.Calls PyProof.Rows PM
open L
seal PySem.wpAny PM.J PM.Js PM.JT PM.JA PM.JF PM.JI PM.JI2 PM.JP PM.S1 PM.Ss PM.Sto PM.Rd PM.Nm PM.OpN PM.Op2 PM.Def
theorem PySem.Challenge.cw_seer_k47_claims_keep_boxes_holds : PySem.Challenge.rw_seer_k47_claims_keep_boxes.Holds :=
 head (by
  w_strict (k_go0;(rename Well _ _ _ _=>w9);(rename Frag.In _ _=>kx9);(rename Top _ _ _ _ _ _=>t9);(rename Fr _ _ _ _=>f9);(rename News _ _ _ _=>n9);(rename CellsAre _ _ _=>x9);(rename (PyData.layable0 _=true)=>hl9);(obtain⟨H9,e9⟩:=L.ZsY (by omega) hl9);(refine' PM.ZvJ (names:=["_law_script","_law_many","_law_boxes","_law_told_here","_law_kept","_law_claim_here","_law_moved","_law_at","_law_truth","_law_found"]) (g:=(TM.XS.g Zg8)) (room:=13) ?hb ?h1 ?h2 ?h3 ?h4 kx9 t9 w9 ?len f9 n9 x9 e9 ?post);(case h1=>decide);(case h2=>decide);(case h3=>rfl);(case h4=>rfl);(case len=>(rw[PM.Za6];omega));(case hb=>(intro dp un gd L a ccd outer h₀ hu clr hd1 hu1;exact(Zt (Z2 sL (Zs (J.list (jc jI (jc jI (jc jI (jc jI (jc jI (jc jI (jc jI (jc jI (jc jI Zh)))))))))) (cF clr law_pick_d (jc vC (jc jI (jc jI Zh)))))) (Zt (by refine sO sL ?_ ?_ ?_;(exact(JI.range (nB clr) (jc vL Zh)));(exact fun _ _=>(cF (ZcB clr) Zgh (jc vD (jc (ZI jI vO Zax) Zh))));(exact fun _ _=>JF.nil)) (Zt (Z2 sL (cF clr ZtY (jc vC (jc jI (jc vL Zh))))) (Zt (Z2 sL (cF clr ZtZ (jc vL Zh))) (Zt (Z2 sL (cF clr ZrQ (jc vC (jc vL Zh)))) (Zt (Z2 sL (ZiJ (nB clr) (jc vL Zh) ZlF)) (Zt (ZR (ZP (Zao (nB clr) (jc vL Zh) ZaR) jI Zdv) (Zt (Z2 sL (cF clr law_pick_d (jc vC (jc jI (jc (Zao (nB clr) (jc vL Zh) ZaR) Zh))))) (Zp (S1.put (ZI (ZI (Zs vL vL) (cF clr law_pick_d (jc vC (jc jI (jc jI Zh)))) Zax) jI ZbM) vL vL))) ZQ) (Zt (ZbN sL (JI.seq (J.list (jc jB (jc jB Zh)))) (Zt (Z2 sL (cF clr ZxS (jc vL (jc vL (jc vL Zh))))) (Zt (ZR (Za2 (ZaY (Za2 (Za5 (ZP vL jN ZcA) (Za5 (ZbG (ZaL (cF clr Ztp (jc vL (jc (Zao (nB clr) (jc vL Zh) ZaR) Zh))))) Zcr))) (ZaY (ZP vL vL Zce) Zch))) (Zp (Zx jB)) ZQ) (Zt (ZR (Za2 (ZaY (ZbG (ZaL (cF clr Zs1 (jc vL (jc vL Zh))))) (ZaY (ZbG (ZaL (cF clr Znj (jc vL (jc vL (jc vL (jc vL (jc vL Zh)))))))) Zch))) (Zp (Zx jB)) ZQ) (Zp (ZR (ZbG (ZaL (cF clr Znj (jc vL (jc vL (jc vL (jc vL (jc vL Zh)))))))) (Zp (Zx jB)) ZQ)))))) (Zp (Zx jB))))))))))));(case post=>(intro h' tk' m' F';k_steps)))
  )
end
