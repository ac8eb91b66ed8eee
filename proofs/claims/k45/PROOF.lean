import PyProof.Rows.All
import Wide.All
import OpenK.AllK
import Wide.FinOn
import PySem.Challenge.RW_seer_k45_claims_of_same
import PyProof.Rows.News
import PyProof.Rows.Nodes
import PyProof.Rows.Chain
import PyProof.Rows.TupSub
import PyProof.PureInt
import PyProof.Rules2
import PyProof.Rules3
import PyProof.Rows.Globals
import PyProof.Rows.RuleB_mod
import PyProof.Rows.RuleB_floordiv
import PyProof.Rows.RuleB_small
import PyProof.NoPylong
import PyProof.Rows.RuleB_pow
import PyProof.Rows.EqDataRows
import PyProof.Rows.StrTemp
import PyProof.Rows.TupAdd
import PyProof.Rows.ListMul
import PyProof.ListIndexNeg
import PyProof.SliceList
import PyProof.Methods
import PyProof.Rows.Tup
import PyProof.IsiPairs
import PyProof.IsiHeapPairs
import PyProof.IsiNone
import PyProof.Rows.RuleN_abs
import PyProof.Rows.SumAny
import PyProof.WalkInts
import PyProof.PvWalk
import PyProof.RulesRaise
import PyProof.Raises
import PyProof.Dict
import PyProof.Seq
import PyProof.Rows.ListAppend
import PyProof.ForAppend
import PyProof.ForAny
import PyProof.Walks
import PyProof.WalksT
import KE.KItem
import PyProof.WalksMore
import PyProof.RangeFor
import PyProof.Rows.Range3
import OpenK.KCell
import KE.KTree
import KE.RegLcTurns
import KE.KCompFold
import KE.KLcPair
import KE.LcTurns
import PyProof.CompUse
import PyProof.Rows.ZipGen
import OpenK.KLine
import KE.KState
import Wide.Well
import PyProof.ListCopy
import PyProof.Rows.TupleOfSeqD
import KE.LcSums
import KE.KCellOne
import PyProof.FitsBits
import KE.KEqDeep
import PyProof.Rows.TupMore
import PyProof.Rows.NestLooks
import PyProof.EnumMake
import PyProof.WalksEnum
import PyProof.Rows.SortWalk
import PyProof.DictStraight
import PyProof.EqAt
import PyProof.Rows.SeqMore2
import KE.KAnyBase
import PyProof.Rows.SeqSlice
set_option linter.all false
set_option maxRecDepth 100000
set_option maxHeartbeats 8000000
abbrev Zz0:=@Option.bind_eq_some_iff
abbrev Zz1:=@Option.map_eq_some_iff
abbrev Zz2:=@List.mem_cons_of_mem
abbrev Zz3:=@List.mem_append_right
abbrev Zz4:=@List.mem_append_left
abbrev Zz5:=@List.mem_cons_self
abbrev Zz6:=@List.getElem?_eq_some_iff
abbrev Zz7:=@List.mem_cons
abbrev Zz8:=@List.mem_append
abbrev Zz9:=@List.mem_singleton
abbrev Zz10:=@Nat.le_refl
abbrev Zz11:=@List.mem_map
set_option Elab.async false
set_option compiler.extract_closed false
section
set_option autoImplicit false
/-! The plain machine: values as trees, lists as places; and how it stands for the model's heap. -/
namespace PM
open PySem PyProof.Rows
inductive V where
 | none
 | bool (b:Bool)
 | int (i:Int)
 | str (s:Str)
 | tup (vs:List V)
 | ref (a:Nat)
noncomputable abbrev Hp:=List (List V)
noncomputable abbrev Lc:=Nat→Option V
noncomputable def LEN: Nat:=100000
theorem Zbm: LEN=100000:=rfl
theorem Zdi{n:Nat}(h:n≤LEN): n≤sizeLine:=by
 have:sizeLine=2 ^ 24:=rfl
 rw[this];rw[Zbm]at h;omega
noncomputable abbrev ZeW(xs:List Value)(k:Nat): Obj:={ cls:=.type "tuple",data:=.seq xs.toArray k }
noncomputable abbrev Zb7(xs:List Value)(k:Nat): Obj:={ cls:=.type "list",data:=.seq xs.toArray k }
structure Wd where
 pi:List Addr
 tups:List (Addr×Obj)
 sc:Addr×Obj
structure Wd.Le(W W':Wd): Prop where
 pi:W.pi <+: W'.pi
 tups:∀q∈W.tups,q∈W'.tups
 sc:W'.sc=W.sc
theorem Wd.Le.refl(W:Wd): W.Le W:=⟨List.prefix_refl _,fun _ h=>h,rfl⟩
theorem Wd.Le.trans{W W' W'':Wd}(a:W.Le W')(b:W'.Le W''): W.Le W'':=⟨a.pi.trans b.pi,fun q h=>b.tups q (a.tups q h),b.sc.trans a.sc⟩
theorem Wd.Le.at{W W':Wd}(h:W.Le W'){i:Nat}{a:Addr}(e:W.pi[i]?=some a): W'.pi[i]?=some a:=by
 obtain⟨t,ht⟩:=h.pi
 have hi:i<W.pi.length:=(Zz6.mp e).1
 rw[←ht,List.getElem?_append_left hi]
 exact e
mutual
inductive VR(W:Wd): V→Value→Prop where
 | none:VR W .none .none
 | bool (b:Bool):VR W (.bool b) (.bool b)
 | int (i:Int) (t:Tok):VR W (.int i) (.int i t)
 | str (s:Str) (t:Tok):VR W (.str s) (.str s t)
 | tup {vs:List V} {a:Addr} {xs:List Value} {k:Nat}:(a,ZeW xs k)∈W.tups→vs.length≤LEN→VRs W vs xs→VR W (.tup vs) (.ref a)
 | ref {i:Nat} {a:Addr}:W.pi[i]?=some a→VR W (.ref i) (.ref a)
inductive VRs(W:Wd): List V→List Value→Prop where
 | nil:VRs W [] []
 | cons {v:V} {x:Value} {vs:List V} {xs:List Value}:VR W v x→VRs W vs xs→VRs W (v::vs) (x::xs)
end
mutual
theorem VR.mono{W W':Wd}(h:W.Le W'){v:V}{x:Value}(r:VR W v x): VR W' v x:=by
 cases r with
 | none=>exact .none
 | bool b=>exact .bool b
 | int i t=>exact .int i t
 | str s t=>exact .str s t
 | tup hm hl hs=>exact .tup (h.tups _ hm) hl (VRs.mono h hs)
 | ref e=>exact .ref (h.at e)
theorem VRs.mono{W W':Wd}(h:W.Le W'){vs:List V}{xs:List Value}(r:VRs W vs xs): VRs W' vs xs:=by
 cases r with
 | nil=>exact .nil
 | cons a b=>exact .cons (VR.mono h a) (VRs.mono h b)
end
theorem VRs.length{W:Wd}: ∀{vs:List V} {xs:List Value},VRs W vs xs→xs.length=vs.length
 | _,_,.nil=>rfl
 | _,_,.cons _ r=>by rw[List.length_cons,List.length_cons,r.length]
theorem VRs.at{W:Wd}: ∀{vs:List V} {xs:List Value} {i:Nat} {v:V},VRs W vs xs→vs[i]?=some v→∃x,xs[i]?=some x∧VR W v x
 | _,_,_,_,.nil,e=>by simp at e
 | _,_,0,_,.cons a _,e=>by
  simp at e
  exact⟨_,by simp,e▸a⟩
 | _,_,i+1,_,.cons _ r,e=>by
  simp at e
  obtain⟨x,hx,hr⟩:=r.at e
  exact⟨x,by simpa using hx,hr⟩
theorem VRs.append{W:Wd}: ∀{vs us:List V} {xs ys:List Value},VRs W vs xs→VRs W us ys→VRs W (vs++us) (xs++ys)
 | _,_,_,_,.nil,h=>h
 | _,_,_,_,.cons a r,h=>.cons a (r.append h)
theorem VRs.snoc{W:Wd}{vs:List V}{xs:List Value}{v:V}{x:Value}(h:VRs W vs xs)(r:VR W v x): VRs W (vs++[v]) (xs++[x]):=h.append (.cons r .nil)
theorem VRs.set{W:Wd}: ∀{vs:List V} {xs:List Value} {v:V} {x:Value} (i:Nat),VRs W vs xs→VR W v x→VRs W (vs.set i v) (xs.set i x)
 | _,_,_,_,_,.nil,_=>.nil
 | _,_,_,_,0,.cons _ r,h=>.cons h r
 | _,_,_,_,i+1,.cons a r,h=>.cons a (r.set i h)
theorem VRs.drop{W:Wd}: ∀{vs:List V} {xs:List Value} (i:Nat),VRs W vs xs→VRs W (vs.drop i) (xs.drop i)
 | _,_,0,h=>h
 | _,_,_+1,.nil=>.nil
 | _,_,i+1,.cons _ r=>r.drop i
structure HR(W:Wd)(H:Hp)(led:List (Addr×Obj)): Prop where
 len:W.pi.length=H.length
 nd:W.pi.Nodup
 lists:∀(i:Nat) (vs:List V),H[i]?=some vs→vs.length≤LEN∧∃a xs k,W.pi[i]?=some a∧(a,Zb7 xs k)∈led∧VRs W vs xs
 tups:∀q∈W.tups,q∈led
 kind:∀q∈W.tups,∃xs k,q.2=ZeW xs k
theorem HR.mono{W:Wd}{H:Hp}{led led':List (Addr×Obj)}(R:HR W H led)(h:∀q∈led,q∈led'): HR W H led':=
 ⟨R.len,R.nd,fun i vs e=>by
  obtain⟨l,a,xs,k,h1,h2,h3⟩:=R.lists i vs e
  exact⟨l,a,xs,k,h1,h _ h2,h3⟩,fun q hq=>h q (R.tups q hq),R.kind⟩
structure Cx where
 A:Around
 env:Env
 h₀:Heap
 L:Addr
 hh:A.handled=none
 hu:A.units+200<cLine
 Own:Wd→Lc→(Str→Option Value)→List (Addr×Obj)→Prop
 mono:∀{W W':Wd} {ρ:Lc} {m:Str→Option Value} {c:List (Addr×Obj)},W.Le W'→Own W ρ m c→Own W' ρ m c
structure Rep'(Γ:Cx)(W:Wd)(ρ:Lc)(H:Hp)(fr:List (Addr×Obj))(h:Heap)(m:Str→Option Value)(cells led:List (Addr×Obj)): Prop where
 F:Fr Γ.h₀ Γ.L h m
 N:News Γ.h₀ Γ.L h led
 R:HR W H (W.sc::led)
 sc:Γ.h₀.get? W.sc.1=some W.sc.2
 sc0:W.pi[0]?=some W.sc.1
 frIn:∀q∈fr,q∈led
 frOff:∀q∈fr,q.1∉W.pi
 clIn:∀q∈cells,q∈led
 clOff:∀q∈cells,q.1∉W.pi
 apart:∀q∈cells,∀r∈fr,q.1≠r.1
 frTup:∀q∈fr,∀t∈W.tups,q.1≠t.1
 clTup:∀q∈cells,∀t∈W.tups,q.1≠t.1
 own:Γ.Own W ρ m cells
noncomputable def Rep(Γ:Cx)(W:Wd)(ρ:Lc)(H:Hp)(fr:List (Addr×Obj))(h:Heap): Prop:=∃m cells led,Rep' Γ W ρ H fr h m cells led
theorem Rep.grown{Γ:Cx}{W:Wd}{ρ:Lc}{H:Hp}{fr:List (Addr×Obj)}{h h':Heap}(r:Rep Γ W ρ H fr h)(up:∀b o,h.get? b=some o→h'.get? b=some o): Rep Γ W ρ H fr h':=by
 obtain⟨m,c,led,r⟩:=r
 refine⟨m,c,led,⟨⟨?_,fun b o e=>up b o (r.F.keep b o e),r.F.above⟩,fun q hq=>⟨up _ _ (r.N q hq).1,(r.N q hq).2⟩,r.R,r.sc,r.sc0,r.frIn,r.frOff,r.clIn,r.clOff,r.apart,r.frTup,r.clTup,r.own⟩⟩
 obtain⟨o,es,ep,h1,h2⟩:=r.F.ns
 exact⟨o,es,ep,up _ _ h1,h2⟩
theorem Rep.push{Γ:Cx}{W:Wd}{ρ:Lc}{H:Hp}{fr:List (Addr×Obj)}{h:Heap}(r:Rep Γ W ρ H fr h)(o:Obj): Rep Γ W ρ H fr (h.push o):=r.grown fun _ _ e=>Heap.get?_push_of_some _ e
theorem Zer{q s:Addr×Obj}{l l':List (Addr×Obj)}(h:q∈s::l)(m:q∈l→q∈l'): q∈s::l':=by
 rcases Zz7.mp h with e | h
 ·exact e▸List.mem_cons_self
 ·exact Zz2 _ (m h)
theorem ZfM{q s:Addr×Obj}{l l':List (Addr×Obj)}(h:q∈s::l)(m:∀x∈l,x∈l'): q∈s::l':=by
 rcases Zz7.mp h with e | h
 ·exact e▸List.mem_cons_self
 ·exact Zz2 _ (m q h)
theorem Rep'.get{Γ:Cx}{W:Wd}{ρ:Lc}{H:Hp}{fr:List (Addr×Obj)}{h:Heap}{m:Str→Option Value}{c led:List (Addr×Obj)}(r:Rep' Γ W ρ H fr h m c led){q:Addr×Obj}(hq:q∈W.sc::led): h.get? q.1=some q.2:=by
 rcases Zz7.mp hq with e | hq
 ·rw[e]
  exact r.F.keep _ _ r.sc
 ·exact(r.N q hq).1
theorem Rep'.off{Γ:Cx}{W:Wd}{ρ:Lc}{H:Hp}{fr:List (Addr×Obj)}{h:Heap}{m:Str→Option Value}{c led:List (Addr×Obj)}(r:Rep' Γ W ρ H fr h m c led): ∀q∈W.sc::led,q.1≠h.objs.size:=fun q hq=>Nat.ne_of_lt (Heap.lt_size (r.get hq))
theorem Rep'.same{Γ:Cx}{W:Wd}{ρ:Lc}{H:Hp}{fr:List (Addr×Obj)}{h h':Heap}{m:Str→Option Value}{c led:List (Addr×Obj)}(r:Rep' Γ W ρ H fr h m c led)(F':Fr Γ.h₀ Γ.L h' m)(N':News Γ.h₀ Γ.L h' led): Rep Γ W ρ H fr h':=
 ⟨m,c,led,F',N',r.R,r.sc,r.sc0,r.frIn,r.frOff,r.clIn,r.clOff,r.apart,r.frTup,r.clTup,r.own⟩
theorem Rep'.piIn{Γ:Cx}{W:Wd}{ρ:Lc}{H:Hp}{fr:List (Addr×Obj)}{h:Heap}{m:Str→Option Value}{c led:List (Addr×Obj)}(r:Rep' Γ W ρ H fr h m c led): ∀a∈W.pi,∃o,(a,o)∈W.sc::led:=by
 intro a ha
 obtain⟨i,hi,e⟩:=List.getElem_of_mem ha
 have hi':i<H.length:=r.R.len▸hi
 obtain⟨_,b,xs,k,h1,h2,_⟩:=r.R.lists i H[i] (List.getElem?_eq_getElem hi')
 have:b=a:=by rw[List.getElem?_eq_getElem hi,e]at h1;exact(Option.some.inj h1).symm
 exact⟨_,this▸h2⟩
theorem Rep'.inLed{Γ:Cx}{W:Wd}{ρ:Lc}{H:Hp}{fr:List (Addr×Obj)}{h:Heap}{m:Str→Option Value}{c led:List (Addr×Obj)}(r:Rep' Γ W ρ H fr h m c led){i:Nat}{a:Addr}{o:Obj}(hi:i≠0)(ea:W.pi[i]?=some a)(hm:(a,o)∈W.sc::led): (a,o)∈led:=by
 rcases Zz7.mp hm with e | hm
 ·have e1:a=W.sc.1:=congrArg (·.1) e
  have hl:i<W.pi.length:=(Zz6.mp ea).1
  have:i=0:=(List.getElem?_inj hl r.R.nd).mp (by rw[ea,r.sc0,e1])
  exact absurd this hi
 ·exact hm
theorem Rep'.notSc{Γ:Cx}{W:Wd}{ρ:Lc}{H:Hp}{fr:List (Addr×Obj)}{h:Heap}{m:Str→Option Value}{c led:List (Addr×Obj)}(r:Rep' Γ W ρ H fr h m c led): ∀q∈led,q.1≠W.sc.1:=fun q hq e=>by
 have:=(r.N q hq).2.2
 rw[e,r.sc]at this
 cases this
theorem Rep'.newTup{Γ:Cx}{W:Wd}{ρ:Lc}{H:Hp}{fr:List (Addr×Obj)}{h h':Heap}{m:Str→Option Value}{c led:List (Addr×Obj)}{vs:List V}{xs:List Value}{k:Nat}{n:Addr}(r:Rep' Γ W ρ H fr h m c led)(F':Fr Γ.h₀ Γ.L h' m)(N':News Γ.h₀ Γ.L h' ((n,ZeW xs k)::led))(hn:∀q∈W.sc::led,q.1≠n)(hv:VRs W vs xs)(hl:vs.length≤LEN):
  ∃W',W.Le W'∧Rep Γ W' ρ H fr h'∧VR W' (.tup vs) (.ref n):=by
 have le:W.Le ⟨W.pi,(n,ZeW xs k)::W.tups,W.sc⟩:=⟨List.prefix_refl _,fun q hq=>List.mem_cons_of_mem _ hq,rfl⟩
 refine⟨⟨W.pi,(n,ZeW xs k)::W.tups,W.sc⟩,le,⟨m,c,(n,ZeW xs k)::led,⟨F',N',?_,r.sc,r.sc0,fun q hq=>List.mem_cons_of_mem _ (r.frIn q hq),r.frOff,fun q hq=>List.mem_cons_of_mem _ (r.clIn q hq),r.clOff,r.apart,fun q hq t ht=>?_,fun q hq t ht=>?_,Γ.mono le r.own⟩⟩,.tup Zz5 hl (hv.mono le)⟩
 ·refine⟨r.R.len,r.R.nd,fun i us e=>?_,fun q hq=>?_,fun q hq=>?_⟩
  ·obtain⟨l,a,ys,j,h1,h2,h3⟩:=r.R.lists i us e
   exact⟨l,a,ys,j,h1,ZfM h2 fun x hx=>List.mem_cons_of_mem _ hx,h3.mono le⟩
  ·rcases Zz7.mp hq with e | hq
   ·exact e▸List.mem_cons_of_mem _ Zz5
   ·exact ZfM (r.R.tups q hq) fun x hx=>List.mem_cons_of_mem _ hx
  ·rcases Zz7.mp hq with e | hq
   ·exact⟨xs,k,by rw[e]⟩
   ·exact r.R.kind q hq
 ·rcases Zz7.mp ht with e | ht
  ·rw[e]
   exact hn q (Zz2 _ (r.frIn q hq))
  ·exact r.frTup q hq t ht
 ·rcases Zz7.mp ht with e | ht
  ·rw[e]
   exact hn q (Zz2 _ (r.clIn q hq))
  ·exact r.clTup q hq t ht
theorem Rep.tuple{Γ:Cx}{W:Wd}{ρ:Lc}{H:Hp}{fr:List (Addr×Obj)}{h:Heap}{vs:List V}{xs:List Value}{k:Nat}(r:Rep Γ W ρ H fr h)(hv:VRs W vs xs)(hl:vs.length≤LEN):
  ∃W',W.Le W'∧Rep Γ W' ρ H fr (h.push (ZeW xs k))∧VR W' (.tup vs) (.ref h.objs.size):=by
 obtain⟨m,c,led,r⟩:=r
 exact r.newTup (r.F.push _) (News.push r.F r.N _) r.off hv hl
theorem Rep'.newList{Γ:Cx}{W:Wd}{ρ:Lc}{H:Hp}{fr:List (Addr×Obj)}{h h':Heap}{m:Str→Option Value}{c led:List (Addr×Obj)}{vs:List V}{xs:List Value}{k:Nat}{n:Addr}(r:Rep' Γ W ρ H fr h m c led)(F':Fr Γ.h₀ Γ.L h' m)(N':News Γ.h₀ Γ.L h' ((n,Zb7 xs k)::led))(hn:∀q∈W.sc::led,q.1≠n)(hv:VRs W vs xs)(hl:vs.length≤LEN):
  ∃W',W.Le W'∧Rep Γ W' ρ (H++[vs]) fr h'∧VR W' (.ref H.length) (.ref n):=by
 have le:W.Le ⟨W.pi++[n],W.tups,W.sc⟩:=⟨List.prefix_append _ _,fun q hq=>hq,rfl⟩
 have h0:0<W.pi.length:=(Zz6.mp r.sc0).1
 have at_n:(W.pi++[n])[H.length]?=some n:=by rw[←r.R.len];simp
 refine⟨⟨W.pi++[n],W.tups,W.sc⟩,le,⟨m,c,(n,Zb7 xs k)::led,⟨F',N',?_,r.sc,(List.getElem?_append_left h0).trans r.sc0,fun q hq=>List.mem_cons_of_mem _ (r.frIn q hq),fun q hq=>?_,fun q hq=>List.mem_cons_of_mem _ (r.clIn q hq),fun q hq=>?_,r.apart,r.frTup,r.clTup,Γ.mono le r.own⟩⟩,.ref at_n⟩
 ·refine⟨by simp[r.R.len],?_,fun i us e=>?_,fun q hq=>ZfM (r.R.tups q hq) fun x hx=>List.mem_cons_of_mem _ hx,r.R.kind⟩
  ·show(W.pi++[n]).Nodup
   rw[List.nodup_append]
   refine⟨r.R.nd,by simp,fun a ha b hb=>?_⟩
   rw[List.mem_singleton.mp hb]
   obtain⟨o,ho⟩:=r.piIn a ha
   exact hn _ ho
  ·by_cases hi:i<H.length
   ·rw[List.getElem?_append_left hi]at e
    obtain⟨l,a,ys,j,h1,h2,h3⟩:=r.R.lists i us e
    exact⟨l,a,ys,j,le.at h1,ZfM h2 fun x hx=>List.mem_cons_of_mem _ hx,h3.mono le⟩
   ·have:i=H.length:=by
     have:=(Zz6.mp e).1
     simp at this
     omega
    subst this
    simp at e
    subst e
    exact⟨hl,n,xs,k,at_n,List.mem_cons_of_mem _ Zz5,hv.mono le⟩
 ·intro hm
  rcases Zz8.mp hm with hm | hm
  ·exact r.frOff q hq hm
  ·exact hn q (Zz2 _ (r.frIn q hq)) (Zz9.mp hm)
 ·intro hm
  rcases Zz8.mp hm with hm | hm
  ·exact r.clOff q hq hm
  ·exact hn q (Zz2 _ (r.clIn q hq)) (Zz9.mp hm)
theorem Rep.list{Γ:Cx}{W:Wd}{ρ:Lc}{H:Hp}{fr:List (Addr×Obj)}{h:Heap}{vs:List V}{xs:List Value}{k:Nat}(r:Rep Γ W ρ H fr h)(hv:VRs W vs xs)(hl:vs.length≤LEN):
  ∃W',W.Le W'∧Rep Γ W' ρ (H++[vs]) fr (h.push (Zb7 xs k))∧VR W' (.ref H.length) (.ref h.objs.size):=by
 obtain⟨m,c,led,r⟩:=r
 exact r.newList (r.F.push _) (News.push r.F r.N _) r.off hv hl
theorem Rep.at{Γ:Cx}{W:Wd}{ρ:Lc}{H:Hp}{fr:List (Addr×Obj)}{h:Heap}{i:Nat}{a:Addr}{vs:List V}(r:Rep Γ W ρ H fr h)(e:H[i]?=some vs)(ea:W.pi[i]?=some a): vs.length≤LEN∧∃xs k,h.get? a=some (Zb7 xs k)∧VRs W vs xs:=by
 obtain⟨m,c,led,r⟩:=r
 obtain⟨l,b,xs,k,h1,h2,h3⟩:=r.R.lists i vs e
 rw[ea]at h1
 cases h1
 exact⟨l,xs,k,r.get h2,h3⟩
theorem Rep.tupAt{Γ:Cx}{W:Wd}{ρ:Lc}{H:Hp}{fr:List (Addr×Obj)}{h:Heap}{q:Addr×Obj}(r:Rep Γ W ρ H fr h)(e:q∈W.tups): h.get? q.1=some q.2:=by
 obtain⟨m,c,led,r⟩:=r
 exact r.get (r.R.tups _ e)
theorem Rep'.changed{Γ:Cx}{W:Wd}{ρ:Lc}{H:Hp}{fr:List (Addr×Obj)}{h h':Heap}{m:Str→Option Value}{c led:List (Addr×Obj)}{i:Nat}{a:Addr}{vs us:List V}{ys:List Value}{k:Nat}(r:Rep' Γ W ρ H fr h m c led)(i0:i≠0)(e:H[i]?=some vs)(ea:W.pi[i]?=some a)(F':Fr Γ.h₀ Γ.L h' m)(N':News Γ.h₀ Γ.L h' ((a,Zb7 ys k)::led.filter (fun q=>decide (q.1≠a))))(hv:VRs W us ys)(hl:us.length≤LEN):
  Rep Γ W ρ (H.set i us) fr h':=by
 obtain⟨_,b,xs,j,h1,h2,h3⟩:=r.R.lists i vs e
 rw[ea]at h1
 cases h1
 have h2:=r.inLed i0 ea h2
 have hN:=r.N _ h2
 have hm:a∈W.pi:=List.mem_of_getElem? ea
 have hi:i<H.length:=(Zz6.mp e).1
 refine⟨m,c,(a,Zb7 ys k)::led.filter (fun q=>decide (q.1≠a)),⟨F',N',?_,r.sc,r.sc0,fun q hq=>?_,r.frOff,fun q hq=>?_,r.clOff,r.apart,r.frTup,r.clTup,r.own⟩⟩
 ·refine⟨by simp[r.R.len],r.R.nd,fun n ws en=>?_,fun q hq=>?_,r.R.kind⟩
  ·by_cases hn:n=i
   ·subst hn
    rw[List.getElem?_set_self hi]at en
    cases en
    exact⟨hl,a,ys,k,ea,List.mem_cons_of_mem _ Zz5,hv⟩
   ·rw[List.getElem?_set_ne (Ne.symm hn)]at en
    obtain⟨l,d,zs,j',g1,g2,g3⟩:=r.R.lists n ws en
    refine⟨l,d,zs,j',g1,Zer g2 fun g2=>List.mem_cons_of_mem _ (List.mem_filter.mpr ⟨g2,?_⟩),g3⟩
    have:d≠a:=fun e=>by
     subst e
     exact hn ((List.getElem?_inj (Zz6.mp g1).1 r.R.nd).mp (g1.trans ea.symm))
    simpa using this
  ·refine Zer (r.R.tups q hq) fun g2=>List.mem_cons_of_mem _ (List.mem_filter.mpr ⟨g2,?_⟩)
   have:q.1≠a:=fun e=>by
    obtain⟨zs,j',hk⟩:=r.R.kind q hq
    have g:=r.get (r.R.tups q hq)
    rw[e,hN.1,hk]at g
    have c:=congrArg Obj.cls (Option.some.inj g)
    exact absurd c (by simp)
   simpa using this
 ·refine Zz2 _ (List.mem_filter.mpr ⟨r.frIn q hq,?_⟩)
  have:q.1≠a:=fun e=>r.frOff q hq (e▸hm)
  simpa using this
 ·refine Zz2 _ (List.mem_filter.mpr ⟨r.clIn q hq,?_⟩)
  have:q.1≠a:=fun e=>r.clOff q hq (e▸hm)
  simpa using this
theorem Rep.change{Γ:Cx}{W:Wd}{ρ:Lc}{H:Hp}{fr:List (Addr×Obj)}{h h':Heap}{i:Nat}{a:Addr}{vs us:List V}{ys:List Value}{k:Nat}(r:Rep Γ W ρ H fr h)(i0:i≠0)(e:H[i]?=some vs)(ea:W.pi[i]?=some a)(sb:Heap.SameBut a h h')(ha:h'.get? a=some (Zb7 ys k))(hv:VRs W us ys)(hl:us.length≤LEN):
  Rep Γ W ρ (H.set i us) fr h':=by
 obtain⟨m,c,led,r⟩:=r
 obtain⟨_,b,xs,j,h1,h2,h3⟩:=r.R.lists i vs e
 rw[ea]at h1
 cases h1
 have h2:=r.inLed i0 ea h2
 have hN:=r.N _ h2
 have keep:∀q∈led,q.1≠a→h'.get? q.1=some q.2:=fun q hq hn=>sb.extBut _ _ hn (r.N q hq).1
 refine r.changed (k:=k) i0 e ea ⟨r.F.ns.sameBut sb (Ne.symm hN.2.1),fun b o eb=>sb.extBut b o (fun q=>?_) (r.F.keep b o eb),r.F.above⟩ (fun q hq=>?_) hv hl
 ·subst q
  rw[hN.2.2]at eb
  cases eb
 ·rcases Zz7.mp hq with e | hq
  ·subst e
   exact⟨ha,hN.2⟩
  ·obtain⟨h1,h2⟩:=List.mem_filter.mp hq
   exact⟨keep q h1 (by simpa using h2),(r.N q h1).2⟩
theorem Rep.swap{Γ:Cx}{W:Wd}{ρ:Lc}{H:Hp}{fs fs' fr:List (Addr×Obj)}{h h':Heap}(r:Rep Γ W ρ H (fs++fr) h)(ap:∀q∈fs,∀t∈fr,q.1≠t.1)(keep:∀b o,b∉fs.map (·.1)→h.get? b=some o→h'.get? b=some o)(new:∀q∈fs',h'.get? q.1=some q.2∧q.1∈fs.map (·.1)): Rep Γ W ρ H (fs'++fr) h':=by
 obtain⟨m,c,led,r⟩:=r
 have inF:∀q∈fs,q∈fs++fr:=fun q hq=>List.mem_append_left _ hq
 have nL:∀a∈fs.map (·.1),a≠Γ.L∧Γ.h₀.get? a=none:=fun a ha=>by
  obtain⟨q,hq,e⟩:=Zz11.mp ha
  exact e▸(r.N q (r.frIn q (inF q hq))).2
 have kp:∀q∈led,q.1∉fs.map (·.1)→h'.get? q.1=some q.2:=fun q hq hn=>keep _ _ hn (r.N q hq).1
 refine⟨m,c,fs'++led.filter (fun q=>decide (q.1∉fs.map (·.1))),⟨⟨?_,fun b o e=>?_,r.F.above⟩,fun q hq=>?_,⟨r.R.len,r.R.nd,fun i vs e=>?_,fun q hq=>?_,r.R.kind⟩,r.sc,r.sc0,fun q hq=>?_,fun q hq=>?_,fun q hq=>?_,r.clOff,fun q hq t ht=>?_,fun q hq t ht=>?_,r.clTup,r.own⟩⟩
 ·obtain⟨o,es,ep,h1,h2⟩:=r.F.ns
  exact⟨o,es,ep,keep _ _ (fun q=>(nL _ q).1 rfl) h1,h2⟩
 ·refine keep b o (fun q=>?_) (r.F.keep b o e)
  rw[(nL b q).2]at e
  cases e
 ·rcases Zz8.mp hq with hq | hq
  ·obtain⟨h1,h2⟩:=new q hq
   exact⟨h1,nL _ h2⟩
  ·obtain⟨h1,h2⟩:=List.mem_filter.mp hq
   exact⟨kp q h1 (by simpa using h2),(r.N q h1).2⟩
 ·obtain⟨l,a,xs,k,h1,h2,h3⟩:=r.R.lists i vs e
  refine⟨l,a,xs,k,h1,Zer h2 fun h2=>List.mem_append_right _ (List.mem_filter.mpr ⟨h2,?_⟩),h3⟩
  have:a∉fs.map (·.1):=fun q=>by
   obtain⟨t,ht,e⟩:=Zz11.mp q
   exact r.frOff t (inF t ht) (e▸List.mem_of_getElem? h1)
  simpa using this
 ·refine Zer (r.R.tups q hq) fun h2=>List.mem_append_right _ (List.mem_filter.mpr ⟨h2,?_⟩)
  have:q.1∉fs.map (·.1):=fun z=>by
   obtain⟨t,ht,e⟩:=Zz11.mp z
   exact r.frTup t (inF t ht) q hq e
  simpa using this
 ·rcases Zz8.mp hq with hq | hq
  ·exact Zz4 _ hq
  ·refine Zz3 _ (List.mem_filter.mpr ⟨r.frIn q (Zz3 _ hq),?_⟩)
   have:q.1∉fs.map (·.1):=fun z=>by
    obtain⟨t,ht,e⟩:=Zz11.mp z
    exact ap t ht q hq e
   simpa using this
 ·rcases Zz8.mp hq with hq | hq
  ·obtain⟨t,ht,e⟩:=Zz11.mp (new q hq).2
   exact e▸r.frOff t (inF t ht)
  ·exact r.frOff q (Zz3 _ hq)
 ·refine Zz3 _ (List.mem_filter.mpr ⟨r.clIn q hq,?_⟩)
  have:q.1∉fs.map (·.1):=fun z=>by
   obtain⟨t,ht,e⟩:=Zz11.mp z
   exact r.apart q hq t (inF t ht) e.symm
  simpa using this
 ·rcases Zz8.mp ht with ht | ht
  ·obtain⟨u,hu,e⟩:=Zz11.mp (new t ht).2
   exact e▸r.apart q hq u (inF u hu)
  ·exact r.apart q hq t (Zz3 _ ht)
 ·rcases Zz8.mp hq with hq | hq
  ·obtain⟨u,hu,e⟩:=Zz11.mp (new q hq).2
   exact e▸r.frTup u (inF u hu) t ht
  ·exact r.frTup q (Zz3 _ hq) t ht
theorem Rep.more{Γ:Cx}{W:Wd}{ρ:Lc}{H:Hp}{fs fr:List (Addr×Obj)}{h h':Heap}(r:Rep Γ W ρ H fr h)(up:∀b o,h.get? b=some o→h'.get? b=some o)(new:∀q∈fs,h'.get? q.1=some q.2∧h.objs.size≤q.1): Rep Γ W ρ H (fs++fr) h'∧∀q∈fs,∀t∈fr,q.1≠t.1:=by
 have r':=r.grown up
 obtain⟨m,c,led,r⟩:=r
 have lt:∀q∈W.sc::led,q.1<h.objs.size:=fun q hq=>Heap.lt_size (r.get hq)
 have ne:∀q∈fs,∀t∈W.sc::led,q.1≠t.1:=fun q hq t ht=>Nat.ne_of_gt (Nat.lt_of_lt_of_le (lt t ht) (new q hq).2)
 refine⟨⟨m,c,fs++led,⟨⟨?_,fun b o e=>up b o (r.F.keep b o e),r.F.above⟩,fun q hq=>?_,r.R.mono fun q hq=>ZfM hq fun x hx=>List.mem_append_right _ hx,r.sc,r.sc0,fun q hq=>?_,fun q hq=>?_,fun q hq=>List.mem_append_right _ (r.clIn q hq),r.clOff,fun q hq t ht=>?_,fun q hq t ht=>?_,r.clTup,r.own⟩⟩,fun q hq t ht=>ne q hq t (Zz2 _ (r.frIn t ht))⟩
 ·obtain⟨o,es,ep,h1,h2⟩:=r.F.ns
  exact⟨o,es,ep,up _ _ h1,h2⟩
 ·rcases Zz8.mp hq with hq | hq
  ·obtain⟨h1,h2⟩:=new q hq
   refine⟨h1,fun e=>?_,?_⟩
   ·exact absurd (e▸r.F.ns.lt) (Nat.not_lt.mpr h2)
   ·cases e:Γ.h₀.get? q.1 with
    | none=>rfl
    | some o=>exact absurd (Heap.lt_size (r.F.keep _ _ e)) (Nat.not_lt.mpr h2)
  ·exact⟨up _ _ (r.N q hq).1,(r.N q hq).2⟩
 ·rcases Zz8.mp hq with hq | hq
  ·exact Zz4 _ hq
  ·exact Zz3 _ (r.frIn q hq)
 ·rcases Zz8.mp hq with hq | hq
  ·intro hm
   obtain⟨o,ho⟩:=r.piIn _ hm
   exact ne q hq _ ho rfl
  ·exact r.frOff q hq
 ·rcases Zz8.mp ht with ht | ht
  ·exact(ne t ht q (Zz2 _ (r.clIn q hq))).symm
  ·exact r.apart q hq t ht
 ·rcases Zz8.mp hq with hq | hq
  ·exact ne q hq t (r.R.tups t ht)
  ·exact r.frTup q hq t ht
theorem Rep.less{Γ:Cx}{W:Wd}{ρ:Lc}{H:Hp}{fs fr:List (Addr×Obj)}{h:Heap}(r:Rep Γ W ρ H fs h)(sub:∀q∈fr,q∈fs): Rep Γ W ρ H fr h:=by
 obtain⟨m,c,led,r⟩:=r
 exact⟨m,c,led,⟨r.F,r.N,r.R,r.sc,r.sc0,fun q hq=>r.frIn q (sub q hq),fun q hq=>r.frOff q (sub q hq),r.clIn,r.clOff,fun q hq t ht=>r.apart q hq t (sub t ht),fun q hq=>r.frTup q (sub q hq),r.clTup,r.own⟩⟩
theorem Rep.frAt{Γ:Cx}{W:Wd}{ρ:Lc}{H:Hp}{fr:List (Addr×Obj)}{h:Heap}{q:Addr×Obj}(r:Rep Γ W ρ H fr h)(hq:q∈fr): h.get? q.1=some q.2:=by
 obtain⟨m,c,led,r⟩:=r
 exact(r.N q (r.frIn q hq)).1
end PM
end
section
set_option autoImplicit false
namespace PM
open PySem PyProof.Rows PyProof
noncomputable abbrev Ex:=Lc→Hp→Option (V×Hp)
noncomputable abbrev Exs:=Lc→Hp→Option (List V×Hp)
noncomputable abbrev Ts:=Lc→Hp→Option (Bool×Hp)
noncomputable abbrev Zha(Γ:Cx)(W:Wd)(ρ:Lc)(H:Hp)(fr:List (Addr×Obj))(s:Shared)(Q:Value→Shared→Prop)(v:V): Prop:=
 ∀(W':Wd) (h':Heap) (tk':Nat) (x:Value),W.Le W'→Rep Γ W' ρ H fr h'→VR W' v x→Q x { s with heap:=h',toks:=tk' }
noncomputable abbrev Zjh(Γ:Cx)(W:Wd)(ρ:Lc)(H:Hp)(fr:List (Addr×Obj))(s:Shared)(Q:Bool→Shared→Prop)(b:Bool): Prop:=
 ∀(W':Wd) (h':Heap) (tk':Nat),W.Le W'→Rep Γ W' ρ H fr h'→Q b { s with heap:=h',toks:=tk' }
section
variable (prog:Program) (w:World)
noncomputable def J(Γ:Cx)(e:Expr)(f:Ex): Prop:=∀(W:Wd) (ρ:Lc) (H:Hp) (fr:List (Addr×Obj)) (s:Shared) (Q E:Value→Shared→Prop) (v:V) (H':Hp),
 Rep Γ W ρ H fr s.heap→f ρ H=some (v,H')→Zha Γ W ρ H' fr s Q v→wpAny (model prog w) Γ.A (eval e Γ.env) Q E s
noncomputable def Js(Γ:Cx)(es:List Expr)(f:Exs): Prop:=∀(pos:Pos) (W:Wd) (ρ:Lc) (H:Hp) (fr:List (Addr×Obj)) (s:Shared) (Q:List Value→Shared→Prop) (E:Value→Shared→Prop) (vs:List V) (H':Hp),
 Rep Γ W ρ H fr s.heap→f ρ H=some (vs,H')→(∀(W':Wd) (h':Heap) (tk':Nat) (xs:List Value),W.Le W'→Rep Γ W' ρ H' fr h'→VRs W' vs xs→Q xs { s with heap:=h',toks:=tk' })→wpAny (model prog w) Γ.A (spliced (backTo pos (starEach es Γ.env))) Q E s
noncomputable def JT(Γ:Cx)(e:Expr)(f:Ts): Prop:=∀(W:Wd) (ρ:Lc) (H:Hp) (fr:List (Addr×Obj)) (s:Shared) (Q:Bool→Shared→Prop) (E:Value→Shared→Prop) (b:Bool) (H':Hp),
 Rep Γ W ρ H fr s.heap→f ρ H=some (b,H')→Zjh Γ W ρ H' fr s Q b→wpAny (model prog w) Γ.A (isTrue e Γ.env (eval e Γ.env)) Q E s
noncomputable def Op2(m:Value→Value→Sem Value)(o:V→V→Hp→Option (V×Hp)): Prop:=∀(Γ:Cx) (W:Wd) (ρ:Lc) (H:Hp) (fr:List (Addr×Obj)) (s:Shared) (Q E:Value→Shared→Prop) (a b:V) (x y:Value) (v:V) (H':Hp),
 Rep Γ W ρ H fr s.heap→VR W a x→VR W b y→o a b H=some (v,H')→Zha Γ W ρ H' fr s Q v→wpAny (model prog w) Γ.A (m x y) Q E s
noncomputable def Op1(m:Value→Sem Value)(o:V→Hp→Option (V×Hp)): Prop:=∀(Γ:Cx) (W:Wd) (ρ:Lc) (H:Hp) (fr:List (Addr×Obj)) (s:Shared) (Q E:Value→Shared→Prop) (a:V) (x:Value) (v:V) (H':Hp),
 Rep Γ W ρ H fr s.heap→VR W a x→o a H=some (v,H')→Zha Γ W ρ H' fr s Q v→wpAny (model prog w) Γ.A (m x) Q E s
noncomputable def OpT(m:Value→Sem Bool)(o:V→Hp→Option Bool): Prop:=∀(Γ:Cx) (W:Wd) (ρ:Lc) (H:Hp) (fr:List (Addr×Obj)) (s:Shared) (Q:Bool→Shared→Prop) (E:Value→Shared→Prop) (a:V) (x:Value) (b:Bool),
 Rep Γ W ρ H fr s.heap→VR W a x→o a H=some b→Zjh Γ W ρ H fr s Q b→wpAny (model prog w) Γ.A (m x) Q E s
end
noncomputable def Zk(k:Int): Ex:=fun _ H=>some (.int k,H)
noncomputable def Z0: Ex:=fun _ H=>some (.none,H)
noncomputable def Zb5(b:Bool): Ex:=fun _ H=>some (.bool b,H)
noncomputable def ZeX(x:Str): Ex:=fun _ H=>some (.str x,H)
noncomputable def Zb(i:Nat): Ex:=fun ρ H=>(ρ i).map fun v=>(v,H)
noncomputable def Zh(o:V→V→Hp→Option (V×Hp))(f g:Ex): Ex:=fun ρ H=>(f ρ H).bind fun p=>(g ρ p.2).bind fun q=>o p.1 q.1 q.2
noncomputable def eUn(o:V→Hp→Option (V×Hp))(f:Ex): Ex:=fun ρ H=>(f ρ H).bind fun p=>o p.1 p.2
noncomputable def eIf(t:Ts)(f g:Ex): Ex:=fun ρ H=>(t ρ H).bind fun p=>if p.1 then f ρ p.2 else g ρ p.2
noncomputable def Zn: Exs:=fun _ H=>some ([],H)
noncomputable def Zf(f:Ex)(g:Exs): Exs:=fun ρ H=>(f ρ H).bind fun p=>(g ρ p.2).bind fun q=>some (p.1::q.1,q.2)
noncomputable def ZaR(g:Exs): Ex:=fun ρ H=>(g ρ H).bind fun p=>if p.1.length≤LEN then some (.tup p.1,p.2)else none
noncomputable def Zcb(g:Exs): Ex:=fun ρ H=>(g ρ H).bind fun p=>if p.1.length≤LEN then some (.ref p.2.length,p.2++[p.1])else none
noncomputable def ZcV: V→Hp→Option Bool
 | .bool b,_=>some b
 | .int i,_=>some (i != 0)
 | .none,_=>some false
 | _,_=>none
noncomputable def ZF(f:Ex): Ts:=fun ρ H=>(f ρ H).bind fun p=>(ZcV p.1 p.2).map fun b=>(b,p.2)
noncomputable def Zcp(t:Ts): Ts:=fun ρ H=>(t ρ H).map fun p=>(!p.1,p.2)
noncomputable def Zam: Ts:=fun _ H=>some (true,H)
noncomputable def Zcm: Ts:=fun _ H=>some (false,H)
noncomputable def Zat(t u:Ts): Ts:=fun ρ H=>(t ρ H).bind fun p=>if p.1 then u ρ p.2 else some (false,p.2)
noncomputable def tOr(t u:Ts): Ts:=fun ρ H=>(t ρ H).bind fun p=>if p.1 then some (true,p.2)else u ρ p.2
noncomputable def Zjs(f:Ex): Ex:=fun ρ H=>(f ρ H).bind fun p=>(ZcV p.1 p.2).map fun b=>(.bool (!b),p.2)
noncomputable def Zdw(f g:Ex): Ex:=fun ρ H=>(f ρ H).bind fun p=>(ZcV p.1 p.2).bind fun b=>if b then g ρ p.2 else some p
noncomputable def eOr(f g:Ex): Ex:=fun ρ H=>(f ρ H).bind fun p=>(ZcV p.1 p.2).bind fun b=>if b then some p else g ρ p.2
section
variable {prog:Program} {w:World} {Γ:Cx}
theorem J.int(k:Int)(n:Nat)(pos:Pos): J prog w Γ (.Constant (.int k) n pos) (Zk k):=fun W ρ H fr s Q E v H' r e post=>by
 cases e
 exact wpAny_Constant_int (post W s.heap _ _ (.refl W) r (.int k _))
theorem J.none(n:Nat)(pos:Pos): J prog w Γ (.Constant .none n pos) Z0:=fun W ρ H fr s Q E v H' r e post=>by
 cases e
 exact wpAny_Constant_none (post W s.heap s.toks _ (.refl W) r .none)
theorem J.bool(b:Bool)(n:Nat)(pos:Pos): J prog w Γ (.Constant (.bool b) n pos) (Zb5 b):=fun W ρ H fr s Q E v H' r e post=>by
 cases e
 exact wpAny_Constant_bool (post W s.heap s.toks _ (.refl W) r (.bool b))
theorem J.str(x:Str)(n:Nat)(pos:Pos): J prog w Γ (.Constant (.str x) n pos) (ZeX x):=fun W ρ H fr s Q E v H' r e post=>by
 cases e
 exact wpAny_Constant_str (post W s.heap _ _ (.refl W) r (.str x _))
theorem ZM{e1 e2:Expr}{op:Operator}{pos:Pos}{f g:Ex}{o:V→V→Hp→Option (V×Hp)}(h1:J prog w Γ e1 f)(h2:J prog w Γ e2 g)(ho:Op2 prog w (binaryOp op) o): J prog w Γ (.BinOp e1 op e2 pos) (Zh o f g):=by
 intro W ρ H fr s Q E v H' r hf post
 obtain⟨p,e1,hf⟩:=Zz0.mp hf
 obtain⟨q,e2,e3⟩:=Zz0.mp hf
 refine wpAny_BinOp (h1 W ρ H fr s _ E _ _ r e1 fun W1 k1 t1 x l1 r1 x1=>?_)
 refine h2 W1 ρ _ fr _ _ E _ _ r1 e2 fun W2 k2 t2 y l2 r2 y2=>?_
 exact ho Γ W2 ρ _ fr _ Q E _ _ x y v H' r2 (x1.mono l2) y2 e3 fun W3 k3 t3 z l3 r3 z3=>post W3 k3 t3 z ((l1.trans l2).trans l3) r3 z3
theorem ZcS{e1 e2:Expr}{op:CmpOp}{pos:Pos}{f g:Ex}{o:V→V→Hp→Option (V×Hp)}(h1:J prog w Γ e1 f)(h2:J prog w Γ e2 g)(ho:Op2 prog w (compareOp op) o)(hm:behindInMarks op e2=false:=by with_unfolding_all rfl): J prog w Γ (.Compare e1 [op] [e2] pos) (Zh o f g):=by
 intro W ρ H fr s Q E v H' r hf post
 obtain⟨p,e1,hf⟩:=Zz0.mp hf
 obtain⟨q,e2,e3⟩:=Zz0.mp hf
 refine wpAny_Compare1 (h1 W ρ H fr s _ E _ _ r e1 fun W1 k1 t1 x l1 r1 x1=>?_) hm
 refine h2 W1 ρ _ fr _ _ E _ _ r1 e2 fun W2 k2 t2 y l2 r2 y2=>?_
 exact ho Γ W2 ρ _ fr _ Q E _ _ x y v H' r2 (x1.mono l2) y2 e3 fun W3 k3 t3 z l3 r3 z3=>post W3 k3 t3 z ((l1.trans l2).trans l3) r3 z3
theorem ZbH{e1:Expr}{op:UnaryOp}{pos:Pos}{f:Ex}{o:V→Hp→Option (V×Hp)}(h1:J prog w Γ e1 f)(ho:Op1 prog w (unaryOp op) o): J prog w Γ (.UnaryOp op e1 pos) (eUn o f):=by
 intro W ρ H fr s Q E v H' r hf post
 obtain⟨p,e1,hf⟩:=Zz0.mp hf
 refine wpAny_UnaryOp (h1 W ρ H fr s _ E _ _ r e1 fun W1 k1 t1 x l1 r1 x1=>?_)
 exact ho Γ W1 ρ _ fr _ Q E _ x v H' r1 x1 hf fun W3 k3 t3 z l3 r3 z3=>post W3 k3 t3 z (l1.trans l3) r3 z3
theorem truth: OpT prog w truthy ZcV:=by
 intro Γ W ρ H fr s Q E a x b r hx ho post
 cases hx with
 | none=>cases ho;exact truthy_none (post W s.heap s.toks (.refl W) r)
 | bool c=>cases ho;exact fun _ _ _=>post W s.heap s.toks (.refl W) r
 | int i t=>cases ho;exact P.truthy_int (post W s.heap s.toks (.refl W) r)
 | str _ _=>cases ho
 | tup _ _ _=>cases ho
 | ref _=>cases ho
theorem ZxL{e1:Expr}{pos:Pos}{f:Ex}(h1:J prog w Γ e1 f): J prog w Γ (.UnaryOp .Not e1 pos) (Zjs f):=by
 intro W ρ H fr s Q E v H' r hf post
 obtain⟨p,e1,hf⟩:=Zz0.mp hf
 obtain⟨b,e2,e3⟩:=Zz1.mp hf
 cases e3
 refine wpAny_UnaryOp (h1 W ρ H fr s _ E _ _ r e1 fun W1 k1 t1 x l1 r1 x1=>?_)
 exact not_of (truth Γ W1 ρ _ fr _ _ E _ x b r1 x1 e2 fun W2 k2 t2 l2 r2=>post W2 k2 t2 _ (l1.trans l2) r2 (.bool _))
theorem Zg3{e1 e2:Expr}{pos:Pos}{f g:Ex}(h1:J prog w Γ e1 f)(h2:J prog w Γ e2 g): J prog w Γ (.BoolOp .And [e1,e2] pos) (Zdw f g):=by
 intro W ρ H fr s Q E v H' r hf post
 obtain⟨p,e1,hf⟩:=Zz0.mp hf
 obtain⟨b,e2,e3⟩:=Zz0.mp hf
 refine wpAny_And2 (h1 W ρ H fr s _ E _ _ r e1 fun W1 k1 t1 x l1 r1 x1=>?_)
 refine truth Γ W1 ρ _ fr _ _ E _ x b r1 x1 e2 fun W2 k2 t2 l2 r2=>?_
 cases b with
 | true=>exact h2 W2 ρ _ fr _ Q E v H' r2 e3 fun W3 k3 t3 z l3 r3 z3=>post W3 k3 t3 z ((l1.trans l2).trans l3) r3 z3
 | false=>
  cases e3
  exact post W2 k2 t2 x (l1.trans l2) r2 (x1.mono l2)
theorem Zx8{e1 e2:Expr}{pos:Pos}{f g:Ex}(h1:J prog w Γ e1 f)(h2:J prog w Γ e2 g): J prog w Γ (.BoolOp .Or [e1,e2] pos) (eOr f g):=by
 intro W ρ H fr s Q E v H' r hf post
 obtain⟨p,e1,hf⟩:=Zz0.mp hf
 obtain⟨b,e2,e3⟩:=Zz0.mp hf
 refine wpAny_Or2 (h1 W ρ H fr s _ E _ _ r e1 fun W1 k1 t1 x l1 r1 x1=>?_)
 refine truth Γ W1 ρ _ fr _ _ E _ x b r1 x1 e2 fun W2 k2 t2 l2 r2=>?_
 cases b with
 | false=>exact h2 W2 ρ _ fr _ Q E v H' r2 e3 fun W3 k3 t3 z l3 r3 z3=>post W3 k3 t3 z ((l1.trans l2).trans l3) r3 z3
 | true=>
  cases e3
  exact post W2 k2 t2 x (l1.trans l2) r2 (x1.mono l2)
theorem ZeR{t e1 e2:Expr}{pos:Pos}{u:Ts}{f g:Ex}(ht:JT prog w Γ t u)(h1:J prog w Γ e1 f)(h2:J prog w Γ e2 g): J prog w Γ (.IfExp t e1 e2 pos) (eIf u f g):=by
 intro W ρ H fr s Q E v H' r hf post
 obtain⟨p,e1,hf⟩:=Zz0.mp hf
 refine wpAny_IfExp (ht W ρ H fr s _ E _ _ r e1 fun W1 k1 t1 l1 r1=>?_)
 obtain⟨b,H1⟩:=p
 cases b with
 | true=>exact h1 W1 ρ _ fr _ Q E v H' r1 hf fun W3 k3 t3 z l3 r3 z3=>post W3 k3 t3 z (l1.trans l3) r3 z3
 | false=>exact h2 W1 ρ _ fr _ Q E v H' r1 hf fun W3 k3 t3 z l3 r3 z3=>post W3 k3 t3 z (l1.trans l3) r3 z3
theorem Zp: Js prog w Γ [] Zn:=fun pos W ρ H fr s Q E vs H' r hf post=>by
 cases hf
 exact wpAny_items_nil (post W s.heap s.toks [] (.refl W) r .nil)
theorem Zvy{e:Expr}{es:List Expr}{f:Ex}{g:Exs}(h1:J prog w Γ e f)(h2:Js prog w Γ es g)(he:starEach (e::es) Γ.env=(false,eval e Γ.env)::starEach es Γ.env:=by rfl): Js prog w Γ (e::es) (Zf f g):=by
 intro pos W ρ H fr s Q E vs H' r hf post
 obtain⟨p,e1,hf⟩:=Zz0.mp hf
 obtain⟨q,e2,e3⟩:=Zz0.mp hf
 cases e3
 refine wpAny_items_cons (h1 W ρ H fr s _ E _ _ r e1 fun W1 k1 t1 x l1 r1 x1=>?_) he
 exact h2 pos W1 ρ _ fr _ _ E _ _ r1 e2 fun W2 k2 t2 ys l2 r2 y2=>post W2 k2 t2 _ (l1.trans l2) r2 (.cons (x1.mono l2) y2)
theorem J.tup{es:List Expr}{k:Nat}{pos:Pos}{g:Exs}(h:Js prog w Γ es g): J prog w Γ (.Tuple es k pos) (ZaR g):=by
 intro W ρ H fr s Q E v H' r hf post
 obtain⟨p,e1,hf⟩:=Zz0.mp hf
 by_cases hl:p.1.length≤LEN
 ·rw[if_pos hl]at hf
  cases hf
  refine wpAny_Tuple (h pos W ρ H fr s _ E _ _ r e1 fun W1 k1 t1 xs l1 r1 x1=>⟨Zdi (by rw[x1.length];exact hl),?_⟩)
  obtain⟨W2,l2,r2,v2⟩:=r1.tuple (k:=0) x1 hl
  exact post W2 _ _ _ (l1.trans l2) r2 v2
 ·rw[if_neg hl]at hf
  cases hf
theorem J.list{es:List Expr}{pos:Pos}{g:Exs}(h:Js prog w Γ es g): J prog w Γ (.List es pos) (Zcb g):=by
 intro W ρ H fr s Q E v H' r hf post
 obtain⟨p,e1,hf⟩:=Zz0.mp hf
 by_cases hl:p.1.length≤LEN
 ·rw[if_pos hl]at hf
  cases hf
  refine wpAny_List (h pos W ρ H fr s _ E _ _ r e1 fun W1 k1 t1 xs l1 r1 x1=>⟨Zdi (by rw[x1.length];exact hl),?_⟩)
  obtain⟨W2,l2,r2,v2⟩:=r1.list (k:=0) x1 hl
  exact post W2 _ _ _ (l1.trans l2) r2 v2
 ·rw[if_neg hl]at hf
  cases hf
theorem ZcP{e:Expr}{pos:Pos}{t:Ts}(h:JT prog w Γ e t): JT prog w Γ (.UnaryOp .Not e pos) (Zcp t):=by
 intro W ρ H fr s Q E b H' r hf post
 obtain⟨p,e1,e2⟩:=Zz1.mp hf
 cases e2
 exact isTrue_not (h W ρ H fr s _ E _ _ r e1 post)
noncomputable def JA(prog:Program)(w:World)(Γ:Cx)(op:BoolOp)(es:List Expr)(f:Ts): Prop:=∀(W:Wd) (ρ:Lc) (H:Hp) (fr:List (Addr×Obj)) (s:Shared) (Q:Bool→Shared→Prop) (E:Value→Shared→Prop) (b:Bool) (H':Hp),
 Rep Γ W ρ H fr s.heap→f ρ H=some (b,H')→Zjh Γ W ρ H' fr s Q b→wpAny (model prog w) Γ.A (allTrue op es Γ.env) Q E s
theorem ZbW: JA prog w Γ .And [] Zam:=fun W ρ H fr s Q E b H' r hf post=>by
 cases hf
 exact wpAny_allTrue_And_nil (post W s.heap s.toks (.refl W) r)
theorem ZcM: JA prog w Γ .Or [] Zcm:=fun W ρ H fr s Q E b H' r hf post=>by
 cases hf
 exact wpAny_allTrue_Or_nil (post W s.heap s.toks (.refl W) r)
theorem Zaz{e:Expr}{es:List Expr}{t u:Ts}(h1:JT prog w Γ e t)(h2:JA prog w Γ .And es u): JA prog w Γ .And (e::es) (Zat t u):=by
 intro W ρ H fr s Q E b H' r hf post
 obtain⟨p,e1,hf⟩:=Zz0.mp hf
 refine wpAny_allTrue_And_cons (h1 W ρ H fr s _ E _ _ r e1 fun W1 k1 t1 l1 r1=>?_)
 obtain⟨c,H1⟩:=p
 cases c with
 | true=>exact h2 W1 ρ _ fr _ Q E b H' r1 hf fun W3 k3 t3 l3 r3=>post W3 k3 t3 (l1.trans l3) r3
 | false=>
  cases hf
  exact post W1 k1 t1 l1 r1
theorem Zbe{e:Expr}{es:List Expr}{t u:Ts}(h1:JT prog w Γ e t)(h2:JA prog w Γ .Or es u): JA prog w Γ .Or (e::es) (tOr t u):=by
 intro W ρ H fr s Q E b H' r hf post
 obtain⟨p,e1,hf⟩:=Zz0.mp hf
 refine wpAny_allTrue_Or_cons (h1 W ρ H fr s _ E _ _ r e1 fun W1 k1 t1 l1 r1=>?_)
 obtain⟨c,H1⟩:=p
 cases c with
 | false=>exact h2 W1 ρ _ fr _ Q E b H' r1 hf fun W3 k3 t3 l3 r3=>post W3 k3 t3 (l1.trans l3) r3
 | true=>
  cases hf
  exact post W1 k1 t1 l1 r1
theorem ZaZ{op:BoolOp}{es:List Expr}{pos:Pos}{t:Ts}(h:JA prog w Γ op es t): JT prog w Γ (.BoolOp op es pos) t:=fun W ρ H fr s Q E b H' r hf post=>wpAny_isTrue_BoolOp (h W ρ H fr s Q E b H' r hf post)
theorem Zbn{e:Expr}{f:Ex}(h:J prog w Γ e f)(he:isTrue e Γ.env (eval e Γ.env)=(do let v ←eval e Γ.env;standAt e.pos;holding [v] (truthy v)):=by rfl): JT prog w Γ e (ZF f):=by
 intro W ρ H fr s Q E b H' r hf post
 obtain⟨p,e1,hf⟩:=Zz0.mp hf
 obtain⟨c,e2,e3⟩:=Zz1.mp hf
 cases e3
 refine isTrue_plain (h W ρ H fr s _ E _ _ r e1 fun W1 k1 t1 x l1 r1 x1=>?_) he
 exact truth Γ W1 ρ _ fr _ _ E _ x b r1 x1 e2 fun W2 k2 t2 l2 r2=>post W2 k2 t2 (l1.trans l2) r2
theorem ZO{e1 e2:Expr}{op:CmpOp}{pos:Pos}{f g:Ex}{o:V→V→Hp→Option (V×Hp)}(h1:J prog w Γ e1 f)(h2:J prog w Γ e2 g)(ho:Op2 prog w (compareOp op) o)(hm:behindInMarks op e2=false:=by with_unfolding_all rfl): JT prog w Γ (.Compare e1 [op] [e2] pos) (ZF (Zh o f g)):=by
 intro W ρ H fr s Q E b H' r hf post
 obtain⟨pp,e0,hf0⟩:=Zz0.mp hf
 obtain⟨c,e4,e5⟩:=Zz1.mp hf0
 cases e5
 obtain⟨p,e1,hf⟩:=Zz0.mp e0
 obtain⟨q,e2,e3⟩:=Zz0.mp hf
 refine wpAny_isTrue_Compare1 (h1 W ρ H fr s _ E _ _ r e1 fun W1 k1 t1 x l1 r1 x1=>?_) hm
 refine h2 W1 ρ _ fr _ _ E _ _ r1 e2 fun W2 k2 t2 y l2 r2 y2=>?_
 refine ho Γ W2 ρ _ fr _ _ E _ _ x y _ _ r2 (x1.mono l2) y2 e3 fun W3 k3 t3 z l3 r3 z3=>?_
 exact truth Γ W3 ρ _ fr _ _ E _ z b r3 z3 e4 fun W4 k4 t4 l4 r4=>post W4 k4 t4 (((l1.trans l2).trans l3).trans l4) r4
end
end PM
end
section
set_option autoImplicit false
namespace PM
open PySem PyProof.Rows PyProof
noncomputable def mulOk(a b:Int): Bool:=!(decide (Builtin.Int.intBits a>shortFactorBits) && decide (Builtin.Int.intBits b>shortFactorBits) && Builtin.Int.intTooBig (Builtin.Int.intBits a+Builtin.Int.intBits b))
theorem ZuJ{a b:Int}(h:mulOk a b=true): IntMulOk a b:=by
 unfold mulOk at h
 unfold IntMulOk
 intro c
 rw[c]at h
 cases h
noncomputable def Zbl: V→V→Hp→Option (V×Hp)
 | .int a,.int b,H=>some (.int (a-b),H)
 | _,_,_=>none
noncomputable def oDiv: V→V→Hp→Option (V×Hp)
 | .int a,.int b,H=>if b≠0∧Builtin.divisionGoesByPylong a b=false then some (.int (a.fdiv b),H)else none
 | _,_,_=>none
noncomputable def oMod: V→V→Hp→Option (V×Hp)
 | .int a,.int b,H=>if b≠0 then some (.int (a.fmod b),H)else none
 | _,_,_=>none
noncomputable def oPow: V→V→Hp→Option (V×Hp)
 | .int a,.int b,H=>if 0≤b∧(Builtin.Int.intBits a:Int)*b≤2 ^ 27 then some (.int (a ^ b.toNat),H)else none
 | _,_,_=>none
noncomputable def Zbq: V→Hp→Option (V×Hp)
 | .int a,H=>some (.int (-a),H)
 | _,_=>none
noncomputable def Zjt(p:Int→Int→Bool): V→V→Hp→Option (V×Hp)
 | .int a,.int b,H=>some (.bool (p a b),H)
 | _,_,_=>none
noncomputable def oLt:=Zjt fun a b=>decide (a<b)
noncomputable def oLe:=Zjt fun a b=>decide (a≤b)
noncomputable def oGt:=Zjt fun a b=>decide (b<a)
section
variable {prog:Program} {w:World}
theorem Zbs: Op2 prog w (binaryOp .Sub) Zbl:=by
 intro Γ W ρ H fr s Q E a b x y v H' r hx hy ho post
 cases hx <;> first | (cases ho;done) | skip
 cases hy <;> first | (cases ho;done) | skip
 cases ho
 exact PySem.P.sub_int (post W s.heap _ _ (.refl W) r (.int _ _))
theorem Zbo: Op2 prog w (binaryOp .Mod) oMod:=by
 intro Γ W ρ H fr s Q E a b x y v H' r hx hy ho post
 cases hx <;> first | (cases ho;done) | skip
 cases hy <;> first | (cases ho;done) | skip
 rename_i i t j u
 simp only[oMod]at ho
 by_cases hb:j≠0
 ·rw[if_pos hb]at ho
  cases ho
  exact mod_int' hb (post W s.heap _ _ (.refl W) r (.int _ _))
 ·rw[if_neg hb]at ho
  cases ho
theorem Zc3: Op2 prog w (binaryOp .FloorDiv) oDiv:=by
 intro Γ W ρ H fr s Q E a b x y v H' r hx hy ho post
 cases hx <;> first | (cases ho;done) | skip
 cases hy <;> first | (cases ho;done) | skip
 rename_i i t j u
 simp only[oDiv]at ho
 by_cases hb:j≠0∧Builtin.divisionGoesByPylong i j=false
 ·rw[if_pos hb]at ho
  cases ho
  exact floordiv_int hb.1 (post W s.heap _ _ (.refl W) r (.int _ _)) (.inl hb.2)
 ·rw[if_neg hb]at ho
  cases ho
theorem Zn7: Op2 prog w (binaryOp .Pow) oPow:=by
 intro Γ W ρ H fr s Q E a b x y v H' r hx hy ho post
 cases hx <;> first | (cases ho;done) | skip
 cases hy <;> first | (cases ho;done) | skip
 rename_i i t j u
 simp only[oPow]at ho
 by_cases hb:0≤j∧(Builtin.Int.intBits i:Int)*j≤2 ^ 27
 ·rw[if_pos hb]at ho
  cases ho
  exact pow_int hb.1 hb.2 (post W s.heap _ _ (.refl W) r (.int _ _))
 ·rw[if_neg hb]at ho
  cases ho
theorem ZbB: Op1 prog w (unaryOp .USub) Zbq:=by
 intro Γ W ρ H fr s Q E a x v H' r hx ho post
 cases hx <;> first | (cases ho;done) | skip
 cases ho
 exact PySem.P.neg_int (post W s.heap _ _ (.refl W) r (.int _ _))
theorem Zco: Op2 prog w (compareOp .Lt) oLt:=by
 intro Γ W ρ H fr s Q E a b x y v H' r hx hy ho post
 cases hx <;> first | (cases ho;done) | skip
 cases hy <;> first | (cases ho;done) | skip
 cases ho
 exact PySem.P.lt_int (post W s.heap s.toks _ (.refl W) r (.bool _))
theorem Zji: Op2 prog w (compareOp .LtE) oLe:=by
 intro Γ W ρ H fr s Q E a b x y v H' r hx hy ho post
 cases hx <;> first | (cases ho;done) | skip
 cases hy <;> first | (cases ho;done) | skip
 cases ho
 exact PySem.P.le_int (post W s.heap s.toks _ (.refl W) r (.bool _))
theorem Zdr: Op2 prog w (compareOp .Gt) oGt:=by
 intro Γ W ρ H fr s Q E a b x y v H' r hx hy ho post
 cases hx <;> first | (cases ho;done) | skip
 cases hy <;> first | (cases ho;done) | skip
 cases ho
 exact PySem.P.gt_int (post W s.heap s.toks _ (.refl W) r (.bool _))
end
end PM
end
section
set_option autoImplicit false
namespace PM
open PySem PyProof.Rows PyProof
noncomputable def ZfS(f:V→Option PyData): List V→Option (List PyData)
 | []=>some []
 | v::vs=>(f v).bind fun d=>(ZfS f vs).bind fun ds=>some (d::ds)
noncomputable def toD(H:Hp): Nat→V→Option PyData
 | _,.none=>some .none
 | _,.bool b=>some (.bool b)
 | _,.int i=>some (.int i)
 | _,.str x=>some (.str x)
 | n+1,.tup vs=>(ZfS (toD H n) vs).map .tuple
 | n+1,.ref a=>H[a]?.bind fun vs=>(ZfS (toD H n) vs).map .list
 | 0,.tup _=>none
 | 0,.ref _=>none
theorem ZlP{W:Wd}{h:Heap}{f:V→Option PyData}(ih:∀v x d,VR W v x→f v=some d→∃as,Reads h x d as): ∀{vs:List V} {xs:List Value} {ds:List PyData},VRs W vs xs→ZfS f vs=some ds→∃as,ReadsAll h xs ds as
 | _,_,_,.nil,e=>by
  cases e
  exact⟨_,.nil⟩
 | _,_,_,.cons a r,e=>by
  obtain⟨d,e1,e⟩:=Zz0.mp e
  obtain⟨ds,e2,e3⟩:=Zz0.mp e
  cases e3
  obtain⟨as,h1⟩:=ih _ _ _ a e1
  obtain⟨bs,h2⟩:=ZlP ih r e2
  exact⟨_,.cons h1 h2⟩
theorem Zfn{Γ:Cx}{W:Wd}{ρ:Lc}{H:Hp}{fr:List (Addr×Obj)}{h:Heap}(r:Rep Γ W ρ H fr h): ∀(n:Nat) (v:V) (x:Value) (d:PyData),VR W v x→toD H n v=some d→∃as,Reads h x d as:=by
 intro n
 induction n with
 | zero=>
  intro v x d hv e
  cases hv with
  | none=>cases e;exact⟨_,.none⟩
  | bool b=>cases e;exact⟨_,.bool b⟩
  | int i t=>cases e;exact⟨_,.int i t⟩
  | str y t=>cases e;exact⟨_,.str y t⟩
  | tup _ _ _=>cases e
  | ref _=>cases e
 | succ n ih=>
  intro v x d hv e
  cases hv with
  | none=>cases e;exact⟨_,.none⟩
  | bool b=>cases e;exact⟨_,.bool b⟩
  | int i t=>cases e;exact⟨_,.int i t⟩
  | str y t=>cases e;exact⟨_,.str y t⟩
  | @tup vs a xs k hm hl hs=>
   obtain⟨ds,e1,e2⟩:=Zz1.mp e
   subst e2
   obtain⟨as,h1⟩:=ZlP ih hs e1
   exact⟨_,.tuple (r.tupAt hm) rfl rfl (by simpa using h1)⟩
  | @ref i a ea=>
   obtain⟨vs,e0,e⟩:=Zz0.mp e
   obtain⟨ds,e1,e2⟩:=Zz1.mp e
   subst e2
   obtain⟨hl,xs,k,hg,hs⟩:=r.at e0 ea
   obtain⟨as,h1⟩:=ZlP ih hs e1
   exact⟨_,.list hg rfl rfl (by simpa using h1)⟩
noncomputable def Zb8: Nat:=8
noncomputable def Zju(a b:V)(H:Hp): Option Bool:=(toD H Zb8 a).bind fun d=>(toD H Zb8 b).bind fun e=>if SeqAt.shaped d=true∧SeqAt.shaped e=true then some (PyData.eqv d e)else none
noncomputable def oEq(a b:V)(H:Hp): Option (V×Hp):=(Zju a b H).map fun c=>(.bool c,H)
noncomputable def oNe(a b:V)(H:Hp): Option (V×Hp):=(Zju a b H).map fun c=>(.bool (!c),H)
noncomputable def oIs: V→V→Hp→Option (V×Hp)
 | .none,.none,H=>some (.bool true,H)
 | .bool _,.none,H=>some (.bool false,H)
 | .int _,.none,H=>some (.bool false,H)
 | .str _,.none,H=>some (.bool false,H)
 | .tup _,.none,H=>some (.bool false,H)
 | .ref _,.none,H=>some (.bool false,H)
 | _,_,_=>none
noncomputable def Zbt(a b:V)(H:Hp): Option (V×Hp):=(oIs a b H).bind fun p=>match p.1 with | .bool c=>some (.bool (!c),p.2) | _=>none
section
variable {prog:Program} {w:World}
theorem ZaL: Op2 prog w (compareOp .Eq) oEq:=by
 intro Γ W ρ H fr s Q E a b x y v H' r hx hy ho post
 obtain⟨c,e1,e2⟩:=Zz1.mp ho
 cases e2
 obtain⟨d,h1,e1⟩:=Zz0.mp e1
 obtain⟨e,h2,e1⟩:=Zz0.mp e1
 by_cases hs:SeqAt.shaped d=true∧SeqAt.shaped e=true
 ·rw[if_pos hs]at e1
  cases e1
  obtain⟨as,R1⟩:=Zfn r Zb8 a x d hx h1
  obtain⟨bs,R2⟩:=Zfn r Zb8 b y e hy h2
  exact eq_dataH R1 R2 hs.1 hs.2 (by have:=Γ.hu;omega) (post W s.heap s.toks _ (.refl W) r (.bool _))
 ·rw[if_neg hs]at e1
  cases e1
theorem ZbN: Op2 prog w (compareOp .NotEq) oNe:=by
 intro Γ W ρ H fr s Q E a b x y v H' r hx hy ho post
 obtain⟨c,e1,e2⟩:=Zz1.mp ho
 cases e2
 obtain⟨d,h1,e1⟩:=Zz0.mp e1
 obtain⟨e,h2,e1⟩:=Zz0.mp e1
 by_cases hs:SeqAt.shaped d=true∧SeqAt.shaped e=true
 ·rw[if_pos hs]at e1
  cases e1
  obtain⟨as,R1⟩:=Zfn r Zb8 a x d hx h1
  obtain⟨bs,R2⟩:=Zfn r Zb8 b y e hy h2
  exact ne_dataH R1 R2 hs.1 hs.2 (by have:=Γ.hu;omega) (post W s.heap s.toks _ (.refl W) r (.bool _))
 ·rw[if_neg hs]at e1
  cases e1
theorem Zbg: Op2 prog w (compareOp .Is) oIs:=by
 intro Γ W ρ H fr s Q E a b x y v H' r hx hy ho post
 cases hy <;> first | (cases hx <;> cases ho;done) | skip
 refine PySem.is_none ?_
 cases hx <;> (cases ho;exact post W s.heap s.toks _ (.refl W) r (.bool _))
theorem ZbK: Op2 prog w (compareOp .IsNot) Zbt:=by
 intro Γ W ρ H fr s Q E a b x y v H' r hx hy ho post
 cases hy <;> first | (cases hx <;> cases ho;done) | skip
 refine PySem.isNot_none ?_
 cases hx <;> (cases ho;exact post W s.heap s.toks _ (.refl W) r (.bool _))
end
end PM
end
section
set_option autoImplicit false
namespace PM
open PySem PyProof.Rows PyProof
noncomputable def Zt: V→V→Hp→Option (V×Hp)
 | .ref a,.int k,H=>H[a]?.bind fun vs=>(seqIndex? k vs.length).bind fun j=>vs[j]?.map fun v=>(v,H)
 | .tup vs,.int k,H=>(seqIndex? k vs.length).bind fun j=>vs[j]?.map fun v=>(v,H)
 | _,_,_=>none
theorem Zpd{k:Int}{n j:Nat}(h:seqIndex? k n=some j): j<n∧(k:Int)<n∧-(n:Int)≤k∧(0≤k→k.toNat=j)∧(k<0→(k+n).toNat=j):=by
 unfold seqIndex? at h
 by_cases c:k<0
 ·simp only[c,if_true]at h
  split at h
  ·rename_i d
   simp at d h
   omega
  ·cases h
 ·simp only[c,if_false]at h
  split at h
  ·rename_i d
   simp at d h
   omega
  ·cases h
section
variable {prog:Program} {w:World} {Γ:Cx}
theorem Zw{e1 e2:Expr}{pos:Pos}{f g:Ex}(h1:J prog w Γ e1 f)(h2:J prog w Γ e2 g)(hs:∀a k u,subscripted e2 false (.ref a) (.int k u)=operate [.ref a,.int k u] (getItem (.ref a) (.int k u)):=by intros;with_unfolding_all rfl): J prog w Γ (.Subscript e1 e2 pos) (Zh Zt f g):=by
 intro W ρ H fr s Q E v H' r hf post
 obtain⟨p,e1,hf⟩:=Zz0.mp hf
 obtain⟨q,e2,e3⟩:=Zz0.mp hf
 refine Subscript_ (h1 W ρ H fr s _ E _ _ r e1 fun W1 k1 t1 x l1 r1 x1=>?_)
 refine h2 W1 ρ _ fr _ _ E _ _ r1 e2 fun W2 k2 t2 y l2 r2 y2=>?_
 have x2:=x1.mono l2
 obtain⟨v1,H1⟩:=p
 obtain⟨v2,H2⟩:=q
 simp only at e3 r2 x2 y2
 cases y2 <;> first | (cases x2 <;> cases e3;done) | skip
 rename_i k u
 cases x2 <;> first | (cases e3;done) | skip
 ·rename_i vs a xs kk hm hl hv
  obtain⟨j,hj,e4⟩:=Zz0.mp e3
  obtain⟨z,hz,e5⟩:=Zz1.mp e4
  cases e5
  obtain⟨z',hz',rz⟩:=hv.at hz
  have hx:xs.length=vs.length:=hv.length
  have hb:=Zpd hj
  rw[Zbm]at hl
  have it:IsTup k2 a xs.toArray:=⟨_,r2.tupAt hm,rfl,kk,rfl⟩
  exact item_tupleT it (by omega) (by omega) (by rw[hx];exact hj) hz' (post W2 k2 t2 z' (l1.trans l2) r2 rz) (hs _ _ _)
 ·rename_i i a ea
  obtain⟨vs,hvs,e3⟩:=Zz0.mp e3
  obtain⟨j,hj,e4⟩:=Zz0.mp e3
  obtain⟨z,hz,e5⟩:=Zz1.mp e4
  cases e5
  obtain⟨hl,xs,kk,hg,hv⟩:=r2.at hvs ea
  obtain⟨z',hz',rz⟩:=hv.at hz
  have hx:xs.length=vs.length:=hv.length
  have hb:=Zpd hj
  rw[Zbm]at hl
  have isl:k2.IsList a xs.toArray:=⟨_,hg,rfl,kk,rfl⟩
  refine tail_any (s:={ s with heap:=k2,toks:=t2 }) isl.typeIs slot_list_getitem.lookup ?_ (hs _ _ _)
  by_cases hk:0≤k
  ·exact wpAny_getItem_list isl hk (by omega) (by rw[hb.2.2.2.1 hk];simpa using hz') (post W2 k2 t2 z' (l1.trans l2) r2 rz)
  ·refine wpAny_getItem_list_neg isl (by omega) (by simp;omega) (by omega) ?_ (post W2 k2 t2 z' (l1.trans l2) r2 rz)
   have:=hb.2.2.2.2 (by omega)
   rw[←hx]at this
   simpa [this]using hz'
end
noncomputable def Zc8{α:Type}(vs:List α)(lo hi:Option Int): List α:=(sliceRange (sliceBounds lo hi none vs.length).1 (sliceBounds lo hi none vs.length).2.1 (sliceBounds lo hi none vs.length).2.2).filterMap fun i=>vs[i]?
theorem VRs.pick{W:Wd}{vs:List V}{xs:List Value}(h:VRs W vs xs)(l:List Nat): VRs W (l.filterMap fun i=>vs[i]?) (l.filterMap fun i=>xs[i]?):=by
 induction l with
 | nil=>exact .nil
 | cons i l ih=>
  simp only[List.filterMap_cons]
  have hl:=h.length
  cases e:vs[i]? with
  | none=>
   have:xs[i]?=none:=by rw[List.getElem?_eq_none_iff]at e ⊢;omega
   rw[this]
   exact ih
  | some v=>
   obtain⟨x,hx,hr⟩:=h.at e
   rw[hx]
   exact .cons hr ih
theorem ZuK{α:Type}(vs:List α)(lo hi:Option Int): (Zc8 vs lo hi).length≤vs.length:=by
 unfold Zc8
 refine Nat.le_trans (List.length_filterMap_le _ _) ?_
 refine sliceRange_length_le _ _ _ _ (fun _=>?_) fun c=>?_
 ·unfold sliceBounds
  cases lo <;> cases hi <;> simp <;> omega
 ·exact absurd (by unfold sliceBounds;simp) c
theorem ZuL{α:Type}(vs:List α)(a:Nat): ∀m:Nat,a+m≤vs.length→((List.range m).map fun k=>a+k).filterMap (fun i=>vs[i]?)=(vs.drop a).take m:=by
 intro m
 induction m with
 | zero=>intro _;simp
 | succ m ih=>
  intro h
  rw[List.range_succ,List.map_append,List.filterMap_append,ih (by omega),List.take_add_one]
  congr 1
  simp only[List.map_cons,List.map_nil,List.filterMap_cons,List.filterMap_nil,List.getElem?_drop]
  cases e:vs[a+m]? with
  | none=>rw[List.getElem?_eq_none_iff]at e;omega
  | some v=>rfl
theorem ZqG{α:Type}(vs:List α)(lo hi:Option Int){a b:Nat}(ha:(sliceBounds lo hi none vs.length).1=(a:Int))(hb:(sliceBounds lo hi none vs.length).2.1=(b:Int))(h:b≤vs.length): Zc8 vs lo hi=(vs.drop a).take (b-a):=by
 have hc:(sliceBounds lo hi none vs.length).2.2=1:=by unfold sliceBounds;rfl
 unfold Zc8
 rw[ha,hb,hc]
 have e:sliceRange (a:Int) (b:Int) 1=(List.range (b-a)).map fun k=>a+k:=by
  unfold sliceRange
  simp only[show(1:Int)>0 from by decide,if_true]
  by_cases c:(a:Int)<b
  ·rw[if_pos c]
   have:((b:Int)-a+1-1) / 1=((b-a:Nat):Int):=by omega
   rw[this]
   simp only[Int.toNat_natCast]
   refine List.map_congr_left fun k _=>?_
   omega
  ·rw[if_neg c]
   have:b-a=0:=by omega
   rw[this]
   rfl
 rw[e]
 by_cases c:a≤b
 ·exact ZuL vs a (b-a) (by omega)
 ·have:b-a=0:=by omega
  rw[this]
  simp
theorem Zt6{α:Type}(vs:List α){k:Int}{a:Nat}(e:k=(a:Int)): Zc8 vs (some k) none=vs.drop a:=by
 by_cases h:a≤vs.length
 ·rw[ZqG vs (some k) none (a:=a) (b:=vs.length) (by unfold sliceBounds;simp;omega) (by unfold sliceBounds;simp) (Zz10 _)]
  rw[List.take_of_length_le (by simp)]
 ·rw[ZqG vs (some k) none (a:=vs.length) (b:=vs.length) (by unfold sliceBounds;simp;omega) (by unfold sliceBounds;simp) (Zz10 _)]
  simp
  omega
noncomputable def Zg4: Option V→Option (Option Int)
 | none=>some none
 | some (.int k)=>some (some k)
 | _=>none
noncomputable abbrev Pt:=Lc→Hp→Option (Option V×Hp)
noncomputable def Zg5: Pt:=fun _ H=>some (none,H)
noncomputable def Zot(f:Ex): Pt:=fun ρ H=>(f ρ H).map fun p=>(some p.1,p.2)
noncomputable def Zn8(f:Ex)(lo hi:Pt): Ex:=fun ρ H=>(f ρ H).bind fun p=>(lo ρ p.2).bind fun q=>(hi ρ q.2).bind fun u=>(Zg4 q.1).bind fun a=>(Zg4 u.1).bind fun b=>match p.1 with
 | .ref i=>u.2[i]?.bind fun vs=>some (.ref u.2.length,u.2++[Zc8 vs a b])
 | _=>none
inductive VP(W:Wd): Option V→Value→Prop where
 | none:VP W none .none
 | some {v:V} {x:Value}:VR W v x→VP W (some v) x
theorem VP.mono{W W':Wd}{v:Option V}{x:Value}(l:W.Le W')(h:VP W v x): VP W' v x:=by
 cases h with
 | none=>exact .none
 | some h=>exact .some (h.mono l)
theorem VP.part{W:Wd}{v:Option V}{x:Value}{k:Option Int}(h:VP W v x)(e:Zg4 v=Option.some k): IsPart x k:=by
 cases h with
 | none=>cases e;exact .none
 | some h=>cases h <;> cases e;exact .int _ _
noncomputable def JP(prog:Program)(w:World)(Γ:Cx)(e:Option Expr)(f:Pt): Prop:=∀(W:Wd) (ρ:Lc) (H:Hp) (fr:List (Addr×Obj)) (s:Shared) (Q E:Value→Shared→Prop) (v:Option V) (H':Hp),
 Rep Γ W ρ H fr s.heap→f ρ H=some (v,H')→(∀(W':Wd) (h':Heap) (tk':Nat) (x:Value),W.Le W'→Rep Γ W' ρ H' fr h'→VP W' v x→Q x { s with heap:=h',toks:=tk' })→wpAny (model prog w) Γ.A (evalPart e Γ.env) Q E s
section
variable {prog:Program} {w:World} {Γ:Cx}
theorem JP.none: JP prog w Γ none Zg5:=fun W ρ H fr s Q E v H' r hf post=>by
 cases hf
 exact wpAny_evalPart_none (post W s.heap s.toks _ (.refl W) r .none)
theorem JP.some{e:Expr}{f:Ex}(h:J prog w Γ e f): JP prog w Γ (some e) (Zot f):=fun W ρ H fr s Q E v H' r hf post=>by
 obtain⟨p,e1,e2⟩:=Zz1.mp hf
 cases e2
 exact wpAny_evalPart_some (h W ρ H fr s _ E _ _ r e1 fun W1 k1 t1 x l1 r1 x1=>post W1 k1 t1 x l1 r1 (.some x1))
theorem Zvz{e:Expr}{lo hi:Option Expr}{p pos:Pos}{f:Ex}{a b:Pt}(h:J prog w Γ e f)(hlo:JP prog w Γ lo a)(hhi:JP prog w Γ hi b)(ht:∀o r,letTemporaryGo e o r=pure ():=by intro _ _;rfl): J prog w Γ (.Subscript e (.Slice lo hi Option.none p) pos) (Zn8 f a b):=by
 intro W ρ H fr s Q E v H' r hf post
 obtain⟨p,e1,hf⟩:=Zz0.mp hf
 obtain⟨q,e2,hf⟩:=Zz0.mp hf
 obtain⟨u,e3,hf⟩:=Zz0.mp hf
 obtain⟨ka,e4,hf⟩:=Zz0.mp hf
 obtain⟨kb,e5,hf⟩:=Zz0.mp hf
 refine wpAny_Subscript_list_slice (h W ρ H fr s _ E _ _ r e1 fun W1 k1 t1 x l1 r1 x1=>?_) ht
 refine hlo W1 ρ _ fr _ _ E _ _ r1 e2 fun W2 k2 t2 y l2 r2 y2=>?_
 refine hhi W2 ρ _ fr _ _ E _ _ r2 e3 fun W3 k3 t3 z l3 r3 z3=>?_
 have x3:=x1.mono (l2.trans l3)
 obtain⟨v1,H1⟩:=p
 simp only at hf x3
 cases x3 with
 | none=>cases hf
 | bool _=>cases hf
 | int _ _=>cases hf
 | str _ _=>cases hf
 | tup _ _ _=>cases hf
 | @ref i a ea=>
  obtain⟨vs,hvs,e6⟩:=Zz0.mp hf
  cases e6
  obtain⟨hl,xs,kk,hg,hv⟩:=r3.at hvs ea
  have isl:k3.IsList a xs.toArray:=⟨_,hg,rfl,kk,rfl⟩
  refine⟨a,xs.toArray,ka,kb,rfl,isl,Zdi (by simp[hv.length];exact hl),(y2.mono l3).part e4,z3.part e5,?_⟩
  have hp:VRs W3 (Zc8 vs ka kb) (Zc8 xs ka kb):=by
   unfold Zc8
   rw[hv.length]
   exact hv.pick _
  have hx:slicePick xs.toArray ka kb Option.none=(Zc8 xs ka kb).toArray:=by
   unfold slicePick Zc8
   simp
  obtain⟨W4,l4,r4,v4⟩:=(r3.push { cls:=.type "slice",data:=.fields #[y,z,.none] }).list (k:=0) hp (Nat.le_trans (ZuK vs ka kb) hl)
  rw[hx]
  have:=post W4 _ t3 _ (((l1.trans l2).trans l3).trans l4) r4 v4
  rw[Heap.size_push]at this
  exact this
end
end PM
end
section
set_option autoImplicit false
namespace PM
open PySem PyProof.Rows PyProof
noncomputable def Nm(prog:Program)(w:World)(Γ:Cx)(x:Str)(v:Value): Prop:=∀(pos:Pos) (m:Str→Option Value) (s:Shared) (Q E:Value→Shared→Prop),Fr Γ.h₀ Γ.L s.heap m→Q v s→wpAny (model prog w) Γ.A (eval (.Name x pos) Γ.env) Q E s
theorem Nm.use{prog:Program}{w:World}{Γ:Cx}{x:Str}{y:Value}(h:Nm prog w Γ x y){pos:Pos}{W:Wd}{ρ:Lc}{H:Hp}{fr:List (Addr×Obj)}{s:Shared}{Q E:Value→Shared→Prop}(r:Rep Γ W ρ H fr s.heap)(q:Q y s): wpAny (model prog w) Γ.A (eval (.Name x pos) Γ.env) Q E s:=by
 obtain⟨m,c,led,r⟩:=r
 exact h pos m s Q E r.F q
noncomputable def OpN(prog:Program)(w:World)(m:List Value→Sem Value)(o:List V→Hp→Option (V×Hp)): Prop:=∀(Γ:Cx) (W:Wd) (ρ:Lc) (H:Hp) (fr:List (Addr×Obj)) (s:Shared) (Q E:Value→Shared→Prop) (as:List V) (xs:List Value) (v:V) (H':Hp),
 Rep Γ W ρ H fr s.heap→VRs W as xs→o as H=some (v,H')→Zha Γ W ρ H' fr s Q v→wpAny (model prog w) Γ.A (m xs) Q E s
noncomputable def Zu(o:List V→Hp→Option (V×Hp))(g:Exs): Ex:=fun ρ H=>(g ρ H).bind fun p=>o p.1 p.2
section
variable {prog:Program} {w:World} {Γ:Cx}
theorem Zav{x:Str}{np pos:Pos}{id:String}{e:Expr}{es:List Expr}{g:Exs}{o:List V→Hp→Option (V×Hp)}(hn:Nm prog w Γ x (.builtin id))(h:Js prog w Γ (e::es) g)(ho:OpN prog w (fun xs=>call (.builtin id) xs) o)
  (he:starEach (e::es) Γ.env=(false,eval e Γ.env)::starEach es Γ.env:=by rfl) (hp:∀pos,(backTo pos (starEach es Γ.env)).any (·.1)=false:=by intro _;rfl):J prog w Γ (.Call (.Name x np) (e::es) [] pos) (Zu o g):=by
 intro W ρ H fr s Q E v H' r hf post
 obtain⟨p,e1,hf⟩:=Zz0.mp hf
 refine wpAny_Call_ofName (hn.use r ?_)
 refine callWith_builtin1 (h pos W ρ H fr s _ E _ _ r e1 fun W1 k1 t1 xs l1 r1 x1=>?_) he (hp pos)
 exact ho Γ W1 ρ _ fr _ Q E _ xs v H' r1 x1 hf fun W2 k2 t2 y l2 r2 y2=>post W2 k2 t2 y (l1.trans l2) r2 y2
theorem Zc2{x:Str}{np pos:Pos}{T:String}{e:Expr}{es:List Expr}{g:Exs}{o:List V→Hp→Option (V×Hp)}(hn:Nm prog w Γ x (.type T))(h:Js prog w Γ (e::es) g)(ho:OpN prog w (fun xs=>call (.type T) xs) o)
  (he:starEach (e::es) Γ.env=(false,eval e Γ.env)::starEach es Γ.env:=by rfl) (hp:∀pos,(backTo pos (starEach es Γ.env)).any (·.1)=false:=by intro _;rfl):J prog w Γ (.Call (.Name x np) (e::es) [] pos) (Zu o g):=by
 intro W ρ H fr s Q E v H' r hf post
 obtain⟨p,e1,hf⟩:=Zz0.mp hf
 refine wpAny_Call_ofName (hn.use r ?_)
 refine PySem.Pv.callWith_type1 (h pos W ρ H fr s _ E _ _ r e1 fun W1 k1 t1 xs l1 r1 x1=>?_) he (hp pos)
 exact ho Γ W1 ρ _ fr _ Q E _ xs v H' r1 x1 hf fun W2 k2 t2 y l2 r2 y2=>post W2 k2 t2 y (l1.trans l2) r2 y2
end
noncomputable def ZnE: V→String
 | .none=>"NoneType"
 | .bool _=>"bool"
 | .int _=>"int"
 | .str _=>"str"
 | .tup _=>"tuple"
 | .ref _=>"list"
noncomputable def Zn9(T:String)(v:V): Bool:=ZnE v == T || (T == "int" && ZnE v == "bool")
noncomputable def eIs(T:String)(f:Ex): Ex:=fun ρ H=>(f ρ H).map fun p=>(.bool (Zn9 T p.1),p.2)
section
variable {prog:Program} {w:World} {Γ:Cx}
theorem isinst{T:String}(hT:T="int"∨T="bool"∨T="list"∨T="tuple"){W:Wd}{ρ:Lc}{H:Hp}{fr:List (Addr×Obj)}{s:Shared}{Q E:Value→Shared→Prop}{a:V}{x:Value}(r:Rep Γ W ρ H fr s.heap)(hx:VR W a x)(hin:∀i,a=.ref i→i<H.length)
  (post:∀tk,Q (.bool (Zn9 T a)) { s with toks:=tk }):wpAny (model prog w) Γ.A (call (.builtin "isinstance") [x,.type T]) Q E s:=by
 cases hx with
 | none=>
      rcases hT with e | e | e | e <;> subst e
      ·exact call_isinstance (isinstance_false_none (by decide +kernel) F.isi_meta_int (by rw[isSubtype_type];kernel_rfl)) (post _)
      ·exact call_isinstance (isinstance_false_none (by decide +kernel) F.isi_meta_bool (by rw[isSubtype_type];kernel_rfl)) (post _)
      ·exact call_isinstance (isinstance_false_none (by decide +kernel) F.isi_meta_list (by rw[isSubtype_type];kernel_rfl)) (post _)
      ·exact call_isinstance (isinstance_false_none (by decide +kernel) F.isi_meta_tuple (by rw[isSubtype_type];kernel_rfl)) (post _)
 | bool b=>
       rcases hT with e | e | e | e <;> subst e
       ·exact IsiPair.bool_int (post s.toks)
       ·exact IsiPair.bool_bool (post s.toks)
       ·exact IsiPair.bool_list (post _)
       ·exact IsiPair.bool_tuple (post _)
 | int i t=>
       rcases hT with e | e | e | e <;> subst e
       ·exact IsiPair.int_int (post s.toks)
       ·exact IsiPair.int_bool (post _)
       ·exact IsiPair.int_list (post _)
       ·exact IsiPair.int_tuple (post _)
 | str y t=>
       rcases hT with e | e | e | e <;> subst e
       ·exact IsiPair.str_int (post _)
       ·exact IsiPair.str_bool (post _)
       ·exact IsiPair.str_list (post _)
       ·exact IsiPair.str_tuple (post _)
 | tup hm hl hs=>
  have hg:=r.tupAt hm
  rcases hT with e | e | e | e <;> subst e
  ·exact IsiPair.tuple_int hg rfl (post _)
  ·exact IsiPair.tuple_bool hg rfl (post _)
  ·exact IsiPair.tuple_list hg rfl (post _)
  ·exact IsiPair.tuple_tuple hg rfl (post s.toks)
 | @ref i a ea=>
  obtain⟨hl,xs,k,hg,hv⟩:=r.at (List.getElem?_eq_getElem (hin i rfl)) ea
  rcases hT with e | e | e | e <;> subst e
  ·exact IsiPair.list_int hg rfl (post _)
  ·exact IsiPair.list_bool hg rfl (post _)
  ·exact IsiPair.list_list hg rfl (post s.toks)
  ·exact IsiPair.list_tuple hg rfl (post _)
end
theorem Rep.refIn{Γ:Cx}{W:Wd}{ρ:Lc}{H:Hp}{fr:List (Addr×Obj)}{h:Heap}{i:Nat}{x:Value}(r:Rep Γ W ρ H fr h)(hx:VR W (.ref i) x): i<H.length:=by
 obtain⟨m,c,led,r⟩:=r
 cases hx with
 | ref e=>rw[←r.R.len];exact(Zz6.mp e).1
section
variable {prog:Program} {w:World} {Γ:Cx}
theorem ZdV{np tp pos:Pos}{x y:Str}{T:String}{e:Expr}{f:Ex}(hn:Nm prog w Γ x (.builtin "isinstance"))(hy:Nm prog w Γ y (.type T))(hT:T="int"∨T="bool"∨T="list"∨T="tuple")(h:J prog w Γ e f)
  (he:starEach [e,.Name y tp] Γ.env=(false,eval e Γ.env)::starEach [.Name y tp] Γ.env:=by rfl) (hp:∀pos,(backTo pos (starEach [.Name y tp] Γ.env)).any (·.1)=false:=by intro _;rfl):J prog w Γ (.Call (.Name x np) [e,.Name y tp] [] pos) (eIs T f):=by
 intro W ρ H fr s Q E v H' r hf post
 obtain⟨p,e1,e2⟩:=Zz1.mp hf
 cases e2
 refine wpAny_Call_ofName (hn.use r ?_)
 refine callWith_builtin1 (wpAny_items_cons (h W ρ H fr s _ E _ _ r e1 fun W1 k1 t1 z l1 r1 z1=>?_) he) he (hp pos)
 refine wpAny_items_cons (hy.use (s:={ s with heap:=k1,toks:=t1 }) r1 ?_)
 refine wpAny_items_nil ?_
 exact PM.isinst hT r1 z1 (fun i e=>by rw[e]at z1;exact r1.refIn z1) fun tk=>post W1 k1 tk _ l1 r1 (.bool _)
end
noncomputable def ZaJ: List V→Hp→Option (V×Hp)
 | [.ref a],H=>H[a]?.map fun vs=>(.int vs.length,H)
 | [.tup vs],H=>some (.int vs.length,H)
 | _,_=>none
noncomputable def Zdc: List V→Hp→Option (V×Hp)
 | [.int a],H=>some (.int (if a<0 then -a else a),H)
 | _,_=>none
noncomputable def Zyj: List V→Hp→Option (V×Hp)
 | [.int a,.int b],H=>some (.int (if b>a then b else a),H)
 | _,_=>none
noncomputable def Zjj: List V→Hp→Option (V×Hp)
 | [.int a,.int b],H=>some (.int (if b<a then b else a),H)
 | _,_=>none
noncomputable def ZdF: List V→Option (List Int)
 | []=>some []
 | .int k::vs=>(ZdF vs).map fun ks=>k::ks
 | _::_=>none
noncomputable def Zhb: List V→Hp→Option (V×Hp)
 | [.ref a],H=>H[a]?.bind fun vs=>(ZdF vs).map fun ks=>(.int ks.sum,H)
 | _,_=>none
theorem VRs.one{W:Wd}{v:V}{xs:List Value}(h:VRs W [v] xs): ∃x,xs=[x]∧VR W v x:=by
 cases h with
 | cons a b=>cases b;exact⟨_,rfl,a⟩
theorem VRs.two{W:Wd}{v u:V}{xs:List Value}(h:VRs W [v,u] xs): ∃x y,xs=[x,y]∧VR W v x∧VR W u y:=by
 cases h with
 | cons a b=>obtain⟨y,e,r⟩:=b.one;subst e;exact⟨_,_,rfl,a,r⟩
theorem ZsT{W:Wd}: ∀{vs:List V} {xs:List Value} {ks:List Int},VRs W vs xs→ZdF vs=some ks→∃ts:Array (Int×Tok),xs.toArray=intItems ts∧preSum (numAt ts) ts.size=ks.sum:=by
 have key:∀{vs:List V} {xs:List Value} {ks:List Int},VRs W vs xs→ZdF vs=some ks→∃ts:List (Int×Tok),xs=ts.map (fun p=>Value.int p.1 p.2)∧ts.map (·.1)=ks:=by
  intro vs
  induction vs with
  | nil=>intro xs ks h e;cases h;cases e;exact⟨[],rfl,rfl⟩
  | cons v vs ih=>
   intro xs ks h e
   cases h with
   | cons a b=>
    cases v with
    | int i=>
     obtain⟨js,e1,e2⟩:=Zz1.mp e
     subst e2
     cases a with
     | int _ t=>
      obtain⟨ts,h1,h2⟩:=ih b e1
      exact⟨(i,t)::ts,by rw[h1];rfl,by rw[List.map_cons,h2]⟩
    | none=>cases e
    | bool _=>cases e
    | str _=>cases e
    | tup _=>cases e
    | ref _=>cases e
 intro vs xs ks h e
 obtain⟨ts,h1,h2⟩:=key h e
 refine⟨ts.toArray,by rw[h1];simp[intItems],?_⟩
 rw[preSum_eq,List.take_of_length_le (by simp),←h2]
noncomputable def Zah: V→V→Hp→Option (V×Hp)
 | .int a,.int b,H=>some (.int (a+b),H)
 | .ref a,.ref b,H=>H[a]?.bind fun vs=>H[b]?.bind fun us=>if(vs++us).length≤LEN then some (.ref H.length,H++[vs++us])else none
 | .tup vs,.tup us,H=>if(vs++us).length≤LEN then some (.tup (vs++us),H)else none
 | _,_,_=>none
noncomputable def ZeY(vs:List V): Nat→List V
 | 0=>[]
 | n+1=>ZeY vs n++vs
noncomputable def ZaX: V→V→Hp→Option (V×Hp)
 | .int a,.int b,H=>if mulOk a b=true then some (.int (a*b),H)else none
 | .ref a,.int k,H=>H[a]?.bind fun vs=>if vs.length*k.toNat≤LEN∧-(2 ^ 63:Int)≤k∧k<2 ^ 63 then some (.ref H.length,H++[ZeY vs k.toNat])else none
 | _,_,_=>none
section
variable {prog:Program} {w:World}
theorem ZaW: OpN prog w (fun xs=>call (.builtin "len") xs) ZaJ:=by
 intro Γ W ρ H fr s Q E as xs v H' r hx ho post
 unfold ZaJ at ho
 split at ho
 ·rename_i a
  obtain⟨vs,e1,e2⟩:=Zz1.mp ho
  cases e2
  obtain⟨x,ex,rx⟩:=hx.one
  subst ex
  cases rx with
  | ref ea=>
   obtain⟨hl,ys,k,hg,hv⟩:=r.at e1 ea
   have isl:s.heap.IsList _ ys.toArray:=⟨_,hg,rfl,k,rfl⟩
   have e3:(ys.toArray.size:Int)=vs.length:=by simp[hv.length]
   rw[Zbm]at hl
   refine Calls.call_len_list isl (by rw[e3];omega) ?_
   rw[e3]
   exact post W s.heap _ _ (.refl W) r (.int _ _)
 ·rename_i vs
  cases ho
  obtain⟨x,ex,rx⟩:=hx.one
  subst ex
  cases rx with
  | @tup _ a ys k hm hl hs=>
   have it:IsTup s.heap a ys.toArray:=⟨_,r.tupAt hm,rfl,k,rfl⟩
   have e3:(ys.toArray.size:Int)=vs.length:=by simp[hs.length]
   rw[Zbm]at hl
   refine len_tuple it (by rw[e3];omega) ?_
   rw[e3]
   exact post W s.heap _ _ (.refl W) r (.int _ _)
 ·cases ho
theorem Zd1: OpN prog w (fun xs=>call (.builtin "abs") xs) Zdc:=by
 intro Γ W ρ H fr s Q E as xs v H' r hx ho post
 unfold Zdc at ho
 split at ho
 ·cases ho
  obtain⟨x,ex,rx⟩:=hx.one
  subst ex
  cases rx with
  | int i t=>exact call_abs_int fun u tk=>post W s.heap tk _ (.refl W) r (.int _ _)
 ·cases ho
theorem ZvA: OpN prog w (fun xs=>call (.builtin "min") xs) Zjj:=by
 intro Γ W ρ H fr s Q E as xs v H' r hx ho post
 unfold Zjj at ho
 split at ho
 ·cases ho
  obtain⟨x,y,ex,rx,ry⟩:=hx.two
  subst ex
  cases rx with
  | int i t=>
   cases ry with
   | int j u=>
    refine min_two_ints Γ.hh fun h' tk up=>?_
    split
    ·rename_i c
     rw[if_pos c]at post
     exact post W h' tk _ (.refl W) (r.grown up) (.int _ _)
    ·rename_i c
     rw[if_neg c]at post
     exact post W h' tk _ (.refl W) (r.grown up) (.int _ _)
 ·cases ho
theorem ZwO: OpN prog w (fun xs=>call (.builtin "sum") xs) Zhb:=by
 intro Γ W ρ H fr s Q E as xs v H' r hx ho post
 unfold Zhb at ho
 split at ho
 ·obtain⟨vs,e1,e2⟩:=Zz0.mp ho
  obtain⟨ks,e3,e4⟩:=Zz1.mp e2
  cases e4
  obtain⟨x,ex,rx⟩:=hx.one
  subst ex
  cases rx with
  | ref ea=>
   obtain⟨hl,ys,k,hg,hv⟩:=r.at e1 ea
   obtain⟨ts,h1,h2⟩:=ZsT hv e3
   have isl:s.heap.IsList _ (intItems ts):=⟨_,hg,rfl,k,by rw[←h1]⟩
   refine sum_intListG Γ.hh isl fun h' tk t' up=>?_
   rw[h2]
   exact post W h' tk _ (.refl W) (r.grown up) (.int _ _)
 ·cases ho
theorem Zak: Op2 prog w (binaryOp .Add) Zah:=by
 intro Γ W ρ H fr s Q E a b x y v H' r hx hy ho post
 unfold Zah at ho
 split at ho
 ·cases ho
  cases hx;cases hy
  exact PySem.P.add_int (post W s.heap _ _ (.refl W) r (.int _ _))
 ·obtain⟨vs,e1,ho⟩:=Zz0.mp ho
  obtain⟨us,e2,ho⟩:=Zz0.mp ho
  by_cases hl:(vs++us).length≤LEN
  ·rw[if_pos hl]at ho
   cases ho
   cases hx with
   | ref ea=>
   cases hy with
   | ref eb=>
   obtain⟨l1,ys,k,hg,hv⟩:=r.at e1 ea
   obtain⟨l2,zs,k2,hg2,hv2⟩:=r.at e2 eb
   obtain⟨m,c,led,r'⟩:=r
   have i1:s.heap.IsList _ ys.toArray:=⟨_,hg,rfl,k,rfl⟩
   have i2:s.heap.IsList _ zs.toArray:=⟨_,hg2,rfl,k2,rfl⟩
   refine add_lists (hsz:=Zdi (by rw[hv.length,hv2.length,←List.length_append];exact hl)) r'.F r'.N i1 i2 fun h' F' N'=>?_
   obtain⟨W2,le2,r2,v2⟩:=r'.newList F' N' r'.off (hv.append hv2) hl
   exact post W2 h' s.toks _ le2 r2 v2
  ·rw[if_neg hl]at ho
   cases ho
 ·rename_i vs us
  by_cases hl:(vs++us).length≤LEN
  ·rw[if_pos hl]at ho
   cases ho
   cases hx with
   | @tup _ a ys k hm h1 hv=>
   cases hy with
   | @tup _ b zs k2 hm2 h2 hv2=>
   have t1:IsTup s.heap a ys.toArray:=⟨_,r.tupAt hm,rfl,k,rfl⟩
   have t2:IsTup s.heap b zs.toArray:=⟨_,r.tupAt hm2,rfl,k2,rfl⟩
   have r0:=r
   obtain⟨m,c,led,r'⟩:=r
   refine add_tuples (hsz:=Zdi (by rw[hv.length,hv2.length,←List.length_append];exact hl)) r'.F r'.N t1 t2 (fun e=>?_) (fun _ e=>?_) fun _ _ h' F' N'=>?_
   ·have:vs=[]:=List.length_eq_zero_iff.mp (by rw[←hv.length,e];rfl)
    subst this
    exact post W s.heap s.toks _ (.refl W) r0 (.tup hm2 h2 hv2)
   ·have:us=[]:=List.length_eq_zero_iff.mp (by rw[←hv2.length,e];rfl)
    subst this
    rw[List.append_nil]at post
    exact post W s.heap s.toks _ (.refl W) r0 (.tup hm h1 hv)
   ·obtain⟨W2,le2,r2,v2⟩:=r'.newTup F' N' r'.off (hv.append hv2) hl
    exact post W2 h' s.toks _ le2 r2 v2
  ·rw[if_neg hl]at ho
   cases ho
 ·cases ho
theorem Zp8(vs:List V): ∀n,(ZeY vs n).length=vs.length*n
 | 0=>rfl
 | n+1=>by rw[ZeY,List.length_append,Zp8 vs n,Nat.mul_succ]
theorem Zt7(xs:List Value)(n:Nat): ∀acc:Array Value,(List.foldl (fun x1 x2=>x1++x2) acc (List.replicate n xs.toArray))=acc++(List.replicate n xs).flatten.toArray:=by
 induction n with
 | zero=>intro acc;simp
 | succ n ih=>
  intro acc
  rw[List.replicate_succ,List.foldl_cons,ih,List.replicate_succ,List.flatten_cons]
  simp[Array.append_assoc]
theorem ZqH{W:Wd}{vs:List V}{xs:List Value}(h:VRs W vs xs): ∀n,VRs W (ZeY vs n) (List.replicate n xs).flatten
 | 0=>.nil
 | n+1=>by
  rw[ZeY,List.replicate_succ',List.flatten_append]
  simp only[List.flatten_cons,List.flatten_nil,List.append_nil]
  exact(ZqH h n).append h
theorem Za6: Op2 prog w (binaryOp .Mult) ZaX:=by
 intro Γ W ρ H fr s Q E a b x y v H' r hx hy ho post
 unfold ZaX at ho
 split at ho
 ·rename_i i j
  by_cases hm:mulOk i j=true
  ·rw[if_pos hm]at ho
   cases ho
   cases hx;cases hy
   exact PySem.P.mul_int (post W s.heap _ _ (.refl W) r (.int _ _)) (ZuJ hm)
  ·rw[if_neg hm]at ho
   cases ho
 ·rename_i i k
  obtain⟨vs,e1,ho⟩:=Zz0.mp ho
  by_cases hc:vs.length*k.toNat≤LEN∧-(2 ^ 63:Int)≤k∧k<2 ^ 63
  ·rw[if_pos hc]at ho
   cases ho
   cases hx with
   | ref ea=>
   cases hy with
   | int _ u=>
   obtain⟨l1,ys,kk,hg,hv⟩:=r.at e1 ea
   obtain⟨m,c,led,r'⟩:=r
   have hl:=hc.1
   rw[Zbm]at hl
   refine mul_list r'.F r'.N hg hc.2.1 hc.2.2 (by rw[List.size_toArray,hv.length];omega) fun h' F' N'=>?_
   have e2:(List.foldl (fun x1 x2=>x1++x2) #[] (List.replicate (if ys.toArray.isEmpty=true then 0 else k.toNat) ys.toArray))=(List.replicate k.toNat ys).flatten.toArray:=by
    cases ys with
    | nil=>
     simp
    | cons y0 ys0=>
     have:((y0::ys0).toArray.isEmpty=true)=False:=by simp
     simp only[this,if_false]
     rw[Zt7]
     simp
   rw[e2]at N'
   obtain⟨W2,le2,r2,v2⟩:=r'.newList F' N' r'.off (ZqH hv k.toNat) (by rw[Zp8];exact hc.1)
   exact post W2 h' s.toks _ le2 r2 v2
  ·rw[if_neg hc]at ho
   cases ho
 ·cases ho
end
end PM
end
section
set_option autoImplicit false
namespace PM
open PySem PyProof.Rows PyProof
noncomputable def upd(ρ:Lc)(i:Nat)(v:V): Lc:=fun j=>if j=i then some v else ρ j
noncomputable abbrev Sm:=Lc→Hp→Option (Option V×Lc×Hp)
noncomputable def Z1: Sm:=fun ρ H=>some (none,ρ,H)
noncomputable def Zv(a b:Sm): Sm:=fun ρ H=>(a ρ H).bind fun p=>match p.1 with
 | some _=>some p
 | none=>b p.2.1 p.2.2
noncomputable def ZG(f:Ex): Sm:=fun ρ H=>(f ρ H).map fun p=>(some p.1,ρ,p.2)
noncomputable def ZN(i:Nat)(f:Ex): Sm:=fun ρ H=>(f ρ H).map fun p=>(none,upd ρ i p.1,p.2)
noncomputable def ZW(t:Ts)(a b:Sm): Sm:=fun ρ H=>(t ρ H).bind fun p=>if p.1 then a ρ p.2 else b ρ p.2
noncomputable def Zcz(f:Ex): Sm:=fun ρ H=>(f ρ H).map fun p=>(none,ρ,p.2)
noncomputable def ZoE: V→V→V→Hp→Option Hp
 | .ref a,.int k,v,H=>H[a]?.bind fun vs=>if a≠0∧0≤k∧k<vs.length then some (H.set a (vs.set k.toNat v))else none
 | _,_,_,_=>none
noncomputable def ZbI(f o i:Ex): Sm:=fun ρ H=>(f ρ H).bind fun p=>(o ρ p.2).bind fun q=>(i ρ q.2).bind fun u=>(ZoE q.1 u.1 p.1 u.2).map fun K=>(none,ρ,K)
noncomputable def Zc4(t:Ts)(b:Sm): Nat→Sm
 | 0=>fun _ _=>none
 | n+1=>fun ρ H=>(t ρ H).bind fun p=>if p.1 then(b ρ p.2).bind fun q=>(match q.1 with
   | some _=>some q
   | none=>Zc4 t b n q.2.1 q.2.2)else some (none,ρ,p.2)
noncomputable def PostS(Γ:Cx)(W:Wd)(fr:List (Addr×Obj))(s:Shared)(Q:Flow→Shared→Prop): Option V×Lc×Hp→Prop
 | (none,ρ',H')=>∀(W':Wd) (h':Heap) (tk':Nat),W.Le W'→Rep Γ W' ρ' H' fr h'→Q .next { s with heap:=h',toks:=tk' }
 | (some v,ρ',H')=>∀(W':Wd) (h':Heap) (tk':Nat) (x:Value),W.Le W'→Rep Γ W' ρ' H' fr h'→VR W' v x→Q (.ret x) { s with heap:=h',toks:=tk' }
theorem PostS.le{Γ:Cx}{W W':Wd}{fr:List (Addr×Obj)}{s:Shared}{h:Heap}{tk:Nat}{Q:Flow→Shared→Prop}{r:Option V×Lc×Hp}(l:W.Le W')(p:PostS Γ W fr s Q r): PostS Γ W' fr { s with heap:=h,toks:=tk } Q r:=by
 obtain⟨o,ρ',H'⟩:=r
 cases o with
 | none=>exact fun W2 h2 t2 l2 r2=>p W2 h2 t2 (l.trans l2) r2
 | some v=>exact fun W2 h2 t2 x l2 r2 x2=>p W2 h2 t2 x (l.trans l2) r2 x2
section
variable (prog:Program) (w:World)
noncomputable def S1(Γ:Cx)(st:Stmt)(g:Sm): Prop:=∀(W:Wd) (ρ:Lc) (H:Hp) (fr:List (Addr×Obj)) (s:Shared) (Q:Flow→Shared→Prop) (E:Value→Shared→Prop) (r:Option V×Lc×Hp),
 Rep Γ W ρ H fr s.heap→g ρ H=some r→PostS Γ W fr s Q r→wpAny (model prog w) Γ.A (exec st Γ.env) Q E s
noncomputable def Ss(Γ:Cx)(ss:List Stmt)(g:Sm): Prop:=∀(W:Wd) (ρ:Lc) (H:Hp) (fr:List (Addr×Obj)) (s:Shared) (Q:Flow→Shared→Prop) (E:Value→Shared→Prop) (r:Option V×Lc×Hp),
 Rep Γ W ρ H fr s.heap→g ρ H=some r→PostS Γ W fr s Q r→wpAny (model prog w) Γ.A (execs ss Γ.env) Q E s
noncomputable def Sto(Γ:Cx)(x:Str)(i:Nat): Prop:=∀(W:Wd) (ρ:Lc) (H:Hp) (fr:List (Addr×Obj)) (s:Shared) (Q:Unit→Shared→Prop) (E:Value→Shared→Prop) (v:V) (y:Value),
 Rep Γ W ρ H fr s.heap→VR W v y→(∀(h':Heap) (tk':Nat),Rep Γ W (upd ρ i v) H fr h'→Q () { s with heap:=h',toks:=tk' })→wpAny (model prog w) Γ.A (storeName Γ.env x y) Q E s
noncomputable def Rd(Γ:Cx)(x:Str)(i:Nat): Prop:=∀(W:Wd) (ρ:Lc) (H:Hp) (fr:List (Addr×Obj)) (s:Shared) (Q E:Value→Shared→Prop) (v:V) (pos:Pos),
 Rep Γ W ρ H fr s.heap→ρ i=some v→(∀y,VR W v y→Q y s)→wpAny (model prog w) Γ.A (eval (.Name x pos) Γ.env) Q E s
end
section
variable {prog:Program} {w:World} {Γ:Cx}
theorem Zjk{x:Str}{i:Nat}{pos:Pos}(h:Rd prog w Γ x i): J prog w Γ (.Name x pos) (Zb i):=by
 intro W ρ H fr s Q E v H' r hf post
 obtain⟨u,e1,e2⟩:=Zz1.mp hf
 cases e2
 exact h W ρ H fr s Q E v pos r e1 fun y hy=>post W s.heap s.toks y (.refl W) r hy
theorem Z5: Ss prog w Γ [] Z1:=fun W ρ H fr s Q E r rp hf post=>by
 cases hf
 exact wpAny_execs_nil (post W s.heap s.toks (.refl W) rp)
theorem Zx{st:Stmt}{ss:List Stmt}{a b:Sm}(h1:S1 prog w Γ st a)(h2:Ss prog w Γ ss b): Ss prog w Γ (st::ss) (Zv a b):=by
 intro W ρ H fr s Q E r rp hf post
 obtain⟨p,e1,hf⟩:=Zz0.mp hf
 refine wpAny_execs_cons (h1 W ρ H fr s _ E p rp e1 ?_)
 obtain⟨o,ρ1,H1⟩:=p
 cases o with
 | some v=>
  cases hf
  exact fun W1 k1 t1 x l1 r1 x1=>post W1 k1 t1 x l1 r1 x1
 | none=>exact fun W1 k1 t1 l1 r1=>h2 W1 ρ1 H1 fr _ Q E r r1 hf (post.le l1)
theorem ZB{st:Stmt}{a:Sm}(h1:S1 prog w Γ st a): Ss prog w Γ [st] a:=by
 intro W ρ H fr s Q E r rp hf post
 refine wpAny_execs_cons (h1 W ρ H fr s _ E r rp hf ?_)
 obtain⟨o,ρ1,H1⟩:=r
 cases o with
 | some v=>exact fun W1 k1 t1 x l1 r1 x1=>post W1 k1 t1 x l1 r1 x1
 | none=>exact fun W1 k1 t1 l1 r1=>wpAny_execs_nil (post W1 k1 t1 l1 r1)
theorem ZL{e:Expr}{pos:Pos}{f:Ex}(h:J prog w Γ e f): S1 prog w Γ (.Return (some e) pos) (ZG f):=by
 intro W ρ H fr s Q E r rp hf post
 obtain⟨p,e1,e2⟩:=Zz1.mp hf
 cases e2
 exact wpAny_Return_some (h W ρ H fr s _ E _ _ rp e1 post)
theorem Z2{t:Expr}{a b:List Stmt}{pos:Pos}{u:Ts}{f g:Sm}(ht:JT prog w Γ t u)(h1:Ss prog w Γ a f)(h2:Ss prog w Γ b g): S1 prog w Γ (.If t a b pos) (ZW u f g):=by
 intro W ρ H fr s Q E r rp hf post
 obtain⟨p,e1,hf⟩:=Zz0.mp hf
 refine wpAny_If (ht W ρ H fr s _ E _ _ rp e1 fun W1 k1 t1 l1 r1=>?_)
 obtain⟨c,H1⟩:=p
 cases c with
 | true=>exact h1 W1 ρ H1 fr _ Q E r r1 hf (post.le l1)
 | false=>exact h2 W1 ρ H1 fr _ Q E r r1 hf (post.le l1)
theorem Zd2{e:Expr}{pos:Pos}{f:Ex}(h:J prog w Γ e f)(hi:interactive Γ.env=false:=by rfl)(hs:swapsWith e none pos.line Γ.env=pure false:=by rfl): S1 prog w Γ (.Expr e pos) (Zcz f):=by
 intro W ρ H fr s Q E r rp hf post
 obtain⟨p,e1,e2⟩:=Zz1.mp hf
 cases e2
 exact wpAny_Expr_any (h W ρ H fr s _ E _ _ rp e1 fun W1 k1 t1 x l1 r1 x1=>post W1 k1 t1 l1 r1) hi hs
theorem ZT{x:Str}{i:Nat}{e:Expr}{pos' pos:Pos}{f:Ex}(hx:Sto prog w Γ x i)(h:J prog w Γ e f)(hs:swapsWith e (some (.Name x pos')) pos.line Γ.env=pure false:=by rfl): S1 prog w Γ (.Assign [.Name x pos'] e pos) (ZN i f):=by
 intro W ρ H fr s Q E r rp hf post
 obtain⟨p,e1,e2⟩:=Zz1.mp hf
 cases e2
 refine wpAny_Assign_Name (h W ρ H fr s _ E _ _ rp e1 fun W1 k1 t1 y l1 r1 y1=>?_) hs
 exact hx W1 ρ _ fr _ _ E _ y r1 y1 fun h' tk' r2=>post W1 h' tk' l1 r2
theorem ZgD{t:Expr}{a:List Stmt}{pos:Pos}{u:Ts}{f:Sm}(n:Nat)(ht:JT prog w Γ t u)(h1:Ss prog w Γ a f): S1 prog w Γ (.While t a [] pos) (Zc4 u f n):=by
 intro W ρ H fr s Q E r rp hf post
 refine wpAny_While ?_
 refine codeAny_whileLoop (fun k s'=>∃W' ρ' H' h' tk',s' = { s with heap:=h',toks:=tk' }∧W.Le W'∧Rep Γ W' ρ' H' fr h'∧Zc4 u f k ρ' H'=some r) ?_ n ⟨W,ρ,H,s.heap,s.toks,rfl,.refl W,rp,hf⟩
 rintro k s' ⟨W1,ρ1,H1,k1,t1,rfl,l1,r1,e⟩
 cases k with
 | zero=>cases e
 | succ k=>
  obtain⟨p,e1,e⟩:=Zz0.mp e
  refine ht W1 ρ1 H1 fr _ _ _ _ _ r1 e1 fun W2 k2 t2 l2 r2=>?_
  obtain⟨c,H2⟩:=p
  cases c with
  | false=>
   cases e
   exact wpAny_execs_nil (post W2 k2 t2 (l1.trans l2) r2)
  | true=>
   obtain⟨q,e2,e⟩:=Zz0.mp e
   refine h1 W2 ρ1 H2 fr _ _ _ q r2 e2 ?_
   obtain⟨o,ρ3,H3⟩:=q
   cases o with
   | some v=>
    cases e
    exact fun W3 k3 t3 x l3 r3 x3=>post W3 k3 t3 x ((l1.trans l2).trans l3) r3 x3
   | none=>exact fun W3 k3 t3 l3 r3=>⟨k,Nat.lt_succ_self k,W3,ρ3,H3,k3,t3,rfl,(l1.trans l2).trans l3,r3,e⟩
end
noncomputable def ZgJ: List V→Hp→Option (V×Hp)
 | [.ref a,v],H=>H[a]?.bind fun vs=>if a≠0∧vs.length<LEN then some (.none,H.set a (vs++[v]))else none
 | _,_=>none
section
variable {prog:Program} {w:World} {Γ:Cx}
theorem Zt8: OpN prog w (fun xs=>call (.builtin "list.append") xs) ZgJ:=by
 intro Γ W ρ H fr s Q E as xs v H' r hx ho post
 unfold ZgJ at ho
 split at ho
 ·obtain⟨vs,e1,e2⟩:=Zz0.mp ho
  obtain⟨x,y,ex,rx,ry⟩:=hx.two
  subst ex
  split at e2
  ·rename_i hl
   cases e2
   cases rx with
   | @ref _ a0 ea=>
    obtain⟨_,ys,k,hg,hv⟩:=r.at e1 ea
    refine append_at (hsz:=Zdi (by rw[List.size_toArray,hv.length];omega)) hg fun h' sb hg'=>?_
    have hg2:h'.get? a0=some (Zb7 (ys++[y]) (k+1)):=by rw[hg'];simp
    exact post W h' s.toks _ (.refl W) (r.change hl.1 e1 ea sb hg2 (hv.snoc ry) (by simp;omega)) .none
  ·cases e2
 ·cases ho
end
end PM
end
section
set_option autoImplicit false
namespace PM
open PySem PySem.W PyProof.Rows PyProof
theorem ZqI: ∀{l:List Value} {k:Nat} {v:Value},k<l.length→ki_setL l k v=some (l.set k v)
 | [],_,_,h=>by simp at h
 | x::r,0,v,_=>by simp[ki_setL]
 | x::r,k+1,v,h=>by
  have:=ZqI (l:=r) (k:=k) (v:=v) (by simpa using h)
  simp[ki_setL,this]
theorem Zt9{a k v:V}{H K:Hp}(h:ZoE a k v H=some K): ∃i j vs,a=.ref i∧k=.int j∧H[i]?=some vs∧(i≠0∧0≤j∧j<vs.length)∧K=H.set i (vs.set j.toNat v):=by
 cases a <;> first | (cases h;done) | skip
 cases k <;> first | (cases h;done) | skip
 obtain⟨vs,e1,e2⟩:=Zz0.mp h
 split at e2
 ·rename_i c
  cases e2
  exact⟨_,_,vs,rfl,rfl,e1,c,rfl⟩
 ·cases e2
theorem ZsU{a v x:V}{H K:Hp}(h:ZgJ [a,v] H=some (x,K)): ∃i,a=.ref i:=by
 cases a <;> first | (cases h;done) | skip
 exact⟨_,rfl⟩
noncomputable def ZeI(o f:Ex): Ex:=fun ρ H=>(o ρ H).bind fun p=>(f ρ p.2).bind fun q=>ZgJ [p.1,q.1] q.2
section
variable {prog:Program} {w:World} {Γ:Cx}
theorem S1.put{o i value:Expr}{pos' pos:Pos}{f g k:Ex}(hf:J prog w Γ value f)(ho:J prog w Γ o g)(hi:J prog w Γ i k)(hs:swapsWith value (some (.Subscript o i pos')) pos.line Γ.env=pure false:=by rfl): S1 prog w Γ (.Assign [.Subscript o i pos'] value pos) (ZbI f g k):=by
 intro W ρ H fr s Q E r rp hx post
 obtain⟨p,e1,hx⟩:=Zz0.mp hx
 obtain⟨q,e2,hx⟩:=Zz0.mp hx
 obtain⟨u,e3,hx⟩:=Zz0.mp hx
 obtain⟨K,e4,e5⟩:=Zz1.mp hx
 cases e5
 refine wpAny_Assign_Subscript (hf W ρ H fr s _ E _ _ rp e1 fun W1 k1 t1 x l1 r1 x1=>?_) hs
 refine ho W1 ρ _ fr _ _ E _ _ r1 e2 fun W2 k2 t2 y l2 r2 y2=>?_
 refine hi W2 ρ _ fr _ _ E _ _ r2 e3 fun W3 k3 t3 z l3 r3 z3=>?_
 have x3:=x1.mono (l2.trans l3)
 have y3:=y2.mono l3
 obtain⟨b,kk,vs,eb,ek,hvs,hc,e6⟩:=Zt9 e4
 subst e6
 rw[eb]at y3
 rw[ek]at z3
 cases y3 with
 | @ref _ a ea=>
 cases z3 with
 | int _ tz=>
 obtain⟨hl,xs,n,hg,hv⟩:=r3.at hvs ea
 obtain⟨m,c,led,r'⟩:=r3
 have hll:=hl
 rw[Zbm]at hll
 have hk:kk.toNat<xs.length:=by rw[hv.length];omega
 obtain⟨_,a',xs',n',h1,h2,h3⟩:=r'.R.lists b vs hvs
 rw[ea]at h1
 cases h1
 have h2:=r'.inLed hc.1 ea h2
 have N2:News Γ.h₀ Γ.L k3 ((a,Zb7 xs n)::led.filter (fun q=>decide (q.1≠a))):=by
  intro q hq
  rcases Zz7.mp hq with e | hq
  ·subst e
   exact⟨hg,(r'.N _ h2).2⟩
  ·exact r'.N q (List.mem_filter.mp hq).1
 refine ki_set (its:=xs.toArray) (n:=n) (q:=xs.set kk.toNat x) r'.F N2 hc.2.1 (by omega) (by simpa using ZqI hk) (Upd.head fun q hq=>by simpa using (List.mem_filter.mp hq).2) fun h' F' N'=>?_
 exact post W3 h' t3 ((l1.trans l2).trans l3) (r'.changed hc.1 hvs ea F' N' (hv.set _ x3) (by simpa using hl))
theorem J.append{o e:Expr}{apos pos:Pos}{f g:Ex}(ho:J prog w Γ o f)(he:J prog w Γ e g)(hbase:attributeBase o "append" Γ.env (eval o Γ.env)=eval o Γ.env:=by rfl)
  (hfew:((backTo pos (starEach [e] Γ.env)).all (fun x=>!x.1) && (backToKw pos (keywordEach [] Γ.env)).all (fun x=>x.1.isSome) && decide (([e]:List Expr).length+([]:List Keyword).length+(if([]:List Keyword).isEmpty then 0 else 1)<30))=true:=by rfl)
  (hline:(apos.endLine == pos.line)=true:=by rfl) (htrees:backTo pos (starEach [e] Γ.env)=[(false,eval e Γ.env)]:=by rfl):J prog w Γ (.Call (.Attribute o "append" apos) [e] [] pos) (ZeI f g):=by
 intro W ρ H fr s Q E v H' r hx post
 obtain⟨p,e1,hx⟩:=Zz0.mp hx
 obtain⟨q,e2,e3⟩:=Zz0.mp hx
 refine wpAny_Call_append hbase hfew hline htrees (ho W ρ H fr s _ E _ _ r e1 fun W1 k1 t1 x l1 r1 x1=>?_)
 obtain⟨v1,H1⟩:=p
 obtain⟨b,hb⟩:=ZsU e3
 subst hb
 have hb:=r1.refIn x1
 cases x1 with
 | @ref _ a ea=>
 obtain⟨_,xs,n,hg,hv⟩:=r1.at (List.getElem?_eq_getElem hb) ea
 refine⟨a,xs.toArray,rfl,⟨_,n,hg,rfl,rfl,rfl⟩,?_⟩
 refine he W1 ρ _ fr _ _ E _ _ r1 e2 fun W2 k2 t2 y l2 r2 y2=>?_
 exact Zt8 Γ W2 ρ _ fr _ Q E _ [.ref a,y] v H' r2 (.cons (.ref (l2.at ea)) (.cons y2 .nil)) e3 fun W3 k3 t3 z l3 r3 z3=>post W3 k3 t3 z ((l1.trans l2).trans l3) r3 z3
end
end PM
end
section
set_option autoImplicit false
namespace PM
open PySem PySem.W PyProof.Rows PyProof
noncomputable abbrev Nx:=Nat→Hp→Option (Option V)
noncomputable def ZxM(Γ:Cx)(W:Wd)(ρ:Lc)(H:Hp)(fr:List (Addr×Obj))(s:Shared)(It:Nat→List (Addr×Obj)→Prop)(i:Nat)(Q:Option Value→Shared→Prop): Option V→Prop
 | none=>∀(h':Heap) (tk':Nat),Rep Γ W ρ H fr h'→Q none { s with heap:=h',toks:=tk' }
 | some v=>∀(fs':List (Addr×Obj)) (h':Heap) (tk':Nat) (x:Value),It (i+1) fs'→Rep Γ W ρ H (fs'++fr) h'→VR W v x→Q (some x) { s with heap:=h',toks:=tk' }
structure Itr(prog:Program)(w:World)(Γ:Cx)(W0:Wd)(it:Value)(as:List Addr)(It:Nat→List (Addr×Obj)→Prop)(nx:Nx): Prop where
 adr:∀i fs,It i fs→fs.map (·.1)=as
 next:∀(i:Nat) (W:Wd) (ρ:Lc) (H:Hp) (fr fs:List (Addr×Obj)) (s:Shared) (Q:Option Value→Shared→Prop) (E:Value→Shared→Prop) (o:Option V),W0.Le W→Rep Γ W ρ H (fs++fr) s.heap→(∀a∈as,∀t∈fr,a≠t.1)→It i fs→nx i H=some o →
  ZxM Γ W ρ H fr s It i Q o→wpAny (model prog w) Γ.A (pyNext it) Q E s
 self:∀(i:Nat) (W:Wd) (ρ:Lc) (H:Hp) (fr fs:List (Addr×Obj)) (s:Shared) (Q E:Value→Shared→Prop),W0.Le W→Rep Γ W ρ H (fs++fr) s.heap→It i fs→Q it s→wpAny (model prog w) Γ.A (pyIter it) Q E s
noncomputable abbrev Src:=Lc→Hp→Option (Nx×Nat×Hp)
noncomputable def JI(prog:Program)(w:World)(Γ:Cx)(e:Expr)(g:Src): Prop:=∀(W:Wd) (ρ:Lc) (H:Hp) (fr:List (Addr×Obj)) (s:Shared) (Q E:Value→Shared→Prop) (nx:Nx) (n:Nat) (H':Hp),
 Rep Γ W ρ H fr s.heap→g ρ H=some (nx,n,H') →
 (∀(W':Wd) (h':Heap) (tk':Nat) (it:Value) (as:List Addr) (It:Nat→List (Addr×Obj)→Prop) (fs:List (Addr×Obj)),W.Le W'→It 0 fs→Rep Γ W' ρ H' (fs++fr) h'→(∀a∈as,∀t∈fr,a≠t.1)→Itr prog w Γ W' it as It nx→Q it { s with heap:=h',toks:=tk' }) →
 wpAny (model prog w) Γ.A (eval e Γ.env) (fun xv s₁=>wpAny (model prog w) Γ.A (pyIter xv) Q E s₁) E s
noncomputable def Zoa(a:Nat): Nx:=fun i H=>H[a]?.map fun vs=>vs[i]?
noncomputable def Zrk(vs:List V): Nx:=fun i _=>some vs[i]?
noncomputable def ZfA(a c:Int)(n:Nat): Nx:=fun i _=>some (if i<n then some (.int (a+i*c))else none)
noncomputable def Zby(f:Ex): Src:=fun ρ H=>(f ρ H).bind fun p=>match p.1 with
 | .ref a=>p.2[a]?.map fun vs=>(Zoa a,vs.length+1,p.2)
 | .tup vs=>some (Zrk vs,vs.length+1,p.2)
 | _=>none
noncomputable def rngN(a b c:Int): Nat:=(Builtin.Range.rangeSize a b c).toNat
noncomputable def ZcI(a b c:Int)(H:Hp): Option (Nx×Nat×Hp):=if c≠0∧Builtin.Range.small a b c=true∧0≤Builtin.Range.rangeSize a b c∧rngN a b c≤LEN∧Builtin.divisionGoesByPylong (b-a) c=false then some (ZfA a c (rngN a b c),rngN a b c+1,H)else none
noncomputable def ZaP(g:Exs): Src:=fun ρ H=>(g ρ H).bind fun p=>match p.1 with
 | [.int b]=>ZcI 0 b 1 p.2
 | [.int a,.int b]=>ZcI a b 1 p.2
 | [.int a,.int b,.int c]=>ZcI a b c p.2
 | _=>none
section
variable {prog:Program} {w:World} {Γ:Cx}
theorem Zob{W0:Wd}{I:Addr}{nx:Nx}(P:Nat→Obj→Prop)
  (next:∀(i:Nat) (W:Wd) (ρ:Lc) (H:Hp) (fr:List (Addr×Obj)) (ob:Obj) (s:Shared) (Q:Option Value→Shared→Prop) (E:Value→Shared→Prop) (o:Option V),W0.Le W→Rep Γ W ρ H ((I,ob)::fr) s.heap→P i ob→nx i H=some o →
   (match o with
    | none=>∀(h':Heap) (tk':Nat),(∀b o,b≠I→s.heap.get? b=some o→h'.get? b=some o)→Q none { s with heap:=h',toks:=tk' }
    | some v=>∀(ob':Obj) (h':Heap) (tk':Nat) (x:Value),P (i+1) ob'→h'.get? I=some ob'→(∀b o,b≠I→s.heap.get? b=some o→h'.get? b=some o)→VR W v x→Q (some x) { s with heap:=h',toks:=tk' })→wpAny (model prog w) Γ.A (pyNext (.ref I)) Q E s)
  (self:∀(i:Nat) (W:Wd) (ρ:Lc) (H:Hp) (fr:List (Addr×Obj)) (ob:Obj) (s:Shared) (Q E:Value→Shared→Prop),W0.Le W→Rep Γ W ρ H ((I,ob)::fr) s.heap→P i ob→Q (.ref I) s→wpAny (model prog w) Γ.A (pyIter (.ref I)) Q E s):
  Itr prog w Γ W0 (.ref I) [I] (fun i fs=>∃ob,fs=[(I,ob)]∧P i ob) nx:=by
 refine⟨?_,?_,?_⟩
 ·rintro i fs ⟨ob,e,_⟩
  rw[e]
  rfl
 ·rintro i W ρ H fr fs s Q E o le r ap ⟨ob,e,hp⟩ hn post
  subst e
  refine next i W ρ H fr ob s Q E o le r hp hn ?_
  have ap':∀q∈[(I,ob)],∀t∈fr,q.1≠t.1:=fun q hq t ht=>by rw[List.mem_singleton.mp hq];exact ap I Zz5 t ht
  cases o with
  | none=>
   intro h' tk' keep
   have:=Rep.swap (fs:=[(I,ob)]) (fs':=[]) r ap' (fun b o hb e=>keep b o (fun q=>hb (by simp[q])) e) (fun q hq=>nomatch hq)
   exact post h' tk' this
  | some v=>
   intro ob' h' tk' x hp' hg keep hx
   have:=Rep.swap (fs:=[(I,ob)]) (fs':=[(I,ob')]) r ap' (fun b o hb e=>keep b o (fun q=>hb (by simp[q])) e) (fun q hq=>by rw[List.mem_singleton.mp hq];exact⟨hg,by simp⟩)
   exact post [(I,ob')] h' tk' x ⟨ob',rfl,hp'⟩ this hx
 ·rintro i W ρ H fr fs s Q E le r ⟨ob,e,hp⟩ q
  subst e
  exact self i W ρ H fr ob s Q E le r hp q
theorem JI.seq{e:Expr}{f:Ex}(h:J prog w Γ e f): JI prog w Γ e (Zby f):=by
 intro W ρ H fr s Q E nx n H' r hf post
 obtain⟨p,e1,hf⟩:=Zz0.mp hf
 refine h W ρ H fr s _ E _ _ r e1 fun W1 k1 t1 x l1 r1 x1=>?_
 obtain⟨v,H1⟩:=p
 cases x1 with
 | none=>cases hf
 | bool _=>cases hf
 | int _ _=>cases hf
 | str _ _=>cases hf
 | @tup vs a xs k hm hl hs=>
  cases hf
  have it:k1.IsTuple a xs.toArray:=⟨_,r1.tupAt hm,rfl,k,rfl⟩
  refine wpAny_pyIter_tuple it ?_
  obtain⟨r2,ap⟩:=r1.more (fs:=[(k1.objs.size,{ cls:=.type "tuple_iterator",data:=.fields #[.ref a,.int 0 0] })]) (fun b o e=>Heap.get?_push_of_some { cls:=.type "tuple_iterator",data:=.fields #[.ref a,.int 0 0] } e) (fun q hq=>by rw[List.mem_singleton.mp hq];exact⟨Heap.get?_push_size _ rfl,Nat.le_refl _⟩)
  refine post W1 _ t1 _ [k1.objs.size] _ _ l1 ⟨_,rfl,?_⟩ r2 (fun b hb t ht=>by rw[List.mem_singleton.mp hb];exact ap _ Zz5 t ht)
   (Zob (fun i ob=>ob.cls=.type "tuple_iterator"∧ob.data=.fields #[.ref a,.int i 0]) ?_ ?_)
  ·intro i W ρ H fr ob s Q E o le r hp hn post
   have g1:s.heap.IsTupleIter k1.objs.size a i:=⟨ob,r.frAt Zz5,hp.1,hp.2⟩
   have g2:s.heap.IsTuple a xs.toArray:=⟨_,r.tupAt (le.tups _ hm),rfl,k,rfl⟩
   have ne:a≠k1.objs.size:=Nat.ne_of_lt (Heap.lt_size (r1.tupAt hm))
   have Wk:=Walks.tuple (prog:=prog) (w:=w) Γ.hh k1.objs.size a ne xs.toArray
   cases hn
   cases ev:vs[i]? with
   | none=>
    rw[ev]at post
    have hi:xs.toArray[i]?=none:=by have:=List.getElem?_eq_none_iff.mp ev;rw[←hs.length]at this;simpa using this
    exact wpAny_pyNext_tuple_end Γ.hh g1 g2 hi fun h' he'=>post h' s.toks fun b o hb e=>he' b o hb e
   | some v=>
    rw[ev]at post
    obtain⟨y,hy,ry⟩:=hs.at ev
    refine wpAny_pyNext_tuple_item g1 g2 (x:=y) (by simpa using hy) fun h' hit' hs'=>?_
    obtain⟨ob',h1,h2,h3⟩:=hit'
    exact post ob' h' s.toks y ⟨h2,h3⟩ h1 (fun b o hb e=>hs'.extBut b o hb e) (ry.mono le)
  ·intro i W ρ H fr ob s Q E le r hp q
   exact wpAny_pyIter_tupleiter (⟨ob,r.frAt Zz5,hp.1,hp.2⟩:s.heap.IsTupleIter k1.objs.size a i) q
  ·exact⟨rfl,rfl⟩
 | @ref i0 a ea=>
  obtain⟨vs,e2,e3⟩:=Zz1.mp hf
  cases e3
  obtain⟨hl,xs,k,hg,hv⟩:=r1.at e2 ea
  have isl:k1.IsList a xs.toArray:=⟨_,hg,rfl,k,rfl⟩
  refine wpAny_pyIter_list isl ?_
  obtain⟨r2,ap⟩:=r1.more (fs:=[(k1.objs.size,{ cls:=.type "list_iterator",data:=.fields #[.ref a,.int 0 0] })]) (fun b o e=>Heap.get?_push_of_some { cls:=.type "list_iterator",data:=.fields #[.ref a,.int 0 0] } e) (fun q hq=>by rw[List.mem_singleton.mp hq];exact⟨Heap.get?_push_size _ rfl,Nat.le_refl _⟩)
  refine post W1 _ t1 _ [k1.objs.size] _ _ l1 ⟨_,rfl,?_⟩ r2 (fun b hb t ht=>by rw[List.mem_singleton.mp hb];exact ap _ Zz5 t ht)
   (Zob (fun i ob=>ob.cls=.type "list_iterator"∧ob.data=.fields #[.ref a,.int i 0]) ?_ ?_)
  ·intro i W ρ H fr ob s Q E o le r hp hn post
   obtain⟨us,eu,e4⟩:=Zz1.mp hn
   subst e4
   obtain⟨hl2,ys,k2,hg2,hv2⟩:=r.at eu (le.at ea)
   have g1:s.heap.IsListIter k1.objs.size a i:=⟨ob,r.frAt Zz5,hp.1,hp.2⟩
   have g2:s.heap.IsList a ys.toArray:=⟨_,hg2,rfl,k2,rfl⟩
   cases ev:us[i]? with
   | none=>
    rw[ev]at post
    have hi:ys.toArray[i]?=none:=by have:=List.getElem?_eq_none_iff.mp ev;rw[←hv2.length]at this;simpa using this
    exact wpAny_pyNext_list_end Γ.hh g1 g2 hi fun h' he'=>post h' s.toks fun b o hb e=>he' b o hb e
   | some v=>
    rw[ev]at post
    obtain⟨y,hy,ry⟩:=hv2.at ev
    refine wpAny_pyNext_list_item g1 g2 (x:=y) (by simpa using hy) fun h' hit' hs'=>?_
    obtain⟨ob',h1,h2,h3⟩:=hit'
    exact post ob' h' s.toks y ⟨h2,h3⟩ h1 (fun b o hb e=>hs'.extBut b o hb e) ry
  ·intro i W ρ H fr ob s Q E le r hp q
   exact wpAny_pyIter_listiter (⟨ob,r.frAt Zz5,hp.1,hp.2⟩:s.heap.IsListIter k1.objs.size a i) q
  ·exact⟨rfl,rfl⟩
theorem ZsV{a b c:Int}{H:Hp}{z:Nx×Nat×Hp}(h:ZcI a b c H=some z): c≠0∧Builtin.divisionGoesByPylong (b-a) c=false:=by
 unfold ZcI at h
 split at h
 ·rename_i hc
  exact⟨hc.1,hc.2.2.2.2⟩
 ·cases h
theorem ZuM{W0:Wd}{I:Addr}{a c:Int}{n:Nat}: Itr prog w Γ W0 (.ref I) [I] (fun i fs=>∃ob,fs=[(I,ob)]∧(i≤n∧ob = { cls:=.type "range_iterator",dict:=none,data:=.fields #[rawInt (a+(i:Nat)*c),rawInt ((n:Int)-(i:Nat)),rawInt c],slots:=#[] })) (ZfA a c n):=by
 have Wk:=Walks.range (prog:=prog) (w:=w) Γ.hh I a c n
 refine Zob (fun i ob=>i≤n∧ob = { cls:=.type "range_iterator",dict:=none,data:=.fields #[rawInt (a+(i:Nat)*c),rawInt ((n:Int)-(i:Nat)),rawInt c],slots:=#[] }) ?_ ?_
 ·intro i W ρ H fr ob s Q E o le r hp hn post
  have g:IsRangeIter s.heap I (a+(i:Nat)*c) ((n:Int)-(i:Nat)) c:=(r.frAt Zz5).trans (congrArg some hp.2)
  cases hn
  by_cases hi:i<n
  ·rw[if_pos hi]at post
   refine Wk.item i s Q E hi g fun v h' tk hv st keep=>?_
   obtain⟨t,e⟩:=hv
   subst e
   exact post _ h' tk _ ⟨hi,rfl⟩ st (fun b o hb e=>keep b o (by simpa using hb) e) (.int _ _)
  ·rw[if_neg hi]at post
   have e:i=n:=by have:=hp.1;omega
   subst e
   exact Wk.done s Q E g fun h' tk keep=>post h' tk fun b o hb e=>keep b o (by simpa using hb) e
 ·intro i W ρ H fr ob s Q E le r hp q
  have g:IsRangeIter s.heap I (a+(i:Nat)*c) ((n:Int)-(i:Nat)) c:=(r.frAt Zz5).trans (congrArg some hp.2)
  exact Wk.self i s Q E g q
theorem ZlQ{a b c:Int}{t u v:Tok}{W:Wd}{ρ:Lc}{H:Hp}{fr:List (Addr×Obj)}{s:Shared}{k:Heap}{tk:Nat}{Q E:Value→Shared→Prop}{nx:Nx}{n:Nat}{H':Hp}(r:Rep Γ W ρ H fr k)(hm:ZcI a b c H=some (nx,n,H'))
  (post:∀(W':Wd) (h':Heap) (tk':Nat) (it:Value) (as:List Addr) (It:Nat→List (Addr×Obj)→Prop) (fs:List (Addr×Obj)),W.Le W'→It 0 fs→Rep Γ W' ρ H' (fs++fr) h'→(∀a∈as,∀t∈fr,a≠t.1)→Itr prog w Γ W' it as It nx→Q it { s with heap:=h',toks:=tk' }):
  wpAny (model prog w) Γ.A (pyIter (.ref k.objs.size)) Q E { s with heap:=k.push { cls:=.type "range",data:=.fields #[.int a t,.int b u,.int c v] },toks:=tk }:=by
 unfold ZcI at hm
 split at hm
 ·rename_i hc
  cases hm
  have hr:IsRange (k.push { cls:=.type "range",data:=.fields #[.int a t,.int b u,.int c v] }) k.objs.size a b c t u v:=IsRange.new ..
  refine wpAny_pyIter_range hr hc.2.1 ?_
  have rp:=r.push { cls:=.type "range",data:=.fields #[.int a t,.int b u,.int c v] }
  have en:Builtin.Range.rangeSize a b c=((rngN a b c:Nat):Int):=(Int.toNat_of_nonneg hc.2.2.1).symm
  dsimp only
  generalize hk:k.push { cls:=.type "range",data:=.fields #[.int a t,.int b u,.int c v] } = k2 at rp ⊢
  obtain⟨r2,ap⟩:=rp.more (fs:=[(k2.objs.size,{ cls:=.type "range_iterator",data:=.fields #[rawInt a,rawInt (Builtin.Range.rangeSize a b c),rawInt c] })]) (fun b' o e=>Heap.get?_push_of_some { cls:=.type "range_iterator",data:=.fields #[rawInt a,rawInt (Builtin.Range.rangeSize a b c),rawInt c] } e) (fun q hq=>by rw[List.mem_singleton.mp hq];exact⟨Heap.get?_push_size _ rfl,Nat.le_refl _⟩)
  refine post W _ tk _ [k2.objs.size] _ _ (.refl W) ⟨_,rfl,Nat.zero_le _,?_⟩ r2 (fun b hb t ht=>by rw[List.mem_singleton.mp hb];exact ap _ Zz5 t ht) (ZuM (a:=a) (c:=c) (n:=rngN a b c))
  rw[en]
  simp
 ·cases hm
theorem JI.range{x:Str}{np pos:Pos}{e:Expr}{es:List Expr}{g:Exs}(hn:Nm prog w Γ x (.type "range"))(h:Js prog w Γ (e::es) g)
  (he:starEach (e::es) Γ.env=(false,eval e Γ.env)::starEach es Γ.env:=by rfl) (hp:∀pos,(backTo pos (starEach es Γ.env)).any (·.1)=false:=by intro _;rfl):JI prog w Γ (.Call (.Name x np) (e::es) [] pos) (ZaP g):=by
 intro W ρ H fr s Q E nx n H' r hf post
 obtain⟨p,e1,hf⟩:=Zz0.mp hf
 refine wpAny_Call_ofName (hn.use r ?_)
 refine PySem.Pv.callWith_type1 (h pos W ρ H fr s _ E _ _ r e1 fun W1 k1 t1 xs l1 r1 x1=>?_) he (hp pos)
 obtain⟨vs,H1⟩:=p
 dsimp only at hf x1 r1
 have post1:=fun W' h' tk' it as It fs (l:W1.Le W')=>post W' h' tk' it as It fs (l1.trans l)
 split at hf
 ·obtain⟨y,ex,ry⟩:=x1.one
  subst ex
  cases ry
  exact call_range_1 (ZlQ r1 hf post1)
 ·obtain⟨y,z,ex,ry,rz⟩:=x1.two
  subst ex
  cases ry
  cases rz
  exact call_range_2 (ZlQ r1 hf post1)
 ·cases x1 with
  | cons ry x1=>
  obtain⟨y,z,ex,rz,ru⟩:=x1.two
  subst ex
  cases ry
  cases rz
  cases ru
  have hc:=ZsV hf
  exact call_range_3 hc.1 (ZlQ r1 hf post1) (.inl hc.2)
 ·cases hf
end
noncomputable def Zds(nx:Nx)(put:V→Lc→Option Lc)(b:Sm): Nat→Nat→Sm
 | 0,_=>fun _ _=>none
 | n+1,i=>fun ρ H=>(nx i H).bind fun o=>match o with
  | none=>some (none,ρ,H)
  | some v=>(put v ρ).bind fun ρ1=>(b ρ1 H).bind fun q=>match q.1 with
   | some _=>some q
   | none=>Zds nx put b n (i+1) q.2.1 q.2.2
noncomputable def ZaM(g:Src)(put:V→Lc→Option Lc)(b:Sm): Sm:=fun ρ H=>(g ρ H).bind fun z=>Zds z.1 put b z.2.1 0 ρ z.2.2
noncomputable def put1(i:Nat): V→Lc→Option Lc:=fun v ρ=>some (upd ρ i v)
section
variable {prog:Program} {w:World} {Γ:Cx}
theorem Zbk{x:Str}{i:Nat}{px pos:Pos}{it:Expr}{body:List Stmt}{g:Src}{b:Sm}(hx:Sto prog w Γ x i)(hg:JI prog w Γ it g)(hb:Ss prog w Γ body b)(hs:∀x,foldedSetIterable it Γ.env x=pure x:=by intro _;rfl): S1 prog w Γ (.For (.Name x px) it body [] pos) (ZaM g (put1 i) b):=by
 intro W ρ H fr s Q E r rp hf post
 obtain⟨z,e1,hf⟩:=Zz0.mp hf
 obtain⟨nx,n,H0⟩:=z
 refine wpAny_For (hg W ρ H fr s _ E nx n H0 rp e1 fun W1 k1 t1 itv as It fs l1 i1 r1 ap I1=>?_) hs
 refine codeAny_forLoop (fun k s'=>∃W' ρ' H' h' tk' j fs',s' = { s with heap:=h',toks:=tk' }∧W1.Le W'∧It j fs'∧Rep Γ W' ρ' H' (fs'++fr) h'∧Zds nx (put1 i) b k j ρ' H'=some r) ?_ n ⟨W1,ρ,H0,k1,t1,0,fs,rfl,.refl _,i1,r1,hf⟩
 rintro k s' ⟨W2,ρ2,H2,k2,t2,j,fs2,rfl,l2,i2,r2,e⟩
 cases k with
 | zero=>cases e
 | succ k=>
  obtain⟨o,e2,e⟩:=Zz0.mp e
  refine I1.next j W2 ρ2 H2 fr fs2 _ _ _ o l2 r2 ap i2 e2 ?_
  cases o with
  | none=>
   cases e
   intro h' tk' r3
   exact wpAny_execs_nil (post W2 h' tk' (l1.trans l2) r3)
  | some v=>
   intro fs3 k3 t3 y i3 r3 y3
   obtain⟨ρ3,e3,e⟩:=Zz0.mp e
   cases e3
   obtain⟨q,e4,e⟩:=Zz0.mp e
   refine wpAny_assign_Name (hx W2 ρ2 H2 (fs3++fr) _ _ _ v y r3 y3 fun k4 t4 r4=>?_)
   refine hb W2 _ H2 (fs3++fr) _ _ _ q r4 e4 ?_
   obtain⟨u,ρ5,H5⟩:=q
   cases u with
   | some u=>
    cases e
    exact fun W5 k5 t5 x5 l5 r5 v5=>post W5 k5 t5 x5 ((l1.trans l2).trans l5) (r5.less fun q hq=>List.mem_append_right _ hq) v5
   | none=>exact fun W5 k5 t5 l5 r5=>⟨k,Nat.lt_succ_self k,W5,ρ5,H5,k5,t5,j+1,fs3,rfl,l2.trans l5,i3,r5,e⟩
end
end PM
end
section
set_option autoImplicit false
namespace PM
open PySem PySem.W PySem.Calls PyProof.Rows PyProof
structure OwnF(names:List Str)(cs:Scope)(cl:List (Str×Addr))(W:Wd)(ρ:Lc)(m:Str→Option Value)(cells:List (Addr×Obj)): Prop where
 loc:∀(i:Nat) (x:Str) (v:V),names[i]?=some x→cs.names.lookup x=some .local→ρ i=some v→∃y,m x=some y∧VR W v y
 cel:∀(i:Nat) (x:Str) (v:V),names[i]?=some x→cs.names.lookup x=some .cell→ρ i=some v→∃c o y,cl.lookup x=some c∧(c,o)∈cells∧o.data=.cell (some y)∧VR W v y
 all:∀(x:Str) (c:Addr),cl.lookup x=some c→∃o v₀,(c,o)∈cells∧o.data=.cell v₀
 one:∀(x y:Str) (c:Addr),cl.lookup x=some c→cl.lookup y=some c→x=y
theorem OwnF.mono{names:List Str}{cs:Scope}{cl:List (Str×Addr)}{W W':Wd}{ρ:Lc}{m:Str→Option Value}{cells:List (Addr×Obj)}(l:W.Le W')(h:OwnF names cs cl W ρ m cells): OwnF names cs cl W' ρ m cells:=
 ⟨fun i x v a b c=>by
  obtain⟨y,h1,h2⟩:=h.loc i x v a b c
  exact⟨y,h1,h2.mono l⟩,fun i x v a b c=>by
  obtain⟨d,o,y,h1,h2,h3,h4⟩:=h.cel i x v a b c
  exact⟨d,o,y,h1,h2,h3,h4.mono l⟩,h.all,h.one⟩
noncomputable def ZbX(dp un:Nat)(gd:Option (List Code))(cn:Str)(cs:Scope)(L a:Addr)(ccd:Value)(cl:List (Str×Addr))(outer:List Env)(h₀:Heap)(hu:un+200<cLine)(names:List Str): Cx where
 A:=ktrTop dp un gd cn cs L a ccd cl outer
 env:=envX cn cs L a ccd cl
 h₀:=h₀
 L:=L
 hh:=rfl
 hu:=hu
 Own:=OwnF names cs cl
 mono:=OwnF.mono
section
variable {prog:Program} {w:World} {dp un:Nat} {gd:Option (List Code)} {cn:Str} {cs:Scope} {L a:Addr} {ccd:Value} {cl:List (Str×Addr)} {outer:List Env} {h₀:Heap} {hu:un+200<cLine} {names:List Str}
theorem ZwP{x:Str}{i:Nat}(hi:names[i]?=some x)(hx:cs.names.lookup x=some .local)(hk:cs.kind=.function)(hd:(x == ("__debug__":Str))=false): Rd prog w (ZbX dp un gd cn cs L a ccd cl outer h₀ hu names) x i:=by
 intro W ρ H fr s Q E v pos r e q
 obtain⟨m,c,led,r⟩:=r
 obtain⟨y,h1,h2⟩:=r.own.loc i x v hi hx e
 exact nameX_L r.F h1 (q y h2) hk hx hd
theorem ZwQ{x:Str}{i:Nat}(hi:names[i]?=some x)(hx:cs.names.lookup x=some .cell)(hk:cs.kind=.function)(hd:(x == ("__debug__":Str))=false): Rd prog w (ZbX dp un gd cn cs L a ccd cl outer h₀ hu names) x i:=by
 intro W ρ H fr s Q E v pos r e q
 obtain⟨m,c,led,r⟩:=r
 obtain⟨d,o,y,h1,h2,h3,h4⟩:=r.own.cel i x v hi hx e
 exact nameX_C r.N h1 (r.clIn _ h2) h3 (q y h4) hk hx hd
theorem ZvB{x:Str}{i:Nat}(nd:names.Nodup)(hi:names[i]?=some x)(hx:cs.names.lookup x=some .local)(hk:cs.kind=.function): Sto prog w (ZbX dp un gd cn cs L a ccd cl outer h₀ hu names) x i:=by
 intro W ρ H fr s Q E v y r vy q
 obtain⟨m,c,led,r⟩:=r
 have hi':i<names.length:=(Zz6.mp hi).1
 refine storeX_L r.F r.N (fun h' F' N'=>q h' _ ⟨_,c,led,⟨F',N',r.R,r.sc,r.sc0,r.frIn,r.frOff,r.clIn,r.clOff,r.apart,r.frTup,r.clTup,⟨fun j z u hj hz hu=>?_,fun j z u hj hz hu=>?_,r.own.all,r.own.one⟩⟩⟩) hk hx
 ·by_cases e:j=i
  ·subst e
   rw[hi]at hj
   cases hj
   simp only[upd,if_true]at hu
   cases hu
   exact⟨y,by simp,vy⟩
  ·have hzx:z≠x:=fun e'=>by
    subst e'
    exact e ((List.getElem?_inj (Zz6.mp hj).1 nd).mp (hj.trans hi.symm))
   simp only[upd,if_neg e]at hu
   obtain⟨y',h1,h2⟩:=r.own.loc j z u hj hz hu
   exact⟨y',by simp[hzx,h1],h2⟩
 ·by_cases e:j=i
  ·subst e
   rw[hi]at hj
   cases hj
   rw[hx]at hz
   cases hz
  ·simp only[upd,if_neg e]at hu
   exact r.own.cel j z u hj hz hu
theorem ZvC{x:Str}{i:Nat}(nd:names.Nodup)(hi:names[i]?=some x)(hx:cs.names.lookup x=some .cell)(hk:cs.kind=.function)(hcl:(cl.lookup x).isSome=true): Sto prog w (ZbX dp un gd cn cs L a ccd cl outer h₀ hu names) x i:=by
 intro W ρ H fr s Q E v y r vy q
 obtain⟨m,c,led,r⟩:=r
 obtain⟨d,hd⟩:=Option.isSome_iff_exists.mp hcl
 obtain⟨o,v₀,ho,hv₀⟩:=r.own.all x d hd
 have inl:=r.clIn _ ho
 have N2:News h₀ L s.heap ((d,o)::led.filter (fun q=>decide (q.1≠d))):=by
  intro q hq
  rcases Zz7.mp hq with e | hq
  ·subst e
   exact r.N _ inl
  ·exact r.N q (List.mem_filter.mp hq).1
 refine storeX_C r.F N2 hd (UpdF.head fun q hq=>by simpa using (List.mem_filter.mp hq).2) hv₀ (fun h' o' F' N' ho'=>?_) hk hx
 have keep:∀q∈led,q.1≠d→q∈(d,o')::led.filter (fun q=>decide (q.1≠d)):=fun q hq hn=>List.mem_cons_of_mem _ (List.mem_filter.mpr ⟨hq,by simpa using hn⟩)
 refine q h' s.toks ⟨m,(d,o')::c.filter (fun q=>decide (q.1≠d)),_,⟨F',N',⟨r.R.len,r.R.nd,fun j vs e=>?_,fun q hq=>Zer (r.R.tups q hq) fun z=>keep q z (r.clTup _ ho q hq).symm,r.R.kind⟩,r.sc,r.sc0,fun q hq=>keep q (r.frIn q hq) (r.apart _ ho q hq).symm,r.frOff,fun q hq=>?_,fun q hq=>?_,fun q hq t ht=>?_,r.frTup,fun q hq t ht=>?_,⟨fun j z u hj hz hu=>?_,fun j z u hj hz hu=>?_,fun z e hz=>?_,r.own.one⟩⟩⟩
 ·obtain⟨l,b,xs,k,h1,h2,h3⟩:=r.R.lists j vs e
  exact⟨l,b,xs,k,h1,Zer h2 fun z=>keep _ z fun e=>r.clOff _ ho (e▸List.mem_of_getElem? h1),h3⟩
 ·rcases Zz7.mp hq with e | hq
  ·exact e▸List.mem_cons_self
  ·obtain⟨h1,h2⟩:=List.mem_filter.mp hq
   exact keep q (r.clIn q h1) (by simpa using h2)
 ·rcases Zz7.mp hq with e | hq
  ·rw[e]
   exact(r.clOff _ ho:d∉W.pi)
  ·exact r.clOff q (List.mem_filter.mp hq).1
 ·rcases Zz7.mp hq with e | hq
  ·rw[e]
   exact(r.apart _ ho t ht:d≠t.1)
  ·exact r.apart q (List.mem_filter.mp hq).1 t ht
 ·rcases Zz7.mp hq with e | hq
  ·rw[e]
   exact(r.clTup _ ho t ht:d≠t.1)
  ·exact r.clTup q (List.mem_filter.mp hq).1 t ht
 ·by_cases e:j=i
  ·subst e
   rw[hi]at hj
   cases hj
   rw[hx]at hz
   cases hz
  ·simp only[upd,if_neg e]at hu
   exact r.own.loc j z u hj hz hu
 ·by_cases e:j=i
  ·subst e
   rw[hi]at hj
   cases hj
   simp only[upd,if_true]at hu
   cases hu
   exact⟨d,o',y,hd,List.mem_cons_self,ho',vy⟩
  ·have hzx:z≠x:=fun e'=>by
    subst e'
    exact e ((List.getElem?_inj (Zz6.mp hj).1 nd).mp (hj.trans hi.symm))
   simp only[upd,if_neg e]at hu
   obtain⟨b,ob,y',h1,h2,h3,h4⟩:=r.own.cel j z u hj hz hu
   have:b≠d:=fun e'=>by
    subst e'
    exact hzx (r.own.one z x b h1 hd)
   exact⟨b,ob,y',h1,List.mem_cons_of_mem _ (List.mem_filter.mpr ⟨h2,by simpa using this⟩),h3,h4⟩
 ·by_cases e':e=d
  ·subst e'
   exact⟨o',_,List.mem_cons_self,ho'⟩
  ·obtain⟨ob,v1,h1,h2⟩:=r.own.all z e hz
   exact⟨ob,v1,List.mem_cons_of_mem _ (List.mem_filter.mpr ⟨h1,by simpa using e'⟩),h2⟩
end
end PM
end
section
set_option autoImplicit false
namespace PM
open PySem PySem.W PySem.Calls PyProof.Rows PyProof PyProof.Rows.LCg
theorem Zgr{Γ:Cx}{W:Wd}{ρ:Lc}{H:Hp}{fr:List (Addr×Obj)}{h:Heap}{D:Addr}{ys:List Value}{k:Nat}{vs:List V}(r:Rep Γ W ρ H ((D,Zb7 ys k)::fr) h)(ap:∀t∈fr,D≠t.1)(hv:VRs W vs ys)(hl:vs.length≤LEN):
  ∃W',W.Le W'∧Rep Γ W' ρ (H++[vs]) fr h∧VR W' (.ref H.length) (.ref D):=by
 obtain⟨m,c,led,r⟩:=r
 have le:W.Le ⟨W.pi++[D],W.tups,W.sc⟩:=⟨List.prefix_append _ _,fun q hq=>hq,rfl⟩
 have h0:0<W.pi.length:=(Zz6.mp r.sc0).1
 have at_n:(W.pi++[D])[H.length]?=some D:=by rw[←r.R.len];simp
 have off:=r.frOff _ Zz5
 refine⟨⟨W.pi++[D],W.tups,W.sc⟩,le,⟨m,c,led,⟨r.F,r.N,⟨by simp[r.R.len],?_,fun i us e=>?_,r.R.tups,r.R.kind⟩,r.sc,(List.getElem?_append_left h0).trans r.sc0,fun q hq=>r.frIn q (Zz2 _ hq),fun q hq=>?_,r.clIn,fun q hq=>?_,fun q hq t ht=>r.apart q hq t (Zz2 _ ht),fun q hq=>r.frTup q (Zz2 _ hq),r.clTup,Γ.mono le r.own⟩⟩,.ref at_n⟩
 ·show(W.pi++[D]).Nodup
  rw[List.nodup_append]
  refine⟨r.R.nd,by simp,fun a ha b hb=>?_⟩
  rw[List.mem_singleton.mp hb]
  exact fun e=>off (e▸ha)
 ·by_cases hi:i<H.length
  ·rw[List.getElem?_append_left hi]at e
   obtain⟨l,a,zs,j,h1,h2,h3⟩:=r.R.lists i us e
   exact⟨l,a,zs,j,le.at h1,h2,h3.mono le⟩
  ·have:i=H.length:=by
    have:=(Zz6.mp e).1
    simp at this
    omega
   subst this
   simp at e
   subst e
   exact⟨hl,D,ys,k,at_n,List.mem_cons_of_mem _ (r.frIn _ Zz5),hv.mono le⟩
 ·intro hm
  rcases Zz8.mp hm with hm | hm
  ·exact r.frOff q (Zz2 _ hq) hm
  ·exact ap q hq (Zz9.mp hm).symm
 ·intro hm
  rcases Zz8.mp hm with hm | hm
  ·exact r.clOff q hq hm
  ·exact r.apart q hq _ Zz5 (Zz9.mp hm)
noncomputable def Zx9(Γ:Cx)(C:Addr)(ts:List (Str×Nat))(ρ0:Lc)(W:Wd)(ρ:Lc)(m:Str→Option Value)(cells:List (Addr×Obj)): Prop:=
 ∃oC m₂ cs,cells=(C,oC)::cs∧(∀q∈cs,q.1≠C)∧NsObj oC m₂∧(∀p∈ts,∃v y,ρ p.2=some v∧m₂ p.1=some y∧VR W v y)∧(∀j,(∀p∈ts,p.2≠j)→ρ j=ρ0 j)∧Γ.Own W ρ0 m cs
noncomputable def Zbz(Γ:Cx)(scope:Scope)(cl:List (Str×Addr))(C:Addr)(ts:List (Str×Nat))(ρ0:Lc): Cx where
 A:=Γ.A
 env:=compEnvC scope cl C Γ.env
 h₀:=Γ.h₀
 L:=Γ.L
 hh:=Γ.hh
 hu:=Γ.hu
 Own:=Zx9 Γ C ts ρ0
 mono:=fun l h=>by
  obtain⟨oC,m₂,cs,e,h0,h1,h2,h3,h4⟩:=h
  exact⟨oC,m₂,cs,e,h0,h1,fun p hp=>by
   obtain⟨v,y,a,b,c⟩:=h2 p hp
   exact⟨v,y,a,b,c.mono l⟩,h3,Γ.mono l h4⟩
section
variable {Γ:Cx} {scope:Scope} {cl:List (Str×Addr)} {C:Addr} {ts:List (Str×Nat)} {ρ0:Lc} {W:Wd} {ρ:Lc} {H:Hp} {fr:List (Addr×Obj)} {h:Heap}
theorem ZqJ{oC:Obj}{m₂:Str→Option Value}(r:Rep Γ W ρ0 H ((C,oC)::fr) h)(ap:∀t∈fr,C≠t.1)(hC:NsObj oC m₂)(ht:∀p∈ts,∃v y,ρ p.2=some v∧m₂ p.1=some y∧VR W v y)(hj:∀j,(∀p∈ts,p.2≠j)→ρ j=ρ0 j): Rep (Zbz Γ scope cl C ts ρ0) W ρ H fr h:=by
 obtain⟨m,c,led,r⟩:=r
 refine⟨m,(C,oC)::c,led,⟨r.F,r.N,r.R,r.sc,r.sc0,fun q hq=>r.frIn q (Zz2 _ hq),fun q hq=>r.frOff q (Zz2 _ hq),fun q hq=>?_,fun q hq=>?_,fun q hq t ht=>?_,fun q hq=>r.frTup q (Zz2 _ hq),fun q hq t ht=>?_,⟨oC,m₂,c,rfl,fun q hq=>r.apart q hq _ Zz5,hC,ht,hj,r.own⟩⟩⟩
 ·rcases Zz7.mp hq with e | hq
  ·exact e▸r.frIn _ Zz5
  ·exact r.clIn q hq
 ·rcases Zz7.mp hq with e | hq
  ·exact e▸r.frOff _ Zz5
  ·exact r.clOff q hq
 ·rcases Zz7.mp hq with e | hq
  ·exact e▸ap t ht
  ·exact r.apart q hq t (Zz2 _ ht)
 ·rcases Zz7.mp hq with e | hq
  ·exact e▸r.frTup _ Zz5 t ht
  ·exact r.clTup q hq t ht
theorem Rep.fromC(r:Rep (Zbz Γ scope cl C ts ρ0) W ρ H fr h): ∃oC m₂,NsObj oC m₂∧Rep Γ W ρ0 H ((C,oC)::fr) h:=by
 obtain⟨m,c,led,r⟩:=r
 obtain⟨oC,m₂,cs,e,h0,h1,h2,h3,h4⟩:=r.own
 subst e
 refine⟨oC,m₂,h1,m,cs,led,⟨r.F,r.N,r.R,r.sc,r.sc0,fun q hq=>?_,fun q hq=>?_,fun q hq=>r.clIn q (Zz2 _ hq),fun q hq=>r.clOff q (Zz2 _ hq),fun q hq t ht=>?_,fun q hq t ht=>?_,fun q hq=>r.clTup q (Zz2 _ hq),h4⟩⟩
 ·rcases Zz7.mp hq with e | hq
  ·exact e▸r.clIn _ Zz5
  ·exact r.frIn q hq
 ·rcases Zz7.mp hq with e | hq
  ·exact e▸r.clOff _ Zz5
  ·exact r.frOff q hq
 ·rcases Zz7.mp ht with e | ht
  ·rw[e]
   exact h0 q hq
  ·exact r.apart q (Zz2 _ hq) t ht
 ·rcases Zz7.mp hq with e | hq
  ·exact e▸r.clTup _ Zz5 t ht
  ·exact r.frTup q hq t ht
end
noncomputable def JF(prog:Program)(w:World)(Γ:Cx)(ifs:List Expr)(f:Ts): Prop:=∀(W:Wd) (ρ:Lc) (H:Hp) (fr:List (Addr×Obj)) (s:Shared) (Q:Bool→Shared→Prop) (E:Value→Shared→Prop) (b:Bool) (H':Hp),
 Rep Γ W ρ H fr s.heap→f ρ H=some (b,H')→Zjh Γ W ρ H' fr s Q b →
 wpAny (model prog w) Γ.A (forIn ifs true fun c r=>if r=true then do let ok ←isTrue c Γ.env (eval c Γ.env);pure (ForInStep.yield ok)else pure (ForInStep.yield r)) Q E s
section
variable {prog:Program} {w:World} {Γ:Cx}
theorem JF.nil: JF prog w Γ [] Zam:=fun W ρ H fr s Q E b H' r hf post=>by
 cases hf
 exact wpAny_pure (post W s.heap s.toks (.refl W) r)
theorem JF.one{e:Expr}{t:Ts}(h:JT prog w Γ e t): JF prog w Γ [e] t:=fun W ρ H fr s Q E b H' r hf post=>by
 rw[List.forIn_cons]
 simp only[if_true,List.forIn_nil]
 refine wpAny_bind (wpAny_bind (h W ρ H fr s _ E b H' r hf fun W1 k1 t1 l1 r1=>wpAny_pure ?_))
 exact wpAny_pure (post W1 k1 t1 l1 r1)
end
end PM
end
section
set_option autoImplicit false
namespace PM
open PySem PySem.W PySem.Calls PyProof.Rows PyProof PyProof.Rows.LCg
noncomputable def ZcW(nx:Nx)(put:V→Lc→Option Lc)(c:Ts)(f:Ex)(ρ:Lc): Nat→Nat→List V→Hp→Option (List V×Hp)
 | 0,_,_,_=>none
 | n+1,i,acc,H=>(nx i H).bind fun o=>match o with
  | none=>some (acc,H)
  | some v=>(put v ρ).bind fun ρ1=>(c ρ1 H).bind fun b=>if b.1 then(f ρ1 b.2).bind fun p=>(if acc.length<LEN then ZcW nx put c f ρ n (i+1) (acc++[p.1]) p.2 else none)else ZcW nx put c f ρ n (i+1) acc b.2
noncomputable def ZaI(g:Src)(put:V→Lc→Option Lc)(c:Ts)(f:Ex): Ex:=fun ρ H=>(g ρ H).bind fun z=>(ZcW z.1 put c f ρ z.2.1 0 [] z.2.2).map fun q=>(.ref q.2.length,q.2++[q.1])
noncomputable def Zhc(Γ:Cx)(W0:Wd)(ρ:Lc)(fr:List (Addr×Obj))(C D:Addr)(It:Nat→List (Addr×Obj)→Prop)(nx:Nx)(put:V→Lc→Option Lc)(c:Ts)(f:Ex)(q:List V×Hp)(s:Shared)(k:Nat)(s':Shared): Prop:=
 ∃W' H' h' tk' j fs acc ys oC m₂,s' = { s with heap:=h',toks:=tk' }∧W0.Le W'∧It j fs∧NsObj oC m₂∧VRs W' acc ys∧acc.length≤LEN∧Rep Γ W' ρ H' ((C,oC)::(D,lst ys)::(fs++fr)) h'∧ZcW nx put c f ρ k j acc H'=some q
section
variable {prog:Program} {w:World} {Γ:Cx}
theorem ZpP{scope:Scope}{cl:List (Str×Addr)}{elt:Expr}{ts:List (Str×Nat)}{W0 W:Wd}{ρ ρ1:Lc}{H:Hp}{fr fs:List (Addr×Obj)}{C D:Addr}{It:Nat→List (Addr×Obj)→Prop}{nx:Nx}{put:V→Lc→Option Lc}{c:Ts}{f:Ex}{q:List V×Hp}{s:Shared}{h:Heap}{tk:Nat}{k j:Nat}{acc:List V}{ys:List Value}{E:Value→Shared→Prop}
  (hel:J prog w (Zbz Γ scope cl C ts ρ) elt f) (aD:∀t∈fs++fr,D≠t.1) (cd:C≠D) (l0:W0.Le W) (hit:It (j+1) fs) (hv:VRs W acc ys) (r:Rep (Zbz Γ scope cl C ts ρ) W ρ1 H ((D,lst ys)::(fs++fr)) h)
  (e:((f ρ1 H).bind fun p=>(if acc.length<LEN then ZcW nx put c f ρ k (j+1) (acc++[p.1]) p.2 else none))=some q):
  wpAny (model prog w) Γ.A (eval elt (compEnvC scope cl C Γ.env)) (fun x s₄=>wpAny (model prog w) Γ.A (call (.builtin "list.append") [.ref D,x]) (fun _ s₅=>∃m,m<k+1∧Zhc Γ W0 ρ fr C D It nx put c f q s m s₅) E s₄) E { s with heap:=h,toks:=tk }:=by
 obtain⟨p,e2,e⟩:=Zz0.mp e
 by_cases hlt:acc.length<LEN
 ·rw[if_pos hlt]at e
  refine hel W ρ1 H _ _ _ E _ _ r e2 fun W2 k2 t2 x l2 r2 x2=>?_
  obtain⟨oC',m₃,hC',r3⟩:=r2.fromC
  have hD:k2.get? D=some (lst ys):=r3.frAt (q:=(D,lst ys)) (Zz2 _ Zz5)
  refine append_at (hsz:=Zdi (by rw[List.size_toArray,hv.length];omega)) hD fun h' sb hg=>?_
  have hg':h'.get? D=some (lst (ys++[x])):=hg.trans (congrArg some (lst_snoc ys x))
  have r4:Rep Γ W2 ρ p.2 ([(D,lst ys)]++((C,oC')::(fs++fr))) k2:=r3.less fun q hq=>by
   rcases Zz8.mp hq with hq | hq
   ·rw[List.mem_singleton.mp hq]
    exact Zz2 _ Zz5
   ·rcases Zz7.mp hq with e | hq
    ·exact e▸List.mem_cons_self
    ·exact Zz2 _ (Zz2 _ hq)
  have r5:Rep Γ W2 ρ p.2 ([(D,lst (ys++[x]))]++((C,oC')::(fs++fr))) h':=by
   refine r4.swap (fun q hq t ht=>?_) (fun b o hb e=>sb.extBut b o (fun z=>hb (by simp[z])) e) fun q hq=>?_
   ·rw[List.mem_singleton.mp hq]
    rcases Zz7.mp ht with e | ht
    ·rw[e]
     exact cd.symm
    ·exact aD t ht
   ·rw[List.mem_singleton.mp hq]
    exact⟨hg',by simp⟩
  have r6:Rep Γ W2 ρ p.2 ((C,oC')::(D,lst (ys++[x]))::(fs++fr)) h':=r5.less fun q hq=>by
   rcases Zz7.mp hq with e | hq
   ·exact e▸List.mem_append_right _ Zz5
   ·rcases Zz7.mp hq with e | hq
    ·exact e▸List.mem_append_left _ Zz5
    ·exact Zz3 _ (Zz2 _ hq)
  exact⟨k,Nat.lt_succ_self k,W2,p.2,h',t2,j+1,fs,acc++[p.1],ys++[x],oC',m₃,rfl,l0.trans l2,hit,hC',(hv.mono l2).snoc x2,by simp;omega,r6,e⟩
 ·rw[if_neg hlt]at e
  cases e
theorem ZuN{scope:Scope}{cl:List (Str×Addr)}{elt:Expr}{ifs:List Expr}{ts:List (Str×Nat)}{W0 W:Wd}{ρ ρ1:Lc}{H:Hp}{fr fs:List (Addr×Obj)}{C D:Addr}{It:Nat→List (Addr×Obj)→Prop}{nx:Nx}{put:V→Lc→Option Lc}{c:Ts}{f:Ex}{q:List V×Hp}{s s1:Shared}{k j:Nat}{acc:List V}{ys:List Value}{oC:Obj}{m₂:Str→Option Value}{E:Value→Shared→Prop}
  (hel:J prog w (Zbz Γ scope cl C ts ρ) elt f) (hif:JF prog w (Zbz Γ scope cl C ts ρ) ifs c) (hs:∃h tk,s1 = { s with heap:=h,toks:=tk })
  (aC:∀t∈(D,lst ys)::(fs++fr),C≠t.1) (aD:∀t∈fs++fr,D≠t.1) (l0:W0.Le W) (hit:It (j+1) fs) (hC:NsObj oC m₂) (hv:VRs W acc ys) (hl:acc.length≤LEN) (r:Rep Γ W ρ H ((C,oC)::(D,lst ys)::(fs++fr)) s1.heap)
  (ht:∀p∈ts,∃v y,ρ1 p.2=some v∧m₂ p.1=some y∧VR W v y) (hj:∀i,(∀p∈ts,p.2≠i)→ρ1 i=ρ i)
  (e:((c ρ1 H).bind fun b=>if b.1 then(f ρ1 b.2).bind fun p=>(if acc.length<LEN then ZcW nx put c f ρ k (j+1) (acc++[p.1]) p.2 else none)else ZcW nx put c f ρ k (j+1) acc b.2)=some q):
  wpAny (model prog w) Γ.A (forIn ifs true fun c r=>if r=true then do let ok ←isTrue c (compEnvC scope cl C Γ.env) (eval c (compEnvC scope cl C Γ.env));pure (ForInStep.yield ok)else pure (ForInStep.yield r)) (fun ok s₃=>
   if ok=true then wpAny (model prog w) Γ.A (eval elt (compEnvC scope cl C Γ.env)) (fun x s₄=>wpAny (model prog w) Γ.A (call (.builtin "list.append") [.ref D,x]) (fun _ s₅=>∃m,m<k+1∧Zhc Γ W0 ρ fr C D It nx put c f q s m s₅) E s₄) E s₃
   else ∃m,m<k+1∧Zhc Γ W0 ρ fr C D It nx put c f q s m s₃) E s1:=by
 obtain⟨h,tk,rfl⟩:=hs
 obtain⟨b,e1,e⟩:=Zz0.mp e
 obtain⟨b,H1⟩:=b
 have rc:=ZqJ (scope:=scope) (cl:=cl) r aC hC ht hj
 refine hif W ρ1 H _ _ _ E b H1 rc e1 fun W1 k1 t1 l1 r1=>?_
 cases b with
 | false=>
  obtain⟨oC',m₃,hC',r2⟩:=r1.fromC
  exact⟨k,Nat.lt_succ_self k,W1,H1,k1,t1,j+1,fs,acc,ys,oC',m₃,rfl,l0.trans l1,hit,hC',hv.mono l1,hl,r2,e⟩
 | true=>exact ZpP hel aD (aC (D,lst ys) Zz5) (l0.trans l1) hit (hv.mono l1) r1 e
theorem comp_core{elt iter:Expr}{x:Str}{px:Pos}{ifs:List Expr}{scope:Scope}{pos:Pos}{cl:List (Str×Addr)}{t:Nat}{g:Src}{c:Ts}{f:Ex}(hg:JI prog w Γ iter g)(hel:∀C ρ,J prog w (Zbz Γ scope cl C [(x,t)] ρ) elt f)(hif:∀C ρ,JF prog w (Zbz Γ scope cl C [(x,t)] ρ) ifs c)
  (hcell:∀y∈scope.names,y.2≠.cell) (hkind:scope.kind=.function) (hx:scope.names.lookup x=some .local)
  {W:Wd} {ρ:Lc} {H:Hp} {fr:List (Addr×Obj)} {s:Shared} {E:Value→Shared→Prop} {q:List V×Hp} {RR:Value→Addr→Result→Shared→Prop} (r:Rep Γ W ρ H fr s.heap) (hf:((g ρ H).bind fun z=>ZcW z.1 (put1 t) c f ρ z.2.1 0 [] z.2.2)=some q)
  (hR:∀(W':Wd) (h':Heap) (tk':Nat) (C D:Addr) (oC:Obj) (m₂:Str→Option Value) (ys:List Value),W.Le W'→NsObj oC m₂→VRs W' q.1 ys→q.1.length≤LEN→(∀t∈fr,D≠t.1)→(∀t∈fr,C≠t.1)→C≠D→Rep Γ W' ρ q.2 ((C,oC)::(D,lst ys)::fr) h'→RR (.ref D) C (.ok .next) { s with heap:=h',toks:=tk' }):
  wpAny (model prog w) Γ.A (eval iter Γ.env) (fun xv s₁=>wpAny (model prog w) Γ.A (pyIter xv) (fun it s₂=>wpAny (model prog w) Γ.A (newList []) (fun acc s₃=>wpAny (model prog w) Γ.A (newFunctionEnv scope Γ.env.globals cl [] Γ.env.qual none .none (some Γ.env)) (fun cenv s₄=>
   codeAny (model prog w) Γ.A (.compStart (.ListComp elt [⟨.Name x px,iter,ifs,0⟩] scope pos) 0 it acc { cenv with scope:=relabel scope Γ.env }) (RR acc cenv.locals) s₄) E s₃) E s₂) E s₁) E s:=by
 obtain⟨z,e1,e2⟩:=Zz0.mp hf
 obtain⟨nx,n,H0⟩:=z
 refine hg W ρ H fr s _ E nx n H0 r e1 fun W1 k1 t1 itv as It fs l1 i1 r1 ap I1=>?_
 refine wpAny_newObj_type (wpAny_newFunctionEnv hcell (fun y hy=>by simp at hy) (fun h₂ hns hsb=>?_) hkind)
 dsimp only at hns hsb ⊢
 obtain⟨rD,aD⟩:=r1.more (fs:=[(k1.objs.size,lst [])]) (fun b o e=>Heap.get?_push_of_some (lst []) e) (fun q hq=>by rw[List.mem_singleton.mp hq];exact⟨Heap.get?_push_size _ rfl,Nat.le_refl _⟩)
 generalize eH:k1.push { cls:=.type "list",dict:=none,data:=.seq ([]:List Value).toArray } = K at hns hsb ⊢
 have eK:k1.push (lst [])=K:=eH
 rw[eK]at rD
 obtain⟨oC,gC,nC⟩:=ns_obj hns
 have up:∀b o,K.get? b=some o→h₂.get? b=some o:=fun b o e=>hsb.extBut b o (Nat.ne_of_lt (Heap.lt_size e)) (Heap.get?_push_of_some _ e)
 obtain⟨rC,aC⟩:=rD.more (fs:=[(K.objs.size,oC)]) up (fun q hq=>by rw[List.mem_singleton.mp hq];exact⟨gC,Nat.le_refl _⟩)
 have adr0:=I1.adr 0 fs i1
 have offs:∀b∈as,b≠k1.objs.size∧b≠K.objs.size:=fun b hb=>by
  rw[←adr0]at hb
  obtain⟨q,hq,e⟩:=Zz11.mp hb
  exact⟨e▸(aD _ Zz5 q (Zz4 _ hq)).symm,e▸(aC _ Zz5 q (Zz3 _ (Zz4 _ hq))).symm⟩
 have cd:K.objs.size≠k1.objs.size:=aC _ Zz5 (k1.objs.size,lst []) (Zz4 _ Zz5)
 have cfr:∀t∈fr,K.objs.size≠t.1:=fun t ht=>aC _ Zz5 t (Zz3 _ (Zz3 _ ht))
 have dfr:∀t∈fr,k1.objs.size≠t.1:=fun t ht=>aD _ Zz5 t (Zz3 _ ht)
 generalize k1.objs.size=D at *
 generalize K.objs.size=C at *
 have loop:∀s₃:Shared,s₃ = { s with heap:=h₂,toks:=t1+([]:List (Str×Value)).length } →
   codeAny (model prog w) Γ.A (.compLoop (.ListComp elt [⟨.Name x px,iter,ifs,0⟩] scope pos) 0 itv (.ref D) (compEnvC scope cl C Γ.env)) (RR (.ref D) C) s₃:=by
  intro s₃ hs₃
  subst hs₃
  refine codeAny_compLoop_tests (Zhc Γ W1 ρ fr C D It nx (put1 t) c f q s) ?_ n ⟨W1,H0,h₂,_,0,fs,[],[],oC,_,rfl,.refl _,i1,nC,.nil,Nat.zero_le _,rC,e2⟩
  rintro k s' ⟨W2,H2,k2,t2,j,fs2,acc,ys,oC2,m₂,rfl,l2,i2,hC2,hv2,hl2,r2,e⟩
  cases k with
  | zero=>cases e
  | succ k=>
   obtain⟨o,e4,e⟩:=Zz0.mp e
   have r2':Rep Γ W2 ρ H2 (fs2++((C,oC2)::(D,lst ys)::fr)) k2:=r2.less fun q hq=>by
    rcases Zz8.mp hq with hq | hq
    ·exact Zz2 _ (Zz2 _ (Zz4 _ hq))
    ·rcases Zz7.mp hq with e | hq
     ·exact e▸List.mem_cons_self
     ·rcases Zz7.mp hq with e | hq
      ·exact e▸List.mem_cons_of_mem _ Zz5
      ·exact Zz2 _ (Zz2 _ (Zz3 _ hq))
   have ap2:∀b∈as,∀t∈(C,oC2)::(D,lst ys)::fr,b≠t.1:=fun b hb t ht=>by
    rcases Zz7.mp ht with e | ht
    ·rw[e]
     exact(offs b hb).2
    ·rcases Zz7.mp ht with e | ht
     ·rw[e]
      exact(offs b hb).1
     ·exact ap b hb t ht
   refine I1.next j W2 ρ H2 _ fs2 _ _ _ o l2 r2' ap2 i2 e4 ?_
   cases o with
   | none=>
    cases e
    intro h' tk' r3
    exact hR W2 h' tk' C D oC2 m₂ ys (l1.trans l2) hC2 hv2 hl2 dfr cfr cd r3
   | some v=>
    intro fs3 k3 t3 y i3 r3 y3
    obtain⟨ρ3,e5,e⟩:=Zz0.mp e
    cases e5
    have a3:∀t∈fs3,t.1∈as:=fun t ht=>by
     rw[←I1.adr _ _ i3]
     exact List.mem_map_of_mem ht
    have gC3:k3.get? C=some oC2:=r3.frAt (q:=(C,oC2)) (Zz3 _ Zz5)
    have nC3:k3.Ns C m₂:=hC2.ns gC3
    refine wpAny_assign_Name (wpAny_storeName_local (lookup_relabel_local hx) nC3 (fun h4 hn4 sb4=>?_) (by simp[compEnvC,relabel,hkind]))
    obtain⟨oC4,gC4,nC4⟩:=ns_obj hn4
    have r3':Rep Γ W2 ρ H2 ([(C,oC2)]++((D,lst ys)::(fs3++fr))) k3:=r3.less fun q hq=>by
     rcases Zz8.mp hq with hq | hq
     ·rw[List.mem_singleton.mp hq]
      exact Zz3 _ Zz5
     ·rcases Zz7.mp hq with e | hq
      ·exact e▸List.mem_append_right _ (Zz2 _ Zz5)
      ·rcases Zz8.mp hq with hq | hq
       ·exact Zz4 _ hq
       ·exact Zz3 _ (Zz2 _ (Zz2 _ hq))
    have aC3:∀t∈(D,lst ys)::(fs3++fr),C≠t.1:=fun t ht=>by
     rcases Zz7.mp ht with e | ht
     ·rw[e]
      exact cd
     ·rcases Zz8.mp ht with ht | ht
      ·exact(offs _ (a3 t ht)).2.symm
      ·exact cfr t ht
    have aD3:∀t∈fs3++fr,D≠t.1:=fun t ht=>by
     rcases Zz8.mp ht with ht | ht
     ·exact(offs _ (a3 t ht)).1.symm
     ·exact dfr t ht
    have r4:Rep Γ W2 ρ H2 ([(C,oC4)]++((D,lst ys)::(fs3++fr))) h4:=by
     refine r3'.swap (fun q hq t ht=>?_) (fun b o hb e=>sb4.extBut b o (fun z=>hb (by simp[z,compEnvC])) e) fun q hq=>?_
     ·rw[List.mem_singleton.mp hq]
      exact aC3 t ht
     ·rw[List.mem_singleton.mp hq]
      exact⟨gC4,by simp⟩
    refine ZuN (hel C ρ) (hif C ρ) ⟨h4,_,rfl⟩ aC3 aD3 l2 i3 nC4 hv2 hl2 r4 (fun p hp=>?_) (fun i hi=>?_) e
    ·rw[List.mem_singleton.mp hp]
     exact⟨v,y,by simp[upd],by simp,y3⟩
    ·have:i≠t:=fun e=>hi (x,t) Zz5 e.symm
     simp[upd,this]
 refine codeAny_compStart_list (loop _ rfl) ?_
 exact I1.self 0 W1 ρ H0 (([(C,oC)]++[(D,lst [])])++fr) fs _ _ _ (.refl _) (rC.less fun q hq=>by
  rcases Zz8.mp hq with hq | hq
  ·exact Zz3 _ (Zz3 _ (Zz4 _ hq))
  ·rcases Zz8.mp hq with hq | hq
   ·rcases Zz8.mp hq with hq | hq
    ·exact Zz4 _ hq
    ·exact Zz3 _ (Zz4 _ hq)
   ·exact Zz3 _ (Zz3 _ (Zz3 _ hq))) i1 (loop _ rfl)
theorem Zp9{W:Wd}{ρ:Lc}{q:List V×Hp}{fr:List (Addr×Obj)}{C D:Addr}{oC:Obj}{ys:List Value}{h' h'':Heap}(hv:VRs W q.1 ys)(hl:q.1.length≤LEN)(aD:∀t∈fr,D≠t.1)(aC:∀t∈fr,C≠t.1)(cd:C≠D)(r:Rep Γ W ρ q.2 ((C,oC)::(D,lst ys)::fr) h')(sb:Heap.SameBut C h' h''):
  ∃W',W.Le W'∧Rep Γ W' ρ (q.2++[q.1]) fr h''∧VR W' (.ref q.2.length) (.ref D):=by
 have r4:Rep Γ W ρ q.2 ([]++((D,lst ys)::fr)) h'':=by
  refine Rep.swap (fs:=[(C,oC)]) (fs':=[]) r (fun q hq t ht=>?_) (fun b o hb e=>sb.extBut b o (fun z=>hb (by simp[z])) e) fun q hq=>nomatch hq
  rw[List.mem_singleton.mp hq]
  rcases Zz7.mp ht with e | ht
  ·rw[e]
   exact cd
  ·exact aC t ht
 exact Zgr r4 aD hv hl
theorem ZwR{elt iter:Expr}{x:Str}{px:Pos}{ifs:List Expr}{scope:Scope}{pos:Pos}{cl:List (Str×Addr)}{t:Nat}{g:Src}{c:Ts}{f:Ex}(hg:JI prog w Γ iter g)(hel:∀C ρ,J prog w (Zbz Γ scope cl C [(x,t)] ρ) elt f)(hif:∀C ρ,JF prog w (Zbz Γ scope cl C [(x,t)] ρ) ifs c)
  (hclos:closureFor scope Γ.env=pure cl) (hcell:∀y∈scope.names,y.2≠.cell) (hkind:scope.kind=.function) (hnames:∀y∈scope.names,y.2=.local→scope.names.lookup y.1=some .local) (hx:scope.names.lookup x=some .local) (hs:∀x,foldedSetIterable iter Γ.env x=pure x:=by intro _;rfl):
  J prog w Γ (.ListComp elt [⟨.Name x px,iter,ifs,0⟩] scope pos) (ZaI g (put1 t) c f):=by
 intro W ρ H fr s Q E v H' r hf post
 obtain⟨z,e1,hf⟩:=Zz0.mp hf
 obtain⟨q,e2,e3⟩:=Zz1.mp hf
 cases e3
 rw[eval_ListComp]
 refine wpAny_comprehension_free (use:=Option.none) rfl hs hclos hkind hnames ?_
 refine comp_core (RR:=fun acc C=>compPost (model prog w) Γ.A E Option.none Q acc C) hg hel hif hcell hkind hx r (q:=q) (by rw[e1];exact e2) fun W2 h' tk' C D oC m₂ ys l2 hC hv hl aD aC cd r3=>?_
 refine⟨m₂,hC.ns (r3.frAt (q:=(C,oC)) Zz5),fun h'' sb=>?_⟩
 obtain⟨W5,l5,r5,v5⟩:=Zp9 hv hl aD aC cd r3 sb
 exact post W5 h'' tk' _ (l2.trans l5) r5 v5
theorem Zty{elt iter:Expr}{x y:Str}{px py pos spos:Pos}{ifs:List Expr}{scope:Scope}{cl:List (Str×Addr)}{t i:Nat}{g:Src}{c:Ts}{f:Ex}(hy:Sto prog w Γ y i)(hg:JI prog w Γ iter g)(hel:∀C ρ,J prog w (Zbz Γ scope cl C [(x,t)] ρ) elt f)(hif:∀C ρ,JF prog w (Zbz Γ scope cl C [(x,t)] ρ) ifs c)
  (hsw:swapsWith (.ListComp elt [⟨.Name x px,iter,ifs,0⟩] scope pos) (some (.Name y py)) spos.line Γ.env=pure true)
  (hclos:closureFor scope Γ.env=pure cl) (hcell:∀y∈scope.names,y.2≠.cell) (hkind:scope.kind=.function) (hnames:∀y∈scope.names,y.2=.local→scope.names.lookup y.1=some .local) (hx:scope.names.lookup x=some .local) (hs:∀x,foldedSetIterable iter Γ.env x=pure x:=by intro _;rfl):
  S1 prog w Γ (.Assign [.Name y py] (.ListComp elt [⟨.Name x px,iter,ifs,0⟩] scope pos) spos) (ZN i (ZaI g (put1 t) c f)):=by
 intro W ρ H fr s Q E r rp hf post
 obtain⟨p,e0,e9⟩:=Zz1.mp hf
 cases e9
 obtain⟨z,e1,hf⟩:=Zz0.mp e0
 obtain⟨q,e2,e3⟩:=Zz1.mp hf
 cases e3
 rw[exec_Assign_Name_used _ _ _ _ hsw]
 refine wpAny_bind (wpAny_standAt (wpAny_bind ?_))
 show wpAny _ Γ.A (do let _ ←comprehension (.ListComp elt [⟨.Name x px,iter,ifs,0⟩] scope pos) scope Γ.env _ (newList []) false (eval iter Γ.env) (some (assign (.Name y py) Γ.env))) _ _ s
 refine wpAny_bind (wpAny_mono (wpAny_comprehension_free (use:=some (assign (.Name y py) Γ.env)) (Q:=fun _ s'=>Q .next s') rfl hs hclos hkind hnames ?_) (fun _ s' h'=>wpAny_pure (wpAny_pure h')) fun _ _ e=>e)
 refine comp_core (RR:=fun acc C=>compPost (model prog w) Γ.A E (some (assign (.Name y py) Γ.env)) (fun _ s'=>Q .next s') acc C) hg hel hif hcell hkind hx rp (q:=q) (by rw[e1];exact e2) fun W2 h' tk' C D oC m₂ ys l2 hC hv hl aD aC cd r3=>?_
 have r4:Rep Γ W2 ρ q.2 ((D,lst ys)::(C,oC)::fr) h':=r3.less fun t ht=>by
  rcases Zz7.mp ht with e | ht
  ·exact e▸List.mem_cons_of_mem _ Zz5
  ·rcases Zz7.mp ht with e | ht
   ·exact e▸List.mem_cons_self
   ·exact Zz2 _ (Zz2 _ ht)
 obtain⟨W5,l5,r5,v5⟩:=Zgr r4 (fun t ht=>by
  rcases Zz7.mp ht with e | ht
  ·rw[e]
   exact cd.symm
  ·exact aD t ht) hv hl
 refine wpAny_assign_Name (hy W5 ρ _ _ _ _ _ _ _ r5 v5 fun h6 t6 r6=>?_)
 refine⟨m₂,hC.ns (r6.frAt (q:=(C,oC)) Zz5),fun h'' sb=>?_⟩
 have r7:Rep Γ W5 (upd ρ i (.ref q.2.length)) (q.2++[q.1]) ([]++fr) h'':=
  Rep.swap (fs:=[(C,oC)]) (fs':=[]) r6 (fun q hq t ht=>by rw[List.mem_singleton.mp hq];exact aC t ht) (fun b o hb e=>sb.extBut b o (fun z=>hb (by simp[z])) e) fun q hq=>nomatch hq
 exact post W5 h'' t6 (l2.trans l5) r7
end
end PM
end
section
set_option autoImplicit false
namespace PM
open PySem PySem.W PySem.Calls PyProof.Rows PyProof PyProof.Rows.LCg PyProof.Rows.LCp
theorem ZoF(h:Heap): ∀as:List Addr,(∀a∈as,∃o,h.get? a=some o)→∃fs:List (Addr×Obj),fs.map (·.1)=as∧∀q∈fs,h.get? q.1=some q.2
 | [],_=>⟨[],rfl,fun q hq=>nomatch hq⟩
 | a::as,d=>by
  obtain⟨o,ho⟩:=d a Zz5
  obtain⟨fs,h1,h2⟩:=ZoF h as fun b hb=>d b (Zz2 _ hb)
  refine⟨(a,o)::fs,by rw[List.map_cons,h1],fun q hq=>?_⟩
  rcases Zz7.mp hq with e | hq
  ·rw[e]
   exact ho
  ·exact h2 q hq
structure Itr2(prog:Program)(w:World)(Γ:Cx)(W0:Wd)(it:Value)(as:List Addr)(It:Nat→List (Addr×Obj)→Prop)(nx:Nx): Prop where
 adr:∀i fs,It i fs→fs.map (·.1)=as
 pair:∀i H v,nx i H=some (some v)→∃a b,v=.tup [a,b]
 item:∀(i:Nat) (W:Wd) (ρ:Lc) (H:Hp) (fr fs:List (Addr×Obj)) (s:Shared) (Q:Option Value→Shared→Prop) (E:Value→Shared→Prop) (a b:V),W0.Le W→Rep Γ W ρ H (fs++fr) s.heap→(∀a∈as,∀t∈fr,a≠t.1)→It i fs→nx i H=some (some (.tup [a,b])) →
  (∀(T:Addr) (h1:Heap) (t1:Nat),(∀(elts:List Expr) (k:Nat) (pos:Pos) (s1:Shared) (Q1:Unit→Shared→Prop) (E1:Value→Shared→Prop),s1 = { s with heap:=h1,toks:=t1 } →
    (∀(fs':List (Addr×Obj)) (h':Heap) (x y:Value),It (i+1) fs'→Rep Γ W ρ H (fs'++fr) h'→IsTup h' T #[x,y]→VR W a x→VR W b y→Q1 () { s with heap:=h',toks:=t1 })→wpAny (model prog w) Γ.A (letOwnedTupleGo (.Tuple elts k pos) it (.ref T)) Q1 E1 s1)→Q (some (.ref T)) { s with heap:=h1,toks:=t1 })→wpAny (model prog w) Γ.A (pyNext it) Q E s
 done:∀(i:Nat) (W:Wd) (ρ:Lc) (H:Hp) (fr fs:List (Addr×Obj)) (s:Shared) (Q:Option Value→Shared→Prop) (E:Value→Shared→Prop),W0.Le W→Rep Γ W ρ H (fs++fr) s.heap→(∀a∈as,∀t∈fr,a≠t.1)→It i fs→nx i H=some none →
  (∀(h':Heap) (tk':Nat),Rep Γ W ρ H fr h'→Q none { s with heap:=h',toks:=tk' })→wpAny (model prog w) Γ.A (pyNext it) Q E s
 self:∀(i:Nat) (W:Wd) (ρ:Lc) (H:Hp) (fr fs:List (Addr×Obj)) (s:Shared) (Q E:Value→Shared→Prop) (o:Option V),W0.Le W→Rep Γ W ρ H (fs++fr) s.heap→It i fs→nx i H=some o→Q it s→wpAny (model prog w) Γ.A (pyIter it) Q E s
noncomputable def JI2(prog:Program)(w:World)(Γ:Cx)(e:Expr)(g:Src): Prop:=∀(W:Wd) (ρ:Lc) (H:Hp) (fr:List (Addr×Obj)) (s:Shared) (Q E:Value→Shared→Prop) (nx:Nx) (n:Nat) (H':Hp),
 Rep Γ W ρ H fr s.heap→g ρ H=some (nx,n,H') →
 (∀(W':Wd) (h':Heap) (tk':Nat) (it:Value) (as:List Addr) (It:Nat→List (Addr×Obj)→Prop) (fs:List (Addr×Obj)),W.Le W'→It 0 fs→Rep Γ W' ρ H' (fs++fr) h'→(∀a∈as,∀t∈fr,a≠t.1)→Itr2 prog w Γ W' it as It nx→(∃o,nx 0 H'=some o)→Q it { s with heap:=h',toks:=tk' }) →
 wpAny (model prog w) Γ.A (eval e Γ.env) (fun xv s₁=>wpAny (model prog w) Γ.A (pyIter xv) Q E s₁) E s
noncomputable def Zg6(a b:Nat): Nx:=fun i H=>H[a]?.bind fun vs=>H[b]?.bind fun us=>match vs[i]?,us[i]? with
 | some x,some y=>some (some (.tup [x,y]))
 | _,_=>if i=min vs.length us.length then some none else none
noncomputable def Zd7(f g:Ex): Src:=fun ρ H=>(f ρ H).bind fun p=>(g ρ p.2).bind fun q=>match p.1,q.1 with
 | .ref a,.ref b=>q.2[a]?.bind fun vs=>q.2[b]?.map fun us=>(Zg6 a b,min vs.length us.length+1,q.2)
 | _,_=>none
noncomputable def ZcA(i j:Nat): V→Lc→Option Lc
 | .tup [a,b],ρ=>some (upd (upd ρ i a) j b)
 | _,_=>none
noncomputable def ZS(z TI TO i1 i2 l1 l2:Addr)(i:Nat)(h:Heap): Prop:=IsZip h z TI TO .none∧PySem.IsPair h TI (.ref i1) (.ref i2)∧(∃a b,PySem.IsPair h TO a b)∧h.IsListIter i1 l1 i∧h.IsListIter i2 l2 i
theorem ZS.at{z TI TO i1 i2 l1 l2:Addr}{i:Nat}{h h':Heap}(x:ZS z TI TO i1 i2 l1 l2 i h)(e:∀a∈[z,TI,TO,i1,i2],∀o,h.get? a=some o→h'.get? a=some o): ZS z TI TO i1 i2 l1 l2 i h':=by
 obtain⟨h1,h2,⟨a,b,h3⟩,h4,h5⟩:=x
 exact⟨e z (by simp) _ h1,e TI (by simp) _ h2,⟨a,b,e TO (by simp) _ h3⟩,h4.at fun o x=>e i1 (by simp) o x,h5.at fun o x=>e i2 (by simp) o x⟩
theorem ZS.have{z TI TO i1 i2 l1 l2:Addr}{i:Nat}{h:Heap}(x:ZS z TI TO i1 i2 l1 l2 i h): ∀a∈[z,TI,TO,i1,i2],∃o,h.get? a=some o:=by
 obtain⟨h1,h2,⟨a,b,h3⟩,⟨o4,h4,_⟩,⟨o5,h5,_⟩⟩:=x
 intro c hc
 simp only[List.mem_cons,List.not_mem_nil,or_false]at hc
 rcases hc with e | e | e | e | e <;> subst e
 ·exact⟨_,h1⟩
 ·exact⟨_,h2⟩
 ·exact⟨_,h3⟩
 ·exact⟨_,h4⟩
 ·exact⟨_,h5⟩
noncomputable def ZIt(z TI TO i1 i2 l1 l2:Addr)(i:Nat)(fs:List (Addr×Obj)): Prop:=fs.map (·.1)=[z,TI,TO,i1,i2]∧∀h:Heap,(∀q∈fs,h.get? q.1=some q.2)→ZS z TI TO i1 i2 l1 l2 i h
theorem ZqK{z TI TO i1 i2 l1 l2:Addr}{i:Nat}{h:Heap}(x:ZS z TI TO i1 i2 l1 l2 i h): ∃fs,ZIt z TI TO i1 i2 l1 l2 i fs∧∀q∈fs,h.get? q.1=some q.2:=by
 obtain⟨fs,h1,h2⟩:=ZoF h [z,TI,TO,i1,i2] x.have
 refine⟨fs,⟨h1,fun h' e=>x.at fun a ha o ho=>?_⟩,h2⟩
 rw[←h1]at ha
 obtain⟨q,hq,eq⟩:=Zz11.mp ha
 have:=h2 q hq
 rw[eq,ho]at this
 cases this
 exact eq▸e q hq
section
variable {prog:Program} {w:World} {Γ:Cx}
theorem ZwS{W0:Wd}{z TI TO i1 i2 l1 l2:Addr}{a b:Nat}(ea:W0.pi[a]?=some l1)(eb:W0.pi[b]?=some l2)(D:ZipApart z TI TO i1 i2 l1 l2):
  Itr2 prog w Γ W0 (.ref z) [z,TI,TO,i1,i2] (ZIt z TI TO i1 i2 l1 l2) (Zg6 a b):=by
 refine⟨fun i fs h=>h.1,?_,?_,?_,?_⟩
 ·intro i H v e
  obtain⟨vs,e1,e⟩:=Zz0.mp e
  obtain⟨us,e2,e⟩:=Zz0.mp e
  split at e
  ·cases e
   exact⟨_,_,rfl⟩
  ·split at e <;> cases e
 ·intro i W ρ H fr fs s Q E va vb le r ap hit hn post
  obtain⟨vs,e1,e⟩:=Zz0.mp hn
  obtain⟨us,e2,e⟩:=Zz0.mp e
  have hvu:vs[i]?=some va∧us[i]?=some vb:=by
   split at e
   ·rename_i x y h1 h2
    cases e
    exact⟨h1,h2⟩
   ·split at e <;> cases e
  obtain⟨_,xs,k1,g1,v1⟩:=r.at e1 (le.at ea)
  obtain⟨_,ys,k2,g2,v2⟩:=r.at e2 (le.at eb)
  obtain⟨x,hx,rx⟩:=v1.at hvu.1
  obtain⟨y,hy,ry⟩:=v2.at hvu.2
  have st:ZS z TI TO i1 i2 l1 l2 i s.heap:=hit.2 _ fun q hq=>r.frAt (Zz4 _ hq)
  have Wk:=WalksT.zip2 (prog:=prog) (w:=w) (A:=Γ.A) Γ.hh z TI TO i1 i2 l1 l2 D xs.toArray ys.toArray
  have isl1:s.heap.IsList l1 xs.toArray:=⟨_,g1,rfl,k1,rfl⟩
  have isl2:s.heap.IsList l2 ys.toArray:=⟨_,g2,rfl,k2,rfl⟩
  have hi:i<min xs.toArray.size ys.toArray.size:=by
   have h1:=(Zz6.mp hx).1
   have h2:=(Zz6.mp hy).1
   simp
   omega
  refine Wk.item i s Q E hi ⟨st.1,st.2.1,st.2.2.1,st.2.2.2.1,st.2.2.2.2,isl1,isl2⟩ fun T vals h1 t1 hp hT hTup hmid keep1=>post T h1 t1 ?_
  intro elts k pos s1 Q1 E1 es1 q1
  subst es1
  have hTw:=Wk.apart i T _ hmid
  refine Wk.go elts k pos i T _ Q1 E1 hmid fun h2 st2 keep2=>?_
  obtain⟨x',y',hx',hy',ev⟩:=hp
  have ex:x'=x:=by
   have:xs[i]?=some x':=by simpa using hx'
   rw[hx]at this
   exact(Option.some.inj this).symm
  have ey:y'=y:=by
   have:ys[i]?=some y':=by simpa using hy'
   rw[hy]at this
   exact(Option.some.inj this).symm
  subst ex ey ev
  obtain⟨fs',hit',at'⟩:=ZqK (h:=h2) (⟨st2.1,st2.2.1,st2.2.2.1,st2.2.2.2.1,st2.2.2.2.2.1⟩:ZS z TI TO i1 i2 l1 l2 (i+1) h2)
  obtain⟨oT,gT,cT,nT,dT⟩:=hTup
  refine q1 fs' h2 x' y' hit' ?_ ⟨oT,keep2 T oT hTw gT,cT,nT,dT⟩ rx ry
  refine r.swap (fs':=fs') (fun q hq t ht=>?_) (fun c o hc e=>?_) fun q hq=>⟨at' q hq,?_⟩
  ·exact ap _ (hit.1▸List.mem_map_of_mem hq) t ht
  ·rw[hit.1]at hc
   have hcw:c∉[z,TO,i1,i2]:=fun h=>hc (by simp at h ⊢;rcases h with h | h | h | h <;> simp[h])
   exact keep2 c o hcw (keep1 c o hcw e)
  ·rw[hit.1,←hit'.1]
   exact List.mem_map_of_mem hq
 ·intro i W ρ H fr fs s Q E le r ap hit hn post
  obtain⟨vs,e1,e⟩:=Zz0.mp hn
  obtain⟨us,e2,e⟩:=Zz0.mp e
  obtain⟨_,xs,k1,g1,v1⟩:=r.at e1 (le.at ea)
  obtain⟨_,ys,k2,g2,v2⟩:=r.at e2 (le.at eb)
  have hi:i=min vs.length us.length:=by
   split at e
   ·cases e
   ·split at e
    ·assumption
    ·cases e
  have st:ZS z TI TO i1 i2 l1 l2 i s.heap:=hit.2 _ fun q hq=>r.frAt (Zz4 _ hq)
  have Wk:=WalksT.zip2 (prog:=prog) (w:=w) (A:=Γ.A) Γ.hh z TI TO i1 i2 l1 l2 D xs.toArray ys.toArray
  have hm:min xs.toArray.size ys.toArray.size=i:=by simp[v1.length,v2.length,hi]
  refine Wk.done s Q E (by rw[hm];exact⟨st.1,st.2.1,st.2.2.1,st.2.2.2.1,st.2.2.2.2,⟨_,g1,rfl,k1,rfl⟩,⟨_,g2,rfl,k2,rfl⟩⟩) fun h' tk keep=>post h' tk ?_
  have:=r.swap (fs':=[]) (fun q hq t ht=>ap _ (hit.1▸List.mem_map_of_mem hq) t ht) (fun c o hc e=>keep c o (fun h=>hc (by rw[hit.1];simp at h ⊢;rcases h with h | h | h | h <;> simp[h])) e) (fun q hq=>nomatch hq)
  exact this
 ·intro i W ρ H fr fs s Q E o le r hit hn q
  obtain⟨vs,e1,e⟩:=Zz0.mp hn
  obtain⟨us,e2,e⟩:=Zz0.mp e
  obtain⟨_,xs,k1,g1,v1⟩:=r.at e1 (le.at ea)
  obtain⟨_,ys,k2,g2,v2⟩:=r.at e2 (le.at eb)
  have st:ZS z TI TO i1 i2 l1 l2 i s.heap:=hit.2 _ fun q hq=>r.frAt (Zz4 _ hq)
  have Wk:=WalksT.zip2 (prog:=prog) (w:=w) (A:=Γ.A) Γ.hh z TI TO i1 i2 l1 l2 D xs.toArray ys.toArray
  exact Wk.self i s Q E ⟨st.1,st.2.1,st.2.2.1,st.2.2.2.1,st.2.2.2.2,⟨_,g1,rfl,k1,rfl⟩,⟨_,g2,rfl,k2,rfl⟩⟩ q
theorem JI2.zip{x:Str}{np pos:Pos}{e1 e2:Expr}{f g:Ex}(hn:Nm prog w Γ x (.type "zip"))(h1:J prog w Γ e1 f)(h2:J prog w Γ e2 g)
  (he:starEach [e1,e2] Γ.env=(false,eval e1 Γ.env)::starEach [e2] Γ.env:=by rfl) (he2:starEach [e2] Γ.env=(false,eval e2 Γ.env)::starEach [] Γ.env:=by rfl) (hp:∀pos,(backTo pos (starEach [e2] Γ.env)).any (·.1)=false:=by intro _;rfl):JI2 prog w Γ (.Call (.Name x np) [e1,e2] [] pos) (Zd7 f g):=by
 intro W ρ H fr s Q E nx n H' r hf post
 obtain⟨p,a1,hf⟩:=Zz0.mp hf
 obtain⟨q,a2,hf⟩:=Zz0.mp hf
 refine wpAny_Call_ofName (hn.use r ?_)
 refine PySem.Pv.callWith_type1 (wpAny_items_cons (h1 W ρ H fr s _ E _ _ r a1 fun W1 k1 t1 y1 l1 r1 v1=>?_) he) he (hp pos)
 refine wpAny_items_cons (h2 W1 ρ _ fr _ _ E _ _ r1 a2 fun W2 k2 t2 y2 l2 r2 v2=>wpAny_items_nil ?_) he2
 have v1':=v1.mono l2
 obtain⟨u1,H1⟩:=p
 obtain⟨u2,H2⟩:=q
 simp only at hf v1' v2 r2
 cases u1 <;> first | (cases hf;done) | skip
 rename_i b1
 cases u2 <;> first | (cases hf;done) | skip
 rename_i b2
 obtain⟨vs,c1,hf⟩:=Zz0.mp hf
 obtain⟨us,c2,c3⟩:=Zz1.mp hf
 cases c3
 cases v1' with
 | @ref _ m1 ea=>
 cases v2 with
 | @ref _ m2 eb=>
 obtain⟨_,xs,n1,g1,w1⟩:=r2.at c1 ea
 obtain⟨_,ys,n2,g2,w2⟩:=r2.at c2 eb
 have isl1:k2.IsList m1 xs.toArray:=⟨_,g1,rfl,n1,rfl⟩
 have isl2:k2.IsList m2 ys.toArray:=⟨_,g2,rfl,n2,rfl⟩
 refine call_zip_2 (s:={ s with heap:=k2,toks:=t2 }) isl1 isl2 fun h₁ hz hTI hTO hi1 hi2 hsz up=>?_
 have ap:=zipApart_new (n:=k2.objs.size) (Heap.lt_size g1) (Heap.lt_size g2)
 have Wk:=WalksT.zip2 (prog:=prog) (w:=w) (A:=Γ.A) Γ.hh _ _ _ _ _ m1 m2 ap xs.toArray ys.toArray
 have zs:ZS (k2.objs.size+4) (k2.objs.size+2) (k2.objs.size+3) k2.objs.size (k2.objs.size+1) m1 m2 0 h₁:=⟨hz,hTI,⟨_,_,hTO⟩,hi1,hi2⟩
 refine Wk.self 0 _ _ _ ⟨hz,hTI,⟨_,_,hTO⟩,hi1,hi2,isl1.at fun o e=>up _ o e,isl2.at fun o e=>up _ o e⟩ ?_
 obtain⟨fs,hit,at'⟩:=ZqK zs
 obtain⟨r3,ap3⟩:=r2.more (fs:=fs) (h':=h₁) (fun b o e=>up b o e) (fun q hq=>⟨at' q hq,by
  have:q.1∈fs.map (·.1):=List.mem_map_of_mem hq
  rw[hit.1]at this
  simp at this
  rcases this with e | e | e | e | e <;> rw[e] <;> omega⟩)
 refine post W2 h₁ t2 _ _ _ fs (l1.trans l2) hit r3 (fun b hb t ht=>?_) (ZwS ea eb ap) ?_
 ·rw[←hit.1]at hb
  obtain⟨q,hq,e⟩:=Zz11.mp hb
  exact e▸ap3 q hq t ht
 ·simp only[Zg6,c1,c2,Option.bind_some]
  split
  ·exact⟨_,rfl⟩
  ·rename_i hno
   have:0=min vs.length us.length:=by
    rcases Nat.eq_zero_or_pos vs.length with z | z
    ·rw[z];simp
    ·rcases Nat.eq_zero_or_pos us.length with z' | z'
     ·rw[z'];simp
     ·exact(hno vs[0] us[0] (by simp[z]) (by simp[z'])).elim
   rw[if_pos this]
   exact⟨_,rfl⟩
theorem ZvD{x1 x2:Str}{i1 i2 kt:Nat}{p1 p2 tp:Pos}(h1:Sto prog w Γ x1 i1)(h2:Sto prog w Γ x2 i2){W:Wd}{ρ:Lc}{H:Hp}{fr:List (Addr×Obj)}{s:Shared}{Q:Unit→Shared→Prop}{E:Value→Shared→Prop}{T:Addr}{y1 y2:Value}{a b:V}(r:Rep Γ W ρ H fr s.heap)(ht:IsTup s.heap T #[y1,y2])(v1:VR W a y1)(v2:VR W b y2)
  (post:∀(h':Heap) (tk':Nat),Rep Γ W (upd (upd ρ i1 a) i2 b) H fr h'→Q () { s with heap:=h',toks:=tk' }):wpAny (model prog w) Γ.A (assign (.Tuple [.Name x1 p1,.Name x2 p2] kt tp) Γ.env (.ref T)) Q E s:=by
 refine assign_Tuple_tuple Γ.hh ht rfl rfl fun g₄ he=>?_
 have r4:=r.grown (h':=g₄) fun b o e=>he b o (Nat.ne_of_lt (Heap.lt_size e)) e
 refine assignInOrder_cons (wpAny_assign_Name (h1 W ρ H fr _ _ _ a y1 r4 v1 fun k5 t5 r5=>?_))
 refine assignInOrder_cons (wpAny_assign_Name (h2 W _ H fr _ _ _ b y2 r5 v2 fun k6 t6 r6=>?_))
 exact assignInOrder_nil (post k6 t6 r6)
theorem ZiB{x1 x2:Str}{i1 i2 kt:Nat}{p1 p2 tp pos:Pos}{it:Expr}{body:List Stmt}{g:Src}{b:Sm}(h1:Sto prog w Γ x1 i1)(h2:Sto prog w Γ x2 i2)(hg:JI2 prog w Γ it g)(hb:Ss prog w Γ body b)(hs:∀x,foldedSetIterable it Γ.env x=pure x:=by intro _;rfl):
  S1 prog w Γ (.For (.Tuple [.Name x1 p1,.Name x2 p2] kt tp) it body [] pos) (ZaM g (ZcA i1 i2) b):=by
 intro W ρ H fr s Q E r rp hf post
 obtain⟨z,e1,hf⟩:=Zz0.mp hf
 obtain⟨nx,n,H0⟩:=z
 refine wpAny_For (hg W ρ H fr s _ E nx n H0 rp e1 fun W1 k1 t1 itv as It fs l1 j1 r1 ap I1 _=>?_) hs
 refine codeAny_forLoop_any (fun k s'=>∃W' ρ' H' h' tk' j fs',s' = { s with heap:=h',toks:=tk' }∧W1.Le W'∧It j fs'∧Rep Γ W' ρ' H' (fs'++fr) h'∧Zds nx (ZcA i1 i2) b k j ρ' H'=some r) ?_ n ⟨W1,ρ,H0,k1,t1,0,fs,rfl,.refl _,j1,r1,hf⟩
 rintro k s' ⟨W2,ρ2,H2,k2,t2,j,fs2,rfl,l2,j2,r2,e⟩
 cases k with
 | zero=>cases e
 | succ k=>
  obtain⟨o,e2,e⟩:=Zz0.mp e
  cases o with
  | none=>
   cases e
   exact I1.done j W2 ρ2 H2 fr fs2 _ _ _ l2 r2 ap j2 e2 fun h' tk' r3=>wpAny_execs_nil (post W2 h' tk' (l1.trans l2) r3)
  | some v=>
   obtain⟨va,vb,ev⟩:=I1.pair j H2 v e2
   subst ev
   refine I1.item j W2 ρ2 H2 fr fs2 _ _ _ va vb l2 r2 ap j2 e2 fun T h3 t3 go=>?_
   obtain⟨ρ3,e3,e⟩:=Zz0.mp e
   cases e3
   obtain⟨q,e4,e⟩:=Zz0.mp e
   refine go _ _ _ _ _ _ rfl fun fs3 k3 y1 y2 j3 r3 ht w1 w2=>?_
   refine ZvD h1 h2 (s:={ s with heap:=k3,toks:=t3 }) r3 ht w1 w2 fun k4 t4 r4=>?_
   refine hb W2 _ H2 (fs3++fr) _ _ _ q r4 e4 ?_
   obtain⟨u,ρ5,H5⟩:=q
   cases u with
   | some u=>
    cases e
    exact fun W5 k5 t5 x5 l5 r5 v5=>post W5 k5 t5 x5 ((l1.trans l2).trans l5) (r5.less fun q hq=>List.mem_append_right _ hq) v5
   | none=>exact fun W5 k5 t5 l5 r5=>⟨k,Nat.lt_succ_self k,W5,ρ5,H5,k5,t5,j+1,fs3,rfl,l2.trans l5,j3,r5,e⟩
theorem Zpv{elt iter:Expr}{x x₂:Str}{px px₂ tp:Pos}{kt:Nat}{scope:Scope}{pos:Pos}{cl:List (Str×Addr)}{t t₂:Nat}{g:Src}{f:Ex}(hg:JI2 prog w Γ iter g)(hel:∀C ρ,J prog w (Zbz Γ scope cl C [(x,t),(x₂,t₂)] ρ) elt f)
  (hcell:∀y∈scope.names,y.2≠.cell) (hkind:scope.kind=.function) (hx:scope.names.lookup x=some .local) (hx₂:scope.names.lookup x₂=some .local) (hxx:x≠x₂) (htt:t≠t₂)
  {W:Wd} {ρ:Lc} {H:Hp} {fr:List (Addr×Obj)} {s:Shared} {E:Value→Shared→Prop} {q:List V×Hp} {RR:Value→Addr→Result→Shared→Prop} (r:Rep Γ W ρ H fr s.heap) (hf:((g ρ H).bind fun z=>ZcW z.1 (ZcA t t₂) Zam f ρ z.2.1 0 [] z.2.2)=some q)
  (hR:∀(W':Wd) (h':Heap) (tk':Nat) (C D:Addr) (oC:Obj) (m₂:Str→Option Value) (ys:List Value),W.Le W'→NsObj oC m₂→VRs W' q.1 ys→q.1.length≤LEN→(∀t∈fr,D≠t.1)→(∀t∈fr,C≠t.1)→C≠D→Rep Γ W' ρ q.2 ((C,oC)::(D,lst ys)::fr) h'→RR (.ref D) C (.ok .next) { s with heap:=h',toks:=tk' }):
  wpAny (model prog w) Γ.A (eval iter Γ.env) (fun xv s₁=>wpAny (model prog w) Γ.A (pyIter xv) (fun it s₂=>wpAny (model prog w) Γ.A (newList []) (fun acc s₃=>wpAny (model prog w) Γ.A (newFunctionEnv scope Γ.env.globals cl [] Γ.env.qual none .none (some Γ.env)) (fun cenv s₄=>
   codeAny (model prog w) Γ.A (.compStart (.ListComp elt [⟨.Tuple [.Name x px,.Name x₂ px₂] kt tp,iter,[],0⟩] scope pos) 0 it acc { cenv with scope:=relabel scope Γ.env }) (RR acc cenv.locals) s₄) E s₃) E s₂) E s₁) E s:=by
 obtain⟨z,e1,e2⟩:=Zz0.mp hf
 obtain⟨nx,n,H0⟩:=z
 refine hg W ρ H fr s _ E nx n H0 r e1 fun W1 k1 t1 itv as It fs l1 i1 r1 ap I1 hstart=>?_
 refine wpAny_newObj_type (wpAny_newFunctionEnv hcell (fun y hy=>by simp at hy) (fun h₂ hns hsb=>?_) hkind)
 dsimp only at hns hsb ⊢
 obtain⟨rD,aD⟩:=r1.more (fs:=[(k1.objs.size,lst [])]) (fun b o e=>Heap.get?_push_of_some (lst []) e) (fun q hq=>by rw[List.mem_singleton.mp hq];exact⟨Heap.get?_push_size _ rfl,Nat.le_refl _⟩)
 generalize eH:k1.push { cls:=.type "list",dict:=none,data:=.seq ([]:List Value).toArray } = K at hns hsb ⊢
 have eK:k1.push (lst [])=K:=eH
 rw[eK]at rD
 obtain⟨oC,gC,nC⟩:=ns_obj hns
 have up:∀b o,K.get? b=some o→h₂.get? b=some o:=fun b o e=>hsb.extBut b o (Nat.ne_of_lt (Heap.lt_size e)) (Heap.get?_push_of_some _ e)
 obtain⟨rC,aC⟩:=rD.more (fs:=[(K.objs.size,oC)]) up (fun q hq=>by rw[List.mem_singleton.mp hq];exact⟨gC,Nat.le_refl _⟩)
 have adr0:=I1.adr 0 fs i1
 have offs:∀b∈as,b≠k1.objs.size∧b≠K.objs.size:=fun b hb=>by
  rw[←adr0]at hb
  obtain⟨q,hq,e⟩:=Zz11.mp hb
  exact⟨e▸(aD _ Zz5 q (Zz4 _ hq)).symm,e▸(aC _ Zz5 q (Zz3 _ (Zz4 _ hq))).symm⟩
 have cd:K.objs.size≠k1.objs.size:=aC _ Zz5 (k1.objs.size,lst []) (Zz4 _ Zz5)
 have cfr:∀t∈fr,K.objs.size≠t.1:=fun t ht=>aC _ Zz5 t (Zz3 _ (Zz3 _ ht))
 have dfr:∀t∈fr,k1.objs.size≠t.1:=fun t ht=>aD _ Zz5 t (Zz3 _ ht)
 generalize k1.objs.size=D at *
 generalize K.objs.size=C at *
 have loop:∀s₃:Shared,s₃ = { s with heap:=h₂,toks:=t1+([]:List (Str×Value)).length } →
   codeAny (model prog w) Γ.A (.compLoop (.ListComp elt [⟨.Tuple [.Name x px,.Name x₂ px₂] kt tp,iter,[],0⟩] scope pos) 0 itv (.ref D) (compEnvC scope cl C Γ.env)) (RR (.ref D) C) s₃:=by
  intro s₃ hs₃
  subst hs₃
  refine codeAny_compLoop_pair (Zhc Γ W1 ρ fr C D It nx (ZcA t t₂) Zam f q s) ?_ n ⟨W1,H0,h₂,_,0,fs,[],[],oC,_,rfl,.refl _,i1,nC,.nil,Nat.zero_le _,rC,e2⟩
  rintro k s' ⟨W2,H2,k2,t2,j,fs2,acc,ys,oC2,m₂,rfl,l2,i2,hC2,hv2,hl2,r2,e⟩
  cases k with
  | zero=>cases e
  | succ k=>
   obtain⟨o,e4,e⟩:=Zz0.mp e
   have r2':Rep Γ W2 ρ H2 (fs2++((C,oC2)::(D,lst ys)::fr)) k2:=r2.less fun q hq=>by
    rcases Zz8.mp hq with hq | hq
    ·exact Zz2 _ (Zz2 _ (Zz4 _ hq))
    ·rcases Zz7.mp hq with e | hq
     ·exact e▸List.mem_cons_self
     ·rcases Zz7.mp hq with e | hq
      ·exact e▸List.mem_cons_of_mem _ Zz5
      ·exact Zz2 _ (Zz2 _ (Zz3 _ hq))
   have ap2:∀b∈as,∀t∈(C,oC2)::(D,lst ys)::fr,b≠t.1:=fun b hb t ht=>by
    rcases Zz7.mp ht with e | ht
    ·rw[e]
     exact(offs b hb).2
    ·rcases Zz7.mp ht with e | ht
     ·rw[e]
      exact(offs b hb).1
     ·exact ap b hb t ht
   cases o with
   | none=>
    cases e
    exact I1.done j W2 ρ H2 _ fs2 _ _ _ l2 r2' ap2 i2 e4 fun h' tk' r3=>hR W2 h' tk' C D oC2 m₂ ys (l1.trans l2) hC2 hv2 hl2 dfr cfr cd r3
   | some v=>
    obtain⟨va,vb,ev⟩:=I1.pair j H2 v e4
    subst ev
    refine I1.item j W2 ρ H2 _ fs2 _ _ _ va vb l2 r2' ap2 i2 e4 fun T h3 t3 go=>?_
    obtain⟨ρ3,e5,e⟩:=Zz0.mp e
    cases e5
    refine go _ _ _ _ _ _ rfl fun fs3 k3 y1 y2 i3 r3 htup w1 w2=>?_
    have a3:∀t∈fs3,t.1∈as:=fun t ht=>by
     rw[←I1.adr _ _ i3]
     exact List.mem_map_of_mem ht
    refine assign_Tuple_tuple (s:={ s with heap:=k3,toks:=t3 }) Γ.hh htup rfl rfl fun g₄ he=>?_
    have r3g:=r3.grown (h':=g₄) fun b o e=>he b o (Nat.ne_of_lt (Heap.lt_size e)) e
    have gC3:g₄.get? C=some oC2:=r3g.frAt (q:=(C,oC2)) (Zz3 _ Zz5)
    have nC3:g₄.Ns C m₂:=hC2.ns gC3
    refine assignInOrder_cons (wpAny_assign_Name (wpAny_storeName_local (lookup_relabel_local hx) nC3 (fun h5 hn5 sb5=>?_) (by simp[compEnvC,relabel,hkind])))
    refine assignInOrder_cons (wpAny_assign_Name (wpAny_storeName_local (lookup_relabel_local hx₂) hn5 (fun h4 hn4 sb4=>?_) (by simp[compEnvC,relabel,hkind])))
    refine assignInOrder_nil ?_
    obtain⟨oC4,gC4,nC4⟩:=ns_obj hn4
    have r3':Rep Γ W2 ρ H2 ([(C,oC2)]++((D,lst ys)::(fs3++fr))) g₄:=r3g.less fun q hq=>by
     rcases Zz8.mp hq with hq | hq
     ·rw[List.mem_singleton.mp hq]
      exact Zz3 _ Zz5
     ·rcases Zz7.mp hq with e | hq
      ·exact e▸List.mem_append_right _ (Zz2 _ Zz5)
      ·rcases Zz8.mp hq with hq | hq
       ·exact Zz4 _ hq
       ·exact Zz3 _ (Zz2 _ (Zz2 _ hq))
    have aC3:∀t∈(D,lst ys)::(fs3++fr),C≠t.1:=fun t ht=>by
     rcases Zz7.mp ht with e | ht
     ·rw[e]
      exact cd
     ·rcases Zz8.mp ht with ht | ht
      ·exact(offs _ (a3 t ht)).2.symm
      ·exact cfr t ht
    have aD3:∀t∈fs3++fr,D≠t.1:=fun t ht=>by
     rcases Zz8.mp ht with ht | ht
     ·exact(offs _ (a3 t ht)).1.symm
     ·exact dfr t ht
    have r4:Rep Γ W2 ρ H2 ([(C,oC4)]++((D,lst ys)::(fs3++fr))) h4:=by
     refine r3'.swap (fun q hq t ht=>?_) (fun b o hb e=>sb4.extBut b o (fun z=>hb (by simp[z,compEnvC])) (sb5.extBut b o (fun z=>hb (by simp[z,compEnvC])) e)) fun q hq=>?_
     ·rw[List.mem_singleton.mp hq]
      exact aC3 t ht
     ·rw[List.mem_singleton.mp hq]
      exact⟨gC4,by simp⟩
    have rc:=ZqJ (scope:=scope) (cl:=cl) (ts:=[(x,t),(x₂,t₂)]) (ρ:=upd (upd ρ t va) t₂ vb) r4 aC3 nC4 (fun p hp=>by
     rcases Zz7.mp hp with e | hp
     ·rw[e]
      exact⟨va,y1,by simp[upd,htt],by simp[hxx],w1⟩
     ·rw[List.mem_singleton.mp hp]
      exact⟨vb,y2,by simp[upd],by simp,w2⟩) (fun i hi=>by
     have h1:i≠t:=fun e=>hi (x,t) Zz5 e.symm
     have h2:i≠t₂:=fun e=>hi (x₂,t₂) (Zz2 _ Zz5) e.symm
     simp[upd,h1,h2])
    exact ZpP (hel C ρ) aD3 cd l2 i3 hv2 rc e
 refine codeAny_compStart_list (loop _ rfl) ?_
 obtain⟨o0,ho0⟩:=hstart
 exact I1.self 0 W1 ρ H0 (([(C,oC)]++[(D,lst [])])++fr) fs _ _ _ o0 (.refl _) (rC.less fun q hq=>by
  rcases Zz8.mp hq with hq | hq
  ·exact Zz3 _ (Zz3 _ (Zz4 _ hq))
  ·rcases Zz8.mp hq with hq | hq
   ·rcases Zz8.mp hq with hq | hq
    ·exact Zz4 _ hq
    ·exact Zz3 _ (Zz4 _ hq)
   ·exact Zz3 _ (Zz3 _ (Zz3 _ hq))) i1 ho0 (loop _ rfl)
theorem ZvE{elt iter:Expr}{x x₂:Str}{px px₂ tp:Pos}{kt:Nat}{scope:Scope}{pos:Pos}{cl:List (Str×Addr)}{t t₂:Nat}{g:Src}{f:Ex}(hg:JI2 prog w Γ iter g)(hel:∀C ρ,J prog w (Zbz Γ scope cl C [(x,t),(x₂,t₂)] ρ) elt f)
  (hclos:closureFor scope Γ.env=pure cl) (hcell:∀y∈scope.names,y.2≠.cell) (hkind:scope.kind=.function) (hnames:∀y∈scope.names,y.2=.local→scope.names.lookup y.1=some .local) (hx:scope.names.lookup x=some .local) (hx₂:scope.names.lookup x₂=some .local) (hxx:x≠x₂) (htt:t≠t₂) (hs:∀x,foldedSetIterable iter Γ.env x=pure x:=by intro _;rfl):
  J prog w Γ (.ListComp elt [⟨.Tuple [.Name x px,.Name x₂ px₂] kt tp,iter,[],0⟩] scope pos) (ZaI g (ZcA t t₂) Zam f):=by
 intro W ρ H fr s Q E v H' r hf post
 obtain⟨z,e1,hf⟩:=Zz0.mp hf
 obtain⟨q,e2,e3⟩:=Zz1.mp hf
 cases e3
 rw[eval_ListComp]
 refine wpAny_comprehension_free (use:=Option.none) rfl hs hclos hkind hnames ?_
 refine Zpv (RR:=fun acc C=>compPost (model prog w) Γ.A E Option.none Q acc C) hg hel hcell hkind hx hx₂ hxx htt r (q:=q) (by rw[e1];exact e2) fun W2 h' tk' C D oC m₂ ys l2 hC hv hl aD aC cd r3=>?_
 refine⟨m₂,hC.ns (r3.frAt (q:=(C,oC)) Zz5),fun h'' sb=>?_⟩
 obtain⟨W5,l5,r5,v5⟩:=Zp9 hv hl aD aC cd r3 sb
 exact post W5 h'' tk' _ (l2.trans l5) r5 v5
end
end PM
end
section
set_option autoImplicit false
namespace PM
open PySem PySem.W PySem.Calls PyProof.Rows PyProof PySem.Spec
theorem ZwT{prog:Program}{w:World}{A A₀:Around}{s:Shared}{base h₀:Heap}{L:Addr}{m:Str→Option Value}{lent:List (Addr×Obj)}{K:Frag}{p:Program}{loose:List Str}{mean:ExcName→Option Value}{mg mb:Str→Option Value}
  {env:Env} {outer:List Env} {R:Result→Shared→Prop} {name qual:Str} {params:Arguments} {body:List Stmt} {scope:Scope} {dV kV doc pm cdv ct oc:Value} {an od:Option Addr} {osl:Array (Option Value)} {f:Addr} {args:Args} {binds:List (Str×Value)}
  (B:Below A₀ base outer h₀) (F:Fr h₀ L s.heap m) (X₀:K.In h₀) (N:News h₀ L s.heap lent) (T:Top p loose mean mg mb h₀) (hA:A.frames=some (env::outer)) (hf:env.frame=some L) (hke:env.scope.kind=.function)
  (ho:K.lookup f=some ⟨oc,od,.func (fnOf name qual params body scope dV kV doc pm an cdv ct),osl⟩) (hcd:codeIn K cdv qual=true) (hroom:A.depth<recursionLimit)
  (hbind:BindsTo s (fnOf name qual params body scope dV kV doc pm an cdv ct) args binds) (hall:(binds.all fun y=>scope.names.lookup y.1 == some .local || scope.names.lookup y.1 == some .cell)=true) (hone:((cellsFrom 0 scope.names []).map (·.1)).Nodup)
  (h:∀g L' h₁ tk cells,(∀b o,s.heap.get? b=some o→b∉lent.map (·.1)→g.get? b=some o)→Fr g L' h₁ (bindL (envOfC qual scope L' f cdv).kindOf binds fun _=>none)→News g L' h₁ (cells++lent)→CellsAre (bindC (envOfC qual scope L' f cdv).kindOf binds fun _=>none) (cellsFrom (L'+1) scope.names []) cells →
   (cellsFrom (L'+1) scope.names []).Pairwise (fun x y=>x.2≠y.2)→(∀n c,(n,c)∈cellsFrom (L'+1) scope.names []→L'<c)→Below A base (env::outer) g→K.In g→Top p loose mean mg mb g→(∀q∈lent,q.1<L')→s.heap.objs.size≤L' →
   wpAny (model prog w) (A.deeper (envOfC qual scope L' f cdv)) (execs body (envOfC qual scope L' f cdv)) (fun fl s'=>LeaveK h₀ L m g R (match fl with | .ret v=>v | _=>.none) s')
    (fun e s'=>wpAny (model prog w) (A.deeper (envOfC qual scope L' f cdv)) (leaving (envOfC qual scope L' f cdv) e) (fun _ s''=>R (.error e) s'') (fun e' s''=>R (.error e') s'') s') { s with heap:=h₁,toks:=tk })
  (hco:scope.isCoroutine=false) (hgen:scope.isGenerator=false) (hk:scope.kind=.function):codeAny (model prog w) A (.call (.ref f) args) R s:=by
 obtain⟨FG,BG,st,lv⟩:=groundX (R:=R) B F N hA hf hke
 have X:=X₀.keeps F.keep
 refine codeAny_call_function (fd:=fnOf name qual params body scope dV kV doc pm an cdv ct) hroom (X _ _ ho) rfl hco hgen rfl (codeRec_of X hcd) (hbind _ _ _ _ ?_)
 refine wpAny_newFunctionEnv_cells hk (kindsX hall _) fun fresh hfr s' inC=>?_
 subst hfr
 have up:=inC.toInCall.keep
 refine⟨(T.nolimit.keeps F.keep).keeps up,codeAny_func ?_⟩
 obtain⟨h₁,tk,hs',_⟩:=inC.done
 subst hs'
 have nod:=cellsFrom_names scope.names 0 (s.heap.objs.size+1) [] [] rfl▸hone
 obtain⟨cells,NC,Y⟩:=Cl.news (h₀:=s.heap) (L:=s.heap.objs.size) (Zz10 _) fun n c hm=>⟨inC.cell n c (lookup_of_mem_nodup nod hm),inC.above n c hm⟩
 have old:∀q∈lent,q.1<s.heap.objs.size:=fun q hq=>Heap.lt_size (N q hq).1
 refine wpAny_mono (h _ s.heap.objs.size h₁ tk cells (fun b o e nb=>hideAll_get _ e nb) ⟨inC.toInCall.ns,fun b o e=>up b o (of_hideAll _ e),Nat.le_of_eq (hideAll_size _ _)⟩ (fun q hq=>?_) Y inC.apart inC.above BG (X₀.keeps st) (T.keeps st) old (Zz10 _)) (fun fl s' hl=>lv _ _ hl) fun _ _ y=>y
 rcases Zz8.mp hq with hq | hq
 ·obtain⟨c1,c2,c3⟩:=NC q hq
  refine⟨c1,c2,?_⟩
  cases e:(hideAll s.heap (lent.map (·.1))).get? q.1 with
  | none=>rfl
  | some o=>
   have z:=of_hideAll _ e
   rw[c3]at z
   cases z
 ·exact⟨up _ _ (N q hq).1,Nat.ne_of_lt (old q hq),hideAll_none _ (List.mem_map_of_mem hq)⟩
section
variable (prog:Program) (w:World) (K:Frag) (p:Program) (loose:List Str) (mean:ExcName→Option Value) (mg mb:Str→Option Value)
noncomputable def Clr(Γ:Cx)(dp un:Nat): Prop:=∃(gd:Option (List Code)) (cn:Str) (cs:Scope) (a:Addr) (ccd:Value) (cl:List (Str×Addr)) (outer:List Env) (A₀:Around) (base:Heap),
 Γ.A=ktrTop dp un gd cn cs Γ.L a ccd cl outer∧Below A₀ base outer Γ.h₀∧K.In Γ.h₀∧Top p loose mean mg mb Γ.h₀∧cs.kind=.function
noncomputable def Def(f:Addr)(room:Nat)(F:List V→Hp→Option (V×Hp)): Prop:=∀(Γ:Cx) (dp un:Nat),Clr K p loose mean mg mb Γ dp un→dp+room<recursionLimit→un+10*room+300<cLine →
 ∀(W:Wd) (ρ:Lc) (H:Hp) (fr:List (Addr×Obj)) (s:Shared) (Q E:Value→Shared→Prop) (as:List V) (xs:List Value) (v:V) (H':Hp),
  Rep Γ W ρ H fr s.heap→VRs W as xs→F as H=some (v,H')→Zha Γ W ρ H' fr s Q v→wpAny (model prog w) Γ.A (call (.ref f) xs) Q E s
end
noncomputable def Z9(n:Nat)(g:Sm): List V→Hp→Option (V×Hp):=fun as H=>if as.length=n then(g (fun i=>as[i]?) H).map fun r=>((r.1.getD .none),r.2.2)else none
theorem Zua{kindOf:Str→Option NameKind}: ∀{ps:List Str} {xs:List Value} {m:Str→Option Value} {x:Str} {i:Nat} {y:Value},ps.Nodup→ps[i]?=some x→xs[i]?=some y→kindOf x=some .local→bindL kindOf (ps.zip xs) m x=some y:=by
 have skip:∀{ps:List Str} {xs:List Value} {m:Str→Option Value} {x:Str},x∉ps→bindL kindOf (ps.zip xs) m x=m x:=by
  intro ps
  induction ps with
  | nil=>intro xs m x _;rfl
  | cons p ps ih=>
   intro xs m x hx
   cases xs with
   | nil=>rfl
   | cons z xs=>
    simp only[List.zip_cons_cons,bindL]
    rw[ih (fun h=>hx (Zz2 _ h))]
    have:x≠p:=fun e=>hx (e▸List.mem_cons_self)
    split <;> simp[this]
 intro ps
 induction ps with
 | nil=>intro xs m x i y _ h;simp at h
 | cons p ps ih=>
  intro xs m x i y nd hp hx hk
  cases xs with
  | nil=>simp at hx
  | cons z xs=>
   obtain⟨n1,n2⟩:=List.nodup_cons.mp nd
   cases i with
   | zero=>
    simp at hp hx
    subst hp hx
    simp only[List.zip_cons_cons,bindL]
    rw[skip n1,if_pos hk]
    simp
   | succ i=>
    simp at hp hx
    simp only[List.zip_cons_cons,bindL]
    exact ih n2 hp hx hk
theorem Zub{kindOf:Str→Option NameKind}: ∀{ps:List Str} {xs:List Value} {m:Str→Option Value} {x:Str} {i:Nat} {y:Value},ps.Nodup→ps[i]?=some x→xs[i]?=some y→kindOf x=some .cell→bindC kindOf (ps.zip xs) m x=some y:=by
 have skip:∀{ps:List Str} {xs:List Value} {m:Str→Option Value} {x:Str},x∉ps→bindC kindOf (ps.zip xs) m x=m x:=by
  intro ps
  induction ps with
  | nil=>intro xs m x _;rfl
  | cons p ps ih=>
   intro xs m x hx
   cases xs with
   | nil=>rfl
   | cons z xs=>
    simp only[List.zip_cons_cons,bindC]
    rw[ih (fun h=>hx (Zz2 _ h))]
    have:x≠p:=fun e=>hx (e▸List.mem_cons_self)
    split <;> simp[this]
 intro ps
 induction ps with
 | nil=>intro xs m x i y _ h;simp at h
 | cons p ps ih=>
  intro xs m x i y nd hp hx hk
  cases xs with
  | nil=>simp at hx
  | cons z xs=>
   obtain⟨n1,n2⟩:=List.nodup_cons.mp nd
   cases i with
   | zero=>
    simp at hp hx
    subst hp hx
    simp only[List.zip_cons_cons,bindC]
    rw[skip n1,if_neg (by rw[hk];simp)]
    simp
   | succ i=>
    simp at hp hx
    simp only[List.zip_cons_cons,bindC]
    exact ih n2 hp hx hk
theorem ZgK{cm:Str→Option Value}: ∀{cs:List (Str×Addr)} {cells:List (Addr×Obj)} {x:Str} {c:Addr},CellsAre cm cs cells→(x,c)∈cs→∃o,(c,o)∈cells∧o.data=.cell (cm x)
 | _,_,_,_,.nil,h=>nomatch h
 | _,_,_,_,.cons hd r,h=>by
  rcases Zz7.mp h with e | h
  ·cases e
   exact⟨_,List.mem_cons_self,hd⟩
  ·obtain⟨o,h1,h2⟩:=ZgK r h
   exact⟨o,List.mem_cons_of_mem _ h1,h2⟩
theorem ZqL{cm:Str→Option Value}: ∀{cs:List (Str×Addr)} {cells:List (Addr×Obj)} {q:Addr×Obj},CellsAre cm cs cells→q∈cells→∃x,(x,q.1)∈cs
 | _,_,_,.nil,h=>nomatch h
 | _,_,_,.cons hd r,h=>by
  rcases Zz7.mp h with e | h
  ·cases e
   exact⟨_,List.mem_cons_self⟩
  ·obtain⟨x,h1⟩:=ZqL r h
   exact⟨x,List.mem_cons_of_mem _ h1⟩
theorem ZdR{α β:Type}[BEq α][LawfulBEq α]: ∀{l:List (α×β)} {x:α} {y:β},l.lookup x=some y→(x,y)∈l
 | [],_,_,h=>by simp at h
 | (a,b)::r,x,y,h=>by
  rw[List.lookup_cons]at h
  split at h
  ·rename_i e
   cases h
   have:=eq_of_beq e
   subst this
   exact Zz5
  ·exact Zz2 _ (ZdR h)
end PM
end
section
set_option autoImplicit false
namespace PM
open PySem PySem.W PySem.Calls PyProof.Rows PyProof PySem.Spec
section
variable {prog:Program} {w:World} {K:Frag} {p:Program} {loose:List Str} {mean:ExcName→Option Value} {mg mb:Str→Option Value}
theorem Zrl{name qual:Str}{params:Arguments}{body:List Stmt}{scope:Scope}{dV kV doc pm cdv ct oc:Value}{an od:Option Addr}{osl:Array (Option Value)}{f:Addr}{names:List Str}{n room:Nat}{g:Sm}
  (ho:K.lookup f=some ⟨oc,od,.func (fnOf name qual params body scope dV kV doc pm an cdv ct),osl⟩) (hcd:codeIn K cdv qual=true) (nd:names.Nodup) (hn:n≤names.length)
  (hbind:∀s xs,xs.length=n→BindsTo s (fnOf name qual params body scope dV kV doc pm an cdv ct) ⟨xs,[]⟩ ((names.take n).zip xs)) (hkinds:∀x∈names.take n,scope.names.lookup x=some .local∨scope.names.lookup x=some .cell) (hone:((cellsFrom 0 scope.names []).map (·.1)).Nodup)
  (hco:scope.isCoroutine=false) (hgen:scope.isGenerator=false) (hk:scope.kind=.function)
  (hbody:∀(dp un:Nat) (gd:Option (List Code)) (L:Addr) (outer:List Env) (h₀:Heap) (hu:un+200<cLine),Clr K p loose mean mg mb (ZbX dp un gd qual scope L f cdv (cellsFrom (L+1) scope.names []) outer h₀ hu names) dp un→dp+room<recursionLimit→un+10*room+300<cLine →
   Ss prog w (ZbX dp un gd qual scope L f cdv (cellsFrom (L+1) scope.names []) outer h₀ hu names) body g):
  Def prog w K p loose mean mg mb f (room+1) (Z9 n g):=by
 intro Γ dp un clr hd hu W ρ H fr s Q E as xs v H' r hx hF post
 obtain⟨gd,cn,cs,a,ccd,cl,outer,A₀,base,eA,B,X,T,hke⟩:=clr
 unfold Z9 at hF
 split at hF
 ·rename_i hlen
  obtain⟨res,e1,e2⟩:=Zz1.mp hF
  obtain⟨o,ρ',K'⟩:=res
  cases e2
  obtain⟨m,c,led,r⟩:=r
  have hxl:xs.length=n:=by rw[hx.length,hlen]
  have inn:∀q∈led,(q.1∈W.pi∨q.1∈W.tups.map (·.1))↔q∈led.filter (fun q=>decide (q.1∈W.pi∨q.1∈W.tups.map (·.1))):=fun q hq=>⟨fun h=>List.mem_filter.mpr ⟨hq,by simpa using h⟩,fun h=>by simpa using (List.mem_filter.mp h).2⟩
  have isub:∀q∈led.filter (fun q=>decide (q.1∈W.pi∨q.1∈W.tups.map (·.1))),q∈led:=fun q hq=>(List.mem_filter.mp hq).1
  generalize hlent:led.filter (fun q=>decide (q.1∈W.pi∨q.1∈W.tups.map (·.1)))=lent at inn isub
  have notin:∀q∈led,q.1∉W.pi→(∀t∈W.tups,q.1≠t.1)→q.1∉lent.map (·.1):=fun q hq h1 h2 h3=>by
   obtain⟨t,ht,e⟩:=Zz11.mp h3
   rcases(inn t (isub t ht)).mpr ht with z | z
   ·exact h1 (e▸z)
   ·obtain⟨u,hu,e'⟩:=Zz11.mp z
    exact h2 u hu (e▸e'.symm)
  rw[eA]
  refine wpAny_call ?_
  refine ZwT (env:=envX cn cs Γ.L a ccd cl) (lent:=lent) B r.F X (fun q hq=>r.N q (isub q hq)) T rfl rfl hke ho hcd (by show dp<recursionLimit;omega) (hbind s xs hxl) ?_ hone ?_ hco hgen hk
  ·refine List.all_eq_true.mpr fun y hy=>?_
   rcases hkinds y.1 (List.of_mem_zip hy).1 with h | h <;> simp[h]
  intro g0 L' h₁ tk cells stay F' N' Y ap ab B' X' T' old szL
  have hu':(un+3)+200<cLine:=by omega
  have clr':Clr K p loose mean mg mb (ZbX (dp+1) (un+3) gd qual scope L' f cdv (cellsFrom (L'+1) scope.names []) (envX cn cs Γ.L a ccd cl::outer) g0 hu' names) (dp+1) (un+3):=
   ⟨gd,qual,scope,f,cdv,cellsFrom (L'+1) scope.names [],envX cn cs Γ.L a ccd cl::outer,_,base,rfl,B',X',T',hk⟩
  have below:∀q∈cells,L'<q.1:=fun q hq=>by
   obtain⟨x,hx⟩:=ZqL Y hq
   exact ab x _ hx
  have piLt:∀b∈W.pi,b<L':=fun b hb=>by
   obtain⟨o,ho⟩:=r.piIn b hb
   exact Nat.lt_of_lt_of_le (Heap.lt_size (r.get ho)) szL
  have tuLt:∀t∈W.tups,t.1<L':=fun t ht=>Nat.lt_of_lt_of_le (Heap.lt_size (r.get (r.R.tups t ht))) szL
  have scN:W.sc.1∉lent.map (·.1):=fun z=>by
   obtain⟨t,ht,e⟩:=Zz11.mp z
   exact r.notSc t (isub t ht) e
  have tkn:∀{i:Nat} {x:Str} {u:V},names[i]?=some x→as[i]?=some u→(names.take n)[i]?=some x∧∃y,xs[i]?=some y∧VR W u y:=fun {i x u} h1 h2=>by
   have hi:i<n:=by rw[←hlen];exact(Zz6.mp h2).1
   exact⟨by rw[List.getElem?_take_of_lt hi];exact h1,hx.at h2⟩
  have ndt:(names.take n).Nodup:=nd.sublist (List.take_sublist _ _)
  have rep:Rep (ZbX (dp+1) (un+3) gd qual scope L' f cdv (cellsFrom (L'+1) scope.names []) (envX cn cs Γ.L a ccd cl::outer) g0 hu' names) W (fun i=>as[i]?) H [] h₁:=by
   refine⟨_,cells,cells++lent,⟨F',N',⟨r.R.len,r.R.nd,fun i vs e=>?_,fun q hq=>?_,r.R.kind⟩,stay _ _ (r.F.keep _ _ r.sc) scN,r.sc0,fun q hq=>(nomatch hq),fun q hq=>(nomatch hq),fun q hq=>List.mem_append_left _ hq,fun q hq z=>?_,fun q _ t ht=>(nomatch ht),fun q hq=>(nomatch hq),fun q hq t ht=>?_,⟨fun i x u hi hk1 hu1=>?_,fun i x u hi hk1 hu1=>?_,fun x c1 hc=>?_,fun x y c1 h1 h2=>?_⟩⟩⟩
   ·obtain⟨l,b,ys,k,h1,h2,h3⟩:=r.R.lists i vs e
    exact⟨l,b,ys,k,h1,Zer h2 fun z=>List.mem_append_right _ ((inn _ z).mp (.inl (List.mem_of_getElem? h1))),h3⟩
   ·exact Zer (r.R.tups q hq) fun z=>List.mem_append_right _ ((inn _ z).mp (.inr (List.mem_map_of_mem hq)))
   ·exact absurd (Nat.lt_trans (piLt _ z) (below q hq)) (Nat.lt_irrefl _)
   ·exact Nat.ne_of_gt (Nat.lt_trans (tuLt t ht) (below q hq))
   ·obtain⟨h1,y,h2,h3⟩:=tkn hi hu1
    exact⟨y,Zua ndt h1 h2 hk1,h3⟩
   ·obtain⟨h1,y,h2,h3⟩:=tkn hi hu1
    have hs:=cellsFrom_some scope.names (L'+1) [] (.inl hk1)
    obtain⟨c1,hc1⟩:=Option.isSome_iff_exists.mp hs
    obtain⟨o1,ho1,hd1⟩:=ZgK Y (ZdR hc1)
    refine⟨c1,o1,y,hc1,ho1,?_,h3⟩
    rw[hd1,Zub ndt h1 h2 hk1]
   ·obtain⟨o1,ho1,hd1⟩:=ZgK Y (ZdR hc)
    exact⟨o1,_,ho1,hd1⟩
   ·exact name_of_addr ap (ZdR h1) (ZdR h2)
  have hb:=hbody (dp+1) (un+3) gd L' (envX cn cs Γ.L a ccd cl::outer) g0 hu' clr' (by omega) (by omega)
  have back:∀(W':Wd) (h':Heap) (tk':Nat) (x:Value),W.Le W'→Rep (ZbX (dp+1) (un+3) gd qual scope L' f cdv (cellsFrom (L'+1) scope.names []) (envX cn cs Γ.L a ccd cl::outer) g0 hu' names) W' ρ' K' [] h'→VR W' (o.getD .none) x →
    LeaveK Γ.h₀ Γ.L m g0 (fun r s'=>match r with | .ok (.ret v)=>Q v s' | .ok _=>False | .error e=>E e s') x { s with heap:=h',toks:=tk' }:=by
   intro W' h' tk' x l' r' x'
   obtain⟨m',c',led',r'⟩:=r'
   refine⟨L',m',led',r'.F,r'.N,fun FG NG=>post W' h' tk' x l' ?_ x'⟩
   have g0at:∀q∈led,q.1∉lent.map (·.1)→g0.get? q.1=some q.2:=fun q hq hn=>stay _ _ (r.N q hq).1 hn
   have frN:∀q∈fr,q.1∉lent.map (·.1):=fun q hq=>notin q (r.frIn q hq) (r.frOff q hq) (r.frTup q hq)
   have clN:∀q∈c,q.1∉lent.map (·.1):=fun q hq=>notin q (r.clIn q hq) (r.clOff q hq) (r.clTup q hq)
   have newN:∀t∈led',g0.get? t.1=none:=fun t ht=>(r'.N t ht).2.2
   have far:∀q∈led,q.1∉lent.map (·.1)→∀t∈W'.sc::led',q.1≠t.1:=fun q hq hn t ht e=>by
    rcases Zz7.mp ht with e2 | ht
    ·rw[e2,l'.sc]at e
     exact r.notSc q hq e
    ·have:=g0at q hq hn
     rw[e,newN t ht]at this
     cases this
   have farPi:∀q∈led,q.1∉lent.map (·.1)→q.1∉W'.pi:=fun q hq hn z=>by
    obtain⟨o2,h2⟩:=r'.piIn _ z
    exact far q hq hn _ h2 rfl
   have keep:∀q∈led,q.1∉lent.map (·.1)→q∈led'++led.filter (fun q=>decide (q.1∉lent.map (·.1))):=fun q hq hn=>List.mem_append_right _ (List.mem_filter.mpr ⟨hq,by simpa using hn⟩)
   refine⟨m,c,led'++led.filter (fun q=>decide (q.1∉lent.map (·.1))),⟨FG,fun q hq=>?_,r'.R.mono fun q hq=>ZfM hq fun x hx=>List.mem_append_left _ hx,l'.sc▸r.sc,r'.sc0,fun q hq=>keep q (r.frIn q hq) (frN q hq),fun q hq=>farPi q (r.frIn q hq) (frN q hq),fun q hq=>keep q (r.clIn q hq) (clN q hq),fun q hq=>farPi q (r.clIn q hq) (clN q hq),r.apart,fun q hq t ht=>far q (r.frIn q hq) (frN q hq) t (r'.R.tups t ht),fun q hq t ht=>far q (r.clIn q hq) (clN q hq) t (r'.R.tups t ht),Γ.mono l' r.own⟩⟩
   rcases Zz8.mp hq with hq | hq
   ·exact NG q hq
   ·obtain⟨h1,h2⟩:=List.mem_filter.mp hq
    exact⟨r'.F.keep _ _ (g0at q h1 (by simpa using h2)),(r.N q h1).2⟩
  refine hb W _ H [] _ _ _ (o,ρ',K') rep e1 ?_
  cases o with
  | none=>exact fun W' h' tk' l' r'=>back W' h' tk' .none l' r' .none
  | some v0=>exact fun W' h' tk' x l' r' x'=>back W' h' tk' x l' r' x'
 ·cases hF
theorem ZvF{Γ:Cx}{dp un:Nat}{x:Str}{np pos:Pos}{f:Addr}{room:Nat}{e:Expr}{es:List Expr}{g:Exs}{o:List V→Hp→Option (V×Hp)}(clr:Clr K p loose mean mg mb Γ dp un)(hn:Nm prog w Γ x (.ref f))(hkeep:keepIn K (.ref f)=true)(D:Def prog w K p loose mean mg mb f room o)(hd:dp+room<recursionLimit)(hu:un+10*room+300<cLine)
  (h:Js prog w Γ (e::es) g) (he:starEach (e::es) Γ.env=(false,eval e Γ.env)::starEach es Γ.env:=by rfl) (hp:∀pos,(backTo pos (starEach es Γ.env)).any (·.1)=false:=by intro _;rfl):J prog w Γ (.Call (.Name x np) (e::es) [] pos) (Zu o g):=by
 intro W ρ H fr s Q E v H' r hf post
 obtain⟨q,e1,hf⟩:=Zz0.mp hf
 have X:K.In Γ.h₀:=by
  obtain⟨_,_,_,_,_,_,_,_,_,_,_,X,_⟩:=clr
  exact X
 refine wpAny_Call_ofName (hn.use r ?_)
 refine callWith_K (first:=[]) X hkeep (h pos W ρ H fr s _ E _ _ r e1 fun W1 k1 t1 xs l1 r1 x1=>⟨?_,?_⟩) he (hp pos)
 ·obtain⟨m,c,led,r1⟩:=r1
  exact X.keeps r1.F.keep
 ·exact D Γ dp un clr hd hu W1 ρ _ fr _ Q E _ xs v H' r1 x1 hf fun W2 k2 t2 y l2 r2 y2=>post W2 k2 t2 y (l1.trans l2) r2 y2
theorem Zch{Γ:Cx}{dp un:Nat}{scope:Scope}{cl:List (Str×Addr)}{C:Addr}{ts:List (Str×Nat)}{ρ0:Lc}(h:Clr K p loose mean mg mb Γ dp un): Clr K p loose mean mg mb (Zbz Γ scope cl C ts ρ0) dp un:=h
end
end PM
end
section
set_option autoImplicit false
namespace PM
open PySem PySem.W PySem.Calls PyProof.Rows PyProof PySem.Spec
theorem Zke{lo:Nat}: ∀(names:List (Str×NameKind)) (n:Nat) (acc:List (Str×Addr)),acc.Pairwise (fun x y=>x.2≠y.2)→(∀q∈acc,lo<q.2∧q.2<n)→lo<n→(cellsFrom n names acc).Pairwise (fun x y=>x.2≠y.2)∧∀q∈cellsFrom n names acc,lo<q.2
 | [],n,acc,h1,h2,_=>⟨h1,fun q hq=>(h2 q hq).1⟩
 | (y,k)::r,n,acc,h1,h2,h3=>by
  unfold cellsFrom
  by_cases hk:(k == .cell)=true
  ·rw[if_pos hk]
   refine Zke r (n+1) ((y,n)::acc) (List.pairwise_cons.mpr ⟨fun q hq=>Nat.ne_of_gt (h2 q hq).2,h1⟩) (fun q hq=>?_) (Nat.lt_succ_of_lt h3)
   rcases Zz7.mp hq with e | hq
   ·rw[e]
    exact⟨h3,Nat.lt_succ_self n⟩
   ·exact⟨(h2 q hq).1,Nat.lt_succ_of_lt (h2 q hq).2⟩
  ·rw[if_neg hk]
   exact Zke r n acc h1 h2 h3
theorem Zuc{P:Params}{h:Heap}{a:Addr}{ns:List Int}(w1:Well P h (.ref a) (ofPy (.list (ns.map PyData.int))))(W:Wd): ∃vs,h.get? a=some (Zb7 vs 0)∧VRs W (ns.map V.int) vs:=by
 have key:∀{ns:List Int} {vs:List Value} {xs:List WData},xs=(ns.map PyData.int).map ofPy→WellAll P h vs xs→VRs W (ns.map V.int) vs:=by
  intro ns
  induction ns with
  | nil=>intro vs xs e h;subst e;cases h;exact .nil
  | cons n ns ih=>
   intro vs xs e h
   subst e
   cases h with
   | cons h1 h2=>
    cases h1 with
    | int i t=>exact .cons (.int _ _) (ih rfl h2)
 have e:ofPy (.list (ns.map PyData.int))=.list ((ns.map PyData.int).map ofPy):=by rw[ofPy,ofPys_eq]
 rw[e]at w1
 cases w1 with
 | list hg ha=>exact⟨_,hg,key rfl ha⟩
section
variable {prog:Program} {w:World} {K:Frag} {p:Program} {loose:List Str} {mean:ExcName→Option Value} {mg mb:Str→Option Value}
theorem ZvG{P:Params}{h₀:Heap}{s:Shared}{sa fa:Addr}{cd:Value}{ns:List Int}{qual pname:Str}{scope:Scope}{body:List Stmt}{names:List Str}{g:Sm}{cells:List (Addr×Obj)}{Q:Flow→Shared→Prop}{E:Value→Shared→Prop}{room:Nat}{H':Hp}
  (hbody:∀(dp un:Nat) (gd:Option (List Code)) (L a:Addr) (ccd:Value) (outer:List Env) (h₀:Heap) (hu:un+200<cLine),Clr K p loose mean mg mb (ZbX dp un gd qual scope L a ccd (cellsFrom (L+1) scope.names []) outer h₀ hu names) dp un→dp+room<recursionLimit→un+10*room+300<cLine →
   Ss prog w (ZbX dp un gd qual scope L a ccd (cellsFrom (L+1) scope.names []) outer h₀ hu names) body g)
  (hd:callerA.depth+1+room<recursionLimit) (hun:callerA.units+3+10*room+300<cLine) (hk:scope.kind=.function) (h0:names[0]?=some pname)
  (KX:K.In h₀) (T:Top p loose mean mg mb h₀) (w1:Well P h₀ (.ref sa) (ofPy (.list (ns.map PyData.int)))) (hlen:ns.length≤LEN)
  (F:Fr h₀ h₀.objs.size s.heap (bindL (envOfC qual scope h₀.objs.size fa cd).kindOf [(pname,.ref sa)] fun _=>none)) (N:News h₀ h₀.objs.size s.heap cells) (X0:CellsAre (bindC (envOfC qual scope h₀.objs.size fa cd).kindOf [(pname,.ref sa)] fun _=>none) (cellsFrom (h₀.objs.size+1) scope.names []) cells)
  (hg:Z9 1 g [.ref 0] [ns.map V.int]=some (.bool true,H')) (post:∀h' tk' m',Fr h₀ h₀.objs.size h' m'→Q (.ret (.bool true)) { s with heap:=h',toks:=tk' }):
  wpAny (model prog w) (callerA.deeper (envOfC qual scope h₀.objs.size fa cd)) (execs body (envOfC qual scope h₀.objs.size fa cd)) Q E s:=by
 have hu':(callerA.units+3)+200<cLine:=by omega
 have clr:Clr K p loose mean mg mb (ZbX (callerA.depth+1) (callerA.units+3) callerA.guards qual scope h₀.objs.size fa cd (cellsFrom (h₀.objs.size+1) scope.names []) [] h₀ hu' names) (callerA.depth+1) (callerA.units+3):=
  ⟨callerA.guards,qual,scope,fa,cd,cellsFrom (h₀.objs.size+1) scope.names [],[],_,_,rfl,below_caller h₀,KX,T,hk⟩
 have hb:=hbody (callerA.depth+1) (callerA.units+3) callerA.guards h₀.objs.size fa cd [] h₀ hu' clr hd hun
 obtain⟨vs,hsc,hv⟩:=Zuc w1 ⟨[sa],[],(sa,Zb7 [] 0)⟩
 have hv':VRs ⟨[sa],[],(sa,Zb7 vs 0)⟩ (ns.map V.int) vs:=by
  clear hg post w1 hlen hsc
  generalize ns.map V.int=us at hv
  have key:∀{us:List V} {xs:List Value},VRs ⟨[sa],[],(sa,Zb7 [] 0)⟩ us xs→VRs ⟨[sa],[],(sa,Zb7 vs 0)⟩ us xs:=by
   intro us
   induction us with
   | nil=>intro xs h;cases h;exact .nil
   | cons u us ih=>
    intro xs h
    cases h with
    | cons a b=>
     refine .cons ?_ (ih b)
     cases a with
     | none=>exact .none
     | bool b=>exact .bool b
     | int i t=>exact .int i t
     | str s t=>exact .str s t
     | tup hm _ _=>exact nomatch hm
     | ref e=>exact .ref e
  exact key hv
 have far:=Zke (lo:=h₀.objs.size) scope.names (h₀.objs.size+1) [] .nil (fun q hq=>nomatch hq) (Nat.lt_succ_self _)
 unfold Z9 at hg
 rw[if_pos (show([V.ref 0]:List V).length=1 from rfl)]at hg
 obtain⟨res,e1,e2⟩:=Zz1.mp hg
 obtain⟨o,ρ',K'⟩:=res
 have eo:o=some (.bool true):=by
  cases o with
  | none=>simp at e2
  | some v=>simp at e2;rw[e2.1]
 subst eo
 have pick:∀{i:Nat} {x:Str} {u:V},names[i]?=some x→([V.ref 0]:List V)[i]?=some u→x=pname∧u=.ref 0:=fun {i x u} h1 h2=>by
  have hi:i<1:=(Zz6.mp h2).1
  have:i=0:=by omega
  subst this
  rw[h0]at h1
  simp at h1 h2
  exact⟨h1.symm,h2.symm⟩
 have rep:Rep (ZbX (callerA.depth+1) (callerA.units+3) callerA.guards qual scope h₀.objs.size fa cd (cellsFrom (h₀.objs.size+1) scope.names []) [] h₀ hu' names) ⟨[sa],[],(sa,Zb7 vs 0)⟩ (fun i=>[V.ref 0][i]?) [ns.map V.int] [] s.heap:=by
  refine⟨_,cells,cells,⟨F,N,⟨rfl,by simp,fun i us e=>?_,fun q hq=>(nomatch hq),fun q hq=>(nomatch hq)⟩,hsc,rfl,fun q hq=>(nomatch hq),fun q hq=>(nomatch hq),fun q hq=>hq,fun q hq z=>?_,fun q _ t ht=>(nomatch ht),fun q hq=>(nomatch hq),fun q hq t ht=>(nomatch ht),⟨fun i x u hi hk1 hu1=>?_,fun i x u hi hk1 hu1=>?_,fun x c1 hc=>?_,fun x y c1 h1 h2=>?_⟩⟩⟩
  ·have hi:i<1:=(Zz6.mp e).1
   have:i=0:=by omega
   subst this
   simp at e
   subst e
   exact⟨by simpa using hlen,sa,vs,0,rfl,List.mem_cons_self,hv'⟩
  ·have:=(N q hq).2.2
   rw[List.mem_singleton.mp z,hsc]at this
   cases this
  ·obtain⟨e3,e4⟩:=pick hi hu1
   subst e3 e4
   refine⟨.ref sa,?_,.ref rfl⟩
   show bindL _ _ _ _=_
   unfold bindL bindL
   rw[if_pos (show(envOfC qual scope h₀.objs.size fa cd).kindOf x=some .local from hk1)]
   simp
  ·obtain⟨e3,e4⟩:=pick hi hu1
   subst e3 e4
   have hs:=cellsFrom_some scope.names (h₀.objs.size+1) [] (.inl hk1)
   obtain⟨c1,hc1⟩:=Option.isSome_iff_exists.mp hs
   obtain⟨o1,ho1,hd1⟩:=ZgK X0 (ZdR hc1)
   refine⟨c1,o1,.ref sa,hc1,ho1,?_,.ref rfl⟩
   rw[hd1]
   unfold bindC bindC
   rw[if_neg (show ¬(envOfC qual scope h₀.objs.size fa cd).kindOf x=some .local by show ¬scope.names.lookup x=some .local;rw[hk1];simp)]
   simp
  ·obtain⟨o1,ho1,hd1⟩:=ZgK X0 (ZdR hc)
   exact⟨o1,_,ho1,hd1⟩
  ·exact name_of_addr far.1 (ZdR h1) (ZdR h2)
 refine hb _ _ _ [] s Q E _ rep e1 ?_
 intro W' h' tk' x l' r' x'
 cases x' with
 | bool _=>
  obtain⟨m',c',led',r'⟩:=r'
  exact post h' tk' m' r'.F
end
end PM
end
section
set_option autoImplicit false
namespace PM
open PySem PySem.W PySem.Calls PyProof.Rows PyProof PyProof.Rows.LCg PyProof.Rows.LSm
theorem Rep.listAt{Γ:Cx}{W:Wd}{ρ:Lc}{H:Hp}{fr:List (Addr×Obj)}{h h':Heap}{vs:List V}{xs:List Value}{k:Nat}(r:Rep Γ W ρ H fr h)(up:∀b o,h.get? b=some o→h'.get? b=some o)(hg:h'.get? h.objs.size=some (Zb7 xs k))(hv:VRs W vs xs)(hl:vs.length≤LEN):
  ∃W',W.Le W'∧Rep Γ W' ρ (H++[vs]) fr h'∧VR W' (.ref H.length) (.ref h.objs.size):=by
 obtain⟨r2,ap⟩:=r.more (fs:=[(h.objs.size,Zb7 xs k)]) up (fun q hq=>by rw[List.mem_singleton.mp hq];exact⟨hg,Nat.le_refl _⟩)
 exact Zgr r2 (fun t ht=>ap _ Zz5 t ht) hv hl
noncomputable def Zcu: List V→Hp→Option (V×Hp)
 | [.ref a],H=>H[a]?.map fun vs=>(.ref H.length,H++[vs])
 | [.tup vs],H=>some (.ref H.length,H++[vs])
 | _,_=>none
noncomputable def ZfB: List V→Hp→Option (V×Hp)
 | [.ref a],H=>H[a]?.map fun vs=>(.tup vs,H)
 | [.tup vs],H=>some (.tup vs,H)
 | _,_=>none
noncomputable def ZfC: List V→Option (List Bool)
 | []=>some []
 | .bool b::vs=>(ZfC vs).map fun bs=>b::bs
 | _::_=>none
noncomputable def Zyl: List V→Hp→Option (V×Hp)
 | [.ref a],H=>H[a]?.bind fun vs=>(ZfC vs).map fun bs=>(.bool (bs.all id),H)
 | _,_=>none
noncomputable def Zhd: List V→Hp→Option (V×Hp)
 | [.ref a],H=>H[a]?.bind fun vs=>(ZfC vs).map fun bs=>(.bool (bs.any id),H)
 | _,_=>none
theorem Zte{W:Wd}: ∀{vs:List V} {xs:List Value} {bs:List Bool},VRs W vs xs→ZfC vs=some bs→BoolsAre xs bs:=by
 intro vs
 induction vs with
 | nil=>intro xs bs h e;cases h;cases e;exact .nil
 | cons v vs ih=>
  intro xs bs h e
  cases h with
  | cons a b=>
   cases v with
   | bool c=>
    obtain⟨cs,e1,e2⟩:=Zz1.mp e
    subst e2
    cases a
    exact .cons _ (ih b e1)
   | none=>cases e
   | int _=>cases e
   | str _=>cases e
   | tup _=>cases e
   | ref _=>cases e
section
variable {prog:Program} {w:World}
theorem Zdj: OpN prog w (fun xs=>call (.type "list") xs) Zcu:=by
 intro Γ W ρ H fr s Q E as xs v H' r hx ho post
 unfold Zcu at ho
 split at ho
 ·obtain⟨vs,e1,e2⟩:=Zz1.mp ho
  cases e2
  obtain⟨x,ex,rx⟩:=hx.one
  subst ex
  cases rx with
  | @ref _ a ea=>
   obtain⟨hl,ys,k,hg,hv⟩:=r.at e1 ea
   refine call_list_seq (hsz:=Zdi (by rw[List.size_toArray,hv.length];exact hl)) a (.inl rfl) hg rfl rfl fun h' c' up hg'=>?_
   obtain⟨W2,l2,r2,v2⟩:=r.listAt up hg' hv hl
   exact post W2 h' s.toks _ l2 r2 v2
 ·cases ho
  obtain⟨x,ex,rx⟩:=hx.one
  subst ex
  cases rx with
  | @tup _ a ys k hm hl hv=>
   refine call_list_seq (hsz:=Zdi (by rw[List.size_toArray,hv.length];exact hl)) a (.inr rfl) (r.tupAt hm) rfl rfl fun h' c' up hg'=>?_
   obtain⟨W2,l2,r2,v2⟩:=r.listAt up hg' hv hl
   exact post W2 h' s.toks _ l2 r2 v2
 ·cases ho
theorem Zud: OpN prog w (fun xs=>call (.type "tuple") xs) ZfB:=by
 intro Γ W ρ H fr s Q E as xs v H' r hx ho post
 unfold ZfB at ho
 split at ho
 ·obtain⟨vs,e1,e2⟩:=Zz1.mp ho
  cases e2
  obtain⟨x,ex,rx⟩:=hx.one
  subst ex
  cases rx with
  | @ref _ a ea=>
   obtain⟨hl,ys,k,hg,hv⟩:=r.at e1 ea
   have isl:s.heap.IsList a ys.toArray:=⟨_,hg,rfl,k,rfl⟩
   refine call_tuple_list isl (fun h' up=>?_) (Zdi (by rw[List.size_toArray,hv.length];exact hl))
   obtain⟨W2,l2,r2,v2⟩:=(r.grown up).tuple (k:=0) hv hl
   exact post W2 _ s.toks _ l2 r2 v2
 ·cases ho
  obtain⟨x,ex,rx⟩:=hx.one
  subst ex
  cases rx with
  | @tup _ a ys k hm hl hv=>
   have it:IsTup s.heap a ys.toArray:=⟨_,r.tupAt hm,rfl,k,rfl⟩
   exact call_tuple_tup it (post W s.heap s.toks _ (.refl W) r (.tup hm hl hv))
 ·cases ho
theorem ZwU: OpN prog w (fun xs=>call (.builtin "any") xs) Zhd:=by
 intro Γ W ρ H fr s Q E as xs v H' r hx ho post
 unfold Zhd at ho
 split at ho
 ·obtain⟨vs,e1,e2⟩:=Zz0.mp ho
  obtain⟨bs,e3,e4⟩:=Zz1.mp e2
  cases e4
  obtain⟨x,ex,rx⟩:=hx.one
  subst ex
  cases rx with
  | @ref _ a ea=>
   obtain⟨hl,ys,k,hg,hv⟩:=r.at e1 ea
   have isl:s.heap.IsList a ys.toArray:=⟨_,hg,rfl,k,rfl⟩
   obtain⟨m,c,led,r'⟩:=r
   exact any_bools r'.F r'.N Γ.hh isl (Zte hv e3) fun h' tk F' N'=>post W h' tk _ (.refl W) (r'.same F' N') (.bool _)
 ·cases ho
end
section
variable {prog:Program} {w:World} {K:Frag} {p:Program} {loose:List Str} {mean:ExcName→Option Value} {mg mb:Str→Option Value} {Γ:Cx} {dp un:Nat}
theorem ZwV{x:Str}{v:Value}(clr:Clr K p loose mean mg mb Γ dp un)(e:nsIn K mainGlobals x=some (some v))(hg:Γ.env.globals=mainGlobals)(hk:Γ.env.scope.kind=.function)(hx:Γ.env.kindOf x=some .globalImplicit)(hd:(x == ("__debug__":Str))=false): Nm prog w Γ x v:=by
 obtain⟨_,_,_,_,_,_,_,_,_,_,_,X,T,_⟩:=clr
 intro pos m s Q E F q
 exact Name_function_global hk hx (loadGlobal_global (env:=Γ.env) (by rw[hg];exact T.g.keeps F.keep) (mg_of X T.g e) q) hd
theorem ZuO{x:Str}{v:Value}(clr:Clr K p loose mean mg mb Γ dp un)(e:nsIn K mainGlobals x=some none)(hv:bootBuiltins x=some v)(hn:x≠"__name__")(hg:Γ.env.globals=mainGlobals)(hb:Γ.env.builtins=builtinsNs)(hk:Γ.env.scope.kind=.function)(hx:Γ.env.kindOf x=some .globalImplicit)(hd:(x == ("__debug__":Str))=false): Nm prog w Γ x v:=by
 obtain⟨_,_,_,_,_,_,_,_,_,_,_,X,T,_⟩:=clr
 intro pos m s Q E F q
 exact Name_function_global hk hx (loadGlobal_builtin (env:=Γ.env) (by rw[hg];exact T.g.keeps F.keep) (mg_none_of X T.g e) (by rw[hb];exact T.b.keeps F.keep) ((T.builtins x hn).trans hv) q) hd
end
section
variable {prog:Program} {w:World} {Γ:Cx} {scope:Scope} {cl:List (Str×Addr)} {C:Addr} {ts:List (Str×Nat)} {ρ0:Lc}
theorem ZvH{x:Str}{t:Nat}(hm:(x,t)∈ts)(hk:scope.kind=.function)(hl:(compEnvC scope cl C Γ.env).kindOf x=some .local)(hd:(x == ("__debug__":Str))=false): Rd prog w (Zbz Γ scope cl C ts ρ0) x t:=by
 intro W ρ H fr s Q E v pos r e q
 obtain⟨m,c,led,r⟩:=r
 obtain⟨oC,m₂,cs,ec,h0,h1,h2,h3,h4⟩:=r.own
 obtain⟨v',y,e1,e2,e3⟩:=h2 _ hm
 rw[e]at e1
 cases e1
 exact LCgL.ld_own r.N (r.clIn _ (by rw[ec];exact Zz5)) h1 e2 (q y e3) hk hl hd
end
section
variable {prog:Program} {w:World} {dp un:Nat} {gd:Option (List Code)} {cn:Str} {cs:Scope} {L a:Addr} {ccd:Value} {clf:List (Str×Addr)} {outer:List Env} {h₀:Heap} {hu:un+200<cLine} {names:List Str} {scope:Scope} {cl:List (Str×Addr)} {C:Addr} {ts:List (Str×Nat)} {ρ0:Lc}
theorem ZvI{x:Str}{i:Nat}(hi:names[i]?=some x)(hx:cs.names.lookup x=some .cell)(hne:∀p∈ts,p.2≠i)(hcl:cl.lookup x=clf.lookup x)(hk:scope.kind=.function)(hl:(compEnvC scope cl C (envX cn cs L a ccd clf)).kindOf x=some .cell)(hd:(x == ("__debug__":Str))=false):
  Rd prog w (Zbz (ZbX dp un gd cn cs L a ccd clf outer h₀ hu names) scope cl C ts ρ0) x i:=by
 intro W ρ H fr s Q E v pos r e q
 obtain⟨m,c,led,r⟩:=r
 obtain⟨oC,m₂,cs',ec,h0,h1,h2,h3,h4⟩:=r.own
 rw[h3 i hne]at e
 obtain⟨d,o,y,g1,g2,g3,g4⟩:=h4.cel i x v hi hx e
 exact kcf_cell r.N (hcl.trans g1) (r.clIn _ (by rw[ec];exact Zz2 _ g2)) g3 (q y g4) hk hl hd
end
end PM
end
section
namespace My
open PySem PySem.W PySem.Calls PyProof.Rows PySem.Spec
structure Cell(v:Int): Prop where
 bits:Builtin.Int.intBits v≤2 ^ 20
theorem bits_zero: Builtin.Int.intBits 0≤2 ^ 20:=by unfold Builtin.Int.intBits;simp
theorem cell_at{ns:List Int}(h:PyData.layable0 (.list (ns.map .int))=true)(i:Int): Cell (cellAt ns i 0):=by
 refine⟨?_⟩
 rw[cellAt_def,List.getD_eq_getElem?_getD]
 cases e:ns[i.toNat]? with
 | none=>exact bits_zero
 | some v=>exact PyData.bits_item_of_ints h (List.mem_of_getElem? e)
section
variable {prog:Program} {w:World} {A:Around} {E:Value→Shared→Prop} {s:Shared} {x y:Int} {t u:Tok} {Q:Value→Shared→Prop}
@[irreducible] noncomputable def T9: Int:=10 ^ 9
theorem T9_eq: T9=1000000000:=by unfold T9;decide +kernel
end
end My
end
section
set_option autoImplicit false
/-! Reckoning with the plain machine. -/
namespace PM
open PySem PySem.W PyProof.Rows
section
variable (ρ:Lc) (H:Hp)
@[simp] theorem ZuP: Zg5 ρ H=some (none,H):=rfl
@[simp] theorem ZuQ(f:Ex): Zot f ρ H=(f ρ H).map fun p=>(some p.1,p.2):=rfl
end
section
variable (a b:Int) (H:Hp)
end
theorem ZrM{b:Int}(hb:0≤b): Builtin.Range.rangeSize 0 b 1=b:=by
 unfold Builtin.Range.rangeSize
 rw[if_pos (by decide)]
 by_cases h:(0:Int)<b
 ·rw[if_pos h]
  omega
 ·rw[if_neg h]
  omega
theorem ZwW{b:Int}{H:Hp}(hb:0≤b)(hb9:b≤1000): ZcI 0 b 1 H=some (ZfA 0 1 b.toNat,b.toNat+1,H):=by
 unfold ZcI rngN
 rw[ZrM hb,if_pos]
 refine⟨by decide,?_,hb,by rw[Zbm];omega,?_⟩
 ·unfold Builtin.Range.small
  rw[ZrM hb]
  simp only[Builtin.Range.rangeFitsLong,Bool.and_eq_true,Bool.or_eq_true,decide_eq_true_eq,beq_iff_eq]
  rw[if_pos (by decide)]
  simp only[Bool.and_eq_true,decide_eq_true_eq]
  by_cases h:(0:Int)<b
  ·refine⟨⟨⟨⟨?_,?_⟩,?_⟩,?_⟩,Or.inr ?_⟩ <;> omega
  ·refine⟨⟨⟨⟨?_,?_⟩,?_⟩,?_⟩,?_⟩ <;> first | omega | (left;omega)
 ·exact PyProof.noPylong_small (by omega)
end PM
end
section
set_option autoImplicit false
namespace PM
open PySem PySem.W PyProof.Rows My
theorem Zqa{a b:Int}(h:IntMulOk a b): mulOk a b=true:=by
 unfold IntMulOk at h
 unfold mulOk
 cases e:(decide (Builtin.Int.intBits a>shortFactorBits) && decide (Builtin.Int.intBits b>shortFactorBits) && Builtin.Int.intTooBig (Builtin.Int.intBits a+Builtin.Int.intBits b))with
 | true=>exact absurd e h
 | false=>rfl
theorem Zou{a b:Int}{H:Hp}(h:0≤b∧(Builtin.Int.intBits a:Int)*b≤2 ^ 27): oPow (.int a) (.int b) H=some (.int (a ^ b.toNat),H):=by simp only[oPow];rw[if_pos h]
theorem ZxN(H:Hp): oPow (.int 10) (.int 9) H=some (.int T9,H):=by rw[Zou (by decide +kernel)];unfold T9;rfl
end PM
end
section
set_option autoImplicit false
namespace PM
open PySem PySem.W PyProof.Rows My
section
variable {ρ ρ1 ρ2:Lc} {H H1 H2 H3:Hp}
theorem ZwX{k:Int}: Zk k ρ H=some (.int k,H):=rfl
theorem ZvJ{f g:Ex}{a:Nat}{k:Int}{n:Nat}{vs:List V}(h1:f ρ H=some (.ref a,H1))(h2:g ρ H1=some (.int k,H2))(e:H2[a]?=some vs)(hk:k=(n:Int)): Zn8 f (Zot g) Zg5 ρ H=some (.ref H2.length,H2++[vs.drop n]):=by
 simp only[Zn8,h1,Option.bind_some,ZuQ,h2,Option.map_some,ZuP,Zg4,e]
 rw[Zt6 vs hk]
end
end PM
end
section
set_option autoImplicit false
namespace PM
open PySem PySem.W PyProof.Rows PyProof
noncomputable def ZdI(f:Ex)(k:Nat): Ex:=fun ρ H=>(f ρ H).bind fun p=>match p.1 with
 | .ref i=>p.2[i]?.bind fun vs=>some (.ref p.2.length,p.2++[vs.drop k])
 | .tup vs=>if 1≤k∧k≤vs.length then some (.tup (vs.drop k),p.2)else none
 | _=>none
section
variable {prog:Program} {w:World} {Γ:Cx}
theorem ZgT{e lo:Expr}{p pos:Pos}{f:Ex}{k:Nat}(h:J prog w Γ e f)(hlo:J prog w Γ lo (Zk k))(ht:∀o r,letTemporaryGo e o r=pure ():=by intro _ _;rfl): J prog w Γ (.Subscript e (.Slice (Option.some lo) Option.none Option.none p) pos) (ZdI f k):=by
 intro W ρ H fr s Q E v H' r hf post
 obtain⟨⟨v1,H1⟩,e1,hf⟩:=Zz0.mp hf
 cases v1 with
 | none=>cases hf
 | bool _=>cases hf
 | int _=>cases hf
 | str _=>cases hf
 | ref i=>
  obtain⟨vs,e2,e3⟩:=Zz0.mp hf
  refine Zvz h (JP.some hlo) JP.none ht W ρ H fr s Q E v H' r ?_ post
  rw[ZvJ (n:=k) e1 ZwX e2 rfl]
  exact e3
 | tup vs=>
  simp only at hf
  by_cases c:1≤k∧k≤vs.length
  ·rw[if_pos c]at hf
   cases hf
   refine wpAny_Subscript_Slice (T:="tuple") slot_tuple_getitem.lookup (h W ρ H fr s _ E _ _ r e1 fun W1 k1 t1 x l1 r1 x1=>?_) ht
   refine wpAny_Slice ?_
   refine wpAny_evalPart_some (hlo W1 ρ _ fr _ _ E _ _ r1 rfl fun W2 k2 t2 y l2 r2 y2=>?_)
   refine wpAny_evalPart_none ?_
   refine wpAny_evalPart_none ?_
   cases y2 with
   | int _ u=>
    have x2:=x1.mono l2
    cases x2 with
    | @tup _ a ys kk hm hl hs=>
     have it:IsTup k2 a ys.toArray:=⟨_,r2.tupAt hm,rfl,kk,rfl⟩
     have it':IsTup (k2.push { cls:=.type "slice",data:=.fields #[.int k u,.none,.none] }) a ys.toArray:=it.keeps fun _ _ e=>Heap.get?_push_of_some _ e
     have hlen:=hs.length
     rw[Zbm]at hl
     refine⟨it'.typeIs,getItem_tuple_from it' (Heap.IsSliceOf.new ..) c.1 (by simp[hlen];exact c.2) ?_ (Zdi (by simp[hlen];rw[Zbm];exact hl))⟩
     obtain⟨W4,l4,r4,v4⟩:=(r2.push { cls:=.type "slice",data:=.fields #[.int k u,.none,.none] }).tuple (k:=0) (hs.drop k) (by rw[Zbm];simp;omega)
     have:=post W4 _ t2 _ ((l1.trans l2).trans l4) r4 v4
     simpa using this
  ·rw[if_neg c]at hf
   cases hf
end
section
variable {ρ:Lc} {H:Hp} {Q:V→Hp→Prop}
theorem ZrN{a b c:Int}(hc:0<c)(hb:a<b): Builtin.Range.rangeSize a b c=(b-a-1) / c+1:=by
 unfold Builtin.Range.rangeSize
 rw[if_pos hc,if_pos hb]
theorem ZwY{a b c:Int}{H:Hp}(ha:0≤a)(hb:a<b)(hb9:b≤1000)(hc:0<c)(hc9:c≤1000): ZcI a b c H=some (ZfA a c (rngN a b c),rngN a b c+1,H):=by
 have e:=ZrN hc hb
 have h0:0≤(b-a-1) / c:=Int.ediv_nonneg (by omega) (by omega)
 have h2:(b-a-1) / c≤b-a-1:=Int.ediv_le_self _ (by omega)
 unfold ZcI
 rw[if_pos]
 refine⟨by omega,?_,by omega,by unfold rngN;rw[Zbm];omega,PyProof.noPylong_small (by omega)⟩
 unfold Builtin.Range.small
 rw[e]
 simp only[Builtin.Range.rangeFitsLong,Bool.and_eq_true,Bool.or_eq_true,decide_eq_true_eq,beq_iff_eq]
 rw[if_pos hc]
 simp only[Bool.and_eq_true,decide_eq_true_eq]
 refine⟨⟨⟨⟨?_,?_⟩,?_⟩,?_⟩,?_⟩ <;> first | omega | (left;omega) | (right;omega)
end
end PM
end
section
set_option autoImplicit false
namespace PM
open PySem PySem.W PyProof.Rows PyProof My
section
variable {ρ:Lc} {H:Hp} {Q:V→Hp→Prop} {L:List V→Hp→Prop}
end
noncomputable def od: Option Int→PyData
 | none=>.none
 | some k=>.int k
theorem Zpe{a:Int}{k:Nat}(h:Builtin.Int.intBits a≤k): a.natAbs<2 ^ k:=by
 unfold Builtin.Int.intBits at h
 by_cases z:a=0
 ·subst z
  exact Nat.two_pow_pos k
 ·rw[if_neg (by simpa using z)]at h
  exact Nat.lt_of_lt_of_le Nat.lt_log2_self (Nat.pow_le_pow_right (by decide) h)
theorem ZuR{a b:Int}{k:Nat}(ha:Builtin.Int.intBits a≤k)(hb:Builtin.Int.intBits b≤k): Builtin.Int.intBits (a+b)≤k+1:=by
 refine PyProof.Rows.intBits_le ?_
 have h1:=Zpe ha
 have h2:=Zpe hb
 rw[Nat.pow_succ]
 omega
theorem Zqb{a b:Int}(ha:Builtin.Int.intBits a≤2 ^ 21)(hb:Builtin.Int.intBits b≤2 ^ 21): mulOk a b=true:=by
 have e:(2:Nat) ^ 21=2097152:=by decide
 have h:Builtin.Int.intTooBig (Builtin.Int.intBits a+Builtin.Int.intBits b)=false:=by
  unfold Builtin.Int.intTooBig bitsLine
  exact decide_eq_false (by omega)
 unfold mulOk
 rw[h]
 simp
theorem Zue{a b:Int}(h1:-(2 ^ 64)<b)(h2:b<2 ^ 64): mulOk a b=true:=Zqa (IntMulOk.of_right (intBits_le_64 h1 h2))
theorem Ztz{a b:Int}(h1:-(2 ^ 64)<a)(h2:a<2 ^ 64): mulOk a b=true:=Zqa (IntMulOk.of_left (intBits_le_64 h1 h2))
@[irreducible] noncomputable def M9: Int:=48271 ^ Int.toNat 9
@[irreducible] noncomputable def T40: Int:=10 ^ Int.toNat 40
theorem ZwZ(H:Hp): oPow (.int 48271) (.int 9) H=some (.int M9,H):=by rw[Zou (by decide +kernel)];unfold M9;rfl
theorem Zw0(H:Hp): oPow (.int 10) (.int 40) H=some (.int T40,H):=by rw[Zou (by decide +kernel)];unfold T40;rfl
theorem Zi0: T40=10000000000000000000000000000000000000000:=by unfold T40;decide +kernel
theorem ZvK: Builtin.Int.intBits M9≤2 ^ 21:=by
 unfold M9
 exact Nat.le_trans (PyProof.Rows.intBits_le (k:=256) (by decide +kernel)) (by decide)
section
variable {H:Hp} {Q:V→Hp→Prop} {a b:Int}
end
end PM
end
section
set_option autoImplicit false
/-! The tree machine: values without places; lists that nobody else holds may be changed. -/
namespace TM
open PySem PM
inductive T where
 | none
 | bool (b:Bool)
 | int (i:Int)
 | str (s:Str)
 | tup (ts:List T)
 | lst (ts:List T)
mutual
inductive RF(H:Hp): V→T→List Nat→Prop where
 | none:RF H .none .none []
 | bool (b:Bool):RF H (.bool b) (.bool b) []
 | int (i:Int):RF H (.int i) (.int i) []
 | str (s:Str):RF H (.str s) (.str s) []
 | tup {vs:List V} {ts:List T} {F:List Nat}:RFs H vs ts F→RF H (.tup vs) (.tup ts) F
 | ref {a:Nat} {vs:List V} {ts:List T} {F:List Nat}:H[a]?=some vs→RFs H vs ts F→RF H (.ref a) (.lst ts) (a::F)
inductive RFs(H:Hp): List V→List T→List Nat→Prop where
 | nil:RFs H [] [] []
 | cons {v:V} {t:T} {F:List Nat} {vs:List V} {ts:List T} {G:List Nat}:RF H v t F→RFs H vs ts G→RFs H (v::vs) (t::ts) (F++G)
end
mutual
theorem RF.frame{H H':Hp}{v:V}{t:T}{F:List Nat}(r:RF H v t F)(h:∀a∈F,H'[a]?=H[a]?): RF H' v t F:=by
 cases r with
 | none=>exact .none
 | bool b=>exact .bool b
 | int i=>exact .int i
 | str s=>exact .str s
 | tup hs=>exact .tup (RFs.frame hs h)
 | ref e hs=>exact .ref ((h _ Zz5).trans e) (RFs.frame hs fun a m=>h a (Zz2 _ m))
theorem RFs.frame{H H':Hp}{vs:List V}{ts:List T}{F:List Nat}(r:RFs H vs ts F)(h:∀a∈F,H'[a]?=H[a]?): RFs H' vs ts F:=by
 cases r with
 | nil=>exact .nil
 | cons a b=>exact .cons (RF.frame a fun x m=>h x (Zz4 _ m)) (RFs.frame b fun x m=>h x (Zz3 _ m))
end
mutual
theorem RF.lt{H:Hp}{v:V}{t:T}{F:List Nat}(r:RF H v t F): ∀a∈F,a<H.length:=by
 cases r with
 | none=>intro a m;cases m
 | bool b=>intro a m;cases m
 | int i=>intro a m;cases m
 | str s=>intro a m;cases m
 | tup hs=>exact RFs.lt hs
 | ref e hs=>
  intro x m
  rcases Zz7.mp m with rfl | m
  ·exact(Zz6.mp e).1
  ·exact RFs.lt hs x m
theorem RFs.lt{H:Hp}{vs:List V}{ts:List T}{F:List Nat}(r:RFs H vs ts F): ∀a∈F,a<H.length:=by
 cases r with
 | nil=>intro a m;cases m
 | cons a b=>
  intro x m
  rcases Zz8.mp m with m | m
  ·exact RF.lt a x m
  ·exact RFs.lt b x m
end
theorem RF.ext{H:Hp}{v:V}{t:T}{F:List Nat}(r:RF H v t F)(X:Hp): RF (H++X) v t F:=r.frame fun a m=>List.getElem?_append_left (r.lt a m)
theorem RFs.ext{H:Hp}{vs:List V}{ts:List T}{F:List Nat}(r:RFs H vs ts F)(X:Hp): RFs (H++X) vs ts F:=r.frame fun a m=>List.getElem?_append_left (r.lt a m)
theorem RFs.length{H:Hp}: ∀{vs:List V} {ts:List T} {F:List Nat},RFs H vs ts F→vs.length=ts.length
 | _,_,_,.nil=>rfl
 | _,_,_,.cons _ r=>by rw[List.length_cons,List.length_cons,r.length]
theorem RFs.append{H:Hp}: ∀{vs us:List V} {ts ss:List T} {F G:List Nat},RFs H vs ts F→RFs H us ss G→RFs H (vs++us) (ts++ss) (F++G)
 | _,_,_,_,_,_,.nil,h=>h
 | _,_,_,_,_,_,.cons a r,h=>by rw[List.append_assoc];exact .cons a (r.append h)
theorem RFs.one{H:Hp}{v:V}{t:T}{F:List Nat}(r:RF H v t F): RFs H [v] [t] F:=by
 have:=RFs.cons r RFs.nil
 rwa [List.append_nil]at this
theorem RFs.snoc{H:Hp}{vs:List V}{ts:List T}{F G:List Nat}{v:V}{t:T}(r:RFs H vs ts F)(x:RF H v t G): RFs H (vs++[v]) (ts++[t]) (F++G):=r.append (.one x)
theorem RFs.at{H:Hp}: ∀{vs:List V} {ts:List T} {F:List Nat} {i:Nat} {t:T},RFs H vs ts F→ts[i]?=some t→∃v G,vs[i]?=some v∧RF H v t G∧G.Sublist F
 | _,_,_,_,_,.nil,e=>by simp at e
 | _,_,_,0,_,.cons a _,e=>by
  simp at e
  exact⟨_,_,by simp,e▸a,List.sublist_append_left _ _⟩
 | _,_,_,i+1,_,.cons _ r,e=>by
  simp at e
  obtain⟨x,G,hx,hr,hs⟩:=r.at e
  exact⟨x,G,by simpa using hx,hr,hs.trans (List.sublist_append_right _ _)⟩
theorem RFs.drop{H:Hp}: ∀{vs:List V} {ts:List T} {F:List Nat} (i:Nat),RFs H vs ts F→∃G,RFs H (vs.drop i) (ts.drop i) G∧G.Sublist F
 | _,_,_,0,h=>⟨_,h,List.Sublist.refl _⟩
 | _,_,_,_+1,.nil=>⟨_,.nil,List.Sublist.refl _⟩
 | _,_,_,i+1,.cons _ r=>by
  obtain⟨G,h1,h2⟩:=r.drop i
  exact⟨G,h1,h2.trans (List.sublist_append_right _ _)⟩
theorem RFs.split{H:Hp}: ∀{vs:List V} {ts:List T} {F:List Nat} {i:Nat} {t:T},RFs H vs ts F→ts[i]?=some t →
  ∃v G F1 F2,vs[i]?=some v∧RF H v t G∧F=F1++(G++F2)∧∀(H':Hp) (w:V) (t':T) (G':List Nat),RF H' w t' G'→(∀a∈F1,H'[a]?=H[a]?)→(∀a∈F2,H'[a]?=H[a]?)→RFs H' (vs.set i w) (ts.set i t') (F1++(G'++F2))
 | _,_,_,_,_,.nil,e=>by simp at e
 | _,_,_,0,_,.cons (G:=G1) a r,e=>by
  simp at e
  subst e
  exact⟨_,_,[],G1,by simp,a,by simp,fun H' w t' G' x _ h2=>by simpa using RFs.cons x (r.frame h2)⟩
 | _,_,_,i+1,_,.cons (F:=F0) a r,e=>by
  simp at e
  obtain⟨v,G,F1,F2,h1,h2,h3,h4⟩:=r.split e
  refine⟨v,G,F0++F1,F2,by simpa using h1,h2,by rw[h3];simp,fun H' w t' G' x k1 k2=>?_⟩
  have:=RFs.cons (a.frame fun b m=>k1 b (Zz4 _ m)) (h4 H' w t' G' x (fun b m=>k1 b (Zz3 _ m)) k2)
  simpa using this
theorem Zqc{α:Type}{xs:List α}{i:Nat}{x:α}(h:xs[i]?=some x): xs.set i x=xs:=by
 obtain⟨hi,e⟩:=Zz6.mp h
 rw[←e]
 exact List.set_getElem_self hi
theorem nd3{F1 G F2 G' Gn:List Nat}(nd:(F1++(G++F2)).Nodup)(n':G'.Nodup)(sub:∀a∈G',a∈G∨a∈Gn)(ds:∀a∈Gn,a∉F1++(G++F2)): (F1++(G'++F2)).Nodup:=by
 rw[List.nodup_append,List.nodup_append]at nd ⊢
 obtain⟨a1,⟨a2,a3,a4⟩,a5⟩:=nd
 refine⟨a1,⟨n',a3,fun x hx y hy e=>?_⟩,fun x hx y hy e=>?_⟩
 ·rcases sub x hx with m | m
  ·exact a4 x m y hy e
  ·exact ds x m (Zz3 _ (Zz3 _ (e▸hy)))
 ·rcases Zz8.mp hy with m | m
  ·rcases sub y m with q | q
   ·exact a5 x hx y (Zz4 _ q) e
   ·exact ds y q (Zz4 _ (e▸hx))
  ·exact a5 x hx y (Zz3 _ m) e
theorem in3{F1 G F2 G' Gn:List Nat}(sub:∀a∈G',a∈G∨a∈Gn): ∀a∈F1++(G'++F2),a∈F1++(G++F2)∨a∈Gn:=by
 intro a m
 rcases Zz8.mp m with m | m
 ·exact .inl (Zz4 _ m)
 ·rcases Zz8.mp m with m | m
  ·exact(sub a m).imp (fun q=>List.mem_append_right _ (Zz4 _ q)) id
  ·exact .inl (Zz3 _ (Zz3 _ m))
mutual
noncomputable def T.flat: T→Bool
 | .lst _=>false
 | .tup ts=>T.flats ts
 | .none=>true
 | .bool _=>true
 | .int _=>true
 | .str _=>true
noncomputable def T.flats: List T→Bool
 | []=>true
 | t::ts=>t.flat && T.flats ts
end
mutual
theorem RF.flat{H:Hp}{v:V}{t:T}{F:List Nat}(r:RF H v t F)(h:t.flat=true): F=[]:=by
 cases r with
 | none=>rfl
 | bool b=>rfl
 | int i=>rfl
 | str s=>rfl
 | tup hs=>exact RFs.flats hs (by simpa [T.flat]using h)
 | ref e hs=>simp[T.flat]at h
theorem RFs.flats{H:Hp}{vs:List V}{ts:List T}{F:List Nat}(r:RFs H vs ts F)(h:T.flats ts=true): F=[]:=by
 cases r with
 | nil=>rfl
 | cons a b=>
  simp only[T.flats,Bool.and_eq_true]at h
  rw[RF.flat a h.1,RFs.flats b h.2]
  rfl
end
noncomputable def T.flatIn: T→Bool
 | .lst ts=>T.flats ts
 | t=>t.flat
noncomputable def ZcY(f:List T→Option (List T)): List Int→T→Option T
 | [],.lst ts=>(f ts).map .lst
 | k::ks,.lst ts=>(seqIndex? k ts.length).bind fun j=>ts[j]?.bind fun t=>(ZcY f ks t).map fun u=>.lst (ts.set j u)
 | k::ks,.tup ts=>(seqIndex? k ts.length).bind fun j=>ts[j]?.bind fun t=>(ZcY f ks t).map fun u=>.tup (ts.set j u)
 | _,_=>none
inductive Lead(H:Hp): List Int→V→Nat→Prop where
 | nil {a:Nat}:Lead H [] (.ref a) a
 | ref {k:Int} {ks:List Int} {b:Nat} {vs:List V} {j:Nat} {v:V} {a:Nat}:H[b]?=some vs→seqIndex? k vs.length=some j→vs[j]?=some v→Lead H ks v a→Lead H (k::ks) (.ref b) a
 | tup {k:Int} {ks:List Int} {vs:List V} {j:Nat} {v:V} {a:Nat}:seqIndex? k vs.length=some j→vs[j]?=some v→Lead H ks v a→Lead H (k::ks) (.tup vs) a
theorem ZfG{H:Hp}{Gn:List Nat}{f:List T→Option (List T)}: ∀(ks:List Int) {v:V} {t t':T} {F:List Nat},RF H v t F→F.Nodup→(∀a∈Gn,a∉F)→ZcY f ks t=some t' →
  ∃a vs ts ts' G,Lead H ks v a∧a∈F∧H[a]?=some vs∧RFs H vs ts G∧f ts=some ts'∧G.Nodup∧a∉G∧(∀x∈G,x∈F) ∧
   ∀vs' G',RFs H vs' ts' G'→G'.Nodup→a∉G'→(∀x∈G',x∈G∨x∈Gn)→∃F',RF (H.set a vs') v t' F'∧F'.Nodup∧∀x∈F',x∈F∨x∈Gn
 | [],v,t,t',F,r,nd,ds,e=>by
  cases r with
  | @ref a vs ts G e1 hs=>
   obtain⟨ts',h1,h2⟩:=Zz1.mp e
   subst h2
   rw[List.nodup_cons]at nd
   refine⟨a,vs,ts,ts',G,.nil,List.mem_cons_self,e1,hs,h1,nd.2,nd.1,fun x m=>List.mem_cons_of_mem _ m,fun vs' G' r' n' na sub=>⟨a::G',?_,?_,?_⟩⟩
   ·have ha:=(Zz6.mp e1).1
    refine .ref (List.getElem?_set_self ha) (r'.frame fun b m=>List.getElem?_set_ne ?_)
    intro q
    subst q
    exact na m
   ·exact List.nodup_cons.mpr ⟨na,n'⟩
   ·intro x m
    rcases Zz7.mp m with rfl | m
    ·exact .inl Zz5
    ·exact(sub x m).imp (Zz2 _) id
  | none=>cases e
  | bool _=>cases e
  | int _=>cases e
  | str _=>cases e
  | tup _=>cases e
 | k::ks,v,t,t',F,r,nd,ds,e=>by
  cases r with
  | none=>cases e
  | bool _=>cases e
  | int _=>cases e
  | str _=>cases e
  | @tup vs ts _ hs=>
   obtain⟨j,e1,e⟩:=Zz0.mp e
   obtain⟨u,e2,e⟩:=Zz0.mp e
   obtain⟨u',e3,e⟩:=Zz1.mp e
   subst e
   obtain⟨w,G1,F1,F2,e4,g1,eF,rb⟩:=hs.split e2
   subst eF
   have nd1:G1.Nodup:=(List.nodup_append.mp (List.nodup_append.mp nd).2.1).1
   have hin:∀x∈G1,x∈F1++(G1++F2):=fun x m=>List.mem_append_right _ (Zz4 _ m)
   obtain⟨a,us,qs,qs',G,l,am,ea,hq,hf,gn,na,gs,go⟩:=ZfG ks g1 nd1 (fun b m q=>ds b m (hin b q)) e3
   refine⟨a,us,qs,qs',G,.tup (by rw[hs.length];exact e1) e4 l,hin a am,ea,hq,hf,gn,na,fun x m=>hin x (gs x m),fun vs' G' r' n' na' sub=>?_⟩
   obtain⟨G2,f1,f2,f3⟩:=go vs' G' r' n' na' sub
   obtain⟨a1,a2,a5⟩:=List.nodup_append.mp nd
   obtain⟨_,a3,a4⟩:=List.nodup_append.mp a2
   have:=rb (H.set a vs') w u' G2 f1 (fun b m=>List.getElem?_set_ne fun q=>a5 b m a (Zz4 _ am) q.symm) (fun b m=>List.getElem?_set_ne fun q=>a4 a am b m q)
   rw[Zqc e4]at this
   exact⟨_,.tup this,nd3 nd f2 f3 ds,in3 f3⟩
  | @ref b vs ts F' e0 hs=>
   obtain⟨j,e1,e⟩:=Zz0.mp e
   obtain⟨u,e2,e⟩:=Zz0.mp e
   obtain⟨u',e3,e⟩:=Zz1.mp e
   subst e
   obtain⟨w,G1,F1,F2,e4,g1,eF,rb⟩:=hs.split e2
   subst eF
   rw[List.nodup_cons]at nd
   obtain⟨nb,nd⟩:=nd
   have nd1:G1.Nodup:=(List.nodup_append.mp (List.nodup_append.mp nd).2.1).1
   have hin:∀x∈G1,x∈F1++(G1++F2):=fun x m=>List.mem_append_right _ (Zz4 _ m)
   have ds':∀a∈Gn,a∉F1++(G1++F2):=fun a m q=>ds a m (Zz2 _ q)
   obtain⟨a,us,qs,qs',G,l,am,ea,hq,hf,gn,na,gs,go⟩:=ZfG ks g1 nd1 (fun b m q=>ds' b m (hin b q)) e3
   refine⟨a,us,qs,qs',G,.ref e0 (by rw[hs.length];exact e1) e4 l,List.mem_cons_of_mem _ (hin a am),ea,hq,hf,gn,na,fun x m=>List.mem_cons_of_mem _ (hin x (gs x m)),fun vs' G' r' n' na' sub=>?_⟩
   obtain⟨G2,f1,f2,f3⟩:=go vs' G' r' n' na' sub
   obtain⟨a1,a2,a5⟩:=List.nodup_append.mp nd
   obtain⟨_,a3,a4⟩:=List.nodup_append.mp a2
   have:=rb (H.set a vs') w u' G2 f1 (fun b m=>List.getElem?_set_ne fun q=>a5 b m a (Zz4 _ am) q.symm) (fun b m=>List.getElem?_set_ne fun q=>a4 a am b m q)
   rw[Zqc e4]at this
   have hab:a≠b:=fun q=>nb (hin b (q▸am))
   refine⟨_,.ref ((List.getElem?_set_ne hab).trans e0) this,List.nodup_cons.mpr ⟨fun q=>?_,nd3 nd f2 f3 ds'⟩,fun x m=>?_⟩
   ·rcases in3 f3 b q with m | m
    ·exact nb m
    ·exact ds b m Zz5
   ·rcases Zz7.mp m with rfl | m
    ·exact .inl Zz5
    ·exact(in3 f3 x m).imp (Zz2 _) id
end TM
end
section
set_option autoImplicit false
namespace TM
open PySem PM
noncomputable abbrev TL:=Nat→Option T
noncomputable abbrev PE:=TL→Option T
noncomputable abbrev PEs:=TL→Option (List T)
noncomputable abbrev PB:=TL→Option Bool
noncomputable abbrev PG:=TL→Option (List T)
noncomputable def Zaa(σ:TL)(i:Nat)(t:T): TL:=fun j=>if j=i then some t else σ j
structure Ctx where
 H0:Hp
 F0:List Nat
 P:Nat→Prop
structure St(c:Ctx)(O:List Nat)(ρ:Lc)(σ:TL)(H:Hp)(Φ:Nat→List Nat): Prop where
 slot:∀i t,σ i=some t→∃v,ρ i=some v∧RF H v t (Φ i)
 src:∀i t,σ i=some t→∀a∈Φ i,c.H0.length≤a∨c.P a
 own:∀i∈O,∀t,σ i=some t→(Φ i).Nodup∧(∀a∈Φ i,c.H0.length≤a∨a∈c.F0)∧∀j u,j≠i→σ j=some u→∀a∈Φ i,a∉Φ j
 len:c.H0.length≤H.length
 keep:∀a,a<c.H0.length→a∉c.F0→H[a]?=c.H0[a]?
 pos:0<c.H0.length
 f0:0∉c.F0
theorem St.ext{c:Ctx}{O:List Nat}{ρ:Lc}{σ:TL}{H:Hp}{Φ:Nat→List Nat}(s:St c O ρ σ H Φ)(X:Hp): St c O ρ σ (H++X) Φ:=
 ⟨fun i t e=>by obtain⟨v,h1,h2⟩:=s.slot i t e;exact⟨v,h1,h2.ext X⟩,s.src,s.own,by have:=s.len;rw[List.length_append];omega,fun a ha hn=>by
  rw[List.getElem?_append_left (Nat.lt_of_lt_of_le ha s.len)];exact s.keep a ha hn,s.pos,s.f0⟩
theorem St.less{c:Ctx}{O O':List Nat}{ρ:Lc}{σ:TL}{H:Hp}{Φ:Nat→List Nat}(s:St c O ρ σ H Φ)(h:∀i∈O',i∈O): St c O' ρ σ H Φ:=⟨s.slot,s.src,fun i hi=>s.own i (h i hi),s.len,s.keep,s.pos,s.f0⟩
noncomputable def From(H:Hp)(N:List Nat)(σ:TL)(Φ:Nat→List Nat)(a:Nat): Prop:=H.length≤a∨∃i∈N,(∃t,σ i=some t)∧a∈Φ i
theorem From.mono{H:Hp}{N N':List Nat}{σ:TL}{Φ:Nat→List Nat}{a:Nat}(f:From H N σ Φ a)(h:∀i∈N,i∈N'): From H N' σ Φ a:=f.imp id fun⟨i,hi,q⟩=>⟨i,h i hi,q⟩
theorem From.back{H X:Hp}{N:List Nat}{σ:TL}{Φ:Nat→List Nat}{a:Nat}(f:From (H++X) N σ Φ a): From H N σ Φ a:=f.imp (fun h=>by rw[List.length_append]at h;omega) id
theorem From.nil{H:Hp}{σ:TL}{Φ:Nat→List Nat}{a:Nat}(f:From H [] σ Φ a): H.length≤a:=f.elim id fun⟨_,hi,_⟩=>by cases hi
noncomputable def E(O N:List Nat)(u:Bool)(e:Ex)(p:PE): Prop:=∀(c:Ctx) (ρ:Lc) (σ:TL) (H:Hp) (Φ:Nat→List Nat) (t:T),St c O ρ σ H Φ→p σ=some t →
 ∃v X F,e ρ H=some (v,H++X)∧RF (H++X) v t F∧(∀a∈F,From H N σ Φ a)∧(u=true→F.Nodup)
noncomputable def Es(O N:List Nat)(u:Bool)(n:Nat)(e:Exs)(p:PEs): Prop:=∀(c:Ctx) (ρ:Lc) (σ:TL) (H:Hp) (Φ:Nat→List Nat) (ts:List T),St c O ρ σ H Φ→p σ=some ts →
 ts.length=n∧∃vs X F,e ρ H=some (vs,H++X)∧RFs (H++X) vs ts F∧(∀a∈F,From H N σ Φ a)∧(u=true→F.Nodup)
noncomputable def Bt(O:List Nat)(e:Ts)(p:PB): Prop:=∀(c:Ctx) (ρ:Lc) (σ:TL) (H:Hp) (Φ:Nat→List Nat) (b:Bool),St c O ρ σ H Φ→p σ=some b→∃X,e ρ H=some (b,H++X)
section
variable {O N:List Nat} {u:Bool}
theorem Za8{O':List Nat}{e:Ex}{p:PE}(x:E O' N u e p)(h:∀i∈O',i∈O:=by decide): E O N u e p:=fun c ρ σ H Φ t s=>x c ρ σ H Φ t (s.less h)
theorem E.sh{e:Ex}{p:PE}(x:E O N u e p): E O N false e p:=fun c ρ σ H Φ t s q=>by
 obtain⟨v,X,F,a1,a2,a3,a4⟩:=x c ρ σ H Φ t s q
 exact⟨v,X,F,a1,a2,a3,by simp⟩
noncomputable def Zj(k:Int): PE:=fun _=>some (.int k)
noncomputable def ZR: PE:=fun _=>some .none
noncomputable def ZbD(b:Bool): PE:=fun _=>some (.bool b)
noncomputable def ZfT(x:Str): PE:=fun _=>some (.str x)
noncomputable def Za(i:Nat): PE:=fun σ=>σ i
theorem Zl(k:Int): E O [] true (Zk k) (Zj k):=fun c ρ σ H Φ t s q=>by
 cases q;exact⟨_,[],[],by simp[Zk],.int k,by simp,by simp⟩
theorem Z8: E O [] true Z0 ZR:=fun c ρ σ H Φ t s q=>by
 cases q;exact⟨_,[],[],by simp[Z0],.none,by simp,by simp⟩
theorem E.bool(k:Bool): E O [] true (Zb5 k) (ZbD k):=fun c ρ σ H Φ t s q=>by
 cases q;exact⟨_,[],[],by simp[Zb5],.bool k,by simp,by simp⟩
theorem E.str(k:Str): E O [] true (ZeX k) (ZfT k):=fun c ρ σ H Φ t s q=>by
 cases q;exact⟨_,[],[],by simp[ZeX],.str k,by simp,by simp⟩
theorem Zc(i:Nat): E O [i] false (Zb i) (Za i):=fun c ρ σ H Φ t s q=>by
 obtain⟨v,h1,h2⟩:=s.slot i t q
 exact⟨v,[],Φ i,by simp[Zb,h1],by simpa using h2,fun a m=>.inr ⟨i,List.mem_cons_self,⟨t,q⟩,m⟩,by simp⟩
theorem E.own{i:Nat}(hi:i∈O): E O [i] true (Zb i) (Za i):=fun c ρ σ H Φ t s q=>by
 obtain⟨v,h1,h2⟩:=s.slot i t q
 exact⟨v,[],Φ i,by simp[Zb,h1],by simpa using h2,fun a m=>.inr ⟨i,List.mem_cons_self,⟨t,q⟩,m⟩,fun _=>(s.own i hi t q).1⟩
noncomputable def ZbV(p:PE): PE:=fun σ=>(p σ).bind fun t=>if t.flat then some t else none
theorem E.flat{e:Ex}{p:PE}(x:E O N u e p): E O [] true e (ZbV p):=fun c ρ σ H Φ t s q=>by
 obtain⟨t',e1,e2⟩:=Zz0.mp q
 by_cases h:t'.flat=true
 ·rw[if_pos h]at e2
  cases e2
  obtain⟨v,X,F,a1,a2,a3,a4⟩:=x c ρ σ H Φ t s e1
  have:=a2.flat h
  subst this
  exact⟨v,X,[],a1,a2,by simp,by simp⟩
 ·rw[if_neg h]at e2;cases e2
noncomputable def Zm: PEs:=fun _=>some []
noncomputable def Zd(p:PE)(q:PEs): PEs:=fun σ=>(p σ).bind fun t=>(q σ).bind fun ts=>some (t::ts)
theorem Zo: Es O [] true 0 Zn Zm:=fun c ρ σ H Φ ts s q=>by
 cases q;exact⟨rfl,[],[],[],by simp[Zn],.nil,by simp,by simp⟩
theorem Zg{M:List Nat}{u':Bool}{n:Nat}{e:Ex}{p:PE}{es:Exs}{ps:PEs}(x:E O N u e p)(y:Es O M u' n es ps): Es O (N++M) false (n+1) (Zf e es) (Zd p ps):=fun c ρ σ H Φ ts s q=>by
 obtain⟨t,e1,q⟩:=Zz0.mp q
 obtain⟨rs,e2,q⟩:=Zz0.mp q
 cases q
 obtain⟨v,X,F,a1,a2,a3,a4⟩:=x c ρ σ H Φ t s e1
 obtain⟨hl,vs,Y,G,b1,b2,b3,b4⟩:=y c ρ σ (H++X) Φ rs (s.ext X) e2
 refine⟨by simp[hl],v::vs,X++Y,F++G,by simp[Zf,a1,b1],?_,fun a m=>?_,by simp⟩
 ·rw[←List.append_assoc];exact .cons (a2.ext Y) b2
 ·rcases Zz8.mp m with m | m
  ·exact(a3 a m).mono fun i hi=>List.mem_append_left _ hi
  ·exact(b3 a m).back.mono fun i hi=>List.mem_append_right _ hi
theorem ZgE{M:List Nat}{n:Nat}{e:Ex}{p:PE}{es:Exs}{ps:PEs}(x:E O N true e p)(y:Es O M true n es ps)(hN:∀i∈N,i∈O)(hM:∀i∈N,i∉M): Es O (N++M) true (n+1) (Zf e es) (Zd p ps):=fun c ρ σ H Φ ts s q=>by
 obtain⟨t,e1,q⟩:=Zz0.mp q
 obtain⟨rs,e2,q⟩:=Zz0.mp q
 cases q
 obtain⟨v,X,F,a1,a2,a3,a4⟩:=x c ρ σ H Φ t s e1
 obtain⟨hl,vs,Y,G,b1,b2,b3,b4⟩:=y c ρ σ (H++X) Φ rs (s.ext X) e2
 refine⟨by simp[hl],v::vs,X++Y,F++G,by simp[Zf,a1,b1],?_,fun a m=>?_,fun _=>?_⟩
 ·rw[←List.append_assoc];exact .cons (a2.ext Y) b2
 ·rcases Zz8.mp m with m | m
  ·exact(a3 a m).mono fun i hi=>List.mem_append_left _ hi
  ·exact(b3 a m).back.mono fun i hi=>List.mem_append_right _ hi
 ·rw[List.nodup_append]
  refine⟨a4 rfl,b4 rfl,fun a ha b hb e=>?_⟩
  subst e
  have hlt:=a2.lt a ha
  rcases b3 a hb with h | ⟨j,hj,⟨tj,ej⟩,mj⟩
  ·omega
  ·obtain⟨vj,_,rj⟩:=s.slot j tj ej
   have:=rj.lt a mj
   rcases a3 a ha with h | ⟨i,hi,⟨ti,ei⟩,mi⟩
   ·omega
   ·exact(s.own i (hN i hi) ti ei).2.2 j tj (fun q=>hM i hi (q▸hj)) ej a mi mj
noncomputable def ZaU(p:PEs): PE:=fun σ=>(p σ).map .tup
noncomputable def Zb6(p:PEs): PE:=fun σ=>(p σ).map .lst
theorem E.tup{n:Nat}{e:Exs}{p:PEs}(x:Es O N u n e p)(hn:n≤LEN:=by decide): E O N u (ZaR e) (ZaU p):=fun c ρ σ H Φ t s q=>by
 obtain⟨ts,e1,e2⟩:=Zz1.mp q
 subst e2
 obtain⟨hl,vs,Y,G,b1,b2,b3,b4⟩:=x c ρ σ H Φ ts s e1
 have:=b2.length
 refine⟨.tup vs,Y,G,?_,.tup b2,b3,b4⟩
 simp only[ZaR,b1,Option.bind_some]
 rw[if_pos (by omega)]
theorem E.list{n:Nat}{e:Exs}{p:PEs}(x:Es O N u n e p)(hn:n≤LEN:=by decide): E O N u (Zcb e) (Zb6 p):=fun c ρ σ H Φ t s q=>by
 obtain⟨ts,e1,e2⟩:=Zz1.mp q
 subst e2
 obtain⟨hl,vs,Y,G,b1,b2,b3,b4⟩:=x c ρ σ H Φ ts s e1
 have:=b2.length
 refine⟨.ref (H++Y).length,Y++[vs],(H++Y).length::G,?_,?_,fun a m=>?_,fun hu=>?_⟩
 ·simp only[Zcb,b1,Option.bind_some]
  rw[if_pos (by omega),List.append_assoc]
 ·rw[←List.append_assoc];exact .ref (by simp) (b2.ext _)
 ·rcases Zz7.mp m with rfl | m
  ·exact .inl (by simp)
  ·exact b3 a m
 ·rw[List.nodup_cons]
  exact⟨fun m=>Nat.lt_irrefl _ (b2.lt _ m),b4 hu⟩
noncomputable def OA2(o:V→V→Hp→Option (V×Hp))(q:T→T→Option T): Prop:=∀(H:Hp) (v1 v2:V) (t1 t2 t:T) (F1 F2:List Nat),RF H v1 t1 F1→RF H v2 t2 F2→q t1 t2=some t→∃v,o v1 v2 H=some (v,H)∧RF H v t []
noncomputable def OI2(o:V→V→Hp→Option (V×Hp))(q:T→T→Option T): Prop:=∀(H:Hp) (v1 v2:V) (t1 t2 t:T) (F1 F2:List Nat),RF H v1 t1 F1→RF H v2 t2 F2→q t1 t2=some t→∃v F,o v1 v2 H=some (v,H)∧RF H v t F∧F.Sublist F1
noncomputable def OC2(o:V→V→Hp→Option (V×Hp))(q:T→T→Option T): Prop:=∀(H:Hp) (v1 v2:V) (t1 t2 t:T) (F1 F2:List Nat),RF H v1 t1 F1→RF H v2 t2 F2→q t1 t2=some t→∃v X F,o v1 v2 H=some (v,H++X)∧RF (H++X) v t F∧(∀a∈F,H.length≤a∨a∈F1∨a∈F2)∧(t.flatIn=true→F.Nodup∧∀a∈F,H.length≤a)
noncomputable def OA1(o:V→Hp→Option (V×Hp))(q:T→Option T): Prop:=∀(H:Hp) (v1:V) (t1 t:T) (F1:List Nat),RF H v1 t1 F1→q t1=some t→∃v,o v1 H=some (v,H)∧RF H v t []
noncomputable def OAn(o:List V→Hp→Option (V×Hp))(q:List T→Option T): Prop:=∀(H:Hp) (vs:List V) (ts:List T) (t:T) (F:List Nat),RFs H vs ts F→q ts=some t→∃v,o vs H=some (v,H)∧RF H v t []
noncomputable def OCn(o:List V→Hp→Option (V×Hp))(q:List T→Option T): Prop:=∀(H:Hp) (vs:List V) (ts:List T) (t:T) (F1:List Nat),0<H.length→RFs H vs ts F1→q ts=some t→∃v X F,o vs H=some (v,H++X)∧RF (H++X) v t F∧(∀a∈F,H.length≤a∨a∈F1)∧(t.flatIn=true→F.Nodup∧∀a∈F,H.length≤a)
noncomputable def Ze(q:T→T→Option T)(p1 p2:PE): PE:=fun σ=>(p1 σ).bind fun x=>(p2 σ).bind fun y=>q x y
noncomputable def pUn(q:T→Option T)(p1:PE): PE:=fun σ=>(p1 σ).bind fun x=>q x
noncomputable def Zr(q:List T→Option T)(ps:PEs): PE:=fun σ=>(ps σ).bind fun xs=>q xs
noncomputable def pFl(p:PE): PE:=fun σ=>(p σ).bind fun t=>if t.flatIn then some t else none
theorem Zij{M:List Nat}{u':Bool}{e1 e2:Ex}{p1 p2:PE}{q:T→T→Option T}{o:V→V→Hp→Option (V×Hp)}{c:Ctx}{ρ:Lc}{σ:TL}{H:Hp}{Φ:Nat→List Nat}{t:T}(x:E O N u e1 p1)(y:E O M u' e2 p2)(s:St c O ρ σ H Φ)(h:Ze q p1 p2 σ=some t):
  ∃t1 t2 v1 v2 X F1 F2,q t1 t2=some t∧RF (H++X) v1 t1 F1∧RF (H++X) v2 t2 F2∧(∀a∈F1,From H N σ Φ a)∧(∀a∈F2,From H M σ Φ a)∧(u=true→F1.Nodup)∧Zh o e1 e2 ρ H=o v1 v2 (H++X):=by
 obtain⟨t1,h1,h⟩:=Zz0.mp h
 obtain⟨t2,h2,h⟩:=Zz0.mp h
 obtain⟨v,X,F,a1,a2,a3,a4⟩:=x c ρ σ H Φ t1 s h1
 obtain⟨w,Y,G,b1,b2,b3,b4⟩:=y c ρ σ (H++X) Φ t2 (s.ext X) h2
 rw[List.append_assoc]at b1 b2
 refine⟨t1,t2,v,w,X++Y,F,G,h,?_,b2,a3,fun a m=>(b3 a m).back,a4,by simp only[Zh,a1,b1,Option.bind_some]⟩
 rw[←List.append_assoc];exact a2.ext Y
theorem ZC{M:List Nat}{u':Bool}{e1 e2:Ex}{p1 p2:PE}{q:T→T→Option T}{o:V→V→Hp→Option (V×Hp)}(k:OA2 o q)(x:E O N u e1 p1)(y:E O M u' e2 p2): E O [] true (Zh o e1 e2) (Ze q p1 p2):=fun c ρ σ H Φ t s h=>by
 obtain⟨t1,t2,v1,v2,X,F1,F2,hq,r1,r2,_,_,_,e⟩:=Zij (o:=o) x y s h
 obtain⟨v,h1,h2⟩:=k _ v1 v2 t1 t2 t F1 F2 r1 r2 hq
 exact⟨v,X,[],e.trans h1,h2,by simp,by simp⟩
theorem ZA{M:List Nat}{u':Bool}{e1 e2:Ex}{p1 p2:PE}{q:T→T→Option T}{o:V→V→Hp→Option (V×Hp)}(k:OI2 o q)(x:E O N u e1 p1)(y:E O M u' e2 p2): E O N u (Zh o e1 e2) (Ze q p1 p2):=fun c ρ σ H Φ t s h=>by
 obtain⟨t1,t2,v1,v2,X,F1,F2,hq,r1,r2,h1,_,hu,e⟩:=Zij (o:=o) x y s h
 obtain⟨v,F,k1,k2,k3⟩:=k _ v1 v2 t1 t2 t F1 F2 r1 r2 hq
 exact⟨v,X,F,e.trans k1,k2,fun a m=>h1 a (k3.subset m),fun h=>(hu h).sublist k3⟩
theorem Zad{M:List Nat}{u':Bool}{e1 e2:Ex}{p1 p2:PE}{q:T→T→Option T}{o:V→V→Hp→Option (V×Hp)}(k:OC2 o q)(x:E O N u e1 p1)(y:E O M u' e2 p2): E O (N++M) false (Zh o e1 e2) (Ze q p1 p2):=fun c ρ σ H Φ t s h=>by
 obtain⟨t1,t2,v1,v2,X,F1,F2,hq,r1,r2,h1,h2,hu,e⟩:=Zij (o:=o) x y s h
 obtain⟨v,Y,F,k1,k2,k3,k4⟩:=k _ v1 v2 t1 t2 t F1 F2 r1 r2 hq
 rw[List.append_assoc]at k1 k2
 refine⟨v,X++Y,F,e.trans k1,k2,fun a m=>?_,by simp⟩
 rcases k3 a m with h | h | h
 ·exact .inl (by rw[List.length_append]at h;omega)
 ·exact(h1 a h).mono fun i hi=>List.mem_append_left _ hi
 ·exact(h2 a h).mono fun i hi=>List.mem_append_right _ hi
theorem Zoc{M:List Nat}{u':Bool}{e1 e2:Ex}{p1 p2:PE}{q:T→T→Option T}{o:V→V→Hp→Option (V×Hp)}(k:OC2 o q)(x:E O N u e1 p1)(y:E O M u' e2 p2): E O [] true (Zh o e1 e2) (pFl (Ze q p1 p2)):=fun c ρ σ H Φ t s h=>by
 obtain⟨t',h,hf⟩:=Zz0.mp h
 by_cases fl:t'.flatIn=true
 ·rw[if_pos fl]at hf
  cases hf
  obtain⟨t1,t2,v1,v2,X,F1,F2,hq,r1,r2,h1,h2,hu,e⟩:=Zij (o:=o) x y s h
  obtain⟨v,Y,F,k1,k2,k3,k4⟩:=k _ v1 v2 t1 t2 t F1 F2 r1 r2 hq
  rw[List.append_assoc]at k1 k2
  exact⟨v,X++Y,F,e.trans k1,k2,fun a m=>.inl (by have:=(k4 fl).2 a m;rw[List.length_append]at this;omega),fun _=>(k4 fl).1⟩
 ·rw[if_neg fl]at hf;cases hf
theorem ZbE{e1:Ex}{p1:PE}{q:T→Option T}{o:V→Hp→Option (V×Hp)}(k:OA1 o q)(x:E O N u e1 p1): E O [] true (eUn o e1) (pUn q p1):=fun c ρ σ H Φ t s h=>by
 obtain⟨t1,h1,h⟩:=Zz0.mp h
 obtain⟨v,X,F,a1,a2,a3,a4⟩:=x c ρ σ H Φ t1 s h1
 obtain⟨w,b1,b2⟩:=k _ v t1 t F a2 h
 exact⟨w,X,[],by simp only[eUn,a1,Option.bind_some,b1],b2,by simp,by simp⟩
theorem Zaw{n:Nat}{es:Exs}{ps:PEs}{q:List T→Option T}{o:List V→Hp→Option (V×Hp)}(k:OAn o q)(x:Es O N u n es ps): E O [] true (Zu o es) (Zr q ps):=fun c ρ σ H Φ t s h=>by
 obtain⟨ts,h1,h⟩:=Zz0.mp h
 obtain⟨_,vs,X,F,a1,a2,a3,a4⟩:=x c ρ σ H Φ ts s h1
 obtain⟨w,b1,b2⟩:=k _ vs ts t F a2 h
 exact⟨w,X,[],by simp only[Zu,a1,Option.bind_some,b1],b2,by simp,by simp⟩
theorem ZiC{n:Nat}{es:Exs}{ps:PEs}{q:List T→Option T}{o:List V→Hp→Option (V×Hp)}(k:OCn o q)(x:Es O N u n es ps): E O N false (Zu o es) (Zr q ps):=fun c ρ σ H Φ t s h=>by
 obtain⟨ts,h1,h⟩:=Zz0.mp h
 obtain⟨_,vs,X,F,a1,a2,a3,a4⟩:=x c ρ σ H Φ ts s h1
 have hp:0<(H++X).length:=by have:=s.pos;have:=s.len;rw[List.length_append];omega
 obtain⟨w,Y,G,b1,b2,b3,b4⟩:=k _ vs ts t F hp a2 h
 rw[List.append_assoc]at b1 b2
 refine⟨w,X++Y,G,by simp only[Zu,a1,Option.bind_some,b1],b2,fun a m=>?_,by simp⟩
 rcases b3 a m with h | h
 ·exact .inl (by rw[List.length_append]at h;omega)
 ·exact a3 a h
theorem Zej{n:Nat}{es:Exs}{ps:PEs}{q:List T→Option T}{o:List V→Hp→Option (V×Hp)}(k:OCn o q)(x:Es O N u n es ps): E O [] true (Zu o es) (pFl (Zr q ps)):=fun c ρ σ H Φ t s h=>by
 obtain⟨t',h,hf⟩:=Zz0.mp h
 by_cases fl:t'.flatIn=true
 ·rw[if_pos fl]at hf
  cases hf
  obtain⟨ts,h1,h⟩:=Zz0.mp h
  obtain⟨_,vs,X,F,a1,a2,a3,a4⟩:=x c ρ σ H Φ ts s h1
  have hp:0<(H++X).length:=by have:=s.pos;have:=s.len;rw[List.length_append];omega
  obtain⟨w,Y,G,b1,b2,b3,b4⟩:=k _ vs ts t F hp a2 h
  rw[List.append_assoc]at b1 b2
  exact⟨w,X++Y,G,by simp only[Zu,a1,Option.bind_some,b1],b2,fun a m=>.inl (by have:=(b4 fl).2 a m;rw[List.length_append]at this;omega),fun _=>(b4 fl).1⟩
 ·rw[if_neg fl]at hf;cases hf
noncomputable def SimF(fr:Bool)(f:List V→Hp→Option (V×Hp))(p:List T→Option T): Prop:=∀(H:Hp) (vs:List V) (ts:List T) (t:T) (F1:List Nat),0<H.length→RFs H vs ts F1→p ts=some t→∃v X F,f vs H=some (v,H++X)∧RF (H++X) v t F∧(∀a∈F,H.length≤a∨a∈F1)∧(fr=true→F.Nodup∧∀a∈F,H.length≤a)
theorem ZK{fr:Bool}{n:Nat}{es:Exs}{ps:PEs}{q:List T→Option T}{o:List V→Hp→Option (V×Hp)}(k:SimF fr o q)(x:Es O N u n es ps): E O N false (Zu o es) (Zr q ps):=fun c ρ σ H Φ t s h=>by
 obtain⟨ts,h1,h⟩:=Zz0.mp h
 obtain⟨_,vs,X,F,a1,a2,a3,a4⟩:=x c ρ σ H Φ ts s h1
 have hp:0<(H++X).length:=by have:=s.pos;have:=s.len;rw[List.length_append];omega
 obtain⟨w,Y,G,b1,b2,b3,b4⟩:=k _ vs ts t F hp a2 h
 rw[List.append_assoc]at b1 b2
 refine⟨w,X++Y,G,by simp only[Zu,a1,Option.bind_some,b1],b2,fun a m=>?_,by simp⟩
 rcases b3 a m with h | h
 ·exact .inl (by rw[List.length_append]at h;omega)
 ·exact a3 a h
theorem ZbO{n:Nat}{es:Exs}{ps:PEs}{q:List T→Option T}{o:List V→Hp→Option (V×Hp)}(k:SimF true o q)(x:Es O N u n es ps): E O [] true (Zu o es) (Zr q ps):=fun c ρ σ H Φ t s h=>by
 obtain⟨ts,h1,h⟩:=Zz0.mp h
 obtain⟨_,vs,X,F,a1,a2,a3,a4⟩:=x c ρ σ H Φ ts s h1
 have hp:0<(H++X).length:=by have:=s.pos;have:=s.len;rw[List.length_append];omega
 obtain⟨w,Y,G,b1,b2,b3,b4⟩:=k _ vs ts t F hp a2 h
 rw[List.append_assoc]at b1 b2
 exact⟨w,X++Y,G,by simp only[Zu,a1,Option.bind_some,b1],b2,fun a m=>.inl (by have:=(b4 rfl).2 a m;rw[List.length_append]at this;omega),fun _=>(b4 rfl).1⟩
noncomputable def Zb4: T→Option Bool
 | .bool b=>some b
 | .none=>some false
 | .int i=>some (i != 0)
 | _=>none
theorem Zei{H:Hp}{v:V}{t:T}{F:List Nat}{b:Bool}(r:RF H v t F)(h:Zb4 t=some b): ZcV v H=some b:=by
 cases r <;> first | (cases h;rfl) | cases h
noncomputable def ZD(p:PE): PB:=fun σ=>(p σ).bind Zb4
noncomputable def ZbY(p:PB): PB:=fun σ=>(p σ).map fun b=>!b
noncomputable def Zae: PB:=fun _=>some true
noncomputable def Zce: PB:=fun _=>some false
noncomputable def Zai(p q:PB): PB:=fun σ=>(p σ).bind fun b=>if b then q σ else some false
noncomputable def bOr(p q:PB): PB:=fun σ=>(p σ).bind fun b=>if b then some true else q σ
theorem ZJ{e:Ex}{p:PE}(x:E O N u e p): Bt O (ZF e) (ZD p):=fun c ρ σ H Φ b s h=>by
 obtain⟨t,h1,h⟩:=Zz0.mp h
 obtain⟨v,X,F,a1,a2,a3,a4⟩:=x c ρ σ H Φ t s h1
 exact⟨X,by simp only[ZF,a1,Option.bind_some,Zei a2 h,Option.map_some]⟩
theorem ZcQ{e:Ts}{p:PB}(x:Bt O e p): Bt O (Zcp e) (ZbY p):=fun c ρ σ H Φ b s h=>by
 obtain⟨t,h1,h⟩:=Zz1.mp h
 subst h
 obtain⟨X,a1⟩:=x c ρ σ H Φ t s h1
 exact⟨X,by simp only[Zcp,a1,Option.map_some]⟩
theorem Zay: Bt O Zam Zae:=fun c ρ σ H Φ b s h=>by
 cases h;exact⟨[],by simp[Zam]⟩
theorem ZcN: Bt O Zcm Zce:=fun c ρ σ H Φ b s h=>by
 cases h;exact⟨[],by simp[Zcm]⟩
theorem ZaA{e f:Ts}{p q:PB}(x:Bt O e p)(y:Bt O f q): Bt O (Zat e f) (Zai p q):=fun c ρ σ H Φ b s h=>by
 obtain⟨t,h1,h⟩:=Zz0.mp h
 obtain⟨X,a1⟩:=x c ρ σ H Φ t s h1
 cases t with
 | true=>
  obtain⟨Y,b1⟩:=y c ρ σ (H++X) Φ b (s.ext X) (by simpa using h)
  exact⟨X++Y,by simp[Zat,a1,b1]⟩
 | false=>cases h;exact⟨X,by simp[Zat,a1]⟩
theorem Zbh{e f:Ts}{p q:PB}(x:Bt O e p)(y:Bt O f q): Bt O (tOr e f) (bOr p q):=fun c ρ σ H Φ b s h=>by
 obtain⟨t,h1,h⟩:=Zz0.mp h
 obtain⟨X,a1⟩:=x c ρ σ H Φ t s h1
 cases t with
 | false=>
  obtain⟨Y,b1⟩:=y c ρ σ (H++X) Φ b (s.ext X) (by simpa using h)
  exact⟨X++Y,by simp[tOr,a1,b1]⟩
 | true=>cases h;exact⟨X,by simp[tOr,a1]⟩
noncomputable def pIf(b:PB)(p q:PE): PE:=fun σ=>(b σ).bind fun x=>if x then p σ else q σ
noncomputable def Zjv(p:PE): PE:=fun σ=>(p σ).bind fun t=>(Zb4 t).map fun b=>.bool !b
noncomputable def ZdJ(p q:PE): PE:=fun σ=>(p σ).bind fun t=>(Zb4 t).bind fun b=>if b then q σ else some t
noncomputable def pOr(p q:PE): PE:=fun σ=>(p σ).bind fun t=>(Zb4 t).bind fun b=>if b then some t else q σ
theorem ZeS{M:List Nat}{b:Ts}{pb:PB}{e f:Ex}{p q:PE}(z:Bt O b pb)(x:E O N u e p)(y:E O M u f q): E O (N++M) u (eIf b e f) (pIf pb p q):=fun c ρ σ H Φ t s h=>by
 obtain⟨b',h1,h⟩:=Zz0.mp h
 obtain⟨X,a1⟩:=z c ρ σ H Φ b' s h1
 cases b' with
 | true=>
  obtain⟨v,Y,F,b1,b2,b3,b4⟩:=x c ρ σ (H++X) Φ t (s.ext X) (by simpa using h)
  exact⟨v,X++Y,F,by simp[eIf,a1,b1],by rw[←List.append_assoc];exact b2,fun a m=>(b3 a m).back.mono fun i hi=>List.mem_append_left _ hi,b4⟩
 | false=>
  obtain⟨v,Y,F,b1,b2,b3,b4⟩:=y c ρ σ (H++X) Φ t (s.ext X) (by simpa using h)
  exact⟨v,X++Y,F,by simp[eIf,a1,b1],by rw[←List.append_assoc];exact b2,fun a m=>(b3 a m).back.mono fun i hi=>List.mem_append_right _ hi,b4⟩
theorem ZxO{e:Ex}{p:PE}(x:E O N u e p): E O [] true (Zjs e) (Zjv p):=fun c ρ σ H Φ t s h=>by
 obtain⟨t1,h1,h⟩:=Zz0.mp h
 obtain⟨b,h2,h⟩:=Zz1.mp h
 subst h
 obtain⟨v,X,F,a1,a2,a3,a4⟩:=x c ρ σ H Φ t1 s h1
 exact⟨.bool !b,X,[],by simp only[Zjs,a1,Option.bind_some,Zei a2 h2,Option.map_some],.bool _,by simp,by simp⟩
theorem ZfN{M:List Nat}{e f:Ex}{p q:PE}(x:E O N u e p)(y:E O M u f q): E O (N++M) u (Zdw e f) (ZdJ p q):=fun c ρ σ H Φ t s h=>by
 obtain⟨t1,h1,h⟩:=Zz0.mp h
 obtain⟨b,h2,h⟩:=Zz0.mp h
 obtain⟨v,X,F,a1,a2,a3,a4⟩:=x c ρ σ H Φ t1 s h1
 cases b with
 | true=>
  obtain⟨w,Y,F',b1,b2,b3,b4⟩:=y c ρ σ (H++X) Φ t (s.ext X) (by simpa using h)
  exact⟨w,X++Y,F',by simp[Zdw,a1,Zei a2 h2,b1],by rw[←List.append_assoc];exact b2,fun a m=>(b3 a m).back.mono fun i hi=>List.mem_append_right _ hi,b4⟩
 | false=>
  cases h
  exact⟨v,X,F,by simp[Zdw,a1,Zei a2 h2],a2,fun a m=>(a3 a m).mono fun i hi=>List.mem_append_left _ hi,a4⟩
theorem Zya{M:List Nat}{e f:Ex}{p q:PE}(x:E O N u e p)(y:E O M u f q): E O (N++M) u (eOr e f) (pOr p q):=fun c ρ σ H Φ t s h=>by
 obtain⟨t1,h1,h⟩:=Zz0.mp h
 obtain⟨b,h2,h⟩:=Zz0.mp h
 obtain⟨v,X,F,a1,a2,a3,a4⟩:=x c ρ σ H Φ t1 s h1
 cases b with
 | false=>
  obtain⟨w,Y,F',b1,b2,b3,b4⟩:=y c ρ σ (H++X) Φ t (s.ext X) (by simpa using h)
  exact⟨w,X++Y,F',by simp[eOr,a1,Zei a2 h2,b1],by rw[←List.append_assoc];exact b2,fun a m=>(b3 a m).back.mono fun i hi=>List.mem_append_right _ hi,b4⟩
 | true=>
  cases h
  exact⟨v,X,F,by simp[eOr,a1,Zei a2 h2],a2,fun a m=>(a3 a m).mono fun i hi=>List.mem_append_left _ hi,a4⟩
noncomputable def ZnF: T→String
 | .none=>"NoneType"
 | .bool _=>"bool"
 | .int _=>"int"
 | .str _=>"str"
 | .tup _=>"tuple"
 | .lst _=>"list"
end
end TM
end
section
set_option autoImplicit false
namespace TM
open PySem PM
section
variable {O N:List Nat} {u:Bool}
noncomputable def ZiD(K:String)(t:T): Bool:=ZnF t == K || (K == "int" && ZnF t == "bool")
noncomputable def pIs(K:String)(p:PE): PE:=fun σ=>(p σ).map fun t=>.bool (ZiD K t)
theorem ZvL{H:Hp}{v:V}{t:T}{F:List Nat}(r:RF H v t F): ZnE v=ZnF t:=by cases r <;> rfl
theorem Zd8{K:String}{e:Ex}{p:PE}(x:E O N u e p): E O [] true (eIs K e) (pIs K p):=fun c ρ σ H Φ t s h=>by
 obtain⟨t1,h1,h⟩:=Zz1.mp h
 subst h
 obtain⟨v,X,F,a1,a2,a3,a4⟩:=x c ρ σ H Φ t1 s h1
 exact⟨.bool (ZiD K t1),X,[],by simp only[eIs,a1,Option.map_some,Zn9,ZiD,ZvL a2],.bool _,by simp,by simp⟩
noncomputable def Za5: T→T→Option T
 | .int a,.int b=>some (.int (a-b))
 | _,_=>none
noncomputable def ZcB: T→T→Option T
 | .int a,.int b=>if b≠0∧Builtin.divisionGoesByPylong a b=false then some (.int (a.fdiv b))else none
 | _,_=>none
noncomputable def Zbb: T→T→Option T
 | .int a,.int b=>if b≠0 then some (.int (a.fmod b))else none
 | _,_=>none
noncomputable def Zdx: T→T→Option T
 | .int a,.int b=>if 0≤b∧(Builtin.Int.intBits a:Int)*b≤2 ^ 27 then some (.int (a ^ b.toNat))else none
 | _,_=>none
noncomputable def Zbc: T→Option T
 | .int a=>some (.int (-a))
 | _=>none
noncomputable def Zjw(p:Int→Int→Bool): T→T→Option T
 | .int a,.int b=>some (.bool (p a b))
 | _,_=>none
noncomputable def qLt:=Zjw fun a b=>decide (a<b)
noncomputable def qLe:=Zjw fun a b=>decide (a≤b)
noncomputable def qGt:=Zjw fun a b=>decide (b<a)
theorem Zbv: OA2 Zbl Za5:=fun H v1 v2 t1 t2 t F1 F2 r1 r2 h=>by
 cases r1 <;> first | (cases h;done) | (cases r2 <;> first | (cases h;done) | (cases h;exact⟨_,rfl,.int _⟩))
theorem Zc9: OA2 oDiv ZcB:=fun H v1 v2 t1 t2 t F1 F2 r1 r2 h=>by
 cases r1 <;> first | (cases h;done) | skip
 cases r2 <;> first | (cases h;done) | skip
 simp only[ZcB]at h
 split at h
 ·rename_i hc;cases h;exact⟨_,by simp only[oDiv];rw[if_pos hc],.int _⟩
 ·cases h
theorem Zbp: OA2 oMod Zbb:=fun H v1 v2 t1 t2 t F1 F2 r1 r2 h=>by
 cases r1 <;> first | (cases h;done) | skip
 cases r2 <;> first | (cases h;done) | skip
 simp only[Zbb]at h
 split at h
 ·rename_i hc;cases h;exact⟨_,by simp only[oMod];rw[if_pos hc],.int _⟩
 ·cases h
theorem Zov: OA2 oPow Zdx:=fun H v1 v2 t1 t2 t F1 F2 r1 r2 h=>by
 cases r1 <;> first | (cases h;done) | skip
 cases r2 <;> first | (cases h;done) | skip
 simp only[Zdx]at h
 split at h
 ·rename_i hc;cases h;exact⟨_,by simp only[oPow];rw[if_pos hc],.int _⟩
 ·cases h
theorem ZbF: OA1 Zbq Zbc:=fun H v1 t1 t F1 r1 h=>by
 cases r1 <;> first | (cases h;done) | (cases h;exact⟨_,rfl,.int _⟩)
theorem Zow(p:Int→Int→Bool): OA2 (Zjt p) (Zjw p):=fun H v1 v2 t1 t2 t F1 F2 r1 r2 h=>by
 cases r1 <;> first | (cases h;done) | (cases r2 <;> first | (cases h;done) | (cases h;exact⟨_,rfl,.bool _⟩))
theorem Zcq: OA2 oLt qLt:=Zow _
theorem Zjx: OA2 oLe qLe:=Zow _
theorem Zdy: OA2 oGt qGt:=Zow _
noncomputable def ZeT(f:T→Option PyData): List T→Option (List PyData)
 | []=>some []
 | v::vs=>(f v).bind fun d=>(ZeT f vs).bind fun ds=>some (d::ds)
noncomputable def ZcZ: Nat→T→Option PyData
 | _,.none=>some .none
 | _,.bool b=>some (.bool b)
 | _,.int i=>some (.int i)
 | _,.str x=>some (.str x)
 | n+1,.tup vs=>(ZeT (ZcZ n) vs).map .tuple
 | n+1,.lst vs=>(ZeT (ZcZ n) vs).map .list
 | 0,.tup _=>none
 | 0,.lst _=>none
theorem ZnG{H:Hp}{f:V→Option PyData}{g:T→Option PyData}(h:∀v t F,RF H v t F→f v=g t): ∀{vs:List V} {ts:List T} {F:List Nat},RFs H vs ts F→ZfS f vs=ZeT g ts
 | _,_,_,.nil=>rfl
 | _,_,_,.cons a b=>by simp only[ZfS,ZeT,h _ _ _ a,ZnG h b]
theorem Zi1{H:Hp}: ∀(n:Nat) (v:V) (t:T) (F:List Nat),RF H v t F→toD H n v=ZcZ n t:=by
 intro n
 induction n with
 | zero=>intro v t F r;cases r <;> rfl
 | succ n ih=>
  intro v t F r
  cases r with
  | none=>rfl
  | bool=>rfl
  | int=>rfl
  | str=>rfl
  | tup hs=>simp only[toD,ZcZ,ZnG ih hs]
  | ref e hs=>simp only[toD,ZcZ,e,Option.bind_some,ZnG ih hs]
noncomputable def Zes(a b:T): Option Bool:=(ZcZ Zb8 a).bind fun d=>(ZcZ Zb8 b).bind fun e=>if SeqAt.shaped d=true∧SeqAt.shaped e=true then some (PyData.eqv d e)else none
noncomputable def qEq(a b:T): Option T:=(Zes a b).map .bool
noncomputable def qNe(a b:T): Option T:=(Zes a b).map fun c=>.bool !c
theorem Zrm{H:Hp}{v1 v2:V}{t1 t2:T}{F1 F2:List Nat}(r1:RF H v1 t1 F1)(r2:RF H v2 t2 F2): Zju v1 v2 H=Zes t1 t2:=by
 simp only[Zju,Zes,Zi1 Zb8 _ _ _ r1,Zi1 Zb8 _ _ _ r2]
theorem ZaN: OA2 oEq qEq:=fun H v1 v2 t1 t2 t F1 F2 r1 r2 h=>by
 obtain⟨c,h1,h⟩:=Zz1.mp h
 subst h
 exact⟨_,by simp only[oEq,Zrm r1 r2,h1,Option.map_some],.bool _⟩
theorem ZbP: OA2 oNe qNe:=fun H v1 v2 t1 t2 t F1 F2 r1 r2 h=>by
 obtain⟨c,h1,h⟩:=Zz1.mp h
 subst h
 exact⟨_,by simp only[oNe,Zrm r1 r2,h1,Option.map_some],.bool _⟩
noncomputable def qIs: T→T→Option T
 | .none,.none=>some (.bool true)
 | _,.none=>some (.bool false)
 | _,_=>none
noncomputable def ZaO: T→T→Option T
 | .none,.none=>some (.bool false)
 | _,.none=>some (.bool true)
 | _,_=>none
theorem Zbr: OA2 oIs qIs:=fun H v1 v2 t1 t2 t F1 F2 r1 r2 h=>by
 cases r1 <;> cases r2 <;> first | (cases h;done) | (cases h;exact⟨_,rfl,.bool _⟩)
theorem ZbL: OA2 Zbt ZaO:=fun H v1 v2 t1 t2 t F1 F2 r1 r2 h=>by
 cases r1 <;> cases r2 <;> first | (cases h;done) | (cases h;exact⟨_,rfl,.bool _⟩)
noncomputable def Zq: T→T→Option T
 | .lst ts,.int k=>(seqIndex? k ts.length).bind fun j=>ts[j]?
 | .tup ts,.int k=>(seqIndex? k ts.length).bind fun j=>ts[j]?
 | _,_=>none
theorem Zz: OI2 Zt Zq:=fun H v1 v2 t1 t2 t F1 F2 r1 r2 h=>by
 cases r1 with
 | none=>cases h
 | bool=>cases h
 | int=>cases h
 | str=>cases h
 | tup hs=>
  cases r2 <;> first | (cases h;done) | skip
  obtain⟨j,h1,h2⟩:=Zz0.mp h
  obtain⟨v,G,e1,e2,e3⟩:=hs.at h2
  exact⟨v,G,by simp only[Zt,hs.length,h1,Option.bind_some,e1,Option.map_some],e2,e3⟩
 | ref e hs=>
  cases r2 <;> first | (cases h;done) | skip
  obtain⟨j,h1,h2⟩:=Zz0.mp h
  obtain⟨v,G,e1,e2,e3⟩:=hs.at h2
  exact⟨v,G,by simp only[Zt,e,Option.bind_some,hs.length,h1,e1,Option.map_some],e2,e3.trans (List.sublist_cons_self _ _)⟩
noncomputable def Zar: List T→Option T
 | [.lst ts]=>some (.int ts.length)
 | [.tup ts]=>some (.int ts.length)
 | _=>none
theorem RFs.one_inv{H:Hp}{vs:List V}{t:T}{F:List Nat}(r:RFs H vs [t] F): ∃v,vs=[v]∧RF H v t F:=by
 cases r with
 | cons a b=>cases b;rw[List.append_nil];exact⟨_,rfl,a⟩
theorem RFs.two_inv{H:Hp}{vs:List V}{t t':T}{F:List Nat}(r:RFs H vs [t,t'] F): ∃v v' F1 F2,vs=[v,v']∧RF H v t F1∧RF H v' t' F2∧F=F1++F2:=by
 cases r with
 | cons a b=>obtain⟨v',h1,h2⟩:=b.one_inv;subst h1;exact⟨_,_,_,_,rfl,a,h2,rfl⟩
theorem ZaV: OAn ZaJ Zar:=fun H vs ts t F r h=>by
 unfold Zar at h
 split at h
 ·obtain⟨v,rfl,r'⟩:=r.one_inv
  cases r' with
  | ref e hs=>cases h;exact⟨_,by simp only[ZaJ,e,Option.map_some,hs.length],.int _⟩
 ·obtain⟨v,rfl,r'⟩:=r.one_inv
  cases r' with
  | tup hs=>cases h;exact⟨_,by simp only[ZaJ,hs.length],.int _⟩
 ·cases h
noncomputable def Zdd: List T→Option T
 | [.int a]=>some (.int (if a<0 then -a else a))
 | _=>none
theorem Zd6: OAn Zdc Zdd:=fun H vs ts t F r h=>by
 unfold Zdd at h
 split at h
 ·obtain⟨v,rfl,r'⟩:=r.one_inv
  cases r';cases h;exact⟨_,rfl,.int _⟩
 ·cases h
noncomputable def Zyk: List T→Option T
 | [.int a,.int b]=>some (.int (if b>a then b else a))
 | _=>none
noncomputable def Zjl: List T→Option T
 | [.int a,.int b]=>some (.int (if b<a then b else a))
 | _=>none
theorem Zw1: OAn Zjj Zjl:=fun H vs ts t F r h=>by
 unfold Zjl at h
 split at h
 ·obtain⟨v,w,F1,F2,rfl,r1,r2,_⟩:=r.two_inv
  cases r1;cases r2;cases h;exact⟨_,rfl,.int _⟩
 ·cases h
noncomputable def Zdt: List T→Option (List Int)
 | []=>some []
 | .int k::vs=>(Zdt vs).map fun ks=>k::ks
 | _::_=>none
noncomputable def ZfH: List T→Option (List Bool)
 | []=>some []
 | .bool k::vs=>(ZfH vs).map fun ks=>k::ks
 | _::_=>none
theorem ZiE{H:Hp}: ∀{vs:List V} {ts:List T} {F:List Nat} {ks:List Int},RFs H vs ts F→Zdt ts=some ks→ZdF vs=some ks
 | _,_,_,_,.nil,h=>h
 | _,_,_,_,.cons a b,h=>by
  cases a <;> first | (cases h;done) | skip
  obtain⟨js,h1,h2⟩:=Zz1.mp h
  subst h2
  simp only[ZdF,ZiE b h1,Option.map_some]
theorem Zqd{H:Hp}: ∀{vs:List V} {ts:List T} {F:List Nat} {ks:List Bool},RFs H vs ts F→ZfH ts=some ks→ZfC vs=some ks
 | _,_,_,_,.nil,h=>h
 | _,_,_,_,.cons a b,h=>by
  cases a <;> first | (cases h;done) | skip
  obtain⟨js,h1,h2⟩:=Zz1.mp h
  subst h2
  simp only[ZfC,Zqd b h1,Option.map_some]
noncomputable def Zjy: List T→Option T
 | [.lst ts]=>(Zdt ts).map fun ks=>.int ks.sum
 | _=>none
noncomputable def Zhe: List T→Option T
 | [.lst ts]=>(ZfH ts).map fun bs=>.bool (bs.any id)
 | _=>none
theorem ZxP: OAn Zhb Zjy:=fun H vs ts t F r h=>by
 unfold Zjy at h
 split at h
 ·obtain⟨v,rfl,r'⟩:=r.one_inv
  cases r' with
  | ref e hs=>
   obtain⟨ks,h1,h2⟩:=Zz1.mp h
   subst h2
   exact⟨_,by simp only[Zhb,e,Option.bind_some,ZiE hs h1,Option.map_some],.int _⟩
 ·cases h
theorem ZxQ: OAn Zhd Zhe:=fun H vs ts t F r h=>by
 unfold Zhe at h
 split at h
 ·obtain⟨v,rfl,r'⟩:=r.one_inv
  cases r' with
  | ref e hs=>
   obtain⟨ks,h1,h2⟩:=Zz1.mp h
   subst h2
   exact⟨_,by simp only[Zhd,e,Option.bind_some,Zqd hs h1,Option.map_some],.bool _⟩
 ·cases h
theorem ZeZ{H:Hp}{vs:List V}{ts:List T}{F:List Nat}(r:RFs H vs ts F): RF (H++[vs]) (.ref H.length) (.lst ts) (H.length::F):=.ref (by simp) (r.ext _)
theorem Zgs{H:Hp}{vs:List V}{ts:List T}{F:List Nat}(r:RFs H vs ts F)(h:T.flatIn (.lst ts)=true): (H.length::F).Nodup∧∀a∈H.length::F,H.length≤a:=by
 rw[r.flats (by simpa [T.flatIn]using h)]
 simp
theorem ZuS{H:Hp}{v:V}{t:T}{F:List Nat}(r:RF H v t F)(h:F=[]): F.Nodup∧∀a∈F,H.length≤a:=by subst h;simp
noncomputable def Zhf(ts:List T): Nat→List T
 | 0=>[]
 | n+1=>Zhf ts n++ts
noncomputable def Zag: T→T→Option T
 | .int a,.int b=>some (.int (a+b))
 | .lst a,.lst b=>if(a++b).length≤LEN then some (.lst (a++b))else none
 | .tup a,.tup b=>if(a++b).length≤LEN then some (.tup (a++b))else none
 | _,_=>none
noncomputable def ZaF: T→T→Option T
 | .int a,.int b=>if mulOk a b=true then some (.int (a*b))else none
 | .lst a,.int k=>if a.length*k.toNat≤LEN∧-(2 ^ 63:Int)≤k∧k<2 ^ 63 then some (.lst (Zhf a k.toNat))else none
 | _,_=>none
theorem Zrn{H:Hp}{vs:List V}{ts:List T}{F:List Nat}(r:RFs H vs ts F): ∀n,∃G,RFs H (ZeY vs n) (Zhf ts n) G∧∀a∈G,a∈F
 | 0=>⟨_,.nil,by simp⟩
 | n+1=>by
  obtain⟨G,h1,h2⟩:=Zrn r n
  exact⟨_,h1.append r,fun a m=>(Zz8.mp m).elim (h2 a) id⟩
theorem Zal: OC2 Zah Zag:=fun H v1 v2 t1 t2 t F1 F2 r1 r2 h=>by
 cases r1 with
 | none=>cases h
 | bool=>cases h
 | str=>cases h
 | int a=>
  cases r2 <;> first | (cases h;done) | skip
  cases h;exact⟨_,[],[],by simp[Zah],.int _,by simp,by simp⟩
 | tup hs1=>
  cases r2 with
  | none=>cases h
  | bool=>cases h
  | str=>cases h
  | int=>cases h
  | ref=>cases h
  | tup hs2=>
   simp only[Zag]at h
   split at h
   ·rename_i hl
    cases h
    refine⟨_,[],_,?_,.tup (by simpa using hs1.append hs2),fun a m=>.inr (Zz8.mp m),fun hf=>ZuS (H:=H) (.tup (hs1.append hs2)) ((RF.tup (hs1.append hs2)).flat (by simpa [T.flatIn]using hf))⟩
    simp only[Zah,List.append_nil]
    rw[if_pos (by rw[List.length_append]at hl ⊢;rw[hs1.length,hs2.length];exact hl)]
   ·cases h
 | ref e1 hs1=>
  cases r2 with
  | none=>cases h
  | bool=>cases h
  | str=>cases h
  | int=>cases h
  | tup=>cases h
  | ref e2 hs2=>
   simp only[Zag]at h
   split at h
   ·rename_i hl
    cases h
    refine⟨_,_,_,?_,ZeZ (hs1.append hs2),fun a m=>?_,Zgs (hs1.append hs2)⟩
    ·simp only[Zah,e1,e2,Option.bind_some]
     rw[if_pos (by rw[List.length_append]at hl ⊢;rw[hs1.length,hs2.length];exact hl)]
    ·rcases Zz7.mp m with rfl | m
     ·exact .inl (Zz10 _)
     ·rcases Zz8.mp m with m | m
      ·exact .inr (.inl (Zz2 _ m))
      ·exact .inr (.inr (Zz2 _ m))
   ·cases h
theorem Za9: OC2 ZaX ZaF:=fun H v1 v2 t1 t2 t F1 F2 r1 r2 h=>by
 cases r1 with
 | none=>cases h
 | bool=>cases h
 | str=>cases h
 | tup=>cases h
 | int a=>
  cases r2 <;> first | (cases h;done) | skip
  simp only[ZaF]at h
  split at h
  ·rename_i hm
   cases h;exact⟨_,[],[],by simp only[ZaX];rw[if_pos hm];simp,.int _,by simp,by simp⟩
  ·cases h
 | ref e1 hs1=>
  cases r2 with
  | none=>cases h
  | bool=>cases h
  | str=>cases h
  | tup=>cases h
  | ref=>cases h
  | int k=>
   simp only[ZaF]at h
   split at h
   ·rename_i hl
    cases h
    obtain⟨G,h1,h2⟩:=Zrn hs1 k.toNat
    refine⟨_,_,_,?_,ZeZ h1,fun a m=>?_,Zgs h1⟩
    ·simp only[ZaX,e1,Option.bind_some]
     rw[if_pos (by rw[hs1.length];exact hl)]
    ·rcases Zz7.mp m with rfl | m
     ·exact .inl (Zz10 _)
     ·exact .inr (.inl (Zz2 _ (h2 a m)))
   ·cases h
noncomputable def Zcf: List T→Option T
 | [.lst ts]=>some (.lst ts)
 | [.tup ts]=>some (.lst ts)
 | _=>none
noncomputable def ZiF: List T→Option T
 | [.lst ts]=>some (.tup ts)
 | [.tup ts]=>some (.tup ts)
 | _=>none
theorem Zdm: OCn Zcu Zcf:=fun H vs ts t F hp r h=>by
 unfold Zcf at h
 split at h
 ·obtain⟨v,rfl,r'⟩:=r.one_inv
  cases r' with
  | ref e hs=>cases h;exact⟨_,_,_,by simp only[Zcu,e,Option.map_some],ZeZ hs,fun a m=>(Zz7.mp m).imp (fun q=>Nat.le_of_eq q.symm) (Zz2 _),Zgs hs⟩
 ·obtain⟨v,rfl,r'⟩:=r.one_inv
  cases r' with
  | tup hs=>cases h;exact⟨_,_,_,by simp only[Zcu],ZeZ hs,fun a m=>(Zz7.mp m).imp (fun q=>Nat.le_of_eq q.symm) id,Zgs hs⟩
 ·cases h
end
end TM
end
section
set_option autoImplicit false
namespace TM
open PySem PM
theorem St.from_src{c:Ctx}{O N:List Nat}{ρ:Lc}{σ:TL}{H:Hp}{Φ:Nat→List Nat}(s:St c O ρ σ H Φ){a:Nat}(f:From H N σ Φ a): c.H0.length≤a∨c.P a:=by
 rcases f with h | ⟨i,hi,⟨t,e⟩,m⟩
 ·exact .inl (Nat.le_trans s.len h)
 ·exact s.src i t e a m
theorem St.from_off{c:Ctx}{O N:List Nat}{ρ:Lc}{σ:TL}{H:Hp}{Φ:Nat→List Nat}(s:St c O ρ σ H Φ)(hN:∀i∈N,i∉O){a:Nat}(f:From H N σ Φ a){i:Nat}(hi:i∈O){t:T}(e:σ i=some t): a∉Φ i:=by
 intro m
 obtain⟨v,_,r⟩:=s.slot i t e
 have hl:=r.lt a m
 rcases f with h | ⟨j,hj,⟨t',e'⟩,m'⟩
 ·omega
 ·exact(s.own i hi t e).2.2 j t' (fun q=>hN j hj (q▸hi)) e' a m m'
noncomputable abbrev PPt:=TL→Option (Option Int)
noncomputable def Zw2: PPt:=fun _=>some none
noncomputable def Zyh(p:PE): PPt:=fun σ=>(p σ).bind fun t=>match t with
 | .int k=>some (some k)
 | _=>none
noncomputable def Pe(O:List Nat)(f:Pt)(p:PPt): Prop:=∀(c:Ctx) (ρ:Lc) (σ:TL) (H:Hp) (Φ:Nat→List Nat) (k:Option Int),St c O ρ σ H Φ→p σ=some k→∃o X,f ρ H=some (o,H++X)∧Zg4 o=some k
section
variable {O N:List Nat} {u:Bool}
theorem Pe.none: Pe O PM.Zg5 Zw2:=fun c ρ σ H Φ k s h=>by
 cases h;exact⟨Option.none,[],by simp[PM.Zg5],rfl⟩
noncomputable def Zyi(p:PE)(lo hi:PPt): PE:=fun σ=>(p σ).bind fun t=>(lo σ).bind fun a=>(hi σ).bind fun b=>match t with
 | .lst ts=>Option.some (.lst (Zc8 ts a b))
 | _=>Option.none
noncomputable def Zdu(p:PE)(k:Nat): PE:=fun σ=>(p σ).bind fun t=>match t with
 | .lst ts=>Option.some (.lst (ts.drop k))
 | .tup ts=>if 1≤k∧k≤ts.length then Option.some (.tup (ts.drop k))else Option.none
 | _=>Option.none
theorem Zuf{c:Ctx}{ρ:Lc}{σ:TL}{H:Hp}{Φ:Nat→List Nat}{t:T}{e:Ex}{p:PE}{k:Nat}(x:E O N u e p)(s:St c O ρ σ H Φ)(h:Zdu p k σ=Option.some t):
  ∃v X F,ZdI e k ρ H=Option.some (v,H++X)∧RF (H++X) v t F∧(∀a∈F,From H N σ Φ a)∧(t.flatIn=true→F.Nodup∧∀a∈F,H.length≤a):=by
 obtain⟨t1,h1,h⟩:=Zz0.mp h
 obtain⟨v,X,F,a1,a2,a3,a4⟩:=x c ρ σ H Φ t1 s h1
 cases a2 with
 | none=>cases h
 | bool=>cases h
 | int=>cases h
 | str=>cases h
 | tup hs=>
  simp only at h
  split at h
  ·rename_i hc
   cases h
   obtain⟨G,g1,g2⟩:=hs.drop k
   refine⟨_,X,G,?_,.tup g1,fun a m=>a3 a (g2.subset m),fun hf=>?_⟩
   ·simp only[ZdI,a1,Option.bind_some]
    rw[if_pos (by rw[hs.length];exact hc)]
   ·rw[g1.flats (by simpa [T.flatIn,T.flat]using hf)]
    simp
  ·cases h
 | @ref b vs1 ts1 F1 e1 hs=>
  cases h
  obtain⟨G,g1,g2⟩:=hs.drop k
  refine⟨.ref (H++X).length,X++[vs1.drop k],(H++X).length::G,?_,?_,fun a m=>?_,fun hf=>?_⟩
  ·simp only[ZdI,a1,Option.bind_some,e1,List.append_assoc]
  ·rw[←List.append_assoc];exact ZeZ g1
  ·rcases Zz7.mp m with rfl | m
   ·exact .inl (by simp)
   ·exact a3 a (Zz2 _ (g2.subset m))
  ·have:=Zgs g1 hf
   exact⟨this.1,fun q m=>by have:=this.2 q m;simp at this;omega⟩
theorem ZgU{e:Ex}{p:PE}{k:Nat}(x:E O N u e p): E O N false (ZdI e k) (Zdu p k):=fun c ρ σ H Φ t s h=>by
 obtain⟨v,X,F,a1,a2,a3,a4⟩:=Zuf x s h
 exact⟨v,X,F,a1,a2,a3,by simp⟩
end
noncomputable def Gs(O N:List Nat)(g:Src)(q:PG): Prop:=∀(c:Ctx) (ρ:Lc) (σ:TL) (H:Hp) (Φ:Nat→List Nat) (ts:List T),St c O ρ σ H Φ→q σ=some ts →
 ∃(nx:Nx) (X:Hp) (vs:List V) (F G:List Nat),g ρ H=some (nx,ts.length+1,H++X)∧RFs (H++X) vs ts F∧(∀a∈F,a∈G)∧(∀a∈G,a<(H++X).length∧From H N σ Φ a)∧∀K:Hp,(∀a∈G,K[a]?=(H++X)[a]?)→∀i,i≤vs.length→nx i K=some vs[i]?
section
variable {O N M:List Nat} {u u':Bool}
noncomputable def ZaD(p:PE): PG:=fun σ=>(p σ).bind fun t=>match t with
 | .lst ts=>some ts
 | .tup ts=>some ts
 | _=>none
theorem Gs.seq{e:Ex}{p:PE}(x:E O N u e p): Gs O N (Zby e) (ZaD p):=fun c ρ σ H Φ ts s h=>by
 obtain⟨t1,h1,h⟩:=Zz0.mp h
 obtain⟨v,X,F,a1,a2,a3,a4⟩:=x c ρ σ H Φ t1 s h1
 have hlt:=a2.lt
 cases a2 with
 | none=>cases h
 | bool=>cases h
 | int=>cases h
 | str=>cases h
 | @tup vs _ _ hs=>
  cases h
  exact⟨Zrk vs,X,vs,F,F,by simp only[Zby,a1,Option.bind_some,hs.length],hs,fun _ m=>m,fun a m=>⟨hlt a m,a3 a m⟩,fun K _ i hi=>rfl⟩
 | @ref b vs _ F' e1 hs=>
  cases h
  refine⟨Zoa b,X,vs,F',b::F',by simp only[Zby,a1,Option.bind_some,e1,Option.map_some,hs.length],hs,fun _ m=>List.mem_cons_of_mem _ m,fun a m=>⟨hlt a m,a3 a m⟩,fun K hK i hi=>?_⟩
  simp only[Zoa,hK b Zz5,e1,Option.map_some]
noncomputable def ZcC(a b c:Int): Option (List T):=if c≠0∧Builtin.Range.small a b c=true∧0≤Builtin.Range.rangeSize a b c∧rngN a b c≤LEN∧Builtin.divisionGoesByPylong (b-a) c=false then some ((List.range (rngN a b c)).map fun(i:Nat)=>.int (a+(i:Int)*c))else none
noncomputable def ZaE(p:PEs): PG:=fun σ=>(p σ).bind fun ts=>match ts with
 | [.int b]=>ZcC 0 b 1
 | [.int a,.int b]=>ZcC a b 1
 | [.int a,.int b,.int c]=>ZcC a b c
 | _=>none
theorem Zqe(H:Hp)(a c:Int): ∀(l:List Nat),RFs H (l.map fun(i:Nat)=>.int (a+(i:Int)*c)) (l.map fun(i:Nat)=>.int (a+(i:Int)*c)) []
 | []=>.nil
 | i::l=>by have:=RFs.cons (RF.int (H:=H) (a+i*c)) (Zqe H a c l);exact this
theorem Znm{a b c:Int}{H:Hp}{ts:List T}(h:ZcC a b c=some ts): ∃(nx:Nx) (vs:List V),ZcI a b c H=some (nx,ts.length+1,H)∧RFs H vs ts []∧∀K:Hp,∀i,i≤vs.length→nx i K=some vs[i]?:=by
 unfold ZcC at h
 split at h
 ·rename_i hc
  cases h
  refine⟨ZfA a c (rngN a b c),(List.range (rngN a b c)).map fun(i:Nat)=>.int (a+(i:Int)*c),?_,Zqe H a c _,fun K i hi=>?_⟩
  ·unfold ZcI
   rw[if_pos hc]
   simp
  ·simp only[ZfA,List.getElem?_map]
   by_cases q:i<rngN a b c
   ·rw[if_pos q,List.getElem?_range q];rfl
   ·rw[if_neg q,List.getElem?_eq_none (by simpa using Nat.le_of_not_lt q)];rfl
 ·cases h
theorem RFs.three_inv{H:Hp}{vs:List V}{t t' t'':T}{F:List Nat}(r:RFs H vs [t,t',t''] F): ∃v v' v'' F1 F2 F3,vs=[v,v',v'']∧RF H v t F1∧RF H v' t' F2∧RF H v'' t'' F3:=by
 cases r with
 | cons a b=>obtain⟨v',v'',F2,F3,h1,h2,h3,_⟩:=b.two_inv;subst h1;exact⟨_,_,_,_,_,_,rfl,a,h2,h3⟩
theorem Gs.range{n:Nat}{e:Exs}{p:PEs}(x:Es O N u n e p): Gs O [] (ZaP e) (ZaE p):=fun c ρ σ H Φ ts s h=>by
 obtain⟨t1,h1,h⟩:=Zz0.mp h
 obtain⟨_,vs,X,F,a1,a2,a3,a4⟩:=x c ρ σ H Φ t1 s h1
 split at h
 ·obtain⟨v,rfl,r⟩:=a2.one_inv
  cases r
  obtain⟨nx,us,q1,q2,q3⟩:=Znm (H:=H++X) h
  exact⟨nx,X,us,[],[],by simp only[ZaP,a1,Option.bind_some,q1],q2,by simp,by simp,fun K _=>q3 K⟩
 ·obtain⟨v,v',F1,F2,rfl,r,r',_⟩:=a2.two_inv
  cases r;cases r'
  obtain⟨nx,us,q1,q2,q3⟩:=Znm (H:=H++X) h
  exact⟨nx,X,us,[],[],by simp only[ZaP,a1,Option.bind_some,q1],q2,by simp,by simp,fun K _=>q3 K⟩
 ·obtain⟨v,v',v'',F1,F2,F3,rfl,r,r',r''⟩:=a2.three_inv
  cases r;cases r';cases r''
  obtain⟨nx,us,q1,q2,q3⟩:=Znm (H:=H++X) h
  exact⟨nx,X,us,[],[],by simp only[ZaP,a1,Option.bind_some,q1],q2,by simp,by simp,fun K _=>q3 K⟩
 ·cases h
noncomputable def Zd9(p q:PE): PG:=fun σ=>(p σ).bind fun t=>(q σ).bind fun s=>match t,s with
 | .lst ts,.lst ss=>some (List.zipWith (fun x y=>.tup [x,y]) ts ss)
 | _,_=>none
theorem RFs.zip{H:Hp}: ∀{vs us:List V} {ts ss:List T} {F G:List Nat},RFs H vs ts F→RFs H us ss G→∃D,RFs H (List.zipWith (fun x y=>.tup [x,y]) vs us) (List.zipWith (fun x y=>.tup [x,y]) ts ss) D∧∀a∈D,a∈F∨a∈G
 | _,_,_,_,_,_,.nil,_=>⟨_,.nil,by simp⟩
 | _,_,_,_,_,_,.cons _ _,.nil=>⟨_,.nil,by simp⟩
 | _,_,_,_,_,_,.cons a b,.cons a' b'=>by
  obtain⟨D,h1,h2⟩:=b.zip b'
  refine⟨_,.cons (.tup (.cons a (.one a'))) h1,fun x m=>?_⟩
  rcases Zz8.mp m with m | m
  ·rcases Zz8.mp m with m | m
   ·exact .inl (Zz4 _ m)
   ·exact .inr (Zz4 _ m)
  ·exact(h2 x m).imp (Zz3 _) (Zz3 _)
theorem Gs.zip{e1 e2:Ex}{p1 p2:PE}(x:E O N u e1 p1)(y:E O M u' e2 p2): Gs O (N++M) (Zd7 e1 e2) (Zd9 p1 p2):=fun c ρ σ H Φ ts s h=>by
 obtain⟨t1,h1,h⟩:=Zz0.mp h
 obtain⟨t2,h2,h⟩:=Zz0.mp h
 obtain⟨v,X,F,a1,a2,a3,a4⟩:=x c ρ σ H Φ t1 s h1
 obtain⟨w,Y,G,b1,b2,b3,b4⟩:=y c ρ σ (H++X) Φ t2 (s.ext X) h2
 have a2:=a2.ext Y
 have l1:=a2.lt
 have l2:=b2.lt
 rw[List.append_assoc]at a2 b2 l1 l2 b1
 cases a2 with
 | none=>cases h
 | bool=>cases h
 | int=>cases h
 | str=>cases h
 | tup=>cases b2 <;> cases h
 | @ref a vs _ F' e1 hs=>
  cases b2 with
  | none=>cases h
  | bool=>cases h
  | int=>cases h
  | str=>cases h
  | tup=>cases h
  | @ref b us _ G' e2 hs2=>
   cases h
   obtain⟨D,d1,d2⟩:=hs.zip hs2
   refine⟨Zg6 a b,X++Y,_,D,a::b::D,?_,d1,fun q m=>List.mem_cons_of_mem _ (Zz2 _ m),fun q m=>?_,fun K hK i hi=>?_⟩
   ·simp only[Zd7,a1,Option.bind_some,b1,e1,e2,Option.map_some,List.length_zipWith,hs.length,hs2.length]
   ·rcases Zz7.mp m with rfl | m
    ·exact⟨l1 _ Zz5,(a3 _ Zz5).mono fun i hi=>List.mem_append_left _ hi⟩
    ·rcases Zz7.mp m with rfl | m
     ·exact⟨l2 _ Zz5,(b3 _ Zz5).back.mono fun i hi=>List.mem_append_right _ hi⟩
     ·rcases d2 q m with m | m
      ·exact⟨l1 _ (Zz2 _ m),(a3 _ (Zz2 _ m)).mono fun i hi=>List.mem_append_left _ hi⟩
      ·exact⟨l2 _ (Zz2 _ m),(b3 _ (Zz2 _ m)).back.mono fun i hi=>List.mem_append_right _ hi⟩
   ·simp only[Zg6,hK a Zz5,hK b (Zz2 _ Zz5),e1,e2,Option.bind_some,List.getElem?_zipWith]
    rw[List.length_zipWith]at hi
    by_cases q:i<min vs.length us.length
    ·rw[List.getElem?_eq_getElem (show i<vs.length by omega),List.getElem?_eq_getElem (show i<us.length by omega)]
    ·have q':i=min vs.length us.length:=by omega
     by_cases q2:i<vs.length
     ·rw[List.getElem?_eq_getElem q2,List.getElem?_eq_none (show us.length≤i by omega)]
      simp[q']
     ·rw[List.getElem?_eq_none (show vs.length≤i by omega)]
      simp[q']
end
noncomputable def PutOk(O J:List Nat)(put:V→Lc→Option Lc)(q:T→TL→Option TL): Prop:=∀(c:Ctx) (ρ:Lc) (σ:TL) (H:Hp) (Φ:Nat→List Nat) (v:V) (t:T) (F:List Nat) (σ1:TL),St c O ρ σ H Φ→RF H v t F→(∀a∈F,c.H0.length≤a∨c.P a)→(∀i∈O,∀t',σ i=some t'→∀a∈Φ i,a∉F)→q t σ=some σ1 →
 ∃ρ1 Φ1,put v ρ=some ρ1∧St c O ρ1 σ1 H Φ1∧(∀i,i∉J→σ1 i=σ i∧Φ1 i=Φ i)∧∀i∈J,∀a∈Φ1 i,a∈F
noncomputable def Zan(Φ:Nat→List Nat)(j:Nat)(F:List Nat): Nat→List Nat:=fun i=>if i=j then F else Φ i
theorem St.put{c:Ctx}{O:List Nat}{ρ:Lc}{σ:TL}{H:Hp}{Φ:Nat→List Nat}{v:V}{t:T}{F:List Nat}{j:Nat}(s:St c O ρ σ H Φ)(hj:j∉O)(r:RF H v t F)(hs:∀a∈F,c.H0.length≤a∨c.P a)(ho:∀i∈O,∀t',σ i=some t'→∀a∈Φ i,a∉F): St c O (upd ρ j v) (Zaa σ j t) H (Zan Φ j F):=by
 refine⟨fun i u e=>?_,fun i u e=>?_,fun i hi u e=>?_,s.len,s.keep,s.pos,s.f0⟩
 ·by_cases q:i=j
  ·subst q
   simp[Zaa]at e
   subst e
   exact⟨v,by simp[upd],by simpa [Zan]using r⟩
  ·simp[Zaa,q]at e
   simpa [upd,Zan,q]using s.slot i u e
 ·by_cases q:i=j
  ·subst q;simpa [Zan]using hs
  ·simp[Zaa,q]at e
   simpa [Zan,q]using s.src i u e
 ·have q:i≠j:=fun q=>hj (q▸hi)
  simp[Zaa,q]at e
  obtain⟨h1,h2,h3⟩:=s.own i hi u e
  refine⟨by simpa [Zan,q]using h1,by simpa [Zan,q]using h2,fun k w hk ek=>?_⟩
  by_cases q2:k=j
  ·subst q2
   simpa [Zan,q]using ho i hi u e
  ·simp[Zaa,q2]at ek
   simpa [Zan,q,q2]using h3 k w hk ek
noncomputable def Zac(j:Nat): T→TL→Option TL:=fun t σ=>some (Zaa σ j t)
noncomputable def ZcX(i j:Nat): T→TL→Option TL
 | .tup [a,b],σ=>some (Zaa (Zaa σ i a) j b)
 | _,_=>none
theorem PutOk.one{O:List Nat}{j:Nat}(hj:j∉O:=by decide): PutOk O [j] (put1 j) (Zac j):=fun c ρ σ H Φ v t F σ1 s r hs ho h=>by
 cases h
 refine⟨_,_,rfl,s.put hj r hs ho,fun i hi=>?_,fun i hi a m=>?_⟩
 ·have:i≠j:=fun q=>hi (by simp[q])
  simp[Zaa,Zan,this]
 ·simp at hi;subst hi;simpa [Zan]using m
theorem PutOk.two{O:List Nat}{i j:Nat}(hi:i∉O:=by decide)(hj:j∉O:=by decide)(hij:i≠j:=by decide): PutOk O [i,j] (ZcA i j) (ZcX i j):=fun c ρ σ H Φ v t F σ1 s r hs ho h=>by
 unfold ZcX at h
 split at h
 ·cases h
  cases r with
  | tup hh=>
   obtain⟨v1,v2,F1,F2,rfl,r1,r2,rfl⟩:=hh.two_inv
   have s1:=s.put hi r1 (fun a m=>hs a (Zz4 _ m)) (fun k hk t' e a m q=>ho k hk t' e a m (Zz4 _ q))
   have s2:=s1.put hj r2 (fun a m=>hs a (Zz3 _ m)) (fun k hk t' e a m q=>by
    have:k≠i:=fun q=>hi (q▸hk)
    simp[Zaa,Zan,this]at e m
    exact ho k hk t' e a m (Zz3 _ q))
   refine⟨_,_,rfl,s2,fun k hk=>?_,fun k hk a m=>?_⟩
   ·simp at hk
    simp[Zaa,Zan,hk.1,hk.2]
   ·simp at hk
    rcases hk with rfl | rfl
    ·simp[Zan,hij]at m
     exact Zz4 _ m
    ·simp[Zan]at m
     exact Zz3 _ m
 ·cases h
noncomputable def Zcx(put:T→TL→Option TL)(c:PB)(f:PE)(σ:TL): List T→Option (List T)
 | []=>some []
 | t::ts=>(put t σ).bind fun σ1=>(c σ1).bind fun b=>if b then(f σ1).bind fun x=>(Zcx put c f σ ts).map fun xs=>x::xs else Zcx put c f σ ts
noncomputable def Zap(g:PG)(put:T→TL→Option TL)(c:PB)(f:PE): PE:=fun σ=>(g σ).bind fun ts=>if ts.length≤LEN then(Zcx put c f σ ts).map .lst else none
section
variable {O Ns Ne J:List Nat} {u:Bool}
theorem comp_core{put:V→Lc→Option Lc}{pput:T→TL→Option TL}{tc:Ts}{pc:PB}{f:Ex}{pf:PE}(hj:PutOk O J put pput)(hN:∀i∈Ns,i∉O)(hc:Bt O tc pc)(hf:E O Ne u f pf)(hu:u=true→Ne=[])
  {c:Ctx} {ρ:Lc} {σ:TL} {Φ:Nat→List Nat} {H0 H1:Hp} {nx:Nx} {vs:List V} {G:List Nat} (h0:H0.length≤H1.length)
  (hG:∀a∈G,a<H1.length∧From H0 Ns σ Φ a) (hoff:∀a∈G,∀i∈O,∀t,σ i=some t→a∉Φ i) (hsrc:∀a∈G,c.H0.length≤a∨c.P a) (hnx:∀K:Hp,(∀a∈G,K[a]?=H1[a]?)→∀i,i≤vs.length→nx i K=some vs[i]?):
  ∀(rs:List T) (ws:List V) (i:Nat) (acc:List V) (K:Hp) (Fr:List Nat) (out:List T),(∀j,vs[i+j]?=ws[j]?)→i+ws.length=vs.length→St c O ρ σ K Φ→H1.length≤K.length→(∀a∈G,K[a]?=H1[a]?)→RFs K ws rs Fr→(∀a∈Fr,a∈G)→acc.length+rs.length≤LEN→Zcx pput pc pf σ rs=some out →
   ∃xs X F,ZcW nx put tc f ρ (rs.length+1) i acc K=some (acc++xs,K++X)∧RFs (K++X) xs out F∧(∀a∈F,(u=true→K.length≤a)∧From H0 (Ns++Ne) σ Φ a)∧(u=true→F.Nodup)
 | [],ws,i,acc,K,Fr,out,hat,hlen,s,hl,hk,r,hfr,hacc,h=>by
  cases r
  cases h
  have e:=hnx K hk i (by simp at hlen;omega)
  have e2:vs[i]?=none:=by have:=hat 0;simpa using this
  refine⟨[],[],[],?_,.nil,by simp,by simp⟩
  simp[ZcW,e,e2]
 | t::rs,ws0,i,acc,K,Fr0,out,hat,hlen,s,hl,hk,r,hfr,hacc,h=>by
  cases r with
  | @cons v _ F1 ws _ F2 a b=>
  simp only[List.length_cons]at hlen hacc
  obtain⟨σ1,h1,h⟩:=Zz0.mp h
  obtain⟨bb,h2,h⟩:=Zz0.mp h
  have e:=hnx K hk i (by omega)
  have e2:vs[i]?=some v:=by have:=hat 0;simpa using this
  have hat':∀j,vs[i+1+j]?=ws[j]?:=fun j=>by have:=hat (j+1);rw[show i+1+j=i+(j+1)by omega,this];simp
  obtain⟨ρ1,Φ1,p1,s1,p3,p4⟩:=hj c ρ σ K Φ v t F1 σ1 s a (fun x m=>hsrc x (hfr x (Zz4 _ m))) (fun k hk t' e x m q=>hoff x (hfr x (Zz4 _ q)) k hk t' e m) h1
  obtain⟨X1,c1⟩:=hc c ρ1 σ1 K Φ1 bb s1 h2
  cases bb with
  | true=>
   obtain⟨y,h3,h⟩:=Zz0.mp h
   obtain⟨ys,h4,h⟩:=Zz1.mp h
   subst h
   obtain⟨w,X2,Fw,d1,d2,d3,d4⟩:=hf c ρ1 σ1 (K++X1) Φ1 y (s1.ext X1) h3
   have hext:∀a∈G,(K++X1++X2)[a]?=H1[a]?:=fun a m=>by
    have:=(hG a m).1
    rw[List.append_assoc,List.getElem?_append_left (by omega)];exact hk a m
   obtain⟨xs,X3,F3,f1,f2,f3,f4⟩:=comp_core hj hN hc hf hu h0 hG hoff hsrc hnx rs ws (i+1) (acc++[w]) (K++X1++X2) F2 ys hat' (by omega) ((s.ext X1).ext X2) (by simp;omega) hext (by rw[List.append_assoc];exact b.ext _) (fun x m=>hfr x (Zz3 _ m)) (by simp;omega) h4
   refine⟨w::xs,X1++X2++X3,Fw++F3,?_,?_,fun x m=>?_,fun hu'=>?_⟩
   ·rw[List.length_cons,ZcW,e,e2]
    simp only[Option.bind_some,p1,c1,d1,if_true]
    rw[if_pos (by omega)]
    simpa using f1
   ·have:=RFs.cons (d2.ext X3) f2
    simpa using this
   ·rcases Zz8.mp m with m | m
    ·refine⟨fun hu'=>?_,?_⟩
     ·have hne:=hu hu'
      subst hne
      have:=(d3 x m).nil
      simp at this;omega
     ·rcases d3 x m with q | ⟨k,hk1,⟨tk,ek⟩,mk⟩
      ·exact .inl (by simp at q;omega)
      ·by_cases hkJ:k∈J
       ·exact(hG x (hfr x (Zz4 _ (p4 k hkJ x mk)))).2.mono fun i hi=>List.mem_append_left _ hi
       ·obtain⟨q1,q2⟩:=p3 k hkJ
        exact .inr ⟨k,List.mem_append_right _ hk1,⟨tk,q1▸ek⟩,q2▸mk⟩
    ·obtain⟨g1,g2⟩:=f3 x m
     exact⟨fun hu'=>by have:=g1 hu';simp at this;omega,g2⟩
   ·rw[List.nodup_append]
    refine⟨d4 hu',f4 hu',fun x hx y hy e=>?_⟩
    have l1:=d2.lt x hx
    have l2:=(f3 y hy).1 hu'
    omega
  | false=>
   have hext:∀a∈G,(K++X1)[a]?=H1[a]?:=fun a m=>by
    have:=(hG a m).1
    rw[List.getElem?_append_left (by omega)];exact hk a m
   obtain⟨xs,X3,F3,f1,f2,f3,f4⟩:=comp_core hj hN hc hf hu h0 hG hoff hsrc hnx rs ws (i+1) acc (K++X1) F2 out hat' (by omega) (s.ext X1) (by simp;omega) hext (b.ext _) (fun x m=>hfr x (Zz3 _ m)) (by omega) (by simpa using h)
   refine⟨xs,X1++X3,F3,?_,by simpa using f2,fun x m=>?_,f4⟩
   ·rw[List.length_cons,ZcW,e,e2]
    simp only[Option.bind_some,p1,c1]
    simpa using f1
   ·obtain⟨g1,g2⟩:=f3 x m
    exact⟨fun hu'=>by have:=g1 hu';simp at this;omega,g2⟩
theorem Zro{g:Src}{q:PG}{put:V→Lc→Option Lc}{pput:T→TL→Option TL}{tc:Ts}{pc:PB}{f:Ex}{pf:PE}(hg:Gs O Ns g q)(hj:PutOk O J put pput)(hN:∀i∈Ns,i∉O)(hc:Bt O tc pc)(hf:E O Ne u f pf)(hu:u=true→Ne=[]): E O (if u then []else Ns++Ne) u (ZaI g put tc f) (Zap q pput pc pf):=fun c ρ σ H Φ t s h=>by
 obtain⟨ts,h1,h⟩:=Zz0.mp h
 split at h
 ·rename_i hl
  obtain⟨out,h2,h⟩:=Zz1.mp h
  subst h
  obtain⟨nx,X,vs,F,G,g1,g2,g3,g4,g5⟩:=hg c ρ σ H Φ ts s h1
  obtain⟨xs,Y,F',d1,d2,d3,d4⟩:=comp_core hj hN hc hf hu (H0:=H) (H1:=H++X) (by simp) g4 (fun a m i hi t e=>s.from_off hN (g4 a m).2 hi e) (fun a m=>s.from_src (g4 a m).2) g5 ts vs 0 [] (H++X) F out (by simp) (by simp) (s.ext X) (Zz10 _) (fun _ _=>rfl) g2 g3 (by simpa using hl) h2
  refine⟨.ref (H++X++Y).length,X++Y++[xs],(H++X++Y).length::F',?_,?_,fun a m=>?_,fun hu'=>?_⟩
  ·simp only[ZaI,g1,Option.bind_some,d1,Option.map_some,List.nil_append,List.append_assoc]
  ·have:=ZeZ d2
   simpa using this
  ·rcases Zz7.mp m with rfl | m
   ·exact .inl (by simp)
   ·obtain⟨q1,q2⟩:=d3 a m
    cases u with
    | true=>exact .inl (by have:=q1 rfl;simp at this;omega)
    | false=>exact q2
  ·rw[List.nodup_cons]
   exact⟨fun m=>Nat.lt_irrefl _ (d2.lt _ m),d4 hu'⟩
 ·cases h
end
end TM
end
section
set_option autoImplicit false
namespace TM
open PySem PM
noncomputable abbrev PS:=TL→Option (Option T×TL)
noncomputable def ZcT(σ:TL)(N:List Nat): TL:=fun j=>if j∈N then none else σ j
noncomputable def Held(O:List Nat)(σ:TL)(Φ:Nat→List Nat)(a:Nat): Prop:=∃j∈O,(∃t,σ j=some t)∧a∈Φ j
noncomputable def Aft(c:Ctx)(O O' R:List Nat)(fr:Bool)(σ:TL)(H:Hp)(Φ:Nat→List Nat)(g:Option (Option V×Lc×Hp))(r:Option T×TL): Prop:=
 ∃ρ' H' Φ',H.length≤H'.length∧(∀a,a<H.length→¬Held O σ Φ a→H'[a]?=H[a]?) ∧
  ((r.1=none∧g=some (none,ρ',H')∧St c O' ρ' r.2 H' Φ'∧∀a,Held O' r.2 Φ' a→H.length≤a∨Held O σ Φ a) ∨
  ∃t v F,r.1=some t∧g=some (some v,ρ',H')∧RF H' v t F∧St c R ρ' r.2 H' Φ'∧(∀a∈F,c.H0.length≤a∨c.P a)∧(fr=true→F.Nodup∧∀a∈F,c.H0.length≤a∨a∈c.F0))
noncomputable def S(O O' R:List Nat)(fr:Bool)(g:Sm)(q:PS): Prop:=∀(c:Ctx) (ρ:Lc) (σ:TL) (H:Hp) (Φ:Nat→List Nat) (r:Option T×TL),St c O ρ σ H Φ→q σ=some r→Aft c O O' R fr σ H Φ (g ρ H) r
theorem Held.mono{O O':List Nat}{σ:TL}{Φ:Nat→List Nat}{a:Nat}(h:Held O σ Φ a)(s:∀i∈O,i∈O'): Held O' σ Φ a:=by
 obtain⟨j,hj,q⟩:=h;exact⟨j,s j hj,q⟩
section
variable {O O' R:List Nat} {fr:Bool}
theorem Zw3{O1:List Nat}{g:Sm}{q:PS}(x:S O O1 R fr g q)(h:∀i∈O',i∈O1): S O O' R fr g q:=fun c ρ σ H Φ r s e=>by
 obtain⟨ρ',H',Φ',h1,h2,h3⟩:=x c ρ σ H Φ r s e
 refine⟨ρ',H',Φ',h1,h2,?_⟩
 rcases h3 with⟨k1,k2,k3,k4⟩ | k
 ·exact .inl ⟨k1,k2,k3.less h,fun a m=>k4 a (m.mono h)⟩
 ·exact .inr k
noncomputable def ZU: PS:=fun σ=>some (none,σ)
theorem Z6: S O O R fr Z1 ZU:=fun c ρ σ H Φ r s e=>by
 cases e
 exact⟨ρ,H,Φ,Nat.le_refl _,fun _ _ _=>rfl,.inl ⟨rfl,rfl,s,fun a m=>.inr m⟩⟩
noncomputable def Zs(a b:PS): PS:=fun σ=>(a σ).bind fun r=>match r.1 with
 | some _=>some r
 | none=>b r.2
theorem Zy{O1:List Nat}{a b:Sm}{p q:PS}(x:S O O1 R fr a p)(y:S O1 O' R fr b q): S O O' R fr (Zv a b) (Zs p q):=fun c ρ σ H Φ r s e=>by
 obtain⟨r1,e1,e⟩:=Zz0.mp e
 obtain⟨ρ1,H1,Φ1,h1,h2,h3⟩:=x c ρ σ H Φ r1 s e1
 rcases h3 with⟨k1,k2,k3,k4⟩ | ⟨t,v,F,k1,k2,k3⟩
 ·rw[k1]at e
  obtain⟨ρ2,H2,Φ2,g1,g2,g3⟩:=y c ρ1 r1.2 H1 Φ1 r k3 e
  refine⟨ρ2,H2,Φ2,Nat.le_trans h1 g1,fun a ha hn=>?_,?_⟩
  ·rw[g2 a (by omega) fun q=>(k4 a q).elim (fun q=>by omega) hn,h2 a ha hn]
  ·have eg:Zv a b ρ H=b ρ1 H1:=by simp only[Zv,k2,Option.bind_some]
   rw[eg]
   rcases g3 with⟨l1,l2,l3,l4⟩ | l
   ·refine .inl ⟨l1,l2,l3,fun a m=>?_⟩
    rcases l4 a m with q | q
    ·exact .inl (by omega)
    ·exact k4 a q
   ·exact .inr l
 ·rw[k1]at e
  cases e
  exact⟨ρ1,H1,Φ1,h1,h2,.inr ⟨t,v,F,k1,by simp only[Zv,k2,Option.bind_some],k3⟩⟩
noncomputable def ZE(p:PE): PS:=fun σ=>(p σ).map fun t=>(some t,σ)
theorem ZV{N:List Nat}{u:Bool}{e:Ex}{p:PE}(x:E O N u e p)(hR:∀i∈R,i∈O:=by decide): S O O' R false (ZG e) (ZE p):=fun c ρ σ H Φ r s q=>by
 obtain⟨t,h1,h⟩:=Zz1.mp q
 subst h
 obtain⟨v,X,F,a1,a2,a3,a4⟩:=x c ρ σ H Φ t s h1
 refine⟨ρ,H++X,Φ,by simp,fun a ha _=>List.getElem?_append_left ha,.inr ⟨t,v,F,rfl,by simp only[ZG,a1,Option.map_some],a2,(s.ext X).less hR,fun a m=>s.from_src (a3 a m),by simp⟩⟩
theorem Za7{N:List Nat}{e:Ex}{p:PE}(x:E O N true e p)(hN:∀i∈N,i∈O:=by decide)(hR:∀i∈R,i∈O:=by decide): S O O' R fr (ZG e) (ZE p):=fun c ρ σ H Φ r s q=>by
 obtain⟨t,h1,h⟩:=Zz1.mp q
 subst h
 obtain⟨v,X,F,a1,a2,a3,a4⟩:=x c ρ σ H Φ t s h1
 refine⟨ρ,H++X,Φ,by simp,fun a ha _=>List.getElem?_append_left ha,.inr ⟨t,v,F,rfl,by simp only[ZG,a1,Option.map_some],a2,(s.ext X).less hR,fun a m=>s.from_src (a3 a m),fun _=>⟨a4 rfl,fun a m=>?_⟩⟩⟩
 rcases a3 a m with q | ⟨i,hi,⟨t',e'⟩,m'⟩
 ·exact .inl (Nat.le_trans s.len q)
 ·exact(s.own i (hN i hi) t' e').2.1 a m'
noncomputable def ZI(i:Nat)(p:PE): PS:=fun σ=>(p σ).map fun t=>(none,Zaa σ i t)
theorem ZY{N:List Nat}{u:Bool}{i:Nat}{e:Ex}{p:PE}(x:E O N u e p)(hi:i∉O':=by decide)(hN:∀j∈N,j∉O':=by decide)(hO:∀j∈O',j∈O:=by decide): S O O' R fr (ZN i e) (ZI i p):=fun c ρ σ H Φ r s q=>by
 obtain⟨t,h1,h⟩:=Zz1.mp q
 subst h
 obtain⟨v,X,F,a1,a2,a3,a4⟩:=x c ρ σ H Φ t s h1
 have s':=s.less hO
 refine⟨upd ρ i v,H++X,Zan Φ i F,by simp,fun a ha _=>List.getElem?_append_left ha,.inl ⟨rfl,by simp only[ZN,a1,Option.map_some],(s'.ext X).put hi a2 (fun a m=>s.from_src (a3 a m)) (fun k hk t' e' a m q=>?_),fun a m=>?_⟩⟩
 ·exact s'.from_off hN (a3 a q) hk e' m
 ·obtain⟨k,hk,⟨t',e'⟩,m⟩:=m
  have:k≠i:=fun q=>hi (q▸hk)
  simp[Zaa,this]at e'
  simp[Zan,this]at m
  exact .inr ⟨k,hO k hk,⟨t',e'⟩,m⟩
theorem Zcn{i:Nat}{e:Ex}{p:PE}(x:E O [] true e p)(hO:∀j∈O',j∈O∨j=i:=by decide): S O O' R fr (ZN i e) (ZI i p):=fun c ρ σ H Φ r s q=>by
 obtain⟨t,h1,h⟩:=Zz1.mp q
 subst h
 obtain⟨v,X,F,a1,a2,a3,a4⟩:=x c ρ σ H Φ t s h1
 have hnew:∀a∈F,H.length≤a:=fun a m=>(a3 a m).nil
 have hold:∀k t',σ k=some t'→∀a∈Φ k,a<H.length:=fun k t' e a m=>by
  obtain⟨_,_,r⟩:=s.slot k t' e
  exact r.lt a m
 refine⟨upd ρ i v,H++X,Zan Φ i F,by simp,fun a ha _=>List.getElem?_append_left ha,.inl ⟨rfl,by simp only[ZN,a1,Option.map_some],⟨fun k t' e'=>?_,fun k t' e'=>?_,fun k hk t' e'=>?_,(s.ext X).len,(s.ext X).keep,s.pos,s.f0⟩,fun a m=>?_⟩⟩
 ·by_cases q:k=i
  ·subst q
   simp[Zaa]at e'
   subst e'
   exact⟨v,by simp[upd],by simpa [Zan]using a2⟩
  ·simp[Zaa,q]at e'
   simpa [upd,Zan,q]using (s.ext X).slot k t' e'
 ·by_cases q:k=i
  ·subst q;simpa [Zan]using fun a m=>s.from_src (a3 a m)
  ·simp[Zaa,q]at e'
   simpa [Zan,q]using s.src k t' e'
 ·by_cases q:k=i
  ·subst q
   simp only[Zan,if_true]
   refine⟨a4 rfl,fun a m=>.inl (Nat.le_trans s.len (hnew a m)),fun j w hj ej a m q=>?_⟩
   simp[Zaa,hj]at ej
   rw[if_neg hj]at q
   have:=hold j w ej a q
   have:=hnew a m
   omega
  ·have hk':=(hO k hk).resolve_right q
   simp[Zaa,q]at e'
   obtain⟨o1,o2,o3⟩:=s.own k hk' t' e'
   refine⟨by simpa [Zan,q]using o1,by simpa [Zan,q]using o2,fun j w hj ej a m=>?_⟩
   simp[Zan,q]at m
   by_cases q2:j=i
   ·subst q2
    simp only[Zan,if_true]
    intro m2
    have:=hold k t' e' a m
    have:=hnew a m2
    omega
   ·simp[Zaa,q2]at ej
    simpa [Zan,q2]using o3 j w hj ej a m
 ·obtain⟨k,hk,⟨t',e'⟩,m⟩:=m
  by_cases q:k=i
  ·subst q
   simp[Zan]at m
   exact .inl (hnew a m)
  ·simp[Zaa,q]at e'
   simp[Zan,q]at m
   exact .inr ⟨k,(hO k hk).resolve_right q,⟨t',e'⟩,m⟩
noncomputable def ZP(b:PB)(p q:PS): PS:=fun σ=>(b σ).bind fun x=>if x then p σ else q σ
theorem Aft.grow{c:Ctx}{σ:TL}{H X:Hp}{Φ:Nat→List Nat}{g:Option (Option V×Lc×Hp)}{r:Option T×TL}(h:Aft c O O' R fr σ (H++X) Φ g r): Aft c O O' R fr σ H Φ g r:=by
 obtain⟨ρ',H',Φ',h1,h2,h3⟩:=h
 rw[List.length_append]at h1
 refine⟨ρ',H',Φ',by omega,fun a ha hn=>?_,?_⟩
 ·rw[h2 a (by rw[List.length_append];omega) hn,List.getElem?_append_left ha]
 ·rcases h3 with⟨k1,k2,k3,k4⟩ | k
  ·exact .inl ⟨k1,k2,k3,fun a m=>(k4 a m).imp (fun q=>by rw[List.length_append]at q;omega) id⟩
  ·exact .inr k
theorem Z3{t:Ts}{pb:PB}{a b:Sm}{p q:PS}(z:Bt O t pb)(x:S O O' R fr a p)(y:S O O' R fr b q): S O O' R fr (ZW t a b) (ZP pb p q):=fun c ρ σ H Φ r s e=>by
 obtain⟨bb,e1,e⟩:=Zz0.mp e
 obtain⟨X,h1⟩:=z c ρ σ H Φ bb s e1
 cases bb with
 | true=>
  have:=x c ρ σ (H++X) Φ r (s.ext X) (by simpa using e)
  have eg:ZW t a b ρ H=a ρ (H++X):=by simp[ZW,h1]
  rw[eg]
  exact this.grow
 | false=>
  have:=y c ρ σ (H++X) Φ r (s.ext X) (by simpa using e)
  have eg:ZW t a b ρ H=b ρ (H++X):=by simp[ZW,h1]
  rw[eg]
  exact this.grow
noncomputable def qNo: PS:=fun _=>none
noncomputable def sNo: Sm:=fun _ _=>none
theorem Zyb{g:Sm}: S O O' R fr g qNo:=fun c ρ σ H Φ r s q=>by cases q
noncomputable def follow(H:Hp): List Int→V→Option V
 | [],v=>some v
 | k::ks,v=>(Zt v (.int k) H).bind fun q=>follow H ks q.1
theorem Lead.follow{H:Hp}{ks:List Int}{v:V}{a:Nat}(l:Lead H ks v a): follow H ks v=some (.ref a):=by
 induction l with
 | nil=>rfl
 | ref h1 h2 h3 _ ih=>simp only[TM.follow,Zt,h1,Option.bind_some,h2,h3,Option.map_some,ih]
 | tup h2 h3 _ ih=>simp only[TM.follow,Zt,Option.bind_some,h2,h3,Option.map_some,ih]
theorem ZmC{H:Hp}{v w z:V}{K:Hp}(h:Zt v z H=some (w,K))(X:Hp): K=H∧Zt v z (H++X)=some (w,H++X):=by
 unfold Zt at h
 split at h
 ·obtain⟨vs,e1,h⟩:=Zz0.mp h
  obtain⟨j,e2,h⟩:=Zz0.mp h
  obtain⟨x,e3,h⟩:=Zz1.mp h
  cases h
  exact⟨rfl,by simp only[Zt,List.getElem?_append_left (Zz6.mp e1).1,e1,Option.bind_some,e2,e3,Option.map_some]⟩
 ·obtain⟨j,e2,h⟩:=Zz0.mp h
  obtain⟨x,e3,h⟩:=Zz1.mp h
  cases h
  exact⟨rfl,by simp only[Zt,Option.bind_some,e2,e3,Option.map_some]⟩
 ·cases h
theorem Zpf{H:Hp}{k:Int}: ∀{ks:List Int} {v:V},follow H (ks++[k]) v=(follow H ks v).bind fun w=>(Zt w (.int k) H).map (·.1)
 | [],v=>by
  simp only[List.nil_append,follow,Option.bind_some]
  cases Zt v (.int k) H <;> rfl
 | j::ks,v=>by
  simp only[List.cons_append,follow]
  cases Zt v (.int j) H with
  | none=>rfl
  | some q=>simp only[Option.bind_some];exact Zpf
noncomputable abbrev PPa:=TL→Option (List Int)
noncomputable def ZaC: PPa:=fun _=>some []
noncomputable def Zbu(p:PPa)(i:PE): PPa:=fun σ=>(p σ).bind fun ks=>(i σ).bind fun t=>match t with
 | .int k=>some (ks++[k])
 | _=>none
noncomputable def Pa(O:List Nat)(x:Nat)(e:Ex)(p:PPa): Prop:=∀(c:Ctx) (ρ:Lc) (σ:TL) (H:Hp) (Φ:Nat→List Nat) (ks:List Int) (v w:V),St c O ρ σ H Φ→p σ=some ks→ρ x=some v→follow H ks v=some w→∃X,e ρ H=some (w,H++X)
theorem ZbC{x:Nat}: Pa O x (Zb x) ZaC:=fun c ρ σ H Φ ks v w s h e f=>by
 cases h;cases f
 exact⟨[],by simp[Zb,e]⟩
theorem Zc5{x:Nat}{N:List Nat}{u:Bool}{e i:Ex}{p:PPa}{pi:PE}(y:Pa O x e p)(z:E O N u i pi): Pa O x (Zh Zt e i) (Zbu p pi):=fun c ρ σ H Φ ks v w s h ev f=>by
 obtain⟨ks0,h1,h⟩:=Zz0.mp h
 obtain⟨t,h2,h⟩:=Zz0.mp h
 cases t <;> first | (cases h;done) | skip
 rename_i k
 cases h
 rw[Zpf]at f
 obtain⟨w0,f1,f⟩:=Zz0.mp f
 obtain⟨⟨w1,K⟩,f2,f⟩:=Zz1.mp f
 cases f
 obtain⟨X,a1⟩:=y c ρ σ H Φ ks0 v w0 s h1 ev f1
 obtain⟨vi,Y,F,b1,b2,b3,b4⟩:=z c ρ σ (H++X) Φ _ (s.ext X) h2
 cases b2
 refine⟨X++Y,?_⟩
 simp only[Zh,a1,Option.bind_some,b1]
 have:=(ZmC f2 (X++Y)).2
 rw[List.append_assoc]
 exact this
theorem Zrp{c:Ctx}{ρ:Lc}{σ:TL}{H:Hp}{Φ:Nat→List Nat}{N:List Nat}{x a b:Nat}{t t':T}{v:V}{Fw F':List Nat}{vs':List V}(s:St c O ρ σ H Φ)(hx:x∈O)(ex:σ x=some t)(ev:ρ x=some v)(hb:c.H0.length≤b)(hlow:∀k t,σ k=some t→∀a∈Φ k,a<b)
  (hFw:∀a∈Fw,b≤a∨∃j∈N,(∃t,σ j=some t)∧a∈Φ j) (hN:∀j∈N,j∈O∧j≠x) (ha:a∈Φ x) (r:RF (H.set a vs') v t' F') (nd:F'.Nodup) (sub:∀y∈F',y∈Φ x∨y∈Fw) (hO:∀j∈O',j∈O∧j∉N):
  St c O' ρ (ZcT (Zaa σ x t') N) (H.set a vs') (Zan Φ x F')∧(∀y,Held O' (ZcT (Zaa σ x t') N) (Zan Φ x F') y→b≤y∨Held O σ Φ y):=by
 obtain⟨o1,o2,o3⟩:=s.own x hx t ex
 have old:∀k u,k≠x→ZcT (Zaa σ x t') N k=some u→σ k=some u∧k∉N:=fun k u hk e=>by
  unfold ZcT at e
  split at e
  ·cases e
  ·rename_i hn
   simp[Zaa,hk]at e
   exact⟨e,hn⟩
 have self:∀u,ZcT (Zaa σ x t') N x=some u→u=t':=fun u e=>by
  unfold ZcT at e
  split at e
  ·cases e
  ·simp[Zaa]at e;exact e.symm
 have foff:∀y∈F',∀k u,k≠x→σ k=some u→k∉N→y∉Φ k:=fun y hy k u hk e hkn m=>by
  rcases sub y hy with q | q
  ·exact o3 k u hk e y q m
  ·rcases hFw y q with q | ⟨j,hj,⟨tj,ej⟩,mj⟩
   ·have:=hlow k u e y m;omega
   ·exact(s.own j (hN j hj).1 tj ej).2.2 k u (fun q=>hkn (q▸hj)) e y mj m
 refine⟨⟨fun k u e=>?_,fun k u e=>?_,fun k hk u e=>?_,by simpa using s.len,fun y hy hn=>?_,s.pos,s.f0⟩,fun y hy=>?_⟩
 ·by_cases q:k=x
  ·subst q
   have:=self u e
   subst this
   exact⟨v,ev,by simpa [Zan]using r⟩
  ·obtain⟨e1,e2⟩:=old k u q e
   obtain⟨w,h1,h2⟩:=s.slot k u e1
   refine⟨w,h1,?_⟩
   simp only[Zan,q,if_false]
   refine h2.frame fun y hy=>List.getElem?_set_ne fun q'=>?_
   exact o3 k u q e1 a ha (q'▸hy)
 ·by_cases q:k=x
  ·subst q
   simp only[Zan,if_true]
   intro y hy
   rcases sub y hy with q | q
   ·exact s.src k t ex y q
   ·rcases hFw y q with q | ⟨j,hj,⟨tj,ej⟩,mj⟩
    ·exact .inl (by omega)
    ·exact s.src j tj ej y mj
  ·obtain⟨e1,e2⟩:=old k u q e
   simpa [Zan,q]using s.src k u e1
 ·by_cases q:k=x
  ·subst q
   simp only[Zan,if_true]
   refine⟨nd,fun y hy=>?_,fun j w hj ej y hy=>?_⟩
   ·rcases sub y hy with q | q
    ·exact o2 y q
    ·rcases hFw y q with q | ⟨j,hj,⟨tj,ej⟩,mj⟩
     ·exact .inl (by omega)
     ·exact(s.own j (hN j hj).1 tj ej).2.1 y mj
   ·obtain⟨e1,e2⟩:=old j w hj ej
    simpa [hj]using foff y hy j w hj e1 e2
  ·obtain⟨e1,e2⟩:=old k u q e
   obtain⟨p1,p2,p3⟩:=s.own k (hO k hk).1 u e1
   simp only[Zan,q,if_false]
   refine⟨p1,p2,fun j w hj ej y hy=>?_⟩
   by_cases q2:j=x
   ·subst q2
    simp only[if_true]
    exact fun m=>foff y m k u q e1 e2 hy
   ·obtain⟨f1,f2⟩:=old j w q2 ej
    simpa [q2]using p3 j w hj f1 y hy
 ·have:a≠y:=fun q=>by
   subst q
   rcases o2 a ha with q | q
   ·omega
   ·exact hn q
  rw[List.getElem?_set_ne this]
  exact s.keep y hy hn
 ·obtain⟨k,hk,⟨u,e⟩,m⟩:=hy
  by_cases q:k=x
  ·subst q
   simp only[Zan,if_true]at m
   rcases sub y m with q | q
   ·exact .inr ⟨k,hx,⟨t,ex⟩,q⟩
   ·rcases hFw y q with q | ⟨j,hj,q⟩
    ·exact .inl q
    ·exact .inr ⟨j,(hN j hj).1,q⟩
  ·obtain⟨e1,e2⟩:=old k u q e
   simp only[Zan,q,if_false]at m
   exact .inr ⟨k,(hO k hk).1,⟨u,e1⟩,m⟩
theorem ZnH{c:Ctx}{ρ:Lc}{σ:TL}{H:Hp}{Φ:Nat→List Nat}{x a:Nat}{t:T}(s:St c O ρ σ H Φ)(hx:x∈O)(ex:σ x=some t)(ha:a∈Φ x): a≠0:=by
 have:=s.pos
 rcases(s.own x hx t ex).2.1 a ha with q | q
 ·omega
 ·exact fun e=>s.f0 (e▸q)
noncomputable def ZfU(w:T)(ts:List T): Option (List T):=if ts.length<LEN then some (ts++[w])else none
noncomputable def ZfV(k:Int)(w:T)(ts:List T): Option (List T):=if 0≤k∧k<ts.length then some (ts.set k.toNat w)else none
noncomputable def Zc0(x:Nat)(N:List Nat)(po:PPa)(p:PE): PS:=fun σ=>(po σ).bind fun ks=>(p σ).bind fun w=>(σ x).bind fun t=>(ZcY (ZfU w) ks t).map fun t'=>(none,ZcT (Zaa σ x t') N)
noncomputable def Za2(x:Nat)(N:List Nat)(p:PE)(po:PPa)(pi:PE): PS:=fun σ=>(p σ).bind fun w=>(po σ).bind fun ks=>(pi σ).bind fun k=>match k with
 | .int k=>(σ x).bind fun t=>(ZcY (ZfV k w) ks t).map fun t'=>(none,ZcT (Zaa σ x t') N)
 | _=>none
theorem Zgh{H:Hp}(X:Hp): ∀{ks:List Int} {v w:V},follow H ks v=some w→follow (H++X) ks v=some w
 | [],_,_,h=>h
 | k::ks,v,w,h=>by
  obtain⟨⟨w1,K⟩,h1,h2⟩:=Zz0.mp h
  simp only[follow,(ZmC h1 X).2,Option.bind_some]
  exact Zgh X h2
theorem Zjm{x:Nat}{N:List Nat}{o e:Ex}{po:PPa}{p:PE}(hx:x∈O)(y:Pa O x o po)(z:E O N true e p)(hN:∀j∈N,j∈O∧j≠x)(hO:∀j∈O',j∈O∧j∉N): S O O' R fr (Zcz (ZeI o e)) (Zc0 x N po p):=fun c ρ σ H Φ r s q=>by
 obtain⟨ks,h1,q⟩:=Zz0.mp q
 obtain⟨w,h2,q⟩:=Zz0.mp q
 obtain⟨t,h3,q⟩:=Zz0.mp q
 obtain⟨t',h4,q⟩:=Zz1.mp q
 subst q
 obtain⟨v,ev,rv⟩:=s.slot x t h3
 have hlow:∀k t,σ k=some t→∀a∈Φ k,a<H.length:=fun k t e a m=>by
  obtain⟨_,_,r⟩:=s.slot k t e
  exact r.lt a m
 obtain⟨o1,o2,o3⟩:=s.own x hx t h3
 obtain⟨a,vs0,ts0,ts0',G0,l0,_⟩:=ZfG (Gn:=[]) ks rv o1 (by simp) h4
 obtain⟨X,a1⟩:=y c ρ σ H Φ ks v (.ref a) s h1 ev l0.follow
 obtain⟨vw,Y,Fw,b1,b2,b3,b4⟩:=z c ρ σ (H++X) Φ w (s.ext X) h2
 have s2:=(s.ext X).ext Y
 have rv2:RF (H++X++Y) v t (Φ x):=(rv.ext X).ext Y
 have hFw:∀a∈Fw,H.length≤a∨∃j∈N,(∃t,σ j=some t)∧a∈Φ j:=fun a m=>(b3 a m).back
 have dsj:∀a∈Fw,a∉Φ x:=fun a m q=>by
  rcases hFw a m with h | ⟨j,hj,⟨tj,ej⟩,mj⟩
  ·have:=hlow x t h3 a q;omega
  ·exact o3 j tj (hN j hj).2 ej a q mj
 obtain⟨a',vs,ts,ts',G,l,am,ea,hs,hf,gn,na,gs,go⟩:=ZfG (Gn:=Fw) ks rv2 o1 dsj h4
 have haa:a'=a:=by
  have f2:=Zgh Y (Zgh X l0.follow)
  rw[l.follow]at f2
  cases f2
  rfl
 subst haa
 unfold ZfU at hf
 split at hf
 ·rename_i hl
  cases hf
  obtain⟨F',r',n',sub'⟩:=go (vs++[vw]) (G++Fw) (hs.snoc b2) (by
   rw[List.nodup_append]
   exact⟨gn,b4 rfl,fun y hy z hz e=>dsj z hz (e▸gs y hy)⟩) (fun m=>(Zz8.mp m).elim na fun m=>dsj _ m am) (fun y m=>List.mem_append.mp m)
  obtain⟨st,com⟩:=Zrp (O':=O') (b:=H.length) s2 hx h3 ev s.len hlow hFw hN am r' n' sub' hO
  refine⟨ρ,(H++X++Y).set a' (vs++[vw]),Zan Φ x F',by simp,fun y hy hn=>?_,.inl ⟨rfl,?_,st,com⟩⟩
  ·have:a'≠y:=fun q=>hn ⟨x,hx,⟨t,h3⟩,q▸am⟩
   rw[List.getElem?_set_ne this,List.append_assoc,List.getElem?_append_left hy]
  ·simp only[Zcz,ZeI,a1,Option.bind_some,b1,ZgJ,ea]
   rw[if_pos ⟨ZnH s hx h3 am,by rw[hs.length];exact hl⟩]
   rfl
 ·cases hf
theorem S.put{x:Nat}{N M:List Nat}{u:Bool}{o e i:Ex}{po:PPa}{p pi:PE}(hx:x∈O)(z:E O N true e p)(y:Pa O x o po)(zi:E O M u i pi)(hN:∀j∈N,j∈O∧j≠x)(hO:∀j∈O',j∈O∧j∉N): S O O' R fr (ZbI e o i) (Za2 x N p po pi):=fun c ρ σ H Φ r s q=>by
 obtain⟨w,h2,q⟩:=Zz0.mp q
 obtain⟨ks,h1,q⟩:=Zz0.mp q
 obtain⟨tk,h5,q⟩:=Zz0.mp q
 cases tk <;> first | (cases q;done) | skip
 rename_i k
 obtain⟨t,h3,q⟩:=Zz0.mp q
 obtain⟨t',h4,q⟩:=Zz1.mp q
 subst q
 obtain⟨v,ev,rv⟩:=s.slot x t h3
 have hlow:∀k t,σ k=some t→∀a∈Φ k,a<H.length:=fun k t e a m=>by
  obtain⟨_,_,r⟩:=s.slot k t e
  exact r.lt a m
 obtain⟨o1,o2,o3⟩:=s.own x hx t h3
 obtain⟨vw,X,Fw,b1,b2,b3,b4⟩:=z c ρ σ H Φ w s h2
 obtain⟨a,vs0,ts0,ts0',G0,l0,_⟩:=ZfG (Gn:=[]) ks (rv.ext X) o1 (by simp) h4
 obtain⟨Y,a1⟩:=y c ρ σ (H++X) Φ ks v (.ref a) (s.ext X) h1 ev l0.follow
 obtain⟨vk,Z,Fk,d1,d2,d3,d4⟩:=zi c ρ σ (H++X++Y) Φ _ ((s.ext X).ext Y) h5
 cases d2
 have s2:=((s.ext X).ext Y).ext Z
 have rv2:RF (H++X++Y++Z) v t (Φ x):=((rv.ext X).ext Y).ext Z
 have hFw:∀a∈Fw,H.length≤a∨∃j∈N,(∃t,σ j=some t)∧a∈Φ j:=b3
 have dsj:∀a∈Fw,a∉Φ x:=fun a m q=>by
  rcases hFw a m with h | ⟨j,hj,⟨tj,ej⟩,mj⟩
  ·have:=hlow x t h3 a q;omega
  ·exact o3 j tj (hN j hj).2 ej a q mj
 obtain⟨a',vs,ts,ts',G,l,am,ea,hs,hf,gn,na,gs,go⟩:=ZfG (Gn:=Fw) ks rv2 o1 dsj h4
 have haa:a'=a:=by
  have f2:=Zgh Z (Zgh Y l0.follow)
  rw[l.follow]at f2
  cases f2
  rfl
 subst haa
 unfold ZfV at hf
 split at hf
 ·rename_i hl
  cases hf
  have hk:k.toNat<ts.length:=by omega
  obtain⟨v0,Gk,F1,F2,e0,r0,eG,rb⟩:=hs.split (List.getElem?_eq_getElem hk)
  have b2':RF (H++X++Y++Z) vw w Fw:=(b2.ext Y).ext Z
  have rs:=rb (H++X++Y++Z) vw w Fw b2' (fun _ _=>rfl) (fun _ _=>rfl)
  have sub0:∀a∈Fw,a∈Gk∨a∈Fw:=fun a m=>.inr m
  subst eG
  obtain⟨F',r',n',sub'⟩:=go _ _ rs (nd3 gn (b4 rfl) sub0 fun a m q=>dsj a m (gs a q)) (fun m=>by
   rcases in3 (G:=Gk) sub0 _ m with m | m
   ·exact na m
   ·exact dsj _ m am) (in3 sub0)
  obtain⟨st,com⟩:=Zrp (O':=O') (b:=H.length) s2 hx h3 ev s.len hlow hFw hN am r' n' sub' hO
  refine⟨ρ,(H++X++Y++Z).set a' (vs.set k.toNat vw),Zan Φ x F',by simp,fun y hy hn=>?_,.inl ⟨rfl,?_,st,com⟩⟩
  ·have:a'≠y:=fun q=>hn ⟨x,hx,⟨t,h3⟩,q▸am⟩
   rw[List.getElem?_set_ne this,List.append_assoc,List.append_assoc,List.getElem?_append_left hy]
  ·simp only[ZbI,b1,Option.bind_some,a1,d1,ZoE,ea]
   rw[if_pos ⟨ZnH s hx h3 am,by rw[hs.length];exact hl⟩]
   rfl
 ·cases hf
noncomputable def Ze0(put:T→TL→Option TL)(b:PS): TL→List T→Option (Option T×TL)
 | σ,[]=>some (none,σ)
 | σ,t::ts=>(put t σ).bind fun σ1=>(b σ1).bind fun r=>match r.1 with
  | some _=>some r
  | none=>Ze0 put b r.2 ts
noncomputable def ZaB(g:PG)(put:T→TL→Option TL)(b:PS): PS:=fun σ=>(g σ).bind fun ts=>Ze0 put b σ ts
theorem Znn{J:List Nat}{put:V→Lc→Option Lc}{pput:T→TL→Option TL}{b:Sm}{qb:PS}(hj:PutOk O J put pput)(hJ:∀i∈J,i∉O)(hb:S O O R fr b qb){c:Ctx}{nx:Nx}{vs:List V}{G:List Nat}{H1:Hp}(hG:∀a∈G,a<H1.length)(hsrc:∀a∈G,c.H0.length≤a∨c.P a)(hnx:∀K:Hp,(∀a∈G,K[a]?=H1[a]?)→∀i,i≤vs.length→nx i K=some vs[i]?):
  ∀(rs:List T) (ws:List V) (i:Nat) (ρ:Lc) (σ:TL) (K:Hp) (Φ:Nat→List Nat) (Fr:List Nat) (r:Option T×TL),(∀j,vs[i+j]?=ws[j]?)→i+ws.length=vs.length→St c O ρ σ K Φ→H1.length≤K.length→(∀a∈G,K[a]?=H1[a]?)→(∀a∈G,¬Held O σ Φ a)→RFs K ws rs Fr→(∀a∈Fr,a∈G)→Ze0 pput qb σ rs=some r →
   Aft c O O R fr σ K Φ (Zds nx put b (rs.length+1) i ρ K) r
 | [],ws,i,ρ,σ,K,Φ,Fr,r,hat,hlen,s,hl,hk,hoff,rr,hfr,h=>by
  cases rr
  cases h
  have e:=hnx K hk i (by simp at hlen;omega)
  have e2:vs[i]?=none:=by have:=hat 0;simpa using this
  exact⟨ρ,K,Φ,Nat.le_refl _,fun _ _ _=>rfl,.inl ⟨rfl,by simp[Zds,e,e2],s,fun a m=>.inr m⟩⟩
 | t::rs,ws0,i,ρ,σ,K,Φ,Fr0,r,hat,hlen,s,hl,hk,hoff,rr,hfr,h=>by
  cases rr with
  | @cons v _ F1 ws _ F2 a b'=>
  simp only[List.length_cons]at hlen
  obtain⟨σ1,h1,h⟩:=Zz0.mp h
  obtain⟨r1,h2,h⟩:=Zz0.mp h
  have e:=hnx K hk i (by omega)
  have e2:vs[i]?=some v:=by have:=hat 0;simpa using this
  have hat':∀j,vs[i+1+j]?=ws[j]?:=fun j=>by have:=hat (j+1);rw[show i+1+j=i+(j+1)by omega,this];simp
  obtain⟨ρ1,Φ1,p1,s1,p3,p4⟩:=hj c ρ σ K Φ v t F1 σ1 s a (fun x m=>hsrc x (hfr x (Zz4 _ m))) (fun k hk t' e x m q=>hoff x (hfr x (Zz4 _ q)) ⟨k,hk,⟨t',e⟩,m⟩) h1
  have hh:∀x,Held O σ1 Φ1 x→Held O σ Φ x:=fun x ⟨k,hk,⟨t',e⟩,m⟩=>by
   obtain⟨q1,q2⟩:=p3 k fun q=>hJ k q hk
   exact⟨k,hk,⟨t',q1▸e⟩,q2▸m⟩
  obtain⟨ρ2,K2,Φ2,g1,g2,g3⟩:=hb c ρ1 σ1 K Φ1 r1 s1 h2
  have estep:Zds nx put b ((t::rs).length+1) i ρ K=(b ρ1 K).bind fun q=>match q.1 with
    | some _=>some q
    | none=>Zds nx put b (rs.length+1) (i+1) q.2.1 q.2.2:=by
   rw[List.length_cons]
   show(nx i K).bind _=_
   rw[e,e2]
   first | (simp only[Option.bind_some,p1];done) | (simp only[Option.bind_some,p1];rfl)
  rcases g3 with⟨k1,k2,k3,k4⟩ | ⟨t',v',F',k1,k2,k3⟩
  ·rw[k1]at h
   have hG2:∀a∈G,K2[a]?=K[a]?:=fun x m=>g2 x (by have:=hG x m;omega) fun q=>hoff x m (hh x q)
   have hoff2:∀a∈G,¬Held O r1.2 Φ2 a:=fun x m q=>by
    rcases k4 x q with q | q
    ·have:=hG x m;omega
    ·exact hoff x m (hh x q)
   have ih:=Znn hj hJ hb hG hsrc hnx rs ws (i+1) ρ2 r1.2 K2 Φ2 F2 r hat' (by omega) k3 (by omega) (fun x m=>(hG2 x m).trans (hk x m)) hoff2 (b'.frame fun x m=>hG2 x (hfr x (Zz3 _ m))) (fun x m=>hfr x (Zz3 _ m)) h
   rw[estep,k2]
   simp only[Option.bind_some]
   obtain⟨ρ3,K3,Φ3,l1,l2,l3⟩:=ih
   refine⟨ρ3,K3,Φ3,by omega,fun x hx hn=>?_,?_⟩
   ·rw[l2 x (by omega) fun q=>(k4 x q).elim (fun q=>by omega) fun q=>hn (hh x q),g2 x hx fun q=>hn (hh x q)]
   ·rcases l3 with⟨m1,m2,m3,m4⟩ | l
    ·refine .inl ⟨m1,m2,m3,fun x q=>?_⟩
     rcases m4 x q with q | q
     ·exact .inl (by omega)
     ·exact(k4 x q).imp id (hh x)
    ·exact .inr l
  ·rw[k1]at h
   cases h
   refine⟨ρ2,K2,Φ2,g1,fun x hx hn=>g2 x hx fun q=>hn (hh x q),.inr ⟨t',v',F',k1,?_,k3⟩⟩
   rw[estep,k2]
   rfl
theorem Zba{J Ns:List Nat}{g:Src}{q:PG}{put:V→Lc→Option Lc}{pput:T→TL→Option TL}{b:Sm}{qb:PS}(hg:Gs O Ns g q)(hj:PutOk O J put pput)(hJ:∀i∈J,i∉O)(hN:∀i∈Ns,i∉O)(hb:S O O R fr b qb): S O O R fr (ZaM g put b) (ZaB q pput qb):=fun c ρ σ H Φ r s h=>by
 obtain⟨ts,h1,h⟩:=Zz0.mp h
 obtain⟨nx,X,vs,F,G,g1,g2,g3,g4,g5⟩:=hg c ρ σ H Φ ts s h1
 have:=Znn hj hJ hb (H1:=H++X) (fun a m=>(g4 a m).1) (fun a m=>s.from_src (g4 a m).2) g5 ts vs 0 ρ σ (H++X) Φ F r (by simp) (by simp) (s.ext X) (Zz10 _) (fun _ _=>rfl) (fun a m ⟨k,hk,⟨t,e⟩,q⟩=>s.from_off hN (g4 a m).2 hk e q) g2 g3 h
 have eg:ZaM g put b ρ H=Zds nx put b (ts.length+1) 0 ρ (H++X):=by simp only[ZaM,g1,Option.bind_some]
 rw[eg]
 exact this.grow
noncomputable def Zdp(t:PB)(b:PS): Nat→PS
 | 0=>fun _=>none
 | n+1=>fun σ=>(t σ).bind fun p=>if p then(b σ).bind fun q=>(match q.1 with
   | some _=>some q
   | none=>Zdp t b n q.2)else some (none,σ)
theorem ZfD{t:Ts}{pt:PB}{b:Sm}{qb:PS}(z:Bt O t pt)(y:S O O R fr b qb): ∀n,S O O R fr (Zc4 t b n) (Zdp pt qb n)
 | 0=>fun c ρ σ H Φ r s h=>by cases h
 | n+1=>fun c ρ σ H Φ r s h=>by
  obtain⟨p,h1,h⟩:=Zz0.mp h
  obtain⟨X,a1⟩:=z c ρ σ H Φ p s h1
  cases p with
  | false=>
   cases h
   exact⟨ρ,H++X,Φ,by simp,fun a ha _=>List.getElem?_append_left ha,.inl ⟨rfl,by simp[Zc4,a1],s.ext X,fun a m=>.inr m⟩⟩
  | true=>
   simp only[if_true]at h
   obtain⟨r1,h2,h⟩:=Zz0.mp h
   have b1:=(y c ρ σ (H++X) Φ r1 (s.ext X) h2).grow
   have eg:Zc4 t b (n+1) ρ H=(b ρ (H++X)).bind fun q=>(match q.1 with
    | some _=>some q
    | none=>Zc4 t b n q.2.1 q.2.2):=by
    show(t ρ H).bind _=_
    rw[a1]
    rfl
   rw[eg]
   obtain⟨ρ1,H1,Φ1,g1,g2,g3⟩:=b1
   rcases g3 with⟨k1,k2,k3,k4⟩ | ⟨t',v',F',k1,k2,k3⟩
   ·rw[k1]at h
    obtain⟨ρ3,K3,Φ3,l1,l2,l3⟩:=ZfD z y n c ρ1 r1.2 H1 Φ1 r k3 h
    rw[k2]
    simp only[Option.bind_some]
    refine⟨ρ3,K3,Φ3,by omega,fun x hx hn=>?_,?_⟩
    ·rw[l2 x (by omega) fun q=>(k4 x q).elim (fun q=>by omega) hn,g2 x hx hn]
    ·rcases l3 with⟨m1,m2,m3,m4⟩ | l
     ·refine .inl ⟨m1,m2,m3,fun x q=>?_⟩
      rcases m4 x q with q | q
      ·exact .inl (by omega)
      ·exact k4 x q
     ·exact .inr l
   ·rw[k1]at h
    cases h
    exact⟨ρ1,H1,Φ1,g1,g2,.inr ⟨t',v',F',k1,by rw[k2];rfl,k3⟩⟩
end
noncomputable def Zab(n:Nat)(q:PS): List T→Option T:=fun ts=>if ts.length=n then(q fun i=>ts[i]?).map fun r=>r.1.getD .none else none
theorem RFs.slots{H:Hp}: ∀{vs:List V} {ts:List T} {F:List Nat},RFs H vs ts F→∃Φ:Nat→List Nat,∀i t,ts[i]?=some t→∃v,vs[i]?=some v∧RF H v t (Φ i)∧∀a∈Φ i,a∈F
 | _,_,_,.nil=>⟨fun _=>[],fun i t e=>by simp at e⟩
 | _,_,_,.cons (F:=F1) a b=>by
  obtain⟨Φ,h⟩:=b.slots
  refine⟨fun i=>match i with | 0=>F1 | i+1=>Φ i,fun i t e=>?_⟩
  cases i with
  | zero=>simp at e;subst e;exact⟨_,by simp,a,fun x m=>List.mem_append_left _ m⟩
  | succ i=>
   simp at e
   obtain⟨v,h1,h2,h3⟩:=h i t e
   exact⟨v,by simpa using h1,h2,fun x m=>List.mem_append_right _ (h3 x m)⟩
theorem Zpw{H H':Hp}(hl:H.length≤H'.length)(h:∀a,a<H.length→H'[a]?=H[a]?): H'=H++H'.drop H.length:=by
 conv=>lhs;rw[←List.take_append_drop H.length H']
 congr 1
 refine List.ext_getElem? fun i=>?_
 by_cases q:i<H.length
 ·rw[List.getElem?_take_of_lt q,h i q]
 ·rw[List.getElem?_eq_none (by simp;omega),List.getElem?_eq_none (by omega)]
theorem Zaf{O':List Nat}{fr:Bool}{n:Nat}{g:Sm}{q:PS}(h:S [] O' [] fr g q): SimF fr (Z9 n g) (Zab n q):=fun H vs ts t F1 hp r e=>by
 unfold Zab at e
 split at e
 ·rename_i hl
  obtain⟨r1,e1,e2⟩:=Zz1.mp e
  obtain⟨Φ,hΦ⟩:=r.slots
  have st:St ⟨H,[],fun a=>a∈F1⟩ [] (fun i=>vs[i]?) (fun i=>ts[i]?) H Φ:=
   ⟨(fun i t e=>by obtain⟨v,h1,h2,_⟩:=hΦ i t e;exact⟨v,h1,h2⟩),fun i t e a m=>(by obtain⟨v,h1,h2,h3⟩:=hΦ i t e;exact .inr (h3 a m)),(fun i hi=>nomatch hi),Nat.le_refl _,fun a _ _=>rfl,hp,by simp⟩
  obtain⟨ρ',H',Φ',h1,h2,h3⟩:=h _ _ _ _ _ _ st e1
  rcases h3 with⟨k1,k2,k3,k4⟩ | ⟨t',v',F',k1,k2,k3,k4,k5,k6⟩
  ·have eh:=Zpw k3.len fun a ha=>k3.keep a ha (by simp)
   refine⟨.none,H'.drop H.length,[],?_,?_,by simp,by simp⟩
   ·have hv:vs.length=n:=r.length.trans hl
    simp only[Z9,hv,if_true,k2,Option.map_some,Option.getD_none]
    rw[←eh]
   ·rw[k1]at e2
    subst e2
    exact .none
  ·have eh:=Zpw k4.len fun a ha=>k4.keep a ha (by simp)
   refine⟨v',H'.drop H.length,F',?_,?_,k5,fun hf=>⟨(k6 hf).1,fun a m=>((k6 hf).2 a m).elim id fun q=>by cases q⟩⟩
   ·have hv:vs.length=n:=r.length.trans hl
    simp only[Z9,hv,if_true,k2,Option.map_some,Option.getD_some]
    rw[←eh]
   ·rw[k1]at e2
    subst e2
    rw[←eh]
    exact k3
 ·cases e
theorem Zug{f:List V→Hp→Option (V×Hp)}{p:List T→Option T}{fr:Bool}(h:SimF fr f p)(ns:List Int)(e:p [.lst (ns.map T.int)]=some (.bool true)): ∃H',f [.ref 0] [ns.map V.int]=some (.bool true,H'):=by
 have intsAre:∀l:List Int,RFs [ns.map V.int] (l.map V.int) (l.map T.int) []:=fun l=>by
  induction l with
  | nil=>exact .nil
  | cons a l ih=>exact .cons (.int a) ih
 obtain⟨v,X,F,h1,h2,_⟩:=h [ns.map V.int] [.ref 0] [.lst (ns.map T.int)] _ _ (by simp) (.one (.ref rfl (intsAre ns))) e
 cases h2
 exact⟨_,h1⟩
end TM
end
section
set_option autoImplicit false
namespace TM
open PySem PM
section
variable {O Ns Ne J:List Nat}
theorem Zca{u:Bool}{g:Src}{q:PG}{put:V→Lc→Option Lc}{pput:T→TL→Option TL}{tc:Ts}{pc:PB}{f:Ex}{pf:PE}(hg:Gs O Ns g q)(hj:PutOk O J put pput)(hN:∀i∈Ns,i∉O)(hc:Bt O tc pc)(hf:E O Ne u f pf): E O (Ns++Ne) false (ZaI g put tc f) (Zap q pput pc pf):=
 Zro hg hj hN hc hf.sh (by simp)
theorem Zdn{g:Src}{q:PG}{put:V→Lc→Option Lc}{pput:T→TL→Option TL}{tc:Ts}{pc:PB}{f:Ex}{pf:PE}(hg:Gs O Ns g q)(hj:PutOk O J put pput)(hN:∀i∈Ns,i∉O)(hc:Bt O tc pc)(hf:E O [] true f pf): E O [] true (ZaI g put tc f) (Zap q pput pc pf):=
 Zro hg hj hN hc hf (by simp)
end
end TM
end
section
set_option autoImplicit false
/-! Forward reckoning over trees. -/
namespace TM
open PySem PM
noncomputable def dec(P:Prop): Bool:=@decide P (Classical.propDecidable P)
theorem dec_iff{P:Prop}: dec P=true↔P:=by unfold dec;exact @decide_eq_true_iff P (Classical.propDecidable P)
theorem Za0{P:Prop}(h:P): dec P=true:=dec_iff.mpr h
theorem Zbw{P:Prop}(h:¬P): dec P=false:=by
 cases e:dec P with
 | true=>exact absurd (dec_iff.mp e) h
 | false=>rfl
theorem ZmD{P Q:Prop}(h:P↔Q): dec P=dec Q:=by
 by_cases p:P
 ·rw[Za0 p,Za0 (h.mp p)]
 ·rw[Zbw p,Zbw fun q=>p (h.mpr q)]
theorem Zod{P:Prop}{b:Bool}(h:b=true↔P): dec P=b:=by
 cases b with
 | true=>exact Za0 (h.mp rfl)
 | false=>exact Zbw fun p=>by simpa using h.mpr p
theorem Zh1{P:Prop}[i:Decidable P]: decide P=dec P:=by
 unfold dec;congr
noncomputable def tab{α:Type}(n:Nat)(f:Nat→α): List α:=(List.range n).map f
theorem Zas{α:Type}{n:Nat}{f:Nat→α}: (tab n f).length=n:=by simp[tab]
theorem ZbM{α:Type}{n:Nat}{f:Nat→α}{i:Nat}(h:i<n): (tab n f)[i]?=some (f i):=by simp[tab,h]
theorem Zw4{α:Type}{n:Nat}{f:Nat→α}{i:Nat}(h:n≤i): (tab n f)[i]?=none:=by simp[tab,h]
theorem ZdW{α:Type}{n:Nat}{f:Nat→α}: tab n f++[f n]=tab (n+1) f:=by simp[tab,List.range_succ]
theorem ZiG{α:Type}{n:Nat}{xs:List α}{f:Nat→α}(hl:xs.length=n)(h:∀i,i<n→xs[i]?=some (f i)): xs=tab n f:=by
 refine List.ext_getElem? fun i=>?_
 by_cases q:i<n
 ·rw[h i q,ZbM q]
 ·rw[List.getElem?_eq_none (by omega),Zw4 (by omega)]
theorem Zbi{α:Type}{n:Nat}{f g:Nat→α}(h:∀i,i<n→f i=g i): tab n f=tab n g:=by
 refine ZiG Zas fun i hi=>?_
 rw[ZbM hi,h i hi]
theorem ZiH{α:Type}{n k:Nat}{f:Nat→α}{v:α}: (tab n f).set k v=tab n fun i=>if i=k then v else f i:=by
 refine ZiG (by rw[List.length_set,Zas]) fun i hi=>?_
 by_cases q:i=k
 ·subst q
  rw[List.getElem?_set_self (by rw[Zas];exact hi),if_pos rfl]
 ·rw[List.getElem?_set_ne (Ne.symm q),ZbM hi,if_neg q]
theorem tab_map{α β:Type}{n:Nat}{f:Nat→α}{g:α→β}: (tab n f).map g=tab n fun i=>g (f i):=by simp[tab]
noncomputable def cn{α:Type}(a:α)(f:Nat→α): Nat→α
 | 0=>a
 | i+1=>f i
theorem ZuT{α:Type}{n:Nat}{a:α}{f:Nat→α}: a::tab n f=tab (n+1) (cn a f):=by
 refine ZiG (by rw[List.length_cons,Zas]) fun i hi=>?_
 cases i with
 | zero=>rfl
 | succ i=>rw[List.getElem?_cons_succ,ZbM (by omega)];rfl
theorem ZqM{α β γ:Type}{n m:Nat}{f:Nat→α}{g:Nat→β}{h:α→β→γ}: List.zipWith h (tab n f) (tab m g)=tab (min n m) fun i=>h (f i) (g i):=by
 refine ZiG (by rw[List.length_zipWith,Zas,Zas]) fun i hi=>?_
 rw[List.getElem?_zipWith,ZbM (show i<n by omega),ZbM (show i<m by omega)]
noncomputable def Pk(c:Option T)(Q:T→Prop): Prop:=∃t,c=some t∧Q t
noncomputable def Pl(c:Option (List T))(Q:List T→Prop): Prop:=∃t,c=some t∧Q t
noncomputable def Pb(c:Option Bool)(Q:Bool→Prop): Prop:=∃t,c=some t∧Q t
noncomputable def Psk(c:Option (Option T×TL))(R:T→Prop)(N:TL→Prop): Prop:=∃o σ,c=some (o,σ)∧(∀t,o=some t→R t)∧(o=none→N σ)
theorem ZH{c:Option T}{Q:T→Prop}{t:T}(h:c=some t)(k:Q t): Pk c Q:=⟨t,h,k⟩
theorem Pk.eq{c:Option T}{t:T}(h:Pk c fun v=>v=t): c=some t:=by obtain⟨v,e,rfl⟩:=h;exact e
theorem Pk.mono{c:Option T}{Q Q':T→Prop}(h:Pk c Q)(k:∀t,Q t→Q' t): Pk c Q':=by obtain⟨v,e,q⟩:=h;exact⟨v,e,k v q⟩
section
variable {σ:TL} {Q:T→Prop} {L:List T→Prop} {B:Bool→Prop} {R:T→Prop} {N:TL→Prop}
theorem Zw5{k:Int}(h:Q (.int k)): Pk (Zj k σ) Q:=⟨_,rfl,h⟩
theorem Zw6(h:Q .none): Pk (ZR σ) Q:=⟨_,rfl,h⟩
theorem ZvM{k:Bool}(h:Q (.bool k)): Pk (ZbD k σ) Q:=⟨_,rfl,h⟩
theorem Zw7{k:Str}(h:Q (.str k)): Pk (ZfT k σ) Q:=⟨_,rfl,h⟩
theorem Zw8{i:Nat}{t:T}(e:σ i=some t)(h:Q t): Pk (Za i σ) Q:=⟨_,e,h⟩
theorem Zw9{q:T→T→Option T}{f g:PE}(h:Pk (f σ) fun x=>Pk (g σ) fun y=>Pk (q x y) Q): Pk (Ze q f g σ) Q:=by
 obtain⟨x,a,y,b,z,c,k⟩:=h
 exact⟨z,by simp only[Ze,a,b,Option.bind_some,c],k⟩
theorem ZxR{q:T→Option T}{f:PE}(h:Pk (f σ) fun x=>Pk (q x) Q): Pk (pUn q f σ) Q:=by
 obtain⟨x,a,z,c,k⟩:=h
 exact⟨z,by simp only[pUn,a,Option.bind_some,c],k⟩
theorem ZvN{q:List T→Option T}{f:PEs}(h:Pl (f σ) fun x=>Pk (q x) Q): Pk (Zr q f σ) Q:=by
 obtain⟨x,a,z,c,k⟩:=h
 exact⟨z,by simp only[Zr,a,Option.bind_some,c],k⟩
theorem Zxa(h:L []): Pl (Zm σ) L:=⟨_,rfl,h⟩
theorem ZvO{f:PE}{g:PEs}(h:Pk (f σ) fun x=>Pl (g σ) fun xs=>L (x::xs)): Pl (Zd f g σ) L:=by
 obtain⟨x,a,y,b,k⟩:=h
 exact⟨_,by simp only[Zd,a,b,Option.bind_some],k⟩
theorem Zxb{g:PEs}(h:Pl (g σ) fun xs=>Q (.tup xs)): Pk (ZaU g σ) Q:=by
 obtain⟨x,a,k⟩:=h;exact⟨_,by simp only[ZaU,a,Option.map_some],k⟩
theorem ZvP{g:PEs}(h:Pl (g σ) fun xs=>Q (.lst xs)): Pk (Zb6 g σ) Q:=by
 obtain⟨x,a,k⟩:=h;exact⟨_,by simp only[Zb6,a,Option.map_some],k⟩
theorem ZvQ{f:PE}(h:Pk (f σ) fun t=>t.flat=true∧Q t): Pk (ZbV f σ) Q:=by
 obtain⟨x,a,b,k⟩:=h;exact⟨_,by simp only[ZbV,a,Option.bind_some,b,if_true],k⟩
theorem ZxS{f:PE}(h:Pk (f σ) fun t=>t.flatIn=true∧Q t): Pk (pFl f σ) Q:=by
 obtain⟨x,a,b,k⟩:=h;exact⟨_,by simp only[pFl,a,Option.bind_some,b,if_true],k⟩
theorem ZxT{b:PB}{f g:PE}(h:Pb (b σ) fun x=>(x=true→Pk (f σ) Q)∧(x=false→Pk (g σ) Q)): Pk (pIf b f g σ) Q:=by
 obtain⟨x,a,h1,h2⟩:=h
 cases x with
 | true=>obtain⟨t,c,q⟩:=h1 rfl;exact⟨t,by simp[pIf,a,c],q⟩
 | false=>obtain⟨t,c,q⟩:=h2 rfl;exact⟨t,by simp[pIf,a,c],q⟩
theorem Zxc{f:PE}(h:Pk (f σ) fun x=>Pb (Zb4 x) fun b=>Q (.bool (!b))): Pk (Zjv f σ) Q:=by
 obtain⟨x,a,b,e,q⟩:=h;exact⟨_,by simp only[Zjv,a,Option.bind_some,e,Option.map_some],q⟩
theorem Zxd{f g:PE}(h:Pk (f σ) fun x=>Pb (Zb4 x) fun b=>(b=true→Pk (g σ) Q)∧(b=false→Q x)): Pk (ZdJ f g σ) Q:=by
 obtain⟨x,a,b,e,h1,h2⟩:=h
 cases b with
 | true=>obtain⟨t,c,q⟩:=h1 rfl;exact⟨t,by simp[ZdJ,a,e,c],q⟩
 | false=>exact⟨x,by simp[ZdJ,a,e],h2 rfl⟩
theorem ZxU{f g:PE}(h:Pk (f σ) fun x=>Pb (Zb4 x) fun b=>(b=true→Q x)∧(b=false→Pk (g σ) Q)): Pk (pOr f g σ) Q:=by
 obtain⟨x,a,b,e,h1,h2⟩:=h
 cases b with
 | false=>obtain⟨t,c,q⟩:=h2 rfl;exact⟨t,by simp[pOr,a,e,c],q⟩
 | true=>exact⟨x,by simp[pOr,a,e],h1 rfl⟩
theorem ZxV{K:String}{f:PE}(h:Pk (f σ) fun x=>Q (.bool (ZiD K x))): Pk (pIs K f σ) Q:=by
 obtain⟨x,a,q⟩:=h;exact⟨_,by simp only[pIs,a,Option.map_some],q⟩
theorem Zxe{f:PE}(h:Pk (f σ) fun x=>Pb (Zb4 x) B): Pb (ZD f σ) B:=by
 obtain⟨x,a,b,e,q⟩:=h;exact⟨_,by simp only[ZD,a,Option.bind_some,e],q⟩
theorem ZvR{f:PB}(h:Pb (f σ) fun b=>B (!b)): Pb (ZbY f σ) B:=by
 obtain⟨x,a,q⟩:=h;exact⟨_,by simp only[ZbY,a,Option.map_some],q⟩
theorem ZvS(h:B true): Pb (Zae σ) B:=⟨_,rfl,h⟩
theorem ZuU(h:B false): Pb (Zce σ) B:=⟨_,rfl,h⟩
theorem ZvT{f g:PB}(h:Pb (f σ) fun b=>(b=true→Pb (g σ) B)∧(b=false→B false)): Pb (Zai f g σ) B:=by
 obtain⟨x,a,h1,h2⟩:=h
 cases x with
 | true=>obtain⟨t,c,q⟩:=h1 rfl;exact⟨t,by simp[Zai,a,c],q⟩
 | false=>exact⟨_,by simp[Zai,a],h2 rfl⟩
theorem Zxf{f g:PB}(h:Pb (f σ) fun b=>(b=true→B true)∧(b=false→Pb (g σ) B)): Pb (bOr f g σ) B:=by
 obtain⟨x,a,h1,h2⟩:=h
 cases x with
 | false=>obtain⟨t,c,q⟩:=h2 rfl;exact⟨t,by simp[bOr,a,c],q⟩
 | true=>exact⟨_,by simp[bOr,a],h1 rfl⟩
theorem ZtA{b:Bool}(h:B b): Pb (Zb4 (.bool b)) B:=⟨_,rfl,h⟩
theorem ZvU(h:N σ): Psk (ZU σ) R N:=⟨_,_,rfl,by simp,fun _=>h⟩
theorem Zxg{f:PE}(h:Pk (f σ) R): Psk (ZE f σ) R N:=by
 obtain⟨x,a,q⟩:=h;exact⟨some x,σ,by simp only[ZE,a,Option.map_some],fun t e=>by cases e;exact q,by simp⟩
theorem Zi2{i:Nat}{f:PE}(h:Pk (f σ) fun t=>N (Zaa σ i t)): Psk (ZI i f σ) R N:=by
 obtain⟨x,a,q⟩:=h;exact⟨none,Zaa σ i x,by simp only[ZI,a,Option.map_some],by simp,fun _=>q⟩
theorem ZeN{a b:PS}(h:Psk (a σ) R fun σ1=>Psk (b σ1) R N): Psk (Zs a b σ) R N:=by
 obtain⟨o,σ1,e,h1,h2⟩:=h
 cases o with
 | some t=>exact⟨some t,σ1,by simp only[Zs,e,Option.bind_some],h1,by simp⟩
 | none=>
  obtain⟨o2,σ2,e2,k1,k2⟩:=h2 rfl
  exact⟨o2,σ2,by simp only[Zs,e,Option.bind_some,e2],k1,k2⟩
theorem Zoe{b:PB}{f g:PS}(h:Pb (b σ) fun x=>(x=true→Psk (f σ) R N)∧(x=false→Psk (g σ) R N)): Psk (ZP b f g σ) R N:=by
 obtain⟨x,a,h1,h2⟩:=h
 cases x with
 | true=>obtain⟨o,s,c,q⟩:=h1 rfl;exact⟨o,s,by simp[ZP,a,c],q⟩
 | false=>obtain⟨o,s,c,q⟩:=h2 rfl;exact⟨o,s,by simp[ZP,a,c],q⟩
theorem Zi3{n:Nat}{q:PS}{ts:List T}(hn:ts.length=n)(h:Psk (q fun i=>ts[i]?) Q fun _=>Q .none): Pk (Zab n q ts) Q:=by
 obtain⟨o,s,e,h1,h2⟩:=h
 cases o with
 | some t=>exact⟨t,by simp only[Zab,hn,if_true,e,Option.map_some,Option.getD_some],h1 t rfl⟩
 | none=>exact⟨.none,by simp only[Zab,hn,if_true,e,Option.map_some,Option.getD_none],h2 rfl⟩
theorem Zxh{b:Bool}{A C:Prop}(h:b=true)(k:A): (b=true→A)∧(b=false→C):=⟨fun _=>k,fun e=>(by rw[h]at e;cases e)⟩
theorem Zxi{b:Bool}{A C:Prop}(h:b=false)(k:C): (b=true→A)∧(b=false→C):=⟨fun e=>(by rw[h]at e;cases e),fun _=>k⟩
theorem Zrq{a b:Int}(h:Q (.int (a+b))): Pk (Zag (.int a) (.int b)) Q:=⟨_,rfl,h⟩
theorem Zxj{a b:Int}(h:Q (.int (a-b))): Pk (Za5 (.int a) (.int b)) Q:=⟨_,rfl,h⟩
theorem Zxk{a:Int}(h:Q (.int (-a))): Pk (Zbc (.int a)) Q:=⟨_,rfl,h⟩
theorem ZxW{a b:Int}(h:Q (.bool (decide (a<b)))): Pk (qLt (.int a) (.int b)) Q:=⟨_,rfl,h⟩
theorem ZxX{a b:Int}(h:Q (.bool (decide (a≤b)))): Pk (qLe (.int a) (.int b)) Q:=⟨_,rfl,h⟩
theorem ZxY{a b:Int}(h:Q (.bool (decide (b<a)))): Pk (qGt (.int a) (.int b)) Q:=⟨_,rfl,h⟩
theorem Zxl{a b:Int}(hb:b≠0)(h:Q (.int (a.fmod b))): Pk (Zbb (.int a) (.int b)) Q:=⟨_,by simp only[Zbb];rw[if_pos hb],h⟩
theorem Zc6{a b:Int}(hb:b≠0)(hd:Builtin.divisionGoesByPylong a b=false)(h:Q (.int (a.fdiv b))): Pk (ZcB (.int a) (.int b)) Q:=⟨_,by simp only[ZcB];rw[if_pos ⟨hb,hd⟩],h⟩
theorem ZbT{a b:Int}(hm:mulOk a b=true)(h:Q (.int (a*b))): Pk (ZaF (.int a) (.int b)) Q:=⟨_,by simp only[ZaF];rw[if_pos hm],h⟩
theorem Zxm{a:Int}(h:Q (.int (if a<0 then -a else a))): Pk (Zdd [.int a]) Q:=⟨_,rfl,h⟩
theorem Zxn{a b:Int}(h:Q (.int (if b<a then b else a))): Pk (Zjl [.int a,.int b]) Q:=⟨_,rfl,h⟩
theorem ZiI(a b:Int): Zes (.int a) (.int b)=some (decide (a=b)):=by
 simp[Zes,ZcZ,SeqAt.shaped,PyData.canLay0,PyData.depth,PyData.eqv]
 by_cases h:a=b <;> simp[h]
theorem ZxZ{a b:Int}(h:Q (.bool (decide (a=b)))): Pk (qEq (.int a) (.int b)) Q:=⟨_,by simp only[qEq,ZiI,Option.map_some],h⟩
theorem Zx0{a b:Int}(h:Q (.bool (decide (a≠b)))): Pk (qNe (.int a) (.int b)) Q:=⟨.bool (decide (a≠b)),by simp only[qNe,ZiI,Option.map_some];simp,h⟩
theorem Zxo(h:Q (.bool true)): Pk (qIs .none .none) Q:=⟨_,rfl,h⟩
theorem Zxp{a:Int}(h:Q (.bool false)): Pk (qIs (.int a) .none) Q:=⟨_,rfl,h⟩
theorem Zxq{a:List T}(h:Q (.bool false)): Pk (qIs (.lst a) .none) Q:=⟨_,rfl,h⟩
theorem Zxr{a:List T}(h:Q (.bool false)): Pk (qIs (.tup a) .none) Q:=⟨_,rfl,h⟩
theorem ZvV(h:Q (.bool false)): Pk (ZaO .none .none) Q:=⟨_,rfl,h⟩
theorem ZvW{a:Int}(h:Q (.bool true)): Pk (ZaO (.int a) .none) Q:=⟨_,rfl,h⟩
theorem ZvX{a:List T}(h:Q (.bool true)): Pk (ZaO (.tup a) .none) Q:=⟨_,rfl,h⟩
theorem ZvY{n:Nat}{f:Nat→T}(h:Q (.int n)): Pk (Zar [.lst (tab n f)]) Q:=⟨_,by simp only[Zar,Zas],h⟩
theorem Zxs{ts:List T}(h:Q (.int ts.length)): Pk (Zar [.lst ts]) Q:=⟨_,rfl,h⟩
theorem ZvZ{ts:List T}(h:Q (.int ts.length)): Pk (Zar [.tup ts]) Q:=⟨_,rfl,h⟩
theorem Zeo{k:Int}{n:Nat}(h0:0≤k)(h1:k<n): seqIndex? k n=some k.toNat:=by
 unfold seqIndex?
 have:¬k<0:=by omega
 simp[this]
 omega
theorem Zv0{n i:Nat}{f:Nat→T}(hi:i<n)(h:Q (f i)): Pk (Zq (.lst (tab n f)) (.int (i:Nat))) Q:=⟨_,by
 simp only[Zq,Zas,Zeo (show(0:Int)≤(i:Int)by omega) (show(i:Int)<(n:Int)by omega),Option.bind_some,Int.toNat_natCast]
 exact ZbM hi,h⟩
theorem Zv1{n:Nat}{k:Int}{f:Nat→T}(h0:0≤k)(h1:k<n)(h:Q (f k.toNat)): Pk (Zq (.lst (tab n f)) (.int k)) Q:=⟨_,by
 simp only[Zq,Zas,Zeo h0 h1,Option.bind_some]
 exact ZbM (by omega),h⟩
theorem ZiJ{ts:List T}{k:Int}{t:T}(h0:0≤k)(e:ts[k.toNat]?=some t)(h:Q t): Pk (Zq (.lst ts) (.int k)) Q:=⟨_,by
 simp only[Zq]
 rw[Zeo h0 (by have:=(Zz6.mp e).1;omega)]
 exact e,h⟩
theorem Zv2{ts:List T}{k:Int}{t:T}(h0:0≤k)(e:ts[k.toNat]?=some t)(h:Q t): Pk (Zq (.tup ts) (.int k)) Q:=⟨_,by
 simp only[Zq]
 rw[Zeo h0 (by have:=(Zz6.mp e).1;omega)]
 exact e,h⟩
theorem ZqN{n:Nat}{a:T}{f:Nat→T}(hn:n<10000)(h:Q (.lst (tab (n+1) (cn a f)))): Pk (Zag (.lst [a]) (.lst (tab n f))) Q:=⟨_,by
 simp only[Zag]
 rw[if_pos (by rw[Zbm,List.length_append,Zas];simp;omega),List.singleton_append,ZuT],h⟩
theorem ZuV{ts:List T}(h:Q (.lst ts)): Pk (Zcf [.lst ts]) Q:=⟨_,rfl,h⟩
theorem Zv3{ts:List T}(h:Q (.tup ts)): Pk (ZiF [.lst ts]) Q:=⟨_,rfl,h⟩
theorem Zuh{n:Nat}{f:Nat→Bool}: ZfH (tab n fun i=>.bool (f i))=some (tab n f):=by
 have:∀l:List Bool,ZfH (l.map T.bool)=some l:=fun l=>by
  induction l with
  | nil=>rfl
  | cons a l ih=>simp only[List.map_cons,ZfH,ih,Option.map_some]
 rw[show(tab n fun i=>T.bool (f i))=(tab n f).map T.bool from tab_map.symm]
 exact this _
theorem ZuW{n:Nat}{f:Nat→Int}: Zdt (tab n fun i=>.int (f i))=some (tab n f):=by
 have:∀l:List Int,Zdt (l.map T.int)=some l:=fun l=>by
  induction l with
  | nil=>rfl
  | cons a l ih=>simp only[List.map_cons,Zdt,ih,Option.map_some]
 rw[show(tab n fun i=>T.int (f i))=(tab n f).map T.int from tab_map.symm]
 exact this _
theorem Zxt{n:Nat}{P:Nat→Prop}(h:Q (.bool (dec (∃i,i<n∧P i)))): Pk (Zhe [.lst (tab n fun i=>.bool (dec (P i)))]) Q:=⟨_,by
 simp only[Zhe,Zuh,Option.map_some]
 congr 2
 symm
 apply Zod
 rw[List.any_eq_true]
 constructor
 ·rintro⟨x,hx,h⟩
  obtain⟨i,hi,e⟩:=List.getElem_of_mem hx
  rw[Zas]at hi
  have:=ZbM (f:=fun i=>dec (P i)) hi
  rw[List.getElem?_eq_getElem (by rw[Zas];exact hi)]at this
  rw[←e,Option.some.inj this]at h
  exact⟨i,hi,dec_iff.mp h⟩
 ·rintro⟨i,hi,h⟩
  exact⟨_,List.mem_of_getElem? (ZbM hi),Za0 h⟩,h⟩
noncomputable def SqP(x:T)(L:List T→Prop): Prop:=∃ts,(x=.lst ts∨x=.tup ts)∧L ts
theorem ZiK{f:PE}(h:Pk (f σ) fun t=>SqP t L): Pl (ZaD f σ) L:=by
 obtain⟨t,a,ts,rfl | rfl,q⟩:=h <;> exact⟨_,by simp only[ZaD,a,Option.bind_some],q⟩
theorem Sq.lst{ts:List T}(h:L ts): SqP (.lst ts) L:=⟨ts,.inl rfl,h⟩
theorem Zrr{a b c:Int}{H:Hp}{z:Nx×Nat×Hp}(h:ZcI a b c H=some z): ZcC a b c=some ((List.range (rngN a b c)).map fun(i:Nat)=>.int (a+(i:Int)*c)):=by
 unfold ZcI at h
 split at h
 ·rename_i hc
  unfold ZcC
  rw[if_pos hc]
 ·cases h
theorem ZuX{n:Nat}(hn:n≤1000): ZcC 0 n 1=some (tab n fun i=>.int i):=by
 rw[Zrr (ZwW (H:=[]) (b:=n) (by omega) (by omega))]
 have e:rngN 0 n 1=n:=by
  unfold rngN Builtin.Range.rangeSize
  by_cases q:(0:Int)<n
  ·rw[if_pos (by decide),if_pos (by omega)];omega
  ·rw[if_pos (by decide),if_neg (by omega)];omega
 rw[e]
 simp[tab]
theorem ZqO{a n:Nat}(ha:0<n)(hn:a+n≤1000): ZcC a (a+n) 1=some (tab n fun i=>.int (a+i)):=by
 rw[Zrr (ZwY (H:=[]) (a:=a) (b:=a+n) (c:=1) (by omega) (by omega) (by omega) (by omega) (by omega))]
 have e:rngN a (a+n) 1=n:=by
  unfold rngN
  rw[ZrN (by omega) (by omega)]
  omega
 rw[e]
 simp[tab]
theorem Zv4{g:PEs}{b:Int}{o:Option (List T)}(e:g σ=some [.int b])(h:ZcC 0 b 1=o): ZaE g σ=o:=by
 subst h;unfold ZaE;rw[e];rfl
theorem ZgL{g:PEs}{a b:Int}{o:Option (List T)}(e:g σ=some [.int a,.int b])(h:ZcC a b 1=o): ZaE g σ=o:=by
 subst h;unfold ZaE;rw[e];rfl
noncomputable def RnP(xs:List T)(L:List T→Prop): Prop:=(∃n:Nat,xs=[.int n]∧n≤1000∧L (tab n fun i=>.int i))∨∃(a:Nat) (n:Nat),xs=[.int a,.int (a+n)]∧0<n∧a+n≤1000∧L (tab n fun i=>.int (a+i))
theorem ZuY{g:PEs}(h:Pl (g σ) fun xs=>RnP xs L): Pl (ZaE g σ) L:=by
 obtain⟨xs,e,h⟩:=h
 rcases h with⟨n,h0,h1,q⟩ | ⟨a,n,h0,h1,h2,q⟩
 ·subst h0;exact⟨_,Zv4 e (ZuX h1),q⟩
 ·subst h0;exact⟨_,ZgL e (ZqO h1 h2),q⟩
theorem Rn.one{n:Nat}(hn:n≤1000)(h:L (tab n fun i=>.int i)): RnP [.int n] L:=.inl ⟨n,rfl,hn,h⟩
theorem Zjn{k:Int}(n:Nat)(e:k=n)(hn:n≤1000)(h:L (tab n fun i=>.int i)): RnP [.int k] L:=.inl ⟨n,by rw[e],hn,h⟩
theorem Rn.two{k l:Int}(a n:Nat)(e0:l=a)(e:k=a+n)(ha:0<n)(hn:a+n≤1000)(h:L (tab n fun i=>.int (a+i))): RnP [.int l,.int k] L:=.inr ⟨a,n,by rw[e,e0],ha,hn,h⟩
noncomputable def ZiP(x y:T)(L:List T→Prop): Prop:=∃xs ys,x=.lst xs∧y=.lst ys∧L (List.zipWith (fun a b=>.tup [a,b]) xs ys)
theorem Zof{f g:PE}(h:Pk (f σ) fun x=>Pk (g σ) fun y=>ZiP x y L): Pl (Zd9 f g σ) L:=by
 obtain⟨x,a,y,b,xs,ys,rfl,rfl,q⟩:=h;exact⟨_,by simp only[Zd9,a,b,Option.bind_some],q⟩
theorem Zi.eq{n:Nat}{f g:Nat→T}(h:L (tab n fun i=>.tup [f i,g i])): ZiP (.lst (tab n f)) (.lst (tab n g)) L:=⟨_,_,rfl,rfl,by rw[ZqM,Nat.min_self];exact h⟩
theorem ZpQ{j:Nat}{f:PE}{h:T→T}: ∀{ts:List T},(∀t∈ts,f (Zaa σ j t)=some (h t))→Zcx (Zac j) Zae f σ ts=some (ts.map h)
 | [],_=>rfl
 | t::ts,k=>by
  simp only[Zcx,Zac,Zae,Option.bind_some,if_true,k t Zz5,ZpQ fun t m=>k t (Zz2 _ m),Option.map_some,List.map_cons]
theorem ZnI{put:T→TL→Option TL}{f:PE}: ∀{ts us:List T},us.length=ts.length→(∀(i:Nat) t u,ts[i]?=some t→us[i]?=some u→∃σ1,put t σ=some σ1∧f σ1=some u)→Zcx put Zae f σ ts=some us
 | [],us,hl,_=>by cases us with
  | nil=>rfl
  | cons _ _=>simp at hl
 | t::ts,us,hl,k=>by
  cases us with
  | nil=>simp at hl
  | cons u us=>
   obtain⟨σ1,h1,h2⟩:=k 0 t u (by simp) (by simp)
   have:=ZnI (ts:=ts) (us:=us) (f:=f) (put:=put) (by simpa using hl) fun i t' u' h3 h4=>k (i+1) t' u' (by simpa using h3) (by simpa using h4)
   simp only[Zcx,h1,Zae,Option.bind_some,if_true,h2,this,Option.map_some]
theorem Zcj{g:PG}{j n:Nat}{a b:Nat→T}{f:PE}(hn:n<10000)(hg:Pl (g σ) fun ts=>ts=tab n a)(hf:∀i,i<n→Pk (f (Zaa σ j (a i))) fun t=>t=b i)(h:Q (.lst (tab n b))): Pk (Zap g (Zac j) Zae f σ) Q:=by
 obtain⟨ts,e,rfl⟩:=hg
 refine⟨_,?_,h⟩
 simp only[Zap,e,Option.bind_some,Zas]
 rw[if_pos (by rw[Zbm];omega),ZnI (us:=tab n b) (by rw[Zas,Zas]) fun i t u h1 h2=>?_]
 ·rfl
 ·have hi:i<n:=by have:=(Zz6.mp h1).1;rwa [Zas]at this
  rw[ZbM hi]at h1 h2
  cases h1;cases h2
  exact⟨_,rfl,(hf i hi).eq⟩
theorem Zno{g:PG}{j k n:Nat}{a b c:Nat→T}{f:PE}(hn:n<10000)(hg:Pl (g σ) fun ts=>ts=tab n fun i=>.tup [a i,b i])(hf:∀i,i<n→Pk (f (Zaa (Zaa σ j (a i)) k (b i))) fun t=>t=c i)(h:Q (.lst (tab n c))): Pk (Zap g (ZcX j k) Zae f σ) Q:=by
 obtain⟨ts,e,rfl⟩:=hg
 refine⟨_,?_,h⟩
 simp only[Zap,e,Option.bind_some,Zas]
 rw[if_pos (by rw[Zbm];omega),ZnI (us:=tab n c) (by rw[Zas,Zas]) fun i t u h1 h2=>?_]
 ·rfl
 ·have hi:i<n:=by have:=(Zz6.mp h1).1;rwa [Zas]at this
  rw[ZbM hi]at h1 h2
  cases h1;cases h2
  exact⟨_,rfl,(hf i hi).eq⟩
theorem Zi4{put:T→TL→Option TL}{b:PS}: ∀{ts:List T} (P:Nat→TL→Prop) {σ:TL},P 0 σ→(∀(i:Nat) t σ,ts[i]?=some t→P i σ→∃σ1,put t σ=some σ1∧Psk (b σ1) R (P (i+1)))→(∀σ,P ts.length σ→N σ)→Psk (Ze0 put b σ ts) R N
 | [],P,σ,h0,_,h2=>⟨_,_,rfl,by simp,fun _=>h2 _ h0⟩
 | t::ts,P,σ,h0,h1,h2=>by
  obtain⟨σ1,e1,o,σ2,e2,k1,k2⟩:=h1 0 t σ (by simp) h0
  cases o with
  | some v=>exact⟨some v,σ2,by simp only[Ze0,e1,Option.bind_some,e2],k1,by simp⟩
  | none=>
   obtain⟨o3,σ3,e3,l1,l2⟩:=Zi4 (ts:=ts) (fun i=>P (i+1)) (k2 rfl) (fun i t' σ' h3 h4=>h1 (i+1) t' σ' (by simpa using h3) h4) (fun σ' h=>h2 σ' (by simpa using h))
   exact⟨o3,σ3,by simp only[Ze0,e1,Option.bind_some,e2,e3],l1,l2⟩
theorem ZbU{g:PG}{j n:Nat}{a:Nat→T}{b:PS}(hg:Pl (g σ) fun ts=>ts=tab n a)(P:Nat→TL→Prop)(h0:P 0 σ)(h1:∀i σ,i<n→P i σ→Psk (b (Zaa σ j (a i))) R (P (i+1)))(h2:∀σ,P n σ→N σ): Psk (ZaB g (Zac j) b σ) R N:=by
 obtain⟨ts,e,rfl⟩:=hg
 have:=Zi4 (R:=R) (N:=N) (put:=Zac j) (b:=b) (ts:=tab n a) P h0 (fun i t σ' h3 h4=>by
  have hi:i<n:=by have:=(Zz6.mp h3).1;rwa [Zas]at this
  rw[ZbM hi]at h3
  cases h3
  exact⟨_,rfl,h1 i σ' hi h4⟩) (by rw[Zas];exact h2)
 obtain⟨o,s,e2,q⟩:=this
 exact⟨o,s,by simp only[ZaB,e,Option.bind_some,e2],q⟩
theorem ZiL{g:PG}{j k n:Nat}{a c:Nat→T}{b:PS}(hg:Pl (g σ) fun ts=>ts=tab n fun i=>.tup [a i,c i])(P:Nat→TL→Prop)(h0:P 0 σ)(h1:∀i σ,i<n→P i σ→Psk (b (Zaa (Zaa σ j (a i)) k (c i))) R (P (i+1)))(h2:∀σ,P n σ→N σ): Psk (ZaB g (ZcX j k) b σ) R N:=by
 obtain⟨ts,e,rfl⟩:=hg
 have:=Zi4 (R:=R) (N:=N) (put:=ZcX j k) (b:=b) (ts:=tab n fun i=>.tup [a i,c i]) P h0 (fun i t σ' h3 h4=>by
  have hi:i<n:=by have:=(Zz6.mp h3).1;rwa [Zas]at this
  rw[ZbM hi]at h3
  cases h3
  exact⟨_,rfl,h1 i σ' hi h4⟩) (by rw[Zas];exact h2)
 obtain⟨o,s,e2,q⟩:=this
 exact⟨o,s,by simp only[ZaB,e,Option.bind_some,e2],q⟩
theorem ZnJ{g:PG}{j:Nat}{ts:List T}{b:PS}(hg:Pl (g σ) fun us=>us=ts)(P:Nat→TL→Prop)(h0:P 0 σ)(h1:∀(i:Nat) t σ,ts[i]?=some t→P i σ→Psk (b (Zaa σ j t)) R (P (i+1)))(h2:∀σ,P ts.length σ→N σ): Psk (ZaB g (Zac j) b σ) R N:=by
 obtain⟨us,e,rfl⟩:=hg
 obtain⟨o,s,e2,q⟩:=Zi4 (R:=R) (N:=N) (put:=Zac j) (b:=b) (ts:=us) P h0 (fun i t σ' h3 h4=>⟨_,rfl,h1 i t σ' h3 h4⟩) h2
 exact⟨o,s,by simp only[ZaB,e,Option.bind_some,e2],q⟩
theorem Zfv{t:PB}{b:PS}(P:Nat→TL→Prop)(R:T→Prop)(N:TL→Prop)(h:∀m σ,P m σ→Pb (t σ) fun x=>(x=true→Psk (b σ) R fun σ1=>∃m',m'<m∧P m' σ1)∧(x=false→N σ)): ∀(n:Nat) {m:Nat} {σ:TL},P m σ→m<n→Psk (Zdp t b n σ) R N
 | 0,_,_,_,hm=>by omega
 | n+1,m,σ,hp,hm=>by
  obtain⟨x,e,h1,h2⟩:=h m σ hp
  cases x with
  | false=>exact⟨none,σ,by simp[Zdp,e],by simp,fun _=>h2 rfl⟩
  | true=>
   obtain⟨o,σ1,e1,k1,k2⟩:=h1 rfl
   cases o with
   | some v=>exact⟨some v,σ1,by simp[Zdp,e,e1],k1,by simp⟩
   | none=>
    obtain⟨m',hm',hp'⟩:=k2 rfl
    obtain⟨o2,σ2,e2,l1,l2⟩:=Zfv P R N h n hp' (by omega)
    exact⟨o2,σ2,by simp[Zdp,e,e1,e2],l1,l2⟩
theorem Zgt: ZcT σ []=σ:=by funext i;simp[ZcT]
noncomputable def AppP(σ:TL)(x:Nat)(w:T)(N:TL→Prop): Prop:=∃ts,σ x=some (.lst ts)∧ts.length<10000∧N (Zaa σ x (.lst (ts++[w])))
theorem Zv5{x:Nat}{w:T}{ts:List T}(e:σ x=some (.lst ts))(hl:ts.length<10000)(h:N (Zaa σ x (.lst (ts++[w])))): AppP σ x w N:=⟨ts,e,hl,h⟩
theorem Zxu{x:Nat}{f:PE}(h:Pk (f σ) fun w=>AppP σ x w N): Psk (Zc0 x [] ZaC f σ) R N:=by
 obtain⟨w,e,ts,h1,h2,q⟩:=h
 refine⟨none,_,?_,by simp,fun _=>q⟩
 simp only[Zc0,ZaC,Option.bind_some,e,h1,ZcY,ZfU]
 rw[if_pos (by rw[Zbm];omega)]
 simp only[Option.map_some,Zgt]
noncomputable def AppQ(σ:TL)(x y:Nat)(w:T)(N:TL→Prop): Prop:=∃ts,σ x=some (.lst ts)∧ts.length<10000∧N (ZcT (Zaa σ x (.lst (ts++[w]))) [y])
theorem Zv6{x y:Nat}{w:T}{ts:List T}(e:σ x=some (.lst ts))(hl:ts.length<10000)(h:N (ZcT (Zaa σ x (.lst (ts++[w]))) [y])): AppQ σ x y w N:=⟨ts,e,hl,h⟩
theorem Zv7{x y:Nat}{f:PE}(h:Pk (f σ) fun w=>AppQ σ x y w N): Psk (Zc0 x [y] ZaC f σ) R N:=by
 obtain⟨w,e,ts,h1,h2,q⟩:=h
 refine⟨none,_,?_,by simp,fun _=>q⟩
 simp only[Zc0,ZaC,Option.bind_some,e,h1,ZcY,ZfU]
 rw[if_pos (by rw[Zbm];omega)]
 simp only[Option.map_some]
noncomputable def PutP(σ:TL)(x:Nat)(w k:T)(N:TL→Prop): Prop:=∃ts m,k=.int m∧σ x=some (.lst ts)∧0≤m∧m<ts.length∧N (Zaa σ x (.lst (ts.set m.toNat w)))
theorem ZuZ{x n i:Nat}{w:T}{f:Nat→T}(e:σ x=some (.lst (TM.tab n f)))(hi:i<n)(h:N (Zaa σ x (.lst (TM.tab n fun k=>if k=i then w else f k)))): PutP σ x w (.int i) N:=⟨_,_,rfl,e,by omega,by rw[Zas];omega,by rw[Int.toNat_natCast,ZiH];exact h⟩
theorem ZmE{x n:Nat}{k:Int}{w:T}{f:Nat→T}(e:σ x=some (.lst (TM.tab n f)))(h0:0≤k)(hi:k<n)(h:N (Zaa σ x (.lst (TM.tab n fun i=>if i=k.toNat then w else f i)))): PutP σ x w (.int k) N:=⟨_,_,rfl,e,h0,by rw[Zas];omega,by rw[ZiH];exact h⟩
theorem Zxv{x:Nat}{f i:PE}(h:Pk (f σ) fun w=>Pk (i σ) fun k=>PutP σ x w k N): Psk (Za2 x [] f ZaC i σ) R N:=by
 obtain⟨w,e,k,e2,ts,m,rfl,h1,h2,h3,q⟩:=h
 refine⟨none,_,?_,by simp,fun _=>q⟩
 simp only[Za2,ZaC,Option.bind_some,e,e2,h1,ZcY,ZfV]
 rw[if_pos ⟨h2,h3⟩]
 simp only[Option.map_some,Zgt]
noncomputable def Put2(σ:TL)(x:Nat)(w a k:T)(N:TL→Prop): Prop:=∃ts us l m,a=.int l∧k=.int m∧σ x=some (.lst ts)∧0≤l∧ts[l.toNat]?=some (.lst us)∧0≤m∧m<us.length∧N (Zaa σ x (.lst (ts.set l.toNat (.lst (us.set m.toNat w)))))
theorem Zqf{x n m i j:Nat}{w:T}{f:Nat→Nat→T}(e:σ x=some (.lst (TM.tab n fun a=>.lst (TM.tab m (f a)))))(hi:i<n)(hj:j<m)(h:N (Zaa σ x (.lst (TM.tab n fun a=>.lst (TM.tab m fun b=>if a=i∧b=j then w else f a b))))): Put2 σ x w (.int i) (.int j) N:=by
 refine⟨_,TM.tab m (f i),i,j,rfl,rfl,e,by omega,?_,by omega,by rw[Zas];omega,?_⟩
 ·rw[Int.toNat_natCast,ZbM hi]
 ·rw[Int.toNat_natCast,Int.toNat_natCast,ZiH,ZiH]
  have:(TM.tab n fun a=>if a=i then T.lst (TM.tab m fun b=>if b=j then w else f i b)else T.lst (TM.tab m (f a)))=TM.tab n fun a=>.lst (TM.tab m fun b=>if a=i∧b=j then w else f a b):=Zbi fun a _=>by
   by_cases q:a=i
   ·subst q;simp
   ·simp[q]
  rw[this];exact h
theorem Zv8{x:Nat}{f i j:PE}(h:Pk (f σ) fun w=>Pk (i σ) fun a=>Pk (j σ) fun k=>Put2 σ x w a k N): Psk (Za2 x [] f (Zbu ZaC i) j σ) R N:=by
 obtain⟨w,e,a,e1,k,e2,ts,us,l,m,rfl,rfl,h1,h0,h4,h2,h3,q⟩:=h
 refine⟨none,_,?_,by simp,fun _=>q⟩
 have hl:=(Zz6.mp h4).1
 simp only[Za2,ZaC,Zbu,Option.bind_some,e,e1,e2,h1,List.nil_append,ZcY,ZfV,Zeo h0 (show l<ts.length by omega),h4]
 rw[if_pos ⟨h2,h3⟩]
 simp only[Option.map_some,Zgt]
theorem Zv9{i j:Nat}{t:T}{o:Option T}(h:j≠i)(e:σ j=o): Zaa σ i t j=o:=by simp[Zaa,h,e]
theorem Zu0{j:Nat}{J:List Nat}{o:Option T}(h:j∉J)(e:σ j=o): ZcT σ J j=o:=by simp[ZcT,h,e]
end
end TM
end
section
set_option autoImplicit false
namespace TM
open PySem PM
inductive Pln: Nat→T→Prop where
 | none {n:Nat}:Pln n .none
 | int {n:Nat} {i:Int}:Pln n (.int i)
 | str {n:Nat} {x:Str}:PyData.strOk x=true→Pln n (.str x)
 | tup {n:Nat} {ts:List T}:(∀t∈ts,Pln n t)→Pln (n+1) (.tup ts)
 | lst {n:Nat} {ts:List T}:(∀t∈ts,Pln n t)→Pln (n+1) (.lst ts)
mutual
noncomputable def dd: T→PyData
 | .none=>.none
 | .bool b=>.bool b
 | .int i=>.int i
 | .str x=>.str x
 | .tup ts=>.tuple (dds ts)
 | .lst ts=>.list (dds ts)
noncomputable def dds: List T→List PyData
 | []=>[]
 | t::ts=>dd t::dds ts
end
theorem Znp{f:T→Option PyData}: ∀{ts:List T},(∀t∈ts,f t=some (dd t))→ZeT f ts=some (dds ts)
 | [],_=>rfl
 | t::ts,h=>by simp only[ZeT,h t Zz5,Znp fun t m=>h t (Zz2 _ m),Option.bind_some,dds]
theorem ZnK: ∀{ts:List T},(∀t∈ts,PyData.canLay0 (dd t)=true)→PyData.canLayAll0 (dds ts)=true
 | [],_=>rfl
 | t::ts,h=>by simp only[dds,PyData.canLayAll0,h t Zz5,ZnK fun t m=>h t (Zz2 _ m),Bool.and_self]
theorem ZnL{n:Nat}: ∀{ts:List T},(∀t∈ts,PyData.depth (dd t)≤n)→PyData.depthAll (dds ts)≤n
 | [],_=>by simp[dds,PyData.depthAll]
 | t::ts,h=>by
  have h1:=h t Zz5
  have h2:=ZnL fun t m=>h t (Zz2 _ m)
  simp only[dds,PyData.depthAll]
  omega
theorem Pln.dat{n:Nat}{t:T}(h:Pln n t): ZcZ n t=some (dd t)∧PyData.canLay0 (dd t)=true∧PyData.depth (dd t)≤n:=by
 induction h with
 | @none n=>cases n <;> exact⟨rfl,rfl,by simp[dd,PyData.depth]⟩
 | @int n i=>cases n <;> exact⟨rfl,rfl,by simp[dd,PyData.depth]⟩
 | @str n x h=>cases n <;> exact⟨rfl,by simpa [dd,PyData.canLay0]using h,by simp[dd,PyData.depth]⟩
 | @tup n ts _ ih=>
  refine⟨?_,?_,?_⟩
  ·simp only[ZcZ,Znp fun t m=>(ih t m).1,Option.map_some,dd]
  ·simp only[dd,PyData.canLay0];exact ZnK fun t m=>(ih t m).2.1
  ·simp only[dd,PyData.depth]
   have:=ZnL fun t m=>(ih t m).2.2
   omega
 | @lst n ts _ ih=>
  refine⟨?_,?_,?_⟩
  ·simp only[ZcZ,Znp fun t m=>(ih t m).1,Option.map_some,dd]
  ·simp only[dd,PyData.canLay0];exact ZnK fun t m=>(ih t m).2.1
  ·simp only[dd,PyData.depth]
   have:=ZnL fun t m=>(ih t m).2.2
   omega
theorem ZnM: ∀{ts us:List T},(∀t∈ts,∀u∈us,(PyData.eqv (dd t) (dd u)=true↔t=u))→(PyData.eqvAll (dds ts) (dds us)=true↔ts=us)
 | [],[],_=>by simp[dds,PyData.eqvAll]
 | [],_::_,_=>by simp[dds,PyData.eqvAll]
 | _::_,[],_=>by simp[dds,PyData.eqvAll]
 | t::ts,u::us,h=>by
  simp only[dds,PyData.eqvAll,Bool.and_eq_true,h t Zz5 u Zz5,ZnM fun t m u n=>h t (Zz2 _ m) u (Zz2 _ n),List.cons.injEq]
theorem Pln.eqv{n:Nat}{t:T}(h:Pln n t): ∀{m:Nat} {u:T},Pln m u→(PyData.eqv (dd t) (dd u)=true↔t=u):=by
 induction h with
 | none=>intro m u h;cases h <;> simp[dd,PyData.eqv]
 | int=>intro m u h;cases h <;> simp[dd,PyData.eqv]
 | str _=>intro m u h;cases h <;> simp[dd,PyData.eqv]
 | tup hs ih=>
  intro m u h
  cases h with
  | tup hu=>simp only[dd,PyData.eqv,T.tup.injEq];exact ZnM fun t a u b=>ih t a (hu u b)
  | none=>simp[dd,PyData.eqv]
  | int=>simp[dd,PyData.eqv]
  | str=>simp[dd,PyData.eqv]
  | lst=>simp[dd,PyData.eqv]
 | lst hs ih=>
  intro m u h
  cases h with
  | lst hu=>simp only[dd,PyData.eqv,T.lst.injEq];exact ZnM fun t a u b=>ih t a (hu u b)
  | none=>simp[dd,PyData.eqv]
  | int=>simp[dd,PyData.eqv]
  | str=>simp[dd,PyData.eqv]
  | tup=>simp[dd,PyData.eqv]
theorem Pln.mono{n:Nat}{t:T}(h:Pln n t): ∀{m:Nat},n≤m→Pln m t:=by
 induction h with
 | none=>intro m _;exact .none
 | int=>intro m _;exact .int
 | str h=>intro m _;exact .str h
 | tup hs ih=>
  intro m hm
  cases m with
  | zero=>omega
  | succ m=>exact .tup fun t a=>ih t a (by omega)
 | lst hs ih=>
  intro m hm
  cases m with
  | zero=>omega
  | succ m=>exact .lst fun t a=>ih t a (by omega)
theorem ZqP{n m:Nat}{a b:T}(ha:Pln n a)(hb:Pln m b)(hn:n≤8:=by decide)(hm:m≤8:=by decide): Zes a b=some (dec (a=b)):=by
 have ha:=ha.mono hn
 have hb:=hb.mono hm
 obtain⟨a1,a2,a3⟩:=ha.dat
 obtain⟨b1,b2,b3⟩:=hb.dat
 unfold Zes Zb8
 rw[a1,b1]
 simp only[Option.bind_some]
 rw[if_pos ⟨by simp only[SeqAt.shaped,a2,Bool.true_and,decide_eq_true_eq];omega,by simp only[SeqAt.shaped,b2,Bool.true_and,decide_eq_true_eq];omega⟩,Zod (ha.eqv hb)]
section
variable {Q:T→Prop}
theorem ZfI{n m:Nat}{a b:T}(ha:Pln n a)(hb:Pln m b)(h:Q (.bool (dec (a=b))))(hn:n≤8:=by decide)(hm:m≤8:=by decide): Pk (qEq a b) Q:=⟨_,by simp only[qEq,ZqP ha hb hn hm,Option.map_some],h⟩
theorem Zog{n m:Nat}{a b:T}(ha:Pln n a)(hb:Pln m b)(h:Q (.bool (!dec (a=b))))(hn:n≤8:=by decide)(hm:m≤8:=by decide): Pk (qNe a b) Q:=⟨_,by simp only[qNe,ZqP ha hb hn hm,Option.map_some],h⟩
end
theorem ZcO{α:Type}{n:Nat}{f:Nat→α}{x:α}(h:x∈tab n f): ∃i,i<n∧x=f i:=by
 obtain⟨i,hi,e⟩:=Zz11.mp h
 exact⟨i,List.mem_range.mp hi,e.symm⟩
theorem ZpR{n:Nat}{f:Nat→T}(h:∀i,i<n→(f i).flat=true): T.flats (tab n f)=true:=by
 have key:∀l:List T,(∀t∈l,t.flat=true)→T.flats l=true:=fun l=>by
  induction l with
  | nil=>intro _;rfl
  | cons t l ih=>intro h;simp only[T.flats,h t Zz5,ih fun t m=>h t (Zz2 _ m),Bool.and_self]
 exact key _ fun t m=>by obtain⟨i,hi,rfl⟩:=ZcO m;exact h i hi
theorem Zpx{n:Nat}{f:Nat→T}(h:∀i,i<n→(f i).flat=true): T.flatIn (.lst (tab n f))=true:=ZpR h
noncomputable def oT: Option Int→T
 | none=>.none
 | some x=>.int x
noncomputable def Z4(q:Int×Int): T:=.tup [.int q.1,.int q.2]
noncomputable def Zjz(n:Nat)(x:Nat→Int): T:=.lst (tab n fun i=>.int (x i))
noncomputable def Zax(n:Nat)(b:Nat→Option Int): T:=.lst (tab n fun j=>oT (b j))
noncomputable def Z7(n:Nat)(G:Nat→Nat→Option Int): T:=.lst (tab n fun i=>Zax n (G i))
noncomputable def Za4(n:Nat)(R:Nat→Int×Int): T:=.lst (tab n fun i=>Z4 (R i))
noncomputable def ZQ(n:Nat)(G:Nat→Nat→Option Int)(R:Nat→Int×Int): T:=.tup [Z7 (n+1) G,Za4 n R]
theorem Zbf: oT none=.none:=rfl
theorem Zao{c:Int}: oT (some c)=.int c:=rfl
theorem ZeJ{b:Option Int}: (oT b).flat=true:=by cases b <;> rfl
theorem Ziu{q:Int×Int}: (Z4 q).flat=true:=rfl
theorem oT_inj{a b:Option Int}: oT a=oT b↔a=b:=by cases a <;> cases b <;> simp[oT]
theorem Zel{n k:Nat}{f:Nat→T}(h:∀i,i<k→Pln n (f i)): Pln (n+1) (.lst (tab k f)):=.lst fun t m=>by obtain⟨i,hi,rfl⟩:=ZcO m;exact h i hi
theorem Zg7{n:Nat}{b:Option Int}: Pln n (oT b):=by cases b;exact .none;exact .int
theorem Zrs{n:Nat}{q:Int×Int}: Pln (n+1) (Z4 q):=.tup fun t m=>by
 simp at m;rcases m with rfl | rfl <;> exact .int
theorem ZqQ{n:Nat}{b:Nat→Option Int}: Pln 1 (Zax n b):=Zel fun _ _=>Zg7
theorem Zu1{n:Nat}{G:Nat→Nat→Option Int}: Pln 2 (Z7 n G):=Zel fun _ _=>ZqQ
theorem Zu2{n:Nat}{R:Nat→Int×Int}: Pln 2 (Za4 n R):=Zel fun _ _=>Zrs
theorem Znq{n:Nat}{G:Nat→Nat→Option Int}{R:Nat→Int×Int}: Pln 3 (ZQ n G R):=.tup fun t m=>by
 simp at m;rcases m with rfl | rfl
 ·exact Zu1
 ·exact Zu2
theorem ZbA{σ:TL}{i:Nat}{t:T}: Zaa σ i t i=some t:=by simp[Zaa]
end TM
end
section
set_option autoImplicit false
namespace PM
open PySem PySem.W PySem.Calls PyProof.Rows PyProof PyProof.Rows.LCg PyProof.Rows.LCp
noncomputable def sNo: Sm:=fun _ _=>none
noncomputable def inD(d:PyData): PyData→Option Bool
 | .list xs=>if PyData.canLayAll0 xs=true∧d.canLay0=true∧d.depth≤64 then some (xs.any fun y=>PyData.eqv y d)else none
 | .tuple xs=>if PyData.canLayAll0 xs=true∧d.canLay0=true∧d.depth≤64 then some (xs.any fun y=>PyData.eqv y d)else none
 | _=>none
noncomputable def ZoG(a b:V)(H:Hp): Option Bool:=(toD H Zb8 a).bind fun d=>(toD H Zb8 b).bind fun e=>inD d e
noncomputable def oIn(a b:V)(H:Hp): Option (V×Hp):=(ZoG a b H).map fun c=>(.bool c,H)
noncomputable def ZgV(a:Nat): Nx:=fun i H=>H[a]?.bind fun vs=>match vs[i]? with
 | some x=>some (some (.tup [.int i,x]))
 | none=>if i=vs.length then some none else none
noncomputable def Zjo(f:Ex): Src:=fun ρ H=>(f ρ H).bind fun p=>match p.1 with
 | .ref a=>p.2[a]?.map fun vs=>(ZgV a,vs.length+1,p.2)
 | _=>none
section
variable {prog:Program} {w:World} {Γ:Cx}
theorem Zx1{st:Stmt}: S1 prog w Γ st sNo:=fun W ρ H fr s Q E r rp hf post=>by cases hf
theorem ZfO: Op2 prog w (compareOp .In) oIn:=by
 intro Γ W ρ H fr s Q E a b x y v H' r hx hy ho post
 obtain⟨c,e1,e2⟩:=Zz1.mp ho
 cases e2
 obtain⟨d,h1,e1⟩:=Zz0.mp e1
 obtain⟨e,h2,e1⟩:=Zz0.mp e1
 obtain⟨as,R1⟩:=Zfn r Zb8 a x d hx h1
 obtain⟨bs,R2⟩:=Zfn r Zb8 b y e hy h2
 have hu:=Γ.hu
 unfold inD at e1
 split at e1
 ·split at e1
  ·rename_i hs
   cases e1
   exact SeqAt.in_list_reads R2 R1 hs.1 hs.2.1 (by omega) (post W s.heap s.toks _ (.refl W) r (.bool _))
  ·cases e1
 ·split at e1
  ·rename_i hs
   cases e1
   exact SeqAt.in_tuple_reads R2 R1 hs.1 hs.2.1 (by omega) (post W s.heap s.toks _ (.refl W) r (.bool _))
  ·cases e1
 ·cases e1
noncomputable def ES(e it l:Addr)(i:Nat)(h:Heap): Prop:=(∃old,IsEnum h e it i old)∧h.IsListIter it l i
theorem ES.at{e it l:Addr}{i:Nat}{h h':Heap}(x:ES e it l i h)(k:∀a∈[e,it],∀o,h.get? a=some o→h'.get? a=some o): ES e it l i h':=by
 obtain⟨⟨old,h1⟩,h2⟩:=x
 exact⟨⟨old,k e (by simp) _ h1⟩,h2.at fun o x=>k it (by simp) o x⟩
theorem ES.have{e it l:Addr}{i:Nat}{h:Heap}(x:ES e it l i h): ∀a∈[e,it],∃o,h.get? a=some o:=by
 obtain⟨⟨old,h1⟩,o,h2,_⟩:=x
 intro a ha
 simp at ha
 rcases ha with rfl | rfl
 ·exact⟨_,h1⟩
 ·exact⟨_,h2⟩
noncomputable def EIt(e it l:Addr)(i:Nat)(fs:List (Addr×Obj)): Prop:=fs.map (·.1)=[e,it]∧∀h:Heap,(∀q∈fs,h.get? q.1=some q.2)→ES e it l i h
theorem ZqR{e it l:Addr}{i:Nat}{h:Heap}(x:ES e it l i h): ∃fs,EIt e it l i fs∧∀q∈fs,h.get? q.1=some q.2:=by
 obtain⟨fs,h1,h2⟩:=ZoF h [e,it] x.have
 refine⟨fs,⟨h1,fun h' k=>x.at fun a ha o ho=>?_⟩,h2⟩
 rw[←h1]at ha
 obtain⟨q,hq,eq⟩:=Zz11.mp ha
 have:=h2 q hq
 rw[eq,ho]at this
 cases this
 exact eq▸k q hq
theorem Zwa{W0:Wd}{e it l:Addr}{a:Nat}(ea:W0.pi[a]?=some l)(hei:e≠it)(hle:l≠e)(hli:l≠it):
  Itr2 prog w Γ W0 (.ref e) [e,it] (EIt e it l) (ZgV a):=by
 refine⟨fun i fs h=>h.1,?_,?_,?_,?_⟩
 ·intro i H v hh
  obtain⟨vs,e1,hh⟩:=Zz0.mp hh
  split at hh
  ·cases hh
   exact⟨_,_,rfl⟩
  ·split at hh <;> cases hh
 ·intro i W ρ H fr fs s Q E va vb le r ap hit hn post
  obtain⟨vs,e1,hh⟩:=Zz0.mp hn
  have hv:va=.int i∧vs[i]?=some vb:=by
   split at hh
   ·rename_i x h1
    cases hh
    exact⟨rfl,h1⟩
   ·split at hh <;> cases hh
  obtain⟨_,xs,k1,g1,v1⟩:=r.at e1 (le.at ea)
  obtain⟨x,hx,rx⟩:=v1.at hv.2
  have st:ES e it l i s.heap:=hit.2 _ fun q hq=>r.frAt (Zz4 _ hq)
  have Wk:=WalksT.enumerate (prog:=prog) (w:=w) (A:=Γ.A) Γ.hh e it l hei hle hli xs.toArray
  have isl1:s.heap.IsList l xs.toArray:=⟨_,g1,rfl,k1,rfl⟩
  have hi:i<xs.toArray.size:=by
   have h1:=(Zz6.mp hx).1
   simpa using h1
  refine Wk.item i s Q E hi ⟨st.1,st.2,isl1⟩ fun T vals h1 t1 hp hT hTup hmid keep1=>post T h1 t1 ?_
  intro elts k pos s1 Q1 E1 es1 q1
  subst es1
  have hTw:=Wk.apart i T _ hmid
  refine Wk.go elts k pos i T _ Q1 E1 hmid fun h2 st2 keep2=>?_
  obtain⟨tk,x',hx',ev⟩:=hp
  have ex:x'=x:=by
   have:xs[i]?=some x':=by simpa using hx'
   rw[hx]at this
   exact(Option.some.inj this).symm
  subst ex ev
  obtain⟨fs',hit',at'⟩:=ZqR (h:=h2) (⟨st2.1,st2.2.1⟩:ES e it l (i+1) h2)
  obtain⟨oT,gT,cT,nT,dT⟩:=hTup
  refine q1 fs' h2 (.int i tk) x' hit' ?_ ⟨oT,keep2 T oT hTw gT,cT,nT,dT⟩ (by rw[hv.1];exact .int _ _) rx
  refine r.swap (fs':=fs') (fun q hq t ht=>?_) (fun c o hc e=>?_) fun q hq=>⟨at' q hq,?_⟩
  ·exact ap _ (hit.1▸List.mem_map_of_mem hq) t ht
  ·rw[hit.1]at hc
   exact keep2 c o hc (keep1 c o hc e)
  ·rw[hit.1,←hit'.1]
   exact List.mem_map_of_mem hq
 ·intro i W ρ H fr fs s Q E le r ap hit hn post
  obtain⟨vs,e1,hh⟩:=Zz0.mp hn
  obtain⟨_,xs,k1,g1,v1⟩:=r.at e1 (le.at ea)
  have hi:i=vs.length:=by
   split at hh
   ·cases hh
   ·split at hh
    ·assumption
    ·cases hh
  have st:ES e it l i s.heap:=hit.2 _ fun q hq=>r.frAt (Zz4 _ hq)
  have Wk:=WalksT.enumerate (prog:=prog) (w:=w) (A:=Γ.A) Γ.hh e it l hei hle hli xs.toArray
  have hm:xs.toArray.size=i:=by simp[v1.length,hi]
  refine Wk.done s Q E (by rw[hm];exact⟨st.1,st.2,⟨_,g1,rfl,k1,rfl⟩⟩) fun h' tk keep=>post h' tk ?_
  have:=r.swap (fs':=[]) (fun q hq t ht=>ap _ (hit.1▸List.mem_map_of_mem hq) t ht) (fun c o hc e=>keep c o (by rw[hit.1]at hc;exact hc) e) (fun q hq=>nomatch hq)
  exact this
 ·intro i W ρ H fr fs s Q E o le r hit hn q
  obtain⟨vs,e1,hh⟩:=Zz0.mp hn
  obtain⟨_,xs,k1,g1,v1⟩:=r.at e1 (le.at ea)
  have st:ES e it l i s.heap:=hit.2 _ fun q hq=>r.frAt (Zz4 _ hq)
  have Wk:=WalksT.enumerate (prog:=prog) (w:=w) (A:=Γ.A) Γ.hh e it l hei hle hli xs.toArray
  exact Wk.self i s Q E ⟨st.1,st.2,⟨_,g1,rfl,k1,rfl⟩⟩ q
theorem Zu3{x:Str}{np pos:Pos}{e1:Expr}{f:Ex}(hn:Nm prog w Γ x (.type "enumerate"))(h1:J prog w Γ e1 f)
  (he:starEach [e1] Γ.env=(false,eval e1 Γ.env)::starEach [] Γ.env:=by rfl) (hp:∀pos,(backTo pos (starEach [] Γ.env)).any (·.1)=false:=by intro _;rfl):JI2 prog w Γ (.Call (.Name x np) [e1] [] pos) (Zjo f):=by
 intro W ρ H fr s Q E nx n H' r hf post
 obtain⟨p,a1,hf⟩:=Zz0.mp hf
 refine wpAny_Call_ofName (hn.use r ?_)
 refine PySem.Pv.callWith_type1 (wpAny_items_cons (h1 W ρ H fr s _ E _ _ r a1 fun W1 k1 t1 y1 l1 r1 v1=>wpAny_items_nil ?_) he) he (hp pos)
 obtain⟨u1,H1⟩:=p
 simp only at hf v1 r1
 cases u1 <;> first | (cases hf;done) | skip
 rename_i b1
 obtain⟨vs,c1,c3⟩:=Zz1.mp hf
 cases c3
 cases v1 with
 | @ref _ m1 ea=>
 obtain⟨_,xs,n1,g1,w1⟩:=r1.at c1 ea
 have isl1:k1.IsList m1 xs.toArray:=⟨_,g1,rfl,n1,rfl⟩
 refine call_enumerate_list (s:={ s with heap:=k1,toks:=t1 }) isl1 fun h₁ hE hI hsz up=>?_
 have hlt:m1<k1.objs.size:=Heap.lt_size g1
 have Wk:=WalksT.enumerate (prog:=prog) (w:=w) (A:=Γ.A) Γ.hh (k1.objs.size+1) k1.objs.size m1 (Nat.succ_ne_self _) (Nat.ne_of_lt (Nat.lt_succ_of_lt hlt)) (Nat.ne_of_lt hlt) xs.toArray
 have zs:ES (k1.objs.size+1) k1.objs.size m1 0 h₁:=⟨⟨_,hE⟩,hI⟩
 refine Wk.self 0 _ _ _ ⟨⟨_,hE⟩,hI,isl1.at fun o e=>up _ o e⟩ ?_
 obtain⟨fs,hit,at'⟩:=ZqR zs
 obtain⟨r3,ap3⟩:=r1.more (fs:=fs) (h':=h₁) (fun b o e=>up b o e) (fun q hq=>⟨at' q hq,by
  have:q.1∈fs.map (·.1):=List.mem_map_of_mem hq
  rw[hit.1]at this
  simp at this
  rcases this with e | e <;> rw[e] <;> omega⟩)
 refine post W1 h₁ t1 _ _ _ fs l1 hit r3 (fun b hb t ht=>?_) (Zwa ea (Nat.succ_ne_self _) (Nat.ne_of_lt (Nat.lt_succ_of_lt hlt)) (Nat.ne_of_lt hlt)) ?_
 ·rw[←hit.1]at hb
  obtain⟨q,hq,e⟩:=Zz11.mp hb
  exact e▸ap3 q hq t ht
 ·simp only[ZgV,c1,Option.bind_some]
  cases q:vs[0]? with
  | some x=>exact⟨_,rfl⟩
  | none=>
   have:vs.length=0:=by simpa using q
   simp[this]
theorem Zxw{e1 e2 e3:Expr}{es:List Expr}{pos:Pos}{f g:Ex}(h1:J prog w Γ e1 f)(h2:J prog w Γ (.BoolOp .And (e2::e3::es) pos) g) (he:eval (.BoolOp .And (e1::e2::e3::es) pos) Γ.env=(do
  let v ←eval e1 Γ.env
  standAt pos
  let t ←holding [v] (truthy v)
  match BoolOp.And,t with
  | .And,false | .Or,true=>pure v
  | _,_=>eval (.BoolOp .And (e2::e3::es) pos) Γ.env):=by rfl):J prog w Γ (.BoolOp .And (e1::e2::e3::es) pos) (Zdw f g):=by
 intro W ρ H fr s Q E v H' r hf post
 obtain⟨p,a1,hf⟩:=Zz0.mp hf
 obtain⟨b,a2,a3⟩:=Zz0.mp hf
 rw[he]
 refine wpAny_bind (wpAny_mono (h1 W ρ H fr s (fun x s₁=>wpAny (model prog w) Γ.A (truthy x) (fun t s₂=>if t then wpAny (model prog w) Γ.A (eval (.BoolOp .And (e2::e3::es) pos) Γ.env) Q E s₂ else Q x s₂) E s₁) E _ _ r a1 fun W1 k1 t1 x l1 r1 x1=>?_) (fun v s₁ h₁=>wpAny_bind (wpAny_standAt (wpAny_bind (wpAny_holding (wpAny_mono h₁ (fun t s₂ h₂=>?_) fun _ _ x=>x))))) fun _ _ x=>x)
 ·refine truth Γ W1 ρ _ fr _ _ E _ x b r1 x1 a2 fun W2 k2 t2 l2 r2=>?_
  cases b with
  | true=>exact h2 W2 ρ _ fr _ Q E _ H' r2 a3 fun W3 k3 t3 z l3 r3 z3=>post W3 k3 t3 z ((l1.trans l2).trans l3) r3 z3
  | false=>
   cases a3
   exact post W2 k2 t2 x (l1.trans l2) r2 (x1.mono l2)
 ·cases t with
  | false=>exact wpAny_pure h₂
  | true=>exact h₂
end
end PM
end
section
set_option autoImplicit false
namespace TM
open PySem PM
noncomputable def Zhg(a b:T): Option Bool:=(ZcZ Zb8 a).bind fun d=>(ZcZ Zb8 b).bind fun e=>inD d e
noncomputable def qIn(a b:T): Option T:=(Zhg a b).map .bool
theorem Zxx{H:Hp}{v1 v2:V}{t1 t2:T}{F1 F2:List Nat}(r1:RF H v1 t1 F1)(r2:RF H v2 t2 F2): ZoG v1 v2 H=Zhg t1 t2:=by
 simp only[ZoG,Zhg,Zi1 Zb8 _ _ _ r1,Zi1 Zb8 _ _ _ r2]
theorem Ze1: OA2 oIn qIn:=fun H v1 v2 t1 t2 t F1 F2 r1 r2 h=>by
 obtain⟨c,h1,h⟩:=Zz1.mp h
 subst h
 exact⟨_,by simp only[oIn,Zxx r1 r2,h1,Option.map_some],.bool _⟩
theorem Zrt{d:T}: ∀{ts:List T},(∀t∈ts,(PyData.eqv (dd t) (dd d)=true↔t=d))→((dds ts).any fun y=>PyData.eqv y (dd d))=dec (d∈ts)
 | [],_=>by simp[dds,Zbw]
 | t::ts,h=>by
  have ih:=Zrt (d:=d) (ts:=ts) fun t m=>h t (Zz2 _ m)
  simp only[dds,List.any_cons,ih]
  symm
  apply Zod
  rw[Bool.or_eq_true,h t Zz5,dec_iff]
  simp[eq_comm]
theorem Zxy{n m:Nat}{a:T}{ts:List T}(ha:Pln n a)(hb:Pln m (.lst ts))(hn:n≤8:=by decide)(hm:m≤8:=by decide): Zhg a (.lst ts)=some (dec (a∈ts)):=by
 have ha:=ha.mono hn
 have hb:=hb.mono hm
 obtain⟨a1,a2,a3⟩:=ha.dat
 obtain⟨b1,b2,b3⟩:=hb.dat
 unfold Zhg Zb8
 rw[a1,b1]
 simp only[Option.bind_some,dd,inD]
 simp only[dd,PyData.canLay0]at b2
 rw[if_pos ⟨b2,a2,by omega⟩,Zrt]
 intro t m
 cases hb with
 | lst hs=>exact(hs t m).eqv ha
section
variable {Q:T→Prop}
theorem ZfP{n m:Nat}{a:T}{ts:List T}(ha:Pln n a)(hb:Pln m (.lst ts))(h:Q (.bool (dec (a∈ts))))(hn:n≤8:=by decide)(hm:m≤8:=by decide): Pk (qIn a (.lst ts)) Q:=⟨_,by simp only[qIn,Zxy ha hb hn hm,Option.map_some],h⟩
end
noncomputable def ZeU(ts:List T): List T:=List.zipWith (fun i t=>.tup [.int (i:Nat),t]) (List.range ts.length) ts
noncomputable def Zjp(p:PE): PG:=fun σ=>(p σ).bind fun t=>match t with
 | .lst ts=>some (ZeU ts)
 | _=>none
theorem Zu4{ts:List T}: (ZeU ts).length=ts.length:=by simp[ZeU]
theorem Zqg{H:Hp}: ∀{vs:List V} {ts:List T} {F:List Nat} (k:Nat),RFs H vs ts F→RFs H (List.zipWith (fun i v=>V.tup [.int (i:Nat),v]) (List.range' k ts.length) vs) (List.zipWith (fun i t=>T.tup [.int (i:Nat),t]) (List.range' k ts.length) ts) F
 | _,_,_,_,.nil=>.nil
 | _,_,_,k,.cons a b=>by
  rw[List.length_cons,List.range'_succ]
  have h1:RF H (V.tup [.int (k:Nat),_]) (T.tup [.int (k:Nat),_]) _:=.tup (.cons (.int _) (.one a))
  simpa using RFs.cons h1 (Zqg (k+1) b)
theorem Zwb{O N:List Nat}{u:Bool}{e:Ex}{p:PE}(x:E O N u e p): Gs O N (Zjo e) (Zjp p):=fun c ρ σ H Φ ts s h=>by
 obtain⟨t1,h1,h⟩:=Zz0.mp h
 obtain⟨v,X,F,a1,a2,a3,a4⟩:=x c ρ σ H Φ t1 s h1
 have hlt:=a2.lt
 cases a2 with
 | none=>cases h
 | bool=>cases h
 | int=>cases h
 | str=>cases h
 | tup=>cases h
 | @ref b vs us F' e1 hs=>
  cases h
  have hl:=hs.length
  refine⟨ZgV b,X,List.zipWith (fun i v=>V.tup [.int (i:Nat),v]) (List.range us.length) vs,F',b::F',by simp only[Zjo,a1,Option.bind_some,e1,Option.map_some,Zu4,hl],?_,fun _ m=>List.mem_cons_of_mem _ m,fun a m=>⟨hlt a m,a3 a m⟩,fun K hK i hi=>?_⟩
  ·have:=Zqg 0 hs
   unfold ZeU
   rw[List.range_eq_range']
   exact this
  ·simp only[ZgV,hK b Zz5,e1,Option.bind_some,List.getElem?_zipWith]
   simp only[List.length_zipWith,List.length_range]at hi
   by_cases q:i<vs.length
   ·rw[List.getElem?_eq_getElem q,List.getElem?_range (by omega)]
   ·rw[List.getElem?_eq_none (by omega),List.getElem?_eq_none (by simp;omega)]
    simp
    omega
theorem Zu5{n:Nat}{f:Nat→T}: ZeU (tab n f)=tab n fun i=>.tup [.int (i:Nat),f i]:=by
 unfold ZeU
 rw[Zas]
 have:List.range n=tab n fun i=>i:=by simp[tab]
 rw[this,ZqM,Nat.min_self]
section
variable {σ:TL} {L:List T→Prop}
noncomputable def EnP(x:T)(L:List T→Prop): Prop:=∃ts,x=.lst ts∧L (ZeU ts)
theorem Zwc{f:PE}(h:Pk (f σ) fun t=>EnP t L): Pl (Zjp f σ) L:=by
 obtain⟨t,a,ts,rfl,q⟩:=h;exact⟨_,by simp only[Zjp,a,Option.bind_some],q⟩
theorem Zwd{n:Nat}{f:Nat→T}(h:L (TM.tab n fun i=>.tup [.int (i:Nat),f i])): EnP (.lst (TM.tab n f)) L:=⟨_,rfl,by rw[Zu5];exact h⟩
end
noncomputable def Zjq(g:PG)(put:T→TL→Option TL)(b:PS): PS:=fun σ=>(g σ).bind fun ts=>if ts=[]then none else Ze0 put b σ ts
end TM
end
section
set_option autoImplicit false
namespace PM
open PySem PySem.W PySem.Calls PyProof.Rows PyProof
noncomputable def ZgW(o1 o2:V→V→Hp→Option (V×Hp))(f g h:Ex): Ts:=fun ρ H=>(f ρ H).bind fun p=>(g ρ p.2).bind fun q=>(o1 p.1 q.1 q.2).bind fun u=>(ZcV u.1 u.2).bind fun b=>if b then(h ρ u.2).bind fun x=>(o2 q.1 x.1 x.2).bind fun y=>(ZcV y.1 y.2).map fun c=>(c,y.2)else some (false,u.2)
section
variable {prog:Program} {w:World} {Γ:Cx}
theorem Zu6{e1 e2 e3:Expr}{op1 op2:CmpOp}{pos:Pos}{f g h:Ex}{o1 o2:V→V→Hp→Option (V×Hp)}(h1:J prog w Γ e1 f)(h2:J prog w Γ e2 g)(h3:J prog w Γ e3 h)(k1:Op2 prog w (compareOp op1) o1)(k2:Op2 prog w (compareOp op2) o2)(hm:lastMarks [op1,op2] [e2,e3]=false:=by with_unfolding_all rfl): JT prog w Γ (.Compare e1 [op1,op2] [e2,e3] pos) (ZgW o1 o2 f g h):=by
 intro W ρ H fr s Q E b H' r hf post
 obtain⟨p,a1,hf⟩:=Zz0.mp hf
 obtain⟨q,a2,hf⟩:=Zz0.mp hf
 obtain⟨u,a3,hf⟩:=Zz0.mp hf
 obtain⟨c,a4,hf⟩:=Zz0.mp hf
 refine isTrue_chain (h1 W ρ H fr s _ E _ _ r a1 fun W1 n1 t1 x l1 r1 x1=>?_) hm
 refine test_link (h2 W1 ρ _ fr _ _ E _ _ r1 a2 fun W2 n2 t2 y l2 r2 y2=>?_)
 refine k1 Γ W2 ρ _ fr _ _ E _ _ x y _ _ r2 (x1.mono l2) y2 a3 fun W3 n3 t3 z l3 r3 z3=>?_
 refine truth Γ W3 ρ _ fr _ _ E _ z c r3 z3 a4 fun W4 n4 t4 l4 r4=>?_
 cases c with
 | false=>
  cases hf
  exact post W4 n4 t4 (((l1.trans l2).trans l3).trans l4) r4
 | true=>
  simp only[if_true]at hf
  obtain⟨v,a5,hf⟩:=Zz0.mp hf
  obtain⟨v2,a6,hf⟩:=Zz0.mp hf
  obtain⟨d,a7,a8⟩:=Zz1.mp hf
  cases a8
  refine test_last (h3 W4 ρ _ fr _ _ E _ _ r4 a5 fun W5 n5 t5 y5 l5 r5 x5=>?_)
  refine k2 Γ W5 ρ _ fr _ _ E _ _ y y5 _ _ r5 (((y2.mono l3).mono l4).mono l5) x5 a6 fun W6 n6 t6 z6 l6 r6 x6=>?_
  exact truth Γ W6 ρ _ fr _ _ E _ z6 b r6 x6 a7 fun W7 n7 t7 l7 r7=>post W7 n7 t7 ((((((l1.trans l2).trans l3).trans l4).trans l5).trans l6).trans l7) r7
end
end PM
end
section
set_option autoImplicit false
namespace TM
open PySem PM
section
variable {O N M K:List Nat} {u u' u'':Bool}
noncomputable def ZgX(q1 q2:T→T→Option T)(p1 p2 p3:PE): PB:=fun σ=>(p1 σ).bind fun x=>(p2 σ).bind fun y=>(q1 x y).bind fun z=>(Zb4 z).bind fun b=>if b then(p3 σ).bind fun v=>(q2 y v).bind Zb4 else some false
theorem Zu7{e1 e2 e3:Ex}{p1 p2 p3:PE}{q1 q2:T→T→Option T}{o1 o2:V→V→Hp→Option (V×Hp)}(k1:OA2 o1 q1)(k2:OA2 o2 q2)(x:E O N u e1 p1)(y:E O M u' e2 p2)(z:E O K u'' e3 p3): Bt O (ZgW o1 o2 e1 e2 e3) (ZgX q1 q2 p1 p2 p3):=fun c ρ σ H Φ b s h=>by
 obtain⟨t1,h1,h⟩:=Zz0.mp h
 obtain⟨t2,h2,h⟩:=Zz0.mp h
 obtain⟨t3,h3,h⟩:=Zz0.mp h
 obtain⟨b0,h4,h⟩:=Zz0.mp h
 obtain⟨v1,X,F,a1,a2,_,_⟩:=x c ρ σ H Φ t1 s h1
 obtain⟨v2,Y,G,b1,b2,_,_⟩:=y c ρ σ (H++X) Φ t2 (s.ext X) h2
 obtain⟨v3,c1,c2⟩:=k1 _ v1 v2 t1 t2 t3 F G (a2.ext Y) b2 h3
 have d1:=Zei c2 h4
 cases b0 with
 | false=>
  cases h
  exact⟨X++Y,by simp only[ZgW,a1,b1,Option.bind_some,c1,d1];simp⟩
 | true=>
  simp only[if_true]at h
  obtain⟨t5,h5,h⟩:=Zz0.mp h
  obtain⟨t6,h6,h⟩:=Zz0.mp h
  obtain⟨v5,Z,F5,e1,e2,_,_⟩:=z c ρ σ (H++X++Y) Φ t5 ((s.ext X).ext Y) h5
  obtain⟨v6,f1,f2⟩:=k2 _ v2 v5 t2 t5 t6 G F5 (b2.ext Z) e2 h6
  have g1:=Zei f2 h
  exact⟨X++Y++Z,by simp only[ZgW,a1,b1,Option.bind_some,c1,d1,if_true,e1,f1,g1,Option.map_some];simp⟩
noncomputable def OIn(o:List V→Hp→Option (V×Hp))(q:List T→Option T): Prop:=∀(H:Hp) (vs:List V) (ts:List T) (t:T) (F1:List Nat),RFs H vs ts F1→q ts=some t→∃v F,o vs H=some (v,H)∧RF H v t F∧F.Sublist F1
theorem Zwe{n:Nat}{es:Exs}{ps:PEs}{q:List T→Option T}{o:List V→Hp→Option (V×Hp)}(k:OIn o q)(x:Es O N u n es ps): E O N u (Zu o es) (Zr q ps):=fun c ρ σ H Φ t s h=>by
 obtain⟨ts,h1,h⟩:=Zz0.mp h
 obtain⟨_,vs,X,F,a1,a2,a3,a4⟩:=x c ρ σ H Φ ts s h1
 obtain⟨w,G,b1,b2,b3⟩:=k _ vs ts t F a2 h
 exact⟨w,X,G,by simp only[Zu,a1,Option.bind_some,b1],b2,fun a m=>a3 a (b3.subset m),fun hu=>(a4 hu).sublist b3⟩
theorem Zu8: OIn ZfB ZiF:=fun H vs ts t F r h=>by
 unfold ZiF at h
 split at h
 ·obtain⟨v,rfl,r'⟩:=r.one_inv
  cases r' with
  | @ref a vs1 _ F1 e hs=>cases h;exact⟨.tup vs1,F1,by simp only[ZfB,e,Option.map_some],.tup hs,List.sublist_cons_self _ _⟩
 ·obtain⟨v,rfl,r'⟩:=r.one_inv
  cases r' with
  | @tup vs1 _ _ hs=>cases h;exact⟨.tup vs1,_,by simp only[ZfB],.tup hs,List.Sublist.refl _⟩
 ·cases h
end
theorem Zxz{O O1 R J Ns:List Nat}{fr:Bool}{g:Src}{q:PG}{put:V→Lc→Option Lc}{pput:T→TL→Option TL}{b:Sm}{qb:PS}(hg:Gs O Ns g q)(hj:PutOk O J put pput)(hj1:PutOk O1 J put pput)(hJ:∀i∈J,i∉O)(hJ1:∀i∈J,i∉O1)(hN:∀i∈Ns,i∉O)(hb:S O O1 R fr b qb)(hb1:S O1 O1 R fr b qb): S O O1 R fr (ZaM g put b) (Zjq q pput qb):=fun c ρ σ H Φ r s h=>by
 obtain⟨ts,h1,h⟩:=Zz0.mp h
 obtain⟨nx,X,vs,F,G,g1,g2,g3,g4,g5⟩:=hg c ρ σ H Φ ts s h1
 split at h
 ·cases h
 ·rename_i hne
  cases ts with
  | nil=>exact absurd rfl hne
  | cons t rs=>
   cases g2 with
   | @cons v _ F1 ws _ F2 a b'=>
   have sx:=s.ext X
   have hsrc:∀a∈G,c.H0.length≤a∨c.P a:=fun a m=>s.from_src (g4 a m).2
   have hoff:∀a∈G,¬Held O σ Φ a:=fun a m ⟨k,hk,⟨t,e⟩,q⟩=>s.from_off hN (g4 a m).2 hk e q
   obtain⟨σ1,p0,h⟩:=Zz0.mp h
   obtain⟨r1,h2,h⟩:=Zz0.mp h
   obtain⟨ρ1,Φ1,p1,s1,p3,p4⟩:=hj c ρ σ (H++X) Φ v t F1 σ1 sx a (fun x m=>hsrc x (g3 x (Zz4 _ m))) (fun k hk t' e x m q=>hoff x (g3 x (Zz4 _ q)) ⟨k,hk,⟨t',e⟩,m⟩) p0
   have hh:∀x,Held O σ1 Φ1 x→Held O σ Φ x:=fun x ⟨k,hk,⟨t',e⟩,m⟩=>by
    obtain⟨q1,q2⟩:=p3 k fun q=>hJ k q hk
    exact⟨k,hk,⟨t',q1▸e⟩,q2▸m⟩
   obtain⟨ρ2,K2,Φ2,w1,w2,w3⟩:=hb c ρ1 σ1 (H++X) Φ1 r1 s1 h2
   have e0:nx 0 (H++X)=some (some v):=by have:=g5 (H++X) (fun _ _=>rfl) 0 (Nat.zero_le _);simpa using this
   have estep:ZaM g put b ρ H=(b ρ1 (H++X)).bind fun q=>match q.1 with
     | some _=>some q
     | none=>Zds nx put b (rs.length+1) 1 q.2.1 q.2.2:=by
    simp only[ZaM,g1,Option.bind_some,List.length_cons]
    show(nx 0 (H++X)).bind _=_
    rw[e0]
    first | (simp only[Option.bind_some,p1];done) | (simp only[Option.bind_some,p1];rfl)
   rw[estep]
   refine Aft.grow (X:=X) ?_
   rcases w3 with⟨k1,k2,k3,k4⟩ | ⟨t',v',F',k1,k2,k3⟩
   ·rw[k1]at h
    have hG2:∀a∈G,K2[a]?=(H++X)[a]?:=fun x m=>w2 x (g4 x m).1 fun q=>hoff x m (hh x q)
    have hoff2:∀a∈G,¬Held O1 r1.2 Φ2 a:=fun x m q=>by
     rcases k4 x q with q | q
     ·have:=(g4 x m).1;omega
     ·exact hoff x m (hh x q)
    have ih:=Znn hj1 hJ1 hb1 (H1:=H++X) (fun a m=>(g4 a m).1) hsrc g5 rs ws 1 ρ2 r1.2 K2 Φ2 F2 r (fun j=>by rw[Nat.add_comm];simp) (by simp;omega) k3 w1 hG2 hoff2 (b'.frame fun x m=>hG2 x (g3 x (Zz3 _ m))) (fun x m=>g3 x (Zz3 _ m)) h
    rw[k2]
    simp only[Option.bind_some]
    obtain⟨ρ3,K3,Φ3,l1,l2,l3⟩:=ih
    refine⟨ρ3,K3,Φ3,by omega,fun x hx hn=>?_,?_⟩
    ·rw[l2 x (by omega) fun q=>(k4 x q).elim (fun q=>by omega) fun q=>hn (hh x q),w2 x hx fun q=>hn (hh x q)]
    ·rcases l3 with⟨m1,m2,m3,m4⟩ | l
     ·refine .inl ⟨m1,m2,m3,fun x q=>?_⟩
      rcases m4 x q with q | q
      ·exact .inl (by omega)
      ·exact(k4 x q).imp id (hh x)
     ·exact .inr l
   ·rw[k1]at h
    cases h
    refine⟨ρ2,K2,Φ2,w1,fun x hx hn=>w2 x hx fun q=>hn (hh x q),.inr ⟨t',v',F',k1,?_,k3⟩⟩
    rw[k2]
    rfl
section
variable {σ:TL} {Q:T→Prop} {B:Bool→Prop} {R:T→Prop} {N:TL→Prop}
theorem Zu9{q1 q2:T→T→Option T}{f g h:PE}(k:Pk (f σ) fun x=>Pk (g σ) fun y=>Pk (q1 x y) fun z=>Pb (Zb4 z) fun b=>(b=true→Pk (h σ) fun v=>Pk (q2 y v) fun w=>Pb (Zb4 w) B)∧(b=false→B false)): Pb (ZgX q1 q2 f g h σ) B:=by
 obtain⟨x,a1,y,a2,z,a3,b,a4,k1,k2⟩:=k
 cases b with
 | false=>exact⟨false,by simp[ZgX,a1,a2,a3,a4],k2 rfl⟩
 | true=>
  obtain⟨v,b1,w,b2,c,b3,q⟩:=k1 rfl
  exact⟨c,by simp[ZgX,a1,a2,a3,a4,b1,b2,b3],q⟩
theorem Zwf{g:PG}{j n:Nat}{a:Nat→T}{b:PS}(hn:0<n)(hg:Pl (g σ) fun ts=>ts=tab n a)(P:Nat→TL→Prop)(h0:P 0 σ)(h1:∀i σ,i<n→P i σ→Psk (b (Zaa σ j (a i))) R (P (i+1)))(h2:∀σ,P n σ→N σ): Psk (Zjq g (Zac j) b σ) R N:=by
 obtain⟨o,s,e,q⟩:=ZbU (R:=R) (N:=N) (b:=b) (j:=j) hg P h0 h1 h2
 obtain⟨ts,e1,rfl⟩:=hg
 refine⟨o,s,?_,q⟩
 have hne:tab n a≠[]:=fun h=>by have:=congrArg List.length h;rw[Zas]at this;simp at this;omega
 simp only[Zjq,e1,Option.bind_some,hne,if_false]
 simpa only[ZaB,e1,Option.bind_some]using e
end
end TM
end
section
set_option autoImplicit false
namespace TM
open PySem PM
theorem Zui{fr:Bool}: SimF fr (fun _ _=>none) (fun _=>none):=by
 intro H vs ts t F1 hp r h
 cases h
end TM
end
section
set_option autoImplicit false
namespace TM
open PySem PM
noncomputable def Keep0(g:Sm): Prop:=∀ρ H r,g ρ H=some r→r.2.1 0=ρ 0
theorem Keep0.next: Keep0 Z1:=fun ρ H r h=>by cases h;rfl
theorem ZmF{e:Ex}: Keep0 (Zcz e):=fun ρ H r h=>by
 obtain⟨_,_,q⟩:=Zz1.mp h
 subst q;rfl
theorem Keep0.ret{e:Ex}: Keep0 (ZG e):=fun ρ H r h=>by
 obtain⟨_,_,q⟩:=Zz1.mp h
 subst q;rfl
theorem Keep0.put{f o i:Ex}: Keep0 (ZbI f o i):=fun ρ H r h=>by
 obtain⟨_,_,h⟩:=Zz0.mp h
 obtain⟨_,_,h⟩:=Zz0.mp h
 obtain⟨_,_,h⟩:=Zz0.mp h
 obtain⟨_,_,q⟩:=Zz1.mp h
 subst q;rfl
theorem Keep0.seq{a b:Sm}(x:Keep0 a)(y:Keep0 b): Keep0 (Zv a b):=fun ρ H r h=>by
 obtain⟨r1,e1,h⟩:=Zz0.mp h
 have h1:=x ρ H r1 e1
 split at h
 ·cases h;exact h1
 ·exact(y _ _ _ h).trans h1
theorem ZmG{t:Ts}{a b:Sm}(x:Keep0 a)(y:Keep0 b): Keep0 (ZW t a b):=fun ρ H r h=>by
 obtain⟨p,_,h⟩:=Zz0.mp h
 split at h
 ·exact x _ _ _ h
 ·exact y _ _ _ h
theorem Keep0.set{i:Nat}{e:Ex}(hi:0≠i): Keep0 (ZN i e):=fun ρ H r h=>by
 obtain⟨_,_,q⟩:=Zz1.mp h
 subst q
 simp[upd,hi]
noncomputable def SimM(f:List V→Hp→Option (V×Hp))(p:List T→Option T): Prop:=∀(H:Hp) (v:V) (vs:List V) (t:T) (ts:List T) (t':T) (F0 F1:List Nat),0<H.length→RF H v t F0→F0.Nodup→0∉F0→RFs H vs ts F1→(∀a∈F0,a∉F1)→p (t::ts)=some t' →
 ∃w H' F',f (v::vs) H=some (w,H')∧H.length≤H'.length∧(∀a,a<H.length→a∉F0→H'[a]?=H[a]?)∧RF H' v t' F'∧F'.Nodup∧∀a∈F',H.length≤a∨a∈F0
noncomputable def Ze2(n:Nat)(q:PS): List T→Option T:=fun ts=>if ts.length=n then(q fun i=>ts[i]?).bind fun r=>r.2 0 else none
theorem ZnN{O':List Nat}{n:Nat}{g:Sm}{q:PS}(h:S [0] O' [0] false g q)(h0:0∈O')(hk:Keep0 g): SimM (Z9 n g) (Ze2 n q):=fun H v vs t ts t' F0 F1 hp r0 nd n0 rs dj e=>by
 unfold Ze2 at e
 split at e
 ·rename_i hl
  obtain⟨r1,e1,e2⟩:=Zz0.mp e
  obtain⟨Φ,hΦ⟩:=rs.slots
  have st:St ⟨H,F0,fun a=>a∈F0∨a∈F1⟩ [0] (fun i=>(v::vs)[i]?) (fun i=>(t::ts)[i]?) H (fun i=>match i with | 0=>F0 | i+1=>Φ i):=by
   refine⟨fun i u e=>?_,fun i u e a m=>?_,fun i hi u e=>?_,Nat.le_refl _,fun a _ _=>rfl,hp,n0⟩
   ·cases i with
    | zero=>simp at e;subst e;exact⟨v,rfl,r0⟩
    | succ i=>
     simp at e
     obtain⟨w,h1,h2,_⟩:=hΦ i u e
     exact⟨w,by simpa using h1,h2⟩
   ·cases i with
    | zero=>exact .inr (.inl m)
    | succ i=>
     simp at e
     obtain⟨w,h1,h2,h3⟩:=hΦ i u e
     exact .inr (.inr (h3 a m))
   ·have:i=0:=by simpa using hi
    subst this
    refine⟨nd,fun a m=>.inr m,fun j u' hj ej a m=>?_⟩
    cases j with
    | zero=>exact absurd rfl hj
    | succ j=>
     simp at ej
     obtain⟨w,h1,h2,h3⟩:=hΦ j u' ej
     exact fun q=>dj a m (h3 a q)
  obtain⟨ρ',H',Φ',h1,h2,h3⟩:=h _ _ _ _ _ _ st e1
  have hv:(v::vs).length=n:=by rw[←hl];simp[rs.length]
  have go:∀(o:Option V) (O2:List Nat),0∈O2→g (fun i=>(v::vs)[i]?) H=some (o,ρ',H')→St ⟨H,F0,fun a=>a∈F0∨a∈F1⟩ O2 ρ' r1.2 H' Φ'→∃w H' F',Z9 n g (v::vs) H=some (w,H')∧H.length≤H'.length∧(∀a,a<H.length→a∉F0→H'[a]?=H[a]?)∧RF H' v t' F'∧F'.Nodup∧∀a∈F',H.length≤a∨a∈F0:=by
   intro o O2 hO eg s2
   obtain⟨v',ev,rv⟩:=s2.slot 0 t' e2
   have kk:=hk _ _ _ eg
   have:v'=v:=by
    have k2:ρ' 0=some v:=kk
    rw[ev]at k2
    cases k2
    rfl
   subst this
   obtain⟨o1,o2,_⟩:=s2.own 0 hO t' e2
   exact⟨o.getD .none,H',Φ' 0,by simp only[Z9,hv,if_true,eg,Option.map_some],h1,s2.keep,rv,o1,o2⟩
  rcases h3 with⟨k1,k2,k3,k4⟩ | ⟨u,v',F',k1,k2,k3,k4,k5,k6⟩
  ·exact go none O' h0 k2 k3
  ·exact go (some v') [0] List.mem_cons_self k2 k4
 ·cases e
noncomputable def Zet(x:Nat)(p:List T→Option T)(ps:PEs): PS:=fun σ=>(ps σ).bind fun ts=>(σ x).bind fun t=>(p (t::ts)).map fun t'=>(none,Zaa σ x t')
section
variable {O O' R N:List Nat} {fr u:Bool}
theorem ZgY{x n:Nat}{f:List V→Hp→Option (V×Hp)}{p:List T→Option T}{es:Exs}{ps:PEs}(hx:x∈O)(k:SimM f p)(y:Es O N u n es ps)(hN:x∉N)(hO:∀j∈O',j∈O): S O O' R fr (Zcz (Zu f (Zf (Zb x) es))) (Zet x p ps):=fun c ρ σ H Φ r s q=>by
 obtain⟨ts,h1,q⟩:=Zz0.mp q
 obtain⟨t,h2,q⟩:=Zz0.mp q
 obtain⟨t',h3,q⟩:=Zz1.mp q
 subst q
 obtain⟨v,ev,rv⟩:=s.slot x t h2
 obtain⟨o1,o2,o3⟩:=s.own x hx t h2
 have hlow:∀k t,σ k=some t→∀a∈Φ k,a<H.length:=fun k t e a m=>by
  obtain⟨_,_,r⟩:=s.slot k t e
  exact r.lt a m
 obtain⟨_,vs,X,F,a1,a2,a3,_⟩:=y c ρ σ H Φ ts s h1
 have hp:0<(H++X).length:=by have:=s.pos;have:=s.len;rw[List.length_append];omega
 have hlen:(H++X).length=H.length+X.length:=List.length_append
 have dj:∀a∈Φ x,a∉F:=fun a m q=>by
  rcases a3 a q with h | ⟨j,hj,⟨tj,ej⟩,mj⟩
  ·have:=hlow x t h2 a m;omega
  ·exact o3 j tj (fun e=>hN (e▸hj)) ej a m mj
 obtain⟨w,H',F',b1,b2,b3,b4,b5,b6⟩:=k (H++X) v vs t ts t' (Φ x) F hp (rv.ext X) o1 (fun m=>ZnH s hx h2 m rfl) a2 dj h3
 have same:∀a,a<H.length→a∉Φ x→H'[a]?=H[a]?:=fun a ha hn=>by
  rw[b3 a (by omega) hn,List.getElem?_append_left ha]
 have eg:Zcz (Zu f (Zf (Zb x) es)) ρ H=some (none,ρ,H'):=by
  simp only[Zcz,Zu,Zf,Zb,ev,Option.map_some,Option.bind_some,a1,b1]
 refine⟨ρ,H',Zan Φ x F',by omega,fun a ha hn=>same a ha fun m=>hn ⟨x,hx,⟨t,h2⟩,m⟩,.inl ⟨rfl,eg,⟨fun i u' e=>?_,fun i u' e a m=>?_,fun i hi u' e=>?_,by have:=s.len;omega,fun a ha hn=>?_,s.pos,s.f0⟩,fun a hh=>?_⟩⟩
 ·by_cases c1:i=x
  ·subst c1
   simp only[Zaa,if_true,Option.some.injEq]at e
   subst e
   exact⟨v,ev,by simpa [Zan]using b4⟩
  ·simp only[Zaa,c1,if_false]at e
   obtain⟨v2,e2,r2⟩:=s.slot i u' e
   refine⟨v2,e2,?_⟩
   simp only[Zan,c1,if_false]
   exact r2.frame fun a m=>same a (hlow i u' e a m) fun q=>o3 i u' c1 e a q m
 ·by_cases c1:i=x
  ·subst c1
   simp only[Zan,if_true]at m
   rcases b6 a m with h | h
   ·exact .inl (by have:=s.len;omega)
   ·exact s.src i t h2 a h
  ·simp only[Zaa,c1,if_false]at e
   simp only[Zan,c1,if_false]at m
   exact s.src i u' e a m
 ·by_cases c1:i=x
  ·subst c1
   refine⟨by simpa [Zan]using b5,fun a m=>?_,fun j u2 hj ej a m=>?_⟩
   ·simp only[Zan,if_true]at m
    rcases b6 a m with h | h
    ·exact .inl (by have:=s.len;omega)
    ·exact o2 a h
   ·simp only[Zan,if_true]at m
    simp only[Zaa,hj,if_false]at ej
    simp only[Zan,hj,if_false]
    intro q
    have hq:=hlow j u2 ej a q
    rcases b6 a m with h | h
    ·omega
    ·exact o3 j u2 hj ej a h q
  ·simp only[Zaa,c1,if_false]at e
   obtain⟨q1,q2,q3⟩:=s.own i (hO i hi) u' e
   refine⟨by simpa [Zan,c1]using q1,fun a m=>?_,fun j u2 hj ej a m=>?_⟩
   ·simp only[Zan,c1,if_false]at m
    exact q2 a m
   ·simp only[Zan,c1,if_false]at m
    by_cases c2:j=x
    ·subst c2
     simp only[Zan,if_true]
     intro q
     have hm:=hlow i u' e a m
     rcases b6 a q with h | h
     ·omega
     ·exact q3 j t hj h2 a m h
    ·simp only[Zaa,c2,if_false]at ej
     simp only[Zan,c2,if_false]
     exact q3 j u2 hj ej a m
 ·have hs:=s.keep a ha hn
  rw[same a (by have:=s.len;omega) fun m=>?_]
  ·exact hs
  ·rcases o2 a m with h | h
   ·omega
   ·exact hn h
 ·obtain⟨j,hj,⟨u',e⟩,m⟩:=hh
  by_cases c1:j=x
  ·subst c1
   simp only[Zan,if_true]at m
   rcases b6 a m with h | h
   ·exact .inl (by omega)
   ·exact .inr ⟨j,hx,⟨t,h2⟩,h⟩
  ·simp only[Zaa,c1,if_false]at e
   simp only[Zan,c1,if_false]at m
   exact .inr ⟨j,hO j hj,⟨u',e⟩,m⟩
end
section
variable {σ:TL} {R:T→Prop} {N:TL→Prop}
theorem ZgZ{x:Nat}{p:List T→Option T}{ps:PEs}{t:T}(e:σ x=some t)(h:Pl (ps σ) fun ts=>Pk (p (t::ts)) fun t'=>N (Zaa σ x t')): Psk (Zet x p ps σ) R N:=by
 obtain⟨ts,e1,t',e2,q⟩:=h
 exact⟨none,Zaa σ x t',by simp only[Zet,e1,e,Option.bind_some,e2,Option.map_some],by simp,fun _=>q⟩
theorem ZnO{n:Nat}{q:PS}{ts:List T}{Q:T→Prop}(hn:ts.length=n)(h:Psk (q fun i=>ts[i]?) (fun _=>False) fun σ=>∃t,σ 0=some t∧Q t): Pk (Ze2 n q ts) Q:=by
 obtain⟨o,s,e,h1,h2⟩:=h
 cases o with
 | none=>
  obtain⟨t,e2,q2⟩:=h2 rfl
  exact⟨t,by simp only[Ze2,hn,if_true,e,Option.bind_some,e2],q2⟩
 | some u=>exact absurd (h1 u rfl) (by simp)
end
end TM
end
section
set_option autoImplicit false
namespace PM
open PySem PySem.W PySem.Calls PyProof.Rows PyProof PyProof.Rows.LCg PyProof.Rows.LCp
section
variable {prog:Program} {w:World} {Γ:Cx}
theorem Ztf{elt iter:Expr}{x x₂ y:Str}{px px₂ tp py pos spos:Pos}{kt:Nat}{scope:Scope}{cl:List (Str×Addr)}{t t₂ i:Nat}{g:Src}{f:Ex}(hy:Sto prog w Γ y i)(hg:JI2 prog w Γ iter g)(hel:∀C ρ,J prog w (Zbz Γ scope cl C [(x,t),(x₂,t₂)] ρ) elt f)
  (hsw:swapsWith (.ListComp elt [⟨.Tuple [.Name x px,.Name x₂ px₂] kt tp,iter,[],0⟩] scope pos) (some (.Name y py)) spos.line Γ.env=pure true)
  (hclos:closureFor scope Γ.env=pure cl) (hcell:∀y∈scope.names,y.2≠.cell) (hkind:scope.kind=.function) (hnames:∀y∈scope.names,y.2=.local→scope.names.lookup y.1=some .local) (hx:scope.names.lookup x=some .local) (hx₂:scope.names.lookup x₂=some .local) (hxx:x≠x₂) (htt:t≠t₂) (hs:∀x,foldedSetIterable iter Γ.env x=pure x:=by intro _;rfl):
  S1 prog w Γ (.Assign [.Name y py] (.ListComp elt [⟨.Tuple [.Name x px,.Name x₂ px₂] kt tp,iter,[],0⟩] scope pos) spos) (ZN i (ZaI g (ZcA t t₂) Zam f)):=by
 intro W ρ H fr s Q E r rp hf post
 obtain⟨p,e0,e9⟩:=Zz1.mp hf
 cases e9
 obtain⟨z,e1,hf⟩:=Zz0.mp e0
 obtain⟨q,e2,e3⟩:=Zz1.mp hf
 cases e3
 rw[exec_Assign_Name_used _ _ _ _ hsw]
 refine wpAny_bind (wpAny_standAt (wpAny_bind ?_))
 show wpAny _ Γ.A (do let _ ←comprehension (.ListComp elt [⟨.Tuple [.Name x px,.Name x₂ px₂] kt tp,iter,[],0⟩] scope pos) scope Γ.env _ (newList []) false (eval iter Γ.env) (some (assign (.Name y py) Γ.env))) _ _ s
 refine wpAny_bind (wpAny_mono (wpAny_comprehension_free (use:=some (assign (.Name y py) Γ.env)) (Q:=fun _ s'=>Q .next s') rfl hs hclos hkind hnames ?_) (fun _ s' h'=>wpAny_pure (wpAny_pure h')) fun _ _ e=>e)
 refine Zpv (RR:=fun acc C=>compPost (model prog w) Γ.A E (some (assign (.Name y py) Γ.env)) (fun _ s'=>Q .next s') acc C) hg hel hcell hkind hx hx₂ hxx htt rp (q:=q) (by rw[e1];exact e2) fun W2 h' tk' C D oC m₂ ys l2 hC hv hl aD aC cd r3=>?_
 have r4:Rep Γ W2 ρ q.2 ((D,lst ys)::(C,oC)::fr) h':=r3.less fun t ht=>by
  rcases Zz7.mp ht with e | ht
  ·exact e▸List.mem_cons_of_mem _ Zz5
  ·rcases Zz7.mp ht with e | ht
   ·exact e▸List.mem_cons_self
   ·exact Zz2 _ (Zz2 _ ht)
 obtain⟨W5,l5,r5,v5⟩:=Zgr r4 (fun t ht=>by
  rcases Zz7.mp ht with e | ht
  ·rw[e]
   exact cd.symm
  ·exact aD t ht) hv hl
 refine wpAny_assign_Name (hy W5 ρ _ _ _ _ _ _ _ r5 v5 fun h6 t6 r6=>?_)
 refine⟨m₂,hC.ns (r6.frAt (q:=(C,oC)) Zz5),fun h'' sb=>?_⟩
 have r7:Rep Γ W5 (upd ρ i (.ref q.2.length)) (q.2++[q.1]) ([]++fr) h'':=
  Rep.swap (fs:=[(C,oC)]) (fs':=[]) r6 (fun q hq t ht=>by rw[List.mem_singleton.mp hq];exact aC t ht) (fun b o hb e=>sb.extBut b o (fun z=>hb (by simp[z])) e) fun q hq=>nomatch hq
 exact post W5 h'' t6 (l2.trans l5) r7
end
end PM
end
section
set_option autoImplicit false
namespace PM
open PySem PySem.W PySem.Calls PyProof.Rows PyProof
noncomputable def Zdv(ns:List Int): List Int:=ns.mergeSort fun a b=>decide (a≤b)
theorem Zqh{ns ms:List Int}(h1:ms.Perm ns)(h2:ms.Pairwise (·≤·)): ms=Zdv ns:=by
 refine List.Perm.eq_of_pairwise (le:=fun a b:Int=>a≤b) (fun a b _ _ h h'=>Int.le_antisymm h h') h2 ?_ (h1.trans (List.mergeSort_perm ns _).symm)
 have:=List.pairwise_mergeSort (le:=fun a b:Int=>decide (a≤b)) (fun a b c h h'=>by simp at *;omega) (fun a b=>by simp;omega) ns
 unfold Zdv
 simpa using this
theorem Zuj{ns:List Int}: (Zdv ns).length=ns.length:=(List.mergeSort_perm ns _).length_eq
theorem ZnP{W:Wd}: ∀{vs:List V} {xs:List Value} {ks:List Int},VRs W vs xs→ZdF vs=some ks→IntsAre xs ks:=by
 intro vs
 induction vs with
 | nil=>intro xs ks h e;cases h;cases e;exact .nil
 | cons v vs ih=>
  intro xs ks h e
  cases h with
  | cons a b=>
   cases v with
   | int i=>
    obtain⟨js,e1,e2⟩:=Zz1.mp e
    subst e2
    cases a with
    | int _ t=>exact .cons i t (ih b e1)
   | none=>cases e
   | bool=>cases e
   | str=>cases e
   | tup=>cases e
   | ref=>cases e
theorem ZqS{W:Wd}: ∀{xs:List Value} {ks:List Int},IntsAre xs ks→VRs W (ks.map V.int) xs
 | _,_,.nil=>.nil
 | _,_,.cons n t r=>.cons (.int n t) (ZqS r)
noncomputable def ZgM: List V→Hp→Option (V×Hp)
 | [.ref a],H=>H[a]?.bind fun vs=>(ZdF vs).bind fun ns=>if vs.length<64 then some (.ref H.length,H++[(Zdv ns).map V.int])else none
 | _,_=>none
section
variable {prog:Program} {w:World}
theorem Zuk: OpN prog w (fun xs=>call (.builtin "sorted") xs) ZgM:=by
 intro Γ W ρ H fr s Q E as xs v H' r hx ho post
 unfold ZgM at ho
 split at ho
 ·obtain⟨vs,e1,ho⟩:=Zz0.mp ho
  obtain⟨ks,e3,ho⟩:=Zz0.mp ho
  split at ho
  ·rename_i h64
   cases ho
   obtain⟨x,ex,rx⟩:=hx.one
   subst ex
   cases rx with
   | @ref _ a ea=>
    obtain⟨hl,ys,k,hg,hv⟩:=r.at e1 ea
    have isl:s.heap.IsList a ys.toArray:=⟨_,hg,rfl,k,rfl⟩
    refine sorted_ints isl (ZnP hv e3) (by rw[hv.length];exact h64) fun out ms a1 a2 a3=>?_
    have em:=Zqh a2 a3
    subst em
    obtain⟨q,hq⟩:=sortedAll_at s.heap ys out
    have hlen:ks.length=vs.length:=by rw[←hv.length];exact(ZnP hv e3).length.symm
    obtain⟨r2,ap⟩:=r.more (h':=sortedAll s.heap ys out) (fs:=[(s.heap.objs.size+1,Zb7 out.toList q)]) (fun b o hb=>sortedAll_old hb) (fun u hu=>by
     rw[List.mem_singleton.mp hu]
     refine⟨?_,Nat.le_succ _⟩
     rw[hq])
    obtain⟨W2,l2,r3,v3⟩:=Zgr r2 (fun t ht=>ap _ Zz5 t ht) (ZqS a1) (by rw[List.length_map,Zuj,hlen];exact hl)
    exact post W2 _ s.toks _ l2 r3 v3
  ·cases ho
 ·cases ho
end
end PM
namespace PM
open PySem PySem.W PySem.Calls PyProof.Rows PyProof PySem.SeqAt
open SeqRoads2 MeetsSeq3 MeetsSeq2 MeetsSeq AutoSeq1
theorem ZtB(l:Addr)(its:Array Value)(n:Nat)(dd:Option Addr)(sl:Array (Option Value))(x:Value)(tk:Tok)(e:Value→Bool)(j:Nat)(hj:j<its.size)(h1:1≤j)(small:(j:Int)<2 ^ 63-1)
  (hit:e its[j]=true) (no:∀m (hm:m<its.size),1≤m→m<j→e its[m]=false):
  Meets (Builtin.«list.index» ⟨[.ref l,x,.int 1 tk],[]⟩) fun A R s=>s.heap.get? l=some { cls:=.type "list",dict:=dd,data:=.seq its n,slots:=sl }∧(∀y,y∈its→EqAt A.in1 s y x (e y))∧R (.ok (.ret (.int j s.toks))) { s with toks:=s.toks+1 }:=by
 intro prog w A R s h
 obtain⟨hp,g,d,tk',os⟩:=s
 obtain⟨hq0,he,h⟩:=h
 wp_walk using wpAny_loadPart' hq0
 have b1:((fun i:Int=>if i<0 then max 0 (i+(its.size:Int))else i) ((some (1:Int)).getD 0))=((1:Nat):Int):=by simp
 have b2:((fun i:Int=>if i<0 then max 0 (i+(its.size:Int))else i) ((Option.none:Option Int).getD (2 ^ 63-1)))=2 ^ 63-1:=by simp
 rw[b1,b2]
 refine⟨plainId_quiet plain_index_loop _,codeAny_builtin entry_index_loop ?_⟩
 rw[Around.under_plainId plain_index_loop _];exact index_loopAt l its n dd sl x e (2 ^ 63-1) j hj small hit _ 1 rfl h1 no prog w A R _ ⟨hq0,he,h⟩
section
variable {prog:Program} {w:World} {A:Around} {E:Value→Shared→Prop} {s:Shared}
theorem Ztg{l:Addr}{vs:List Value}{ns:List Int}{k:Int}{t t':Tok}{Q:Value→Shared→Prop}(hl:s.heap.IsList l vs.toArray)(hi:IntsAre vs ns)(hn:ns.length≤100000)(hk:k∈ns.drop 1)
  (h:Q (.int ((1+(ns.drop 1).idxOf k:Nat)) s.toks) { s with toks:=s.toks+1 }):wpAny (model prog w) A (call (.builtin "list.index") [.ref l,.int k t,.int 1 t']) Q E s:=by
 obtain⟨⟨c0,dd,da,sl⟩,ho,ec,n,ed⟩:=id hl
 simp only at ec ed
 subst ec ed
 have hlen:=hi.length
 have hj:(ns.drop 1).idxOf k<(ns.drop 1).length:=List.idxOf_lt_length_iff.mpr hk
 have hj':1+(ns.drop 1).idxOf k<ns.length:=by rw[List.length_drop]at hj;omega
 refine call_meets PySem.F.slot_list_index ⟨_,ho,rfl⟩ PySem.F.entry_list_index (PySem.F.args_list_index_3 _ _ _) (ZtB l vs.toArray n dd sl (.int k t) t' (isInt k) (1+(ns.drop 1).idxOf k) (by simpa [hlen]using hj') (by omega) (by omega) ?_ ?_) ⟨ho,fun y hy=>(eq_isInt k t hi y (by simpa using hy)).at _ _,h⟩
 ·show isInt k vs[1+(ns.drop 1).idxOf k]=true
  rw[isInt_at k hi _ (by omega) hj']
  have:=List.getElem_idxOf hj
  rw[List.getElem_drop]at this
  simpa using this
 ·intro m hm h1 h2
  show isInt k vs[m]=false
  rw[isInt_at k hi m (by simpa using hm) (by have:=hm;simp[hlen]at this;omega)]
  have hm':m-1<(ns.drop 1).length:=by rw[List.length_drop];omega
  have:=ne_of_lt_idxOf (k:=k) (ns:=ns.drop 1) (j:=m-1) (by omega) hm'
  rw[List.getElem_drop]at this
  simpa [show 1+(m-1)=m by omega]using this
end
noncomputable def Zi5: V→V→V→Hp→Option (V×Hp)
 | .ref a,.int k,.int b,H=>H[a]?.bind fun vs=>(ZdF vs).bind fun ns=>if b=1∧k∈ns.drop 1 then some (.int ((1+(ns.drop 1).idxOf k:Nat):Int),H)else none
 | _,_,_,_=>none
noncomputable def Zg0(f g h:Ex): Ex:=fun ρ H=>(f ρ H).bind fun p=>(g ρ p.2).bind fun q=>(h ρ q.2).bind fun u=>Zi5 p.1 q.1 u.1 u.2
section
variable {prog:Program} {w:World} {Γ:Cx}
theorem Zth{a b c:V}{H:Hp}{r:V×Hp}(h:Zi5 a b c H=some r): ∃i k vs ns,a=.ref i∧b=.int k∧c=.int 1∧H[i]?=some vs∧ZdF vs=some ns∧k∈ns.drop 1∧r=(.int ((1+(ns.drop 1).idxOf k:Nat):Int),H):=by
 unfold Zi5 at h
 split at h
 ·obtain⟨vs,e1,h⟩:=Zz0.mp h
  obtain⟨ns,e2,h⟩:=Zz0.mp h
  split at h
  ·rename_i q
   cases h
   obtain⟨rfl,q⟩:=q
   exact⟨_,_,vs,ns,rfl,rfl,rfl,e1,e2,q,rfl⟩
  ·cases h
 ·cases h
theorem J.index{o e1 e2:Expr}{apos pos:Pos}{f g k:Ex}(ho:J prog w Γ o f)(h1:J prog w Γ e1 g)(h2:J prog w Γ e2 k)(hbase:attributeBase o "index" Γ.env (eval o Γ.env)=eval o Γ.env:=by rfl)
  (hline:(apos.endLine == pos.line)=true:=by rfl) (htrees:backTo pos (starEach [e1,e2] Γ.env)=[(false,eval e1 Γ.env),(false,eval e2 Γ.env)]:=by rfl) (hstay:∀ρ H p,f ρ H=some p→∀q,g ρ p.2=some q→p.2=q.2:=by intro _ _ _ _ _ h;cases h;rfl) (hstay2:∀ρ H p,g ρ H=some p→∀q,k ρ p.2=some q→p.2=q.2:=by intro _ _ _ _ _ h;cases h;rfl):J prog w Γ (.Call (.Attribute o "index" apos) [e1,e2] [] pos) (Zg0 f g k):=by
 intro W ρ H fr s Q E v H' r hx post
 obtain⟨p,x1,hx⟩:=Zz0.mp hx
 obtain⟨q,x2,hx⟩:=Zz0.mp hx
 obtain⟨u,x3,x4⟩:=Zz0.mp hx
 obtain⟨i,kk,vs,ns,ea,eb,ec,hvs,hns,hmem,er⟩:=Zth x4
 refine wpAny_Call_method2_late hbase hline htrees (ho W ρ H fr s _ E _ _ r x1 fun W1 k1 t1 x l1 r1 y1=>?_)
 rw[ea]at y1
 have s1:=hstay ρ H p x1 q x2
 have s2:=hstay2 ρ p.2 q x2 u x3
 cases y1 with
 | @ref _ a aa=>
 obtain⟨hl,xs,n,hg,hv⟩:=r1.at (by rw[s1,s2];exact hvs) aa
 refine⟨"list","list.index",PySem.F.plainAttrs_list,PySem.F.slot_list_index,PySem.F.type_list_index,(show k1.IsList a xs.toArray from⟨_,hg,rfl,n,rfl⟩).typeIs,fun b eb=>by cases eb;exact⟨_,hg,rfl⟩,?_⟩
 refine Calls.callWith_builtin rfl (Calls.evalArgs_plain (Calls.spliced_cons ?_))
 refine h1 W1 ρ _ fr _ _ E _ _ r1 x2 fun W2 k2 t2 y l2 r2 y2=>Calls.spliced_cons ?_
 refine h2 W2 ρ _ fr _ _ E _ _ r2 x3 fun W3 k3 t3 z l3 r3 z3=>Calls.spliced_nil ?_
 rw[eb]at y2
 rw[ec]at z3
 cases y2 with
 | int _ ty=>
 cases z3 with
 | int _ tz=>
 obtain⟨hl3,xs3,n3,hg3,hv3⟩:=r3.at hvs (l3.at (l2.at aa))
 rw[Zbm]at hl3
 have hI:=ZnP hv3 hns
 refine Ztg ⟨_,hg3,rfl,n3,rfl⟩ hI (by rw[←hI.length,hv3.length];omega) hmem ?_
 have:=post W3 k3 (t3+1) (.int ((1+(ns.drop 1).idxOf kk:Nat):Int) t3) ((l1.trans l2).trans l3)
 cases er
 exact this r3 (.int _ _)
end
end PM
end
section
set_option autoImplicit false
namespace TM
open PySem PM
theorem Zqi{H:Hp}: ∀ks:List Int,RFs H (ks.map V.int) (ks.map T.int) []
 | []=>.nil
 | k::ks=>.cons (.int k) (Zqi ks)
noncomputable def ZiM: List T→Option T
 | [.lst ts]=>(Zdt ts).bind fun ns=>if ts.length<64 then some (.lst ((Zdv ns).map T.int))else none
 | _=>none
theorem Zva: OCn ZgM ZiM:=fun H vs ts t F hp r h=>by
 unfold ZiM at h
 split at h
 ·obtain⟨v,rfl,r'⟩:=r.one_inv
  cases r' with
  | ref e hs=>
   obtain⟨ks,h1,h⟩:=Zz0.mp h
   split at h
   ·rename_i h64
    cases h
    refine⟨_,[(Zdv ks).map V.int],_,?_,ZeZ (Zqi (Zdv ks)),fun a m=>?_,fun _=>?_⟩
    ·simp only[ZgM,e,Option.bind_some,ZiE hs h1]
     rw[if_pos (by rw[hs.length];exact h64)]
    ·rcases Zz7.mp m with rfl | m
     ·exact .inl (Zz10 _)
     ·cases m
    ·simp
   ·cases h
 ·cases h
noncomputable def Zg1(p q r:PE): PE:=fun σ=>(p σ).bind fun t=>(q σ).bind fun k=>(r σ).bind fun b=>match t,k,b with
 | .lst ts,.int k,.int b=>(Zdt ts).bind fun ns=>if b=1∧k∈ns.drop 1 then some (.int ((1+(ns.drop 1).idxOf k:Nat):Int))else none
 | _,_,_=>none
section
variable {O N M K:List Nat} {u u' u'':Bool}
theorem E.index{e1 e2 e3:Ex}{p1 p2 p3:PE}(x:E O N u e1 p1)(y:E O M u' e2 p2)(z:E O K u'' e3 p3): E O [] true (Zg0 e1 e2 e3) (Zg1 p1 p2 p3):=fun c ρ σ H Φ t s h=>by
 obtain⟨t1,h1,h⟩:=Zz0.mp h
 obtain⟨t2,h2,h⟩:=Zz0.mp h
 obtain⟨t3,h3,h⟩:=Zz0.mp h
 obtain⟨v1,X,F1,a1,a2,_,_⟩:=x c ρ σ H Φ t1 s h1
 obtain⟨v2,Y,F2,b1,b2,_,_⟩:=y c ρ σ (H++X) Φ t2 (s.ext X) h2
 obtain⟨v3,Z,F3,c1,c2,_,_⟩:=z c ρ σ (H++X++Y) Φ t3 ((s.ext X).ext Y) h3
 have a3:=(a2.ext Y).ext Z
 split at h
 ·obtain⟨ns,e1,h⟩:=Zz0.mp h
  split at h
  ·rename_i hc
   cases h
   cases b2
   cases c2
   cases a3 with
   | ref e hs=>
    refine⟨_,X++Y++Z,[],?_,.int _,by simp,by simp⟩
    have e':=e
    simp only[Zg0,a1,b1,c1,Option.bind_some,Zi5,e',ZiE hs e1]
    rw[if_pos hc]
    simp
  ·cases h
 ·cases h
end
section
variable {σ:TL} {Q:T→Prop}
end
end TM
end
section
set_option autoImplicit false
namespace TM
open PySem PM
theorem Zpy{nx:Nx}{put:V→Lc→Option Lc}{b:Sm}(hp:∀v ρ ρ',put v ρ=some ρ'→ρ' 0=ρ 0)(hb:Keep0 b): ∀n i,Keep0 (Zds nx put b n i)
 | 0,_=>fun _ _ _ h=>by cases h
 | n+1,i=>fun ρ H r h=>by
  obtain⟨o,_,h⟩:=Zz0.mp h
  split at h
  ·cases h;rfl
  ·obtain⟨ρ1,e1,h⟩:=Zz0.mp h
   obtain⟨q,e2,h⟩:=Zz0.mp h
   have k:=(hb _ _ _ e2).trans (hp _ _ _ e1)
   split at h
   ·cases h;exact k
   ·exact(Zpy hp hb n (i+1) _ _ _ h).trans k
theorem ZpS{g:Src}{put:V→Lc→Option Lc}{b:Sm}(hp:∀v ρ ρ',put v ρ=some ρ'→ρ' 0=ρ 0)(hb:Keep0 b): Keep0 (ZaM g put b):=fun ρ H r h=>by
 obtain⟨z,_,h⟩:=Zz0.mp h
 exact Zpy hp hb _ _ _ _ _ h
theorem Zpz{i:Nat}(hi:0≠i): ∀v ρ ρ',PM.put1 i v ρ=some ρ'→ρ' 0=ρ 0:=fun v ρ ρ' h=>by
 cases h
 simp[upd,hi]
end TM
end
section
set_option autoImplicit false
namespace PM
open PySem PySem.W PySem.Calls PyProof.Rows PyProof PySem.Spec
noncomputable def Zi6: Expr→Bool
 | .Starred _ _=>true
 | _=>false
theorem Zox{e:Expr}{es:List Expr}{env:Env}(h:Zi6 e=false): starEach (e::es) env=(false,eval e env)::starEach es env:=by
 cases e <;> first | rfl | cases h
noncomputable def Zi7: List Expr→Bool
 | []=>true
 | e::es=>!Zi6 e && Zi7 es
theorem ZrO{env:Env}: ∀{es:List Expr} (pos:Pos),Zi7 es=true→(backTo pos (starEach es env)).any (·.1)=false
 | [],pos,_=>by rfl
 | e::es,pos,h=>by
  simp only[Zi7,Bool.and_eq_true,Bool.not_eq_true']at h
  have ih:=ZrO (env:=env) (es:=es) pos h.2
  rw[Zox h.1]
  unfold backTo at ih ⊢
  simp only[List.map_cons,List.any_cons,Bool.false_or]
  exact ih
section
variable {prog:Program} {w:World} {Γ:Cx}
theorem jc{e:Expr}{es:List Expr}{f:Ex}{g:Exs}(h1:J prog w Γ e f)(h2:Js prog w Γ es g)(hs:Zi6 e=false:=by exact rfl): Js prog w Γ (e::es) (Zf f g):=Zvy h1 h2 (Zox hs)
end
section
variable {prog:Program} {w:World} {K:Frag} {p:Program} {loose:List Str} {mean:ExcName→Option Value} {mg mb:Str→Option Value}
theorem Zvb{f:Addr}{room:Nat}: Def prog w K p loose mean mg mb f room (fun _ _=>none):=by
 intro Γ dp un clr hd hu W ρ H fr s Q E as xs v H' r hx hF post
 cases hF
end
end PM
end
section
set_option autoImplicit false
namespace PM
open PySem PySem.W PySem.Calls PyProof.Rows PyProof PySem.Spec
section
variable {prog:Program} {w:World} {Γ:Cx}
theorem ln1{α:Type _}: ∀{xs:List α},xs.length=1→∃x0,xs=[x0]
 | [x0],_=>⟨x0,rfl⟩
theorem ln2{α:Type _}: ∀{xs:List α},xs.length=2→∃x0 x1,xs=[x0,x1]
 | [x0,x1],_=>⟨x0,x1,rfl⟩
theorem ln3{α:Type _}: ∀{xs:List α},xs.length=3→∃x0 x1 x2,xs=[x0,x1,x2]
 | [x0,x1,x2],_=>⟨x0,x1,x2,rfl⟩
theorem ln4{α:Type _}: ∀{xs:List α},xs.length=4→∃x0 x1 x2 x3,xs=[x0,x1,x2,x3]
 | [x0,x1,x2,x3],_=>⟨x0,x1,x2,x3,rfl⟩
theorem ln5{α:Type _}: ∀{xs:List α},xs.length=5→∃x0 x1 x2 x3 x4,xs=[x0,x1,x2,x3,x4]
 | [x0,x1,x2,x3,x4],_=>⟨x0,x1,x2,x3,x4,rfl⟩
theorem ln6{α:Type _}: ∀{xs:List α},xs.length=6→∃x0 x1 x2 x3 x4 x5,xs=[x0,x1,x2,x3,x4,x5]
 | [x0,x1,x2,x3,x4,x5],_=>⟨x0,x1,x2,x3,x4,x5,rfl⟩
theorem ln7{α:Type _}: ∀{xs:List α},xs.length=7→∃x0 x1 x2 x3 x4 x5 x6,xs=[x0,x1,x2,x3,x4,x5,x6]
 | [x0,x1,x2,x3,x4,x5,x6],_=>⟨x0,x1,x2,x3,x4,x5,x6,rfl⟩
theorem jI{k:Int}{n:Nat}{pos:Pos}: J prog w Γ (.Constant (.int k) n pos) (Zk k):=J.int _ _ _
theorem jN{n:Nat}{pos:Pos}: J prog w Γ (.Constant .none n pos) Z0:=J.none _ _
theorem jB{b:Bool}{n:Nat}{pos:Pos}: J prog w Γ (.Constant (.bool b) n pos) (Zb5 b):=J.bool _ _ _
theorem jS{x:Str}{n:Nat}{pos:Pos}: J prog w Γ (.Constant (.str x) n pos) (ZeX x):=J.str _ _ _
theorem cO{elt iter:Expr}{x:Str}{px:Pos}{ifs:List Expr}{scope:Scope}{pos:Pos}{cl:List (Str×Addr)}{t:Nat}{g:Src}{c:Ts}{f:Ex}(hg:JI prog w Γ iter g)(hel:∀C ρ,J prog w (Zbz Γ scope cl C [(x,t)] ρ) elt f)(hif:∀C ρ,JF prog w (Zbz Γ scope cl C [(x,t)] ρ) ifs c)
  (hclos:closureFor scope Γ.env=pure cl:=by with_unfolding_all rfl) (hcell:∀y∈scope.names,y.2≠.cell:=by decide) (hkind:scope.kind=.function:=by exact rfl) (hnames:∀y∈scope.names,y.2=.local→scope.names.lookup y.1=some .local:=by decide) (hx:scope.names.lookup x=some .local:=by exact rfl) (hs:∀x,foldedSetIterable iter Γ.env x=pure x:=by intro _;rfl):
  J prog w Γ (.ListComp elt [⟨.Name x px,iter,ifs,0⟩] scope pos) (ZaI g (put1 t) c f):=ZwR hg hel hif hclos hcell hkind hnames hx hs
theorem cT{elt iter:Expr}{x x₂:Str}{px px₂ tp:Pos}{kt:Nat}{scope:Scope}{pos:Pos}{cl:List (Str×Addr)}{t t₂:Nat}{g:Src}{f:Ex}(hg:JI2 prog w Γ iter g)(hel:∀C ρ,J prog w (Zbz Γ scope cl C [(x,t),(x₂,t₂)] ρ) elt f)
  (hclos:closureFor scope Γ.env=pure cl:=by with_unfolding_all rfl) (hcell:∀y∈scope.names,y.2≠.cell:=by decide) (hkind:scope.kind=.function:=by exact rfl) (hnames:∀y∈scope.names,y.2=.local→scope.names.lookup y.1=some .local:=by decide) (hx:scope.names.lookup x=some .local:=by exact rfl) (hx₂:scope.names.lookup x₂=some .local:=by exact rfl) (hxx:x≠x₂:=by decide) (htt:t≠t₂:=by decide) (hs:∀x,foldedSetIterable iter Γ.env x=pure x:=by intro _;rfl):
  J prog w Γ (.ListComp elt [⟨.Tuple [.Name x px,.Name x₂ px₂] kt tp,iter,[],0⟩] scope pos) (ZaI g (ZcA t t₂) Zam f):=ZvE hg hel hclos hcell hkind hnames hx hx₂ hxx htt hs
theorem sO{elt iter:Expr}{x y:Str}{px py pos spos:Pos}{ifs:List Expr}{scope:Scope}{cl:List (Str×Addr)}{t i:Nat}{g:Src}{c:Ts}{f:Ex}(hy:Sto prog w Γ y i)(hg:JI prog w Γ iter g)(hel:∀C ρ,J prog w (Zbz Γ scope cl C [(x,t)] ρ) elt f)(hif:∀C ρ,JF prog w (Zbz Γ scope cl C [(x,t)] ρ) ifs c)
  (hsw:swapsWith (.ListComp elt [⟨.Name x px,iter,ifs,0⟩] scope pos) (some (.Name y py)) spos.line Γ.env=pure true:=by rfl)
  (hclos:closureFor scope Γ.env=pure cl:=by with_unfolding_all rfl) (hcell:∀y∈scope.names,y.2≠.cell:=by decide) (hkind:scope.kind=.function:=by exact rfl) (hnames:∀y∈scope.names,y.2=.local→scope.names.lookup y.1=some .local:=by decide) (hx:scope.names.lookup x=some .local:=by exact rfl) (hs:∀x,foldedSetIterable iter Γ.env x=pure x:=by intro _;rfl):
  S1 prog w Γ (.Assign [.Name y py] (.ListComp elt [⟨.Name x px,iter,ifs,0⟩] scope pos) spos) (ZN i (ZaI g (put1 t) c f)):=Zty hy hg hel hif hsw hclos hcell hkind hnames hx hs
theorem sT{elt iter:Expr}{x x₂ y:Str}{px px₂ tp py pos spos:Pos}{kt:Nat}{scope:Scope}{cl:List (Str×Addr)}{t t₂ i:Nat}{g:Src}{f:Ex}(hy:Sto prog w Γ y i)(hg:JI2 prog w Γ iter g)(hel:∀C ρ,J prog w (Zbz Γ scope cl C [(x,t),(x₂,t₂)] ρ) elt f)
  (hsw:swapsWith (.ListComp elt [⟨.Tuple [.Name x px,.Name x₂ px₂] kt tp,iter,[],0⟩] scope pos) (some (.Name y py)) spos.line Γ.env=pure true:=by rfl)
  (hclos:closureFor scope Γ.env=pure cl:=by with_unfolding_all rfl) (hcell:∀y∈scope.names,y.2≠.cell:=by decide) (hkind:scope.kind=.function:=by exact rfl) (hnames:∀y∈scope.names,y.2=.local→scope.names.lookup y.1=some .local:=by decide) (hx:scope.names.lookup x=some .local:=by exact rfl) (hx₂:scope.names.lookup x₂=some .local:=by exact rfl) (hxx:x≠x₂:=by decide) (htt:t≠t₂:=by decide) (hs:∀x,foldedSetIterable iter Γ.env x=pure x:=by intro _;rfl):
  S1 prog w Γ (.Assign [.Name y py] (.ListComp elt [⟨.Tuple [.Name x px,.Name x₂ px₂] kt tp,iter,[],0⟩] scope pos) spos) (ZN i (ZaI g (ZcA t t₂) Zam f)):=Ztf hy hg hel hsw hclos hcell hkind hnames hx hx₂ hxx htt hs
end
section
variable {prog:Program} {w:World} {dp un:Nat} {gd:Option (List Code)} {cn:Str} {cs:Scope} {L a:Addr} {ccd:Value} {cl:List (Str×Addr)} {outer:List Env} {h₀:Heap} {hu:un+200<cLine} {names:List Str}
theorem vL{x:Str}{i:Nat}{pos:Pos}(hi:names[i]?=some x:=by rfl)(hx:cs.names.lookup x=some .local:=by exact rfl)(hk:cs.kind=.function:=by exact rfl)(hd:(x == ("__debug__":Str))=false:=by exact rfl): J prog w (ZbX dp un gd cn cs L a ccd cl outer h₀ hu names) (.Name x pos) (Zb i):=Zjk (ZwP hi hx hk hd)
theorem vC{x:Str}{i:Nat}{pos:Pos}(hi:names[i]?=some x:=by rfl)(hx:cs.names.lookup x=some .cell:=by exact rfl)(hk:cs.kind=.function:=by exact rfl)(hd:(x == ("__debug__":Str))=false:=by exact rfl): J prog w (ZbX dp un gd cn cs L a ccd cl outer h₀ hu names) (.Name x pos) (Zb i):=Zjk (ZwQ hi hx hk hd)
theorem sL{x:Str}{i:Nat}(nd:names.Nodup:=by decide)(hi:names[i]?=some x:=by rfl)(hx:cs.names.lookup x=some .local:=by exact rfl)(hk:cs.kind=.function:=by exact rfl): Sto prog w (ZbX dp un gd cn cs L a ccd cl outer h₀ hu names) x i:=ZvB nd hi hx hk
theorem sC{x:Str}{i:Nat}(nd:names.Nodup:=by decide)(hi:names[i]?=some x:=by rfl)(hx:cs.names.lookup x=some .cell:=by exact rfl)(hk:cs.kind=.function:=by exact rfl)(hcl:(cl.lookup x).isSome=true:=by exact rfl): Sto prog w (ZbX dp un gd cn cs L a ccd cl outer h₀ hu names) x i:=ZvC nd hi hx hk hcl
end
section
variable {prog:Program} {w:World} {K:Frag} {p:Program} {loose:List Str} {mean:ExcName→Option Value} {mg mb:Str→Option Value} {Γ:Cx} {dp un:Nat}
theorem nB{x:Str}{v:Value}(clr:Clr K p loose mean mg mb Γ dp un)(e:nsIn K mainGlobals x=some Option.none:=by k_is)(hv:bootBuiltins x=some v:=by boot_by_name)(hn:x≠"__name__":=by decide)(hg:Γ.env.globals=mainGlobals:=by exact rfl)(hb:Γ.env.builtins=builtinsNs:=by exact rfl)(hk:Γ.env.scope.kind=.function:=by exact rfl)(hx:Γ.env.kindOf x=some .globalImplicit:=by exact rfl)(hd:(x == ("__debug__":Str))=false:=by exact rfl): Nm prog w Γ x v:=ZuO clr e hv hn hg hb hk hx hd
theorem cF{x:Str}{np pos:Pos}{f:Addr}{room:Nat}{e:Expr}{es:List Expr}{g:Exs}{o:List V→Hp→Option (V×Hp)}(clr:Clr K p loose mean mg mb Γ dp un)(D:Def prog w K p loose mean mg mb f room o)(h:Js prog w Γ (e::es) g)
  (en:nsIn K mainGlobals x=some (some (.ref f)):=by k_is) (hg:Γ.env.globals=mainGlobals:=by exact rfl) (hk:Γ.env.scope.kind=.function:=by exact rfl) (hx:Γ.env.kindOf x=some .globalImplicit:=by exact rfl) (hd0:(x == ("__debug__":Str))=false:=by exact rfl)
  (hkeep:keepIn K (.ref f)=true:=by k_is) (hd:dp+room<recursionLimit:=by omega) (hu:un+10*room+300<cLine:=by omega)
  (he:Zi6 e=false:=by exact rfl) (hp:Zi7 es=true:=by exact rfl):J prog w Γ (.Call (.Name x np) (e::es) [] pos) (Zu o g):=ZvF clr (ZwV clr en hg hk hx hd0) hkeep D hd hu h (Zox he) (fun pos=>ZrO pos hp)
theorem Dof{name qual:Str}{params:Arguments}{body:List Stmt}{scope:Scope}{dV kV doc pm cdv ct oc:Value}{an od:Option Addr}{osl:Array (Option Value)}{f:Addr}{names:List Str}{n room:Nat}{g:Sm}
  (hbody:∀(dp un:Nat) (gd:Option (List Code)) (L:Addr) (outer:List Env) (h₀:Heap) (hu:un+200<cLine),Clr K p loose mean mg mb (ZbX dp un gd qual scope L f cdv (cellsFrom (L+1) scope.names []) outer h₀ hu names) dp un→dp+room<recursionLimit→un+10*room+300<cLine →
   Ss prog w (ZbX dp un gd qual scope L f cdv (cellsFrom (L+1) scope.names []) outer h₀ hu names) body g)
  (ho:K.lookup f=some ⟨oc,od,.func (fnOf name qual params body scope dV kV doc pm an cdv ct),osl⟩:=by k_is) (hcd:codeIn K cdv qual=true:=by k_is) (nd:names.Nodup:=by decide) (hn:n≤names.length:=by decide)
  (hbind:∀s xs,xs.length=n→BindsTo s (fnOf name qual params body scope dV kV doc pm an cdv ct) ⟨xs,[]⟩ ((names.take n).zip xs):=by
   intro s xs hx
   first
   | (obtain⟨x0,rfl⟩:=ln1 hx;exact BindsTo.of_eq rfl)
   | (obtain⟨x0,x1,rfl⟩:=ln2 hx;exact BindsTo.of_eq rfl)
   | (obtain⟨x0,x1,x2,rfl⟩:=ln3 hx;exact BindsTo.of_eq rfl)
   | (obtain⟨x0,x1,x2,x3,rfl⟩:=ln4 hx;exact BindsTo.of_eq rfl)
   | (obtain⟨x0,x1,x2,x3,x4,rfl⟩:=ln5 hx;exact BindsTo.of_eq rfl)
   | (obtain⟨x0,x1,x2,x3,x4,x5,rfl⟩:=ln6 hx;exact BindsTo.of_eq rfl)
   | (obtain⟨x0,x1,x2,x3,x4,x5,x6,rfl⟩:=ln7 hx;exact BindsTo.of_eq rfl)) (hkinds:∀x∈names.take n,scope.names.lookup x=some .local∨scope.names.lookup x=some .cell:=by decide) (hone:((cellsFrom 0 scope.names []).map (·.1)).Nodup:=by decide +kernel)
  (hco:scope.isCoroutine=false:=by exact rfl) (hgen:scope.isGenerator=false:=by exact rfl) (hk:scope.kind=.function:=by exact rfl):
  Def prog w K p loose mean mg mb f (room+1) (Z9 n g):=Zrl ho hcd nd hn hbind hkinds hone hco hgen hk hbody
end
section
variable {prog:Program} {w:World} {Γ:Cx} {scope:Scope} {cl:List (Str×Addr)} {C:Addr} {ts:List (Str×Nat)} {ρ0:Lc}
theorem vO{x:Str}{t:Nat}{pos:Pos}(hm:(x,t)∈ts:=by first | exact Zz5 | exact Zz2 _ Zz5)(hk:scope.kind=.function:=by exact rfl)(hl:(compEnvC scope cl C Γ.env).kindOf x=some .local:=by exact rfl)(hd:(x == ("__debug__":Str))=false:=by exact rfl): J prog w (Zbz Γ scope cl C ts ρ0) (.Name x pos) (Zb t):=Zjk (ZvH hm hk hl hd)
end
section
variable {prog:Program} {w:World} {dp un:Nat} {gd:Option (List Code)} {cn:Str} {cs:Scope} {L a:Addr} {ccd:Value} {clf:List (Str×Addr)} {outer:List Env} {h₀:Heap} {hu:un+200<cLine} {names:List Str} {scope:Scope} {cl:List (Str×Addr)} {C:Addr} {ts:List (Str×Nat)} {ρ0:Lc}
theorem vD{x:Str}{i:Nat}{pos:Pos}(hi:names[i]?=some x:=by rfl)(hx:cs.names.lookup x=some .cell:=by exact rfl)(hne:∀p∈ts,p.2≠i:=by decide)(hcl:cl.lookup x=clf.lookup x:=by exact rfl)(hk:scope.kind=.function:=by exact rfl)(hl:(compEnvC scope cl C (envX cn cs L a ccd clf)).kindOf x=some .cell:=by exact rfl)(hd:(x == ("__debug__":Str))=false:=by exact rfl):
  J prog w (Zbz (ZbX dp un gd cn cs L a ccd clf outer h₀ hu names) scope cl C ts ρ0) (.Name x pos) (Zb i):=Zjk (ZvI hi hx hne hcl hk hl hd)
end
end PM
end
section
open PySem PM TM
namespace L
variable {H:Hp} {a:V} {t:T} {F:List Nat} {ρ:Lc} {σ:TL}
noncomputable def Zlb: Sm:=Zv (ZN 2 (Zh Zah (Zh ZaX (Zh ZaX (Zb 1) (Zb 1)) (Zk 7919)) (Zk 11))) (Zv (ZW (ZF (Zh oGt (Zu ZaJ (Zf (Zb 0) Zn)) (Zk 0))) (ZN 2 (Zh Zah (Zb 2) (Zh Zt (Zb 0) (Zh oMod (Zb 1) (Zu ZaJ (Zf (Zb 0) Zn)))))) Z1) (ZG (Zb 2)))
noncomputable def ZhL:=Z9 2 Zlb
noncomputable def Zlc: PS:=(Zs (ZI 2 (Ze Zag (Ze ZaF (Ze ZaF (Za 1) (Za 1)) (Zj 7919)) (Zj 11))) (Zs (ZP (ZD (Ze qGt (Zr Zar (Zd (Za 0) Zm)) (Zj 0))) (ZI 2 (Ze Zag (Za 2) (Ze Zq (Za 0) (Ze Zbb (Za 1) (Zr Zar (Zd (Za 0) Zm)))))) ZU) (ZE (Za 2))))
noncomputable def Zgd:=Zab 2 Zlc
theorem Zpg: SimF false ZhL Zgd:=Zaf (show S [] [] [] false Zlb Zlc from(Zy (ZY (O':=[]) (Zad Zal (Zad Za9 (Zad Za9 (Zc 1) (Zc 1)) (Zl _)) (Zl _))) (Zy (Z3 (ZJ (ZC Zdy (Zaw ZaV (Zg (Zc 0) Zo)) (Zl _))) (ZY (O':=[]) (Zad Zal (Zc 2) (ZA Zz (Zc 0) (ZC Zbp (Zc 1) (Zaw ZaV (Zg (Zc 0) Zo)))))) Z6) (ZV (Zc 2)))))
noncomputable def ZlR: Sm:=ZG (Zh oMod (Zh oMod (Zh ZaX (Zu ZhL (Zf (Zb 0) (Zf (Zb 1) Zn))) (Zk 48271)) (Zk 2147483647)) (Zb 2))
noncomputable def Zb2:=Z9 3 ZlR
noncomputable def ZlS: PS:=(ZE (Ze Zbb (Ze Zbb (Ze ZaF (Zr Zgd (Zd (Za 0) (Zd (Za 1) Zm))) (Zj 48271)) (Zj 2147483647)) (Za 2)))
noncomputable def ZbR:=Zab 3 ZlS
theorem Zcd: SimF false Zb2 ZbR:=Zaf (show S [] [] [] false ZlR ZlS from(ZV (ZC Zbp (ZC Zbp (Zad Za9 (ZK Zpg (Zg (Zc 0) (Zg (Zc 1) Zo))) (Zl _)) (Zl _)) (Zc 2))))
noncomputable def ZkG: Sm:=Zv (ZN 2 (Zu ZhL (Zf (Zb 0) (Zf (Zb 1) Zn)))) (Zv (ZN 3 (Zh Zt (Zcb (Zf (Zk 3) (Zf (Zk 9) (Zf (Zh oPow (Zk 10) (Zk 9)) (Zf (Zh oPow (Zk 10) (Zk 40)) Zn))))) (Zh oMod (Zh oMod (Zh ZaX (Zb 2) (Zk 69621)) (Zk 2147483629)) (Zk 4)))) (ZG (Zh Zbl (Zh oMod (Zh ZaX (Zb 2) (Zh oPow (Zk 48271) (Zk 9))) (Zh Zah (Zh ZaX (Zk 2) (Zb 3)) (Zk 1))) (Zb 3))))
noncomputable def Zex:=Z9 2 ZkG
noncomputable def ZkH: PS:=(Zs (ZI 2 (Zr Zgd (Zd (Za 0) (Zd (Za 1) Zm)))) (Zs (ZI 3 (Ze Zq (Zb6 (Zd (Zj 3) (Zd (Zj 9) (Zd (Ze Zdx (Zj 10) (Zj 9)) (Zd (Ze Zdx (Zj 10) (Zj 40)) Zm))))) (Ze Zbb (Ze Zbb (Ze ZaF (Za 2) (Zj 69621)) (Zj 2147483629)) (Zj 4)))) (ZE (Ze Za5 (Ze Zbb (Ze ZaF (Za 2) (Ze Zdx (Zj 48271) (Zj 9))) (Ze Zag (Ze ZaF (Zj 2) (Za 3)) (Zj 1))) (Za 3)))))
noncomputable def Zec:=Zab 2 ZkH
theorem Zf6: SimF false Zex Zec:=Zaf (show S [] [] [] false ZkG ZkH from(Zy (ZY (O':=[]) (ZK Zpg (Zg (Zc 0) (Zg (Zc 1) Zo)))) (Zy (ZY (O':=[]) (ZA Zz (E.list (Zg (Zl _) (Zg (Zl _) (Zg (ZC Zov (Zl _) (Zl _)) (Zg (ZC Zov (Zl _) (Zl _)) Zo))))) (ZC Zbp (ZC Zbp (Zad Za9 (Zc 2) (Zl _)) (Zl _)) (Zl _)))) (ZV (ZC Zbv (ZC Zbp (Zad Za9 (Zc 2) (ZC Zov (Zl _) (Zl _))) (Zad Zal (Zad Za9 (Zl _) (Zc 3)) (Zl _))) (Zc 3))))))
noncomputable def Zld: Sm:=Zv (ZN 2 (Zu Zb2 (Zf (Zb 0) (Zf (Zb 1) (Zf (Zk 42) Zn))))) (Zv (ZW (ZF (Zh oLt (Zh oMod (Zb 2) (Zk 6)) (Zk 2))) (ZG (Z0)) Z1) (Zv (ZW (ZF (Zh oLt (Zh oMod (Zb 2) (Zk 6)) (Zk 4))) (ZG (Zk 0)) Z1) (Zv (ZW (ZF (Zh oEq (Zh oMod (Zb 2) (Zk 6)) (Zk 4))) (ZG (Zh oDiv (Zb 2) (Zk 6))) Z1) (ZG (Zu Zdc (Zf (Zu Zex (Zf (Zb 0) (Zf (Zb 1) Zn))) Zn))))))
noncomputable def Zle:=Z9 2 Zld
noncomputable def Zlf: PS:=(Zs (ZI 2 (Zr ZbR (Zd (Za 0) (Zd (Za 1) (Zd (Zj 42) Zm))))) (Zs (ZP (ZD (Ze qLt (Ze Zbb (Za 2) (Zj 6)) (Zj 2))) (ZE (ZR)) ZU) (Zs (ZP (ZD (Ze qLt (Ze Zbb (Za 2) (Zj 6)) (Zj 4))) (ZE (Zj 0)) ZU) (Zs (ZP (ZD (Ze qEq (Ze Zbb (Za 2) (Zj 6)) (Zj 4))) (ZE (Ze ZcB (Za 2) (Zj 6))) ZU) (ZE (Zr Zdd (Zd (Zr Zec (Zd (Za 0) (Zd (Za 1) Zm))) Zm)))))))
noncomputable def ZhM:=Zab 2 Zlf
theorem Zti: SimF false Zle ZhM:=Zaf (show S [] [] [] false Zld Zlf from(Zy (ZY (O':=[]) (ZK Zcd (Zg (Zc 0) (Zg (Zc 1) (Zg (Zl _) Zo))))) (Zy (Z3 (ZJ (ZC Zcq (ZC Zbp (Zc 2) (Zl _)) (Zl _))) (ZV (Z8)) Z6) (Zy (Z3 (ZJ (ZC Zcq (ZC Zbp (Zc 2) (Zl _)) (Zl _))) (ZV (Zl _)) Z6) (Zy (Z3 (ZJ (ZC ZaN (ZC Zbp (Zc 2) (Zl _)) (Zl _))) (ZV (ZC Zc9 (Zc 2) (Zl _))) Z6) (ZV (Zaw Zd6 (Zg (ZK Zf6 (Zg (Zc 0) (Zg (Zc 1) Zo))) Zo))))))))
noncomputable def Zkf: Sm:=Zv (ZW (ZF (Zh oEq (Zb 0) (Zk 0))) (ZG (ZaR (Zf (Zk 0) (Zf (Zb 1) Zn)))) Z1) (ZG (ZaR (Zf (Zb 0) (Zf (Zh oMod (Zb 1) (Zb 0)) Zn))))
noncomputable def ZdM:=Z9 2 Zkf
noncomputable def Zkg: PS:=(Zs (ZP (ZD (Ze qEq (Za 0) (Zj 0))) (ZE (ZaU (Zd (Zj 0) (Zd (Za 1) Zm)))) ZU) (ZE (ZaU (Zd (Za 0) (Zd (Ze Zbb (Za 1) (Za 0)) Zm)))))
noncomputable def ZdA:=Zab 2 Zkg
theorem Zev: SimF false ZdM ZdA:=Zaf (show S [] [] [] false Zkf Zkg from(Zy (Z3 (ZJ (ZC ZaN (Zc 0) (Zl _))) (ZV (E.tup (Zg (Zl _) (Zg (Zc 1) Zo)))) Z6) (ZV (E.tup (Zg (Zc 0) (Zg (ZC Zbp (Zc 1) (Zc 0)) Zo))))))
noncomputable def ZlT: Sm:=Zv (ZN 3 (Zu Zb2 (Zf (Zb 0) (Zf (Zb 1) (Zf (Zk 60) Zn))))) (Zv (ZW (ZF (Zh oLt (Zh oMod (Zb 3) (Zk 5)) (Zk 2))) (ZG (ZaR (Zf (Zk 1) (Zf (Zk 0) Zn)))) Z1) (Zv (ZW (ZF (Zh oEq (Zh oMod (Zb 3) (Zk 5)) (Zk 2))) (ZG (ZaR (Zf (Zk 0) (Zf (Zb 2) Zn)))) Z1) (Zv (ZW (ZF (Zh oEq (Zh oMod (Zb 3) (Zk 5)) (Zk 3))) (ZG (Zu ZdM (Zf (Zh Zah (Zh oDiv (Zb 3) (Zk 5)) (Zk 1)) (Zf (Zb 2) Zn)))) Z1) (ZG (Zu ZdM (Zf (Zu Zdc (Zf (Zu Zex (Zf (Zb 0) (Zf (Zb 1) Zn))) Zn)) (Zf (Zb 2) Zn)))))))
noncomputable def ZlU:=Z9 3 ZlT
noncomputable def ZlV: PS:=(Zs (ZI 3 (Zr ZbR (Zd (Za 0) (Zd (Za 1) (Zd (Zj 60) Zm))))) (Zs (ZP (ZD (Ze qLt (Ze Zbb (Za 3) (Zj 5)) (Zj 2))) (ZE (ZaU (Zd (Zj 1) (Zd (Zj 0) Zm)))) ZU) (Zs (ZP (ZD (Ze qEq (Ze Zbb (Za 3) (Zj 5)) (Zj 2))) (ZE (ZaU (Zd (Zj 0) (Zd (Za 2) Zm)))) ZU) (Zs (ZP (ZD (Ze qEq (Ze Zbb (Za 3) (Zj 5)) (Zj 3))) (ZE (Zr ZdA (Zd (Ze Zag (Ze ZcB (Za 3) (Zj 5)) (Zj 1)) (Zd (Za 2) Zm)))) ZU) (ZE (Zr ZdA (Zd (Zr Zdd (Zd (Zr Zec (Zd (Za 0) (Zd (Za 1) Zm))) Zm)) (Zd (Za 2) Zm))))))))
noncomputable def Zh2:=Zab 3 ZlV
theorem ZtC: SimF false ZlU Zh2:=Zaf (show S [] [] [] false ZlT ZlV from(Zy (ZY (O':=[]) (ZK Zcd (Zg (Zc 0) (Zg (Zc 1) (Zg (Zl _) Zo))))) (Zy (Z3 (ZJ (ZC Zcq (ZC Zbp (Zc 3) (Zl _)) (Zl _))) (ZV (E.tup (Zg (Zl _) (Zg (Zl _) Zo)))) Z6) (Zy (Z3 (ZJ (ZC ZaN (ZC Zbp (Zc 3) (Zl _)) (Zl _))) (ZV (E.tup (Zg (Zl _) (Zg (Zc 2) Zo)))) Z6) (Zy (Z3 (ZJ (ZC ZaN (ZC Zbp (Zc 3) (Zl _)) (Zl _))) (ZV (ZK Zev (Zg (Zad Zal (ZC Zc9 (Zc 3) (Zl _)) (Zl _)) (Zg (Zc 2) Zo)))) Z6) (ZV (ZK Zev (Zg (Zaw Zd6 (Zg (ZK Zf6 (Zg (Zc 0) (Zg (Zc 1) Zo))) Zo)) (Zg (Zc 2) Zo)))))))))
noncomputable def ZlW: Sm:=Zv (ZN 3 (Zh Zah (Zcb (Zf (Zk 0) Zn)) (Zb 2))) (Zv (ZN 4 (Zu ZaJ (Zf (Zb 3) Zn))) (Zv (ZN 5 (Zcb Zn)) (Zv (ZaM (ZaP (Zf (Zb 4) Zn)) (put1 6) (Zv (ZN 7 (Zcb Zn)) (Zv (ZaM (ZaP (Zf (Zb 4) Zn)) (put1 8) (Zv (ZN 9 (Zu Zle (Zf (Zb 0) (Zf (Zh Zah (Zh Zah (Zb 1) (Zh ZaX (Zb 6) (Zb 4))) (Zb 8)) Zn)))) (Zv (ZW (ZF (Zh Zbt (Zb 9) (Z0))) (ZN 9 (Zh Zah (Zh Zbl (Zh Zt (Zb 3) (Zb 6)) (Zh Zt (Zb 3) (Zb 8))) (Zb 9))) Z1) (Zcz (ZeI (Zb 7) (Zb 9)))))) (Zv (ZbI (Zk 0) (Zb 7) (Zb 6)) (Zcz (ZeI (Zb 5) (Zb 7))))))) (ZG (ZaR (Zf (Zb 5) (Zf (ZaI (ZaP (Zf (Zh Zbl (Zb 4) (Zk 1)) Zn)) (put1 100) Zam (Zu ZlU (Zf (Zb 0) (Zf (Zh Zah (Zh Zah (Zb 1) (Zh ZaX (Zb 4) (Zb 4))) (Zb 100)) (Zf (Zh Zt (Zb 2) (Zb 100)) Zn))))) Zn)))))))
noncomputable def ZlX:=Z9 3 ZlW
noncomputable def ZlY: PS:=(Zs (ZI 3 (Ze Zag (Zb6 (Zd (Zj 0) Zm)) (Za 2))) (Zs (ZI 4 (Zr Zar (Zd (Za 3) Zm))) (Zs (ZI 5 (Zb6 Zm)) (Zs (ZaB (ZaE (Zd (Za 4) Zm)) (Zac 6) (Zs (ZI 7 (Zb6 Zm)) (Zs (ZaB (ZaE (Zd (Za 4) Zm)) (Zac 8) (Zs (ZI 9 (Zr ZhM (Zd (Za 0) (Zd (Ze Zag (Ze Zag (Za 1) (Ze ZaF (Za 6) (Za 4))) (Za 8)) Zm)))) (Zs (ZP (ZD (Ze ZaO (Za 9) (ZR))) (ZI 9 (Ze Zag (Ze Za5 (Ze Zq (Za 3) (Za 6)) (Ze Zq (Za 3) (Za 8))) (Za 9))) ZU) (Zc0 7 [] ZaC (ZbV (Za 9)))))) (Zs (Za2 7 [] (Zj 0) ZaC (Za 6)) (Zc0 5 [7] ZaC (Za 7)))))) (ZE (ZaU (Zd (Za 5) (Zd (Zap (ZaE (Zd (Ze Za5 (Za 4) (Zj 1)) Zm)) (Zac 100) Zae (ZbV (Zr Zh2 (Zd (Za 0) (Zd (Ze Zag (Ze Zag (Za 1) (Ze ZaF (Za 4) (Za 4))) (Za 100)) (Zd (Ze Zq (Za 2) (Za 100)) Zm)))))) Zm))))))))
noncomputable def Zh3:=Zab 3 ZlY
theorem ZtD: SimF true ZlX Zh3:=Zaf (show S [] [5] [] true ZlW ZlY from(Zy (ZY (O':=[]) (Zad Zal (E.list (Zg (Zl _) Zo)) (Zc 2))) (Zy (ZY (O':=[]) (Zaw ZaV (Zg (Zc 3) Zo))) (Zy (Zcn (O':=[5]) (E.list Zo)) (Zy (Zba (Gs.range (Zg (Zc 4) Zo)) PutOk.one (by decide) (by decide) (Zy (Zcn (O':=[5,7]) (Za8 (O':=[]) (E.list Zo))) (Zy (Zba (Gs.range (Zg (Zc 4) Zo)) PutOk.one (by decide) (by decide) (Zy (ZY (O':=[5,7]) (ZK Zti (Zg (Zc 0) (Zg (Zad Zal (Zad Zal (Zc 1) (Zad Za9 (Zc 6) (Zc 4))) (Zc 8)) Zo)))) (Zy (Z3 (ZJ (ZC ZbL (Zc 9) (Z8))) (ZY (O':=[5,7]) (Zad Zal (ZC Zbv (ZA Zz (Zc 3) (Zc 6)) (ZA Zz (Zc 3) (Zc 8))) (Zc 9))) Z6) (Zjm (O':=[5,7]) (by decide) ZbC (Za8 (O':=[5]) (E.flat (Zc 9))) (by decide) (by decide))))) (Zy (S.put (O':=[5,7]) (by decide) (Za8 (O':=[5]) (Zl _)) ZbC (Zc 6) (by decide) (by decide)) (Zjm (O':=[5]) (by decide) ZbC (Za8 (O':=[7]) (E.own (by decide))) (by decide) (by decide)))))) (Za7 (E.tup (ZgE (E.own (by decide)) (ZgE (Zdn (Gs.range (Zg (ZC Zbv (Zc 4) (Zl _)) Zo)) PutOk.one (by decide) Zay (Za8 (O':=[]) (E.flat (ZK ZtC (Zg (Zc 0) (Zg (Zad Zal (Zad Zal (Zc 1) (Zad Za9 (Zc 4) (Zc 4))) (Zc 100)) (Zg (ZA Zz (Zc 2) (Zc 100)) Zo))))))) Zo (by decide) (by decide)) (by decide) (by decide)))))))))
noncomputable def ZlZ: Sm:=Zv (ZW (ZF (Zh oIs (Zb 0) (Z0))) (ZG (Z0)) Z1) (ZG (ZaR (Zf (ZaI (Zby (Zh Zt (Zb 0) (Zk 0))) (put1 100) Zam (Zu Zcu (Zf (Zb 100) Zn))) (Zf (Zu Zcu (Zf (Zh Zt (Zb 0) (Zk 1)) Zn)) Zn))))
noncomputable def Zh4:=Z9 1 ZlZ
noncomputable def Zh5: PS:=(Zs (ZP (ZD (Ze qIs (Za 0) (ZR))) (ZE (ZR)) ZU) (ZE (ZaU (Zd (Zap (ZaD (Ze Zq (Za 0) (Zj 0))) (Zac 100) Zae (Zr Zcf (Zd (Za 100) Zm))) (Zd (Zr Zcf (Zd (Ze Zq (Za 0) (Zj 1)) Zm)) Zm)))))
noncomputable def ZcF:=Zab 1 Zh5
theorem ZpA: SimF false Zh4 ZcF:=Zaf (show S [] [] [] false ZlZ Zh5 from(Zy (Z3 (ZJ (ZC Zbr (Zc 0) (Z8))) (ZV (Z8)) Z6) (ZV (E.tup (Zg (Zca (Gs.seq (ZA Zz (Zc 0) (Zl _))) PutOk.one (by decide) Zay (ZiC Zdm (Zg (Zc 100) Zo))) (Zg (ZiC Zdm (Zg (ZA Zz (Zc 0) (Zl _)) Zo)) Zo))))))
noncomputable def Zlg: Sm:=ZG (eOr (Zh oIs (Zb 1) (Z0)) (Zdw (Zh Zbt (Zb 0) (Z0)) (Zh oLe (Zb 0) (Zb 1))))
noncomputable def ZhN:=Z9 2 Zlg
noncomputable def Zlh: PS:=(ZE ((pOr (Ze qIs (Za 1) (ZR)) ((ZdJ (Ze ZaO (Za 0) (ZR)) (Ze qLe (Za 0) (Za 1)))))))
noncomputable def Zge:=Zab 2 Zlh
theorem Zph: SimF false ZhN Zge:=Zaf (show S [] [] [] false Zlg Zlh from(ZV ((Zya (E.sh (ZC Zbr (Zc 1) (Z8))) (E.sh ((ZfN (E.sh (ZC ZbL (Zc 0) (Z8))) (E.sh (ZC Zjx (Zc 0) (Zc 1))))))))))
noncomputable def Zl0: Sm:=Zv (ZW (ZF (Zh oEq (Zh Zt (Zb 0) (Zk 0)) (Zk 0))) (ZG (Zh oEq (Zb 1) (Zh Zt (Zb 0) (Zk 1)))) Z1) (ZG (Zh oEq (Zh oMod (Zb 1) (Zh Zt (Zb 0) (Zk 0))) (Zh Zt (Zb 0) (Zk 1))))
noncomputable def ZeC:=Z9 2 Zl0
noncomputable def Zl1: PS:=(Zs (ZP (ZD (Ze qEq (Ze Zq (Za 0) (Zj 0)) (Zj 0))) (ZE (Ze qEq (Za 1) (Ze Zq (Za 0) (Zj 1)))) ZU) (ZE (Ze qEq (Ze Zbb (Za 1) (Ze Zq (Za 0) (Zj 0))) (Ze Zq (Za 0) (Zj 1)))))
noncomputable def Zee:=Zab 2 Zl1
theorem Zgi: SimF false ZeC Zee:=Zaf (show S [] [] [] false Zl0 Zl1 from(Zy (Z3 (ZJ (ZC ZaN (ZA Zz (Zc 0) (Zl _)) (Zl _))) (ZV (ZC ZaN (Zc 1) (ZA Zz (Zc 0) (Zl _)))) Z6) (ZV (ZC ZaN (ZC Zbp (Zc 1) (ZA Zz (Zc 0) (Zl _))) (ZA Zz (Zc 0) (Zl _))))))
noncomputable def Zkh: Sm:=Zv (ZW (ZF (Zh oEq (Zh Zt (Zb 1) (Zk 0)) (Zk 0))) (ZG (Zh oEq (Zb 0) (Zb 1))) Z1) (ZG (Zdw (Zh oEq (Zh oMod (Zh Zt (Zb 0) (Zk 0)) (Zh Zt (Zb 1) (Zk 0))) (Zk 0)) (Zu ZeC (Zf (Zb 1) (Zf (Zh Zt (Zb 0) (Zk 1)) Zn)))))
noncomputable def Zki:=Z9 2 Zkh
noncomputable def ZoY: PS:=(Zs (ZP (ZD (Ze qEq (Ze Zq (Za 1) (Zj 0)) (Zj 0))) (ZE (Ze qEq (Za 0) (Za 1))) ZU) (ZE ((ZdJ (Ze qEq (Ze Zbb (Ze Zq (Za 0) (Zj 0)) (Ze Zq (Za 1) (Zj 0))) (Zj 0)) (Zr Zee (Zd (Za 1) (Zd (Ze Zq (Za 0) (Zj 1)) Zm)))))))
noncomputable def ZoZ:=Zab 2 ZoY
theorem Zsy: SimF false Zki ZoZ:=Zaf (show S [] [] [] false Zkh ZoY from(Zy (Z3 (ZJ (ZC ZaN (ZA Zz (Zc 1) (Zl _)) (Zl _))) (ZV (ZC ZaN (Zc 0) (Zc 1))) Z6) (ZV ((ZfN (E.sh (ZC ZaN (ZC Zbp (ZA Zz (Zc 0) (Zl _)) (ZA Zz (Zc 1) (Zl _))) (Zl _))) (E.sh (ZK Zgi (Zg (Zc 1) (Zg (ZA Zz (Zc 0) (Zl _)) Zo)))))))))
noncomputable def ZmH: Sm:=Zv (ZN 0 (Zu Zdc (Zf (Zb 0) Zn))) (Zv (ZN 1 (Zu Zdc (Zf (Zb 1) Zn))) (Zv (Zc4 (ZF (Zh oNe (Zb 1) (Zk 0))) (Zv (ZN 2 (Zh oMod (Zb 0) (Zb 1))) (Zv (ZN 0 (Zb 1)) (ZN 1 (Zb 2)))) 1000000) (ZG (Zb 0))))
noncomputable def Zgu:=Z9 2 ZmH
noncomputable def ZmI: PS:=(Zs (ZI 0 (Zr Zdd (Zd (Za 0) Zm))) (Zs (ZI 1 (Zr Zdd (Zd (Za 1) Zm))) (Zs (Zdp (ZD (Ze qNe (Za 1) (Zj 0))) (Zs (ZI 2 (Ze Zbb (Za 0) (Za 1))) (Zs (ZI 0 (Za 1)) (ZI 1 (Za 2)))) 1000000) (ZE (Za 0)))))
noncomputable def Zfo:=Zab 2 ZmI
theorem ZmJ: SimF false Zgu Zfo:=Zaf (show S [] [] [] false ZmH ZmI from(Zy (ZY (O':=[]) (Zaw Zd6 (Zg (Zc 0) Zo))) (Zy (ZY (O':=[]) (Zaw Zd6 (Zg (Zc 1) Zo))) (Zy (ZfD (ZJ (ZC ZbP (Zc 1) (Zl _))) (Zy (ZY (O':=[]) (ZC Zbp (Zc 0) (Zc 1))) (Zy (ZY (O':=[]) (Zc 1)) (ZY (O':=[]) (Zc 2)))) 1000000) (ZV (Zc 0))))))
noncomputable def ZkI: Sm:=Zv (ZN 3 (ZaI (Zby (Zh Zt (Zb 2) (Zk 0))) (put1 100) Zam (Zu Zcu (Zf (Zb 100) Zn)))) (Zv (ZN 4 (Zu Zcu (Zf (Zh Zt (Zb 2) (Zk 1)) Zn))) (Zv (ZN 5 (Zu Zb2 (Zf (Zb 0) (Zf (Zb 1) (Zf (Zu ZaJ (Zf (Zb 3) Zn)) Zn))))) (Zv (ZN 6 (Zu Zb2 (Zf (Zb 0) (Zf (Zh Zah (Zb 1) (Zk 1)) (Zf (Zu ZaJ (Zf (Zb 3) Zn)) Zn))))) (Zv (ZN 7 (Zu Zb2 (Zf (Zb 0) (Zf (Zh Zah (Zb 1) (Zk 2)) (Zf (Zk 5) Zn))))) (Zv (ZW (Zat (ZF (Zh oLt (Zb 7) (Zk 3))) (Zat (ZF (Zh oNe (Zb 5) (Zb 6))) (Zat (ZF (Zh oIs (Zh Zt (Zh Zt (Zb 3) (Zb 5)) (Zb 6)) (Z0))) Zam))) (ZbI (Zu Zex (Zf (Zb 0) (Zf (Zh Zah (Zb 1) (Zk 3)) Zn))) (Zh Zt (Zb 3) (Zb 5)) (Zb 6)) (ZW (Zat (ZF (Zh oLt (Zb 7) (Zk 3))) (Zat (ZF (Zh oNe (Zb 5) (Zb 6))) Zam)) (ZbI (Zh Zbl (Zh Zbl (Zh Zt (Zh Zt (Zb 3) (Zb 5)) (Zb 6)) (Zk 1)) (Zu Zb2 (Zf (Zb 0) (Zf (Zh Zah (Zb 1) (Zk 3)) (Zf (Zk 4) Zn))))) (Zh Zt (Zb 3) (Zb 5)) (Zb 6)) (ZW (ZF (Zh oGt (Zu ZaJ (Zf (Zb 4) Zn)) (Zk 0))) (Zv (ZN 8 (Zu Zb2 (Zf (Zb 0) (Zf (Zb 1) (Zf (Zu ZaJ (Zf (Zb 4) Zn)) Zn))))) (Zv (ZN 9 (Zh Zt (Zb 4) (Zb 8))) (ZbI (Zu ZdM (Zf (Zh ZaX (Zh Zt (Zb 9) (Zk 0)) (Zh Zah (Zk 1) (Zh oMod (Zb 7) (Zk 2)))) (Zf (Zh Zah (Zh Zt (Zb 9) (Zk 1)) (Zu Zb2 (Zf (Zb 0) (Zf (Zh Zah (Zb 1) (Zk 3)) (Zf (Zk 3) Zn))))) Zn))) (Zb 4) (Zb 8)))) Z1))) (ZG (ZaR (Zf (Zb 3) (Zf (Zb 4) Zn)))))))))
noncomputable def ZkJ:=Z9 3 ZkI
noncomputable def ZkK: PS:=(Zs (ZI 3 (Zap (ZaD (Ze Zq (Za 2) (Zj 0))) (Zac 100) Zae (pFl (Zr Zcf (Zd (Za 100) Zm))))) (Zs (ZI 4 (pFl (Zr Zcf (Zd (Ze Zq (Za 2) (Zj 1)) Zm)))) (Zs (ZI 5 (Zr ZbR (Zd (Za 0) (Zd (Za 1) (Zd (Zr Zar (Zd (Za 3) Zm)) Zm))))) (Zs (ZI 6 (Zr ZbR (Zd (Za 0) (Zd (Ze Zag (Za 1) (Zj 1)) (Zd (Zr Zar (Zd (Za 3) Zm)) Zm))))) (Zs (ZI 7 (Zr ZbR (Zd (Za 0) (Zd (Ze Zag (Za 1) (Zj 2)) (Zd (Zj 5) Zm))))) (Zs (ZP (Zai (ZD (Ze qLt (Za 7) (Zj 3))) (Zai (ZD (Ze qNe (Za 5) (Za 6))) (Zai (ZD (Ze qIs (Ze Zq (Ze Zq (Za 3) (Za 5)) (Za 6)) (ZR))) Zae))) (Za2 3 [] (ZbV (Zr Zec (Zd (Za 0) (Zd (Ze Zag (Za 1) (Zj 3)) Zm)))) (Zbu ZaC (Za 5)) (Za 6)) (ZP (Zai (ZD (Ze qLt (Za 7) (Zj 3))) (Zai (ZD (Ze qNe (Za 5) (Za 6))) Zae)) (Za2 3 [] (Ze Za5 (Ze Za5 (Ze Zq (Ze Zq (Za 3) (Za 5)) (Za 6)) (Zj 1)) (Zr ZbR (Zd (Za 0) (Zd (Ze Zag (Za 1) (Zj 3)) (Zd (Zj 4) Zm))))) (Zbu ZaC (Za 5)) (Za 6)) (ZP (ZD (Ze qGt (Zr Zar (Zd (Za 4) Zm)) (Zj 0))) (Zs (ZI 8 (Zr ZbR (Zd (Za 0) (Zd (Za 1) (Zd (Zr Zar (Zd (Za 4) Zm)) Zm))))) (Zs (ZI 9 (ZbV (Ze Zq (Za 4) (Za 8)))) (Za2 4 [] (ZbV (Zr ZdA (Zd (Ze ZaF (Ze Zq (Za 9) (Zj 0)) (Ze Zag (Zj 1) (Ze Zbb (Za 7) (Zj 2)))) (Zd (Ze Zag (Ze Zq (Za 9) (Zj 1)) (Zr ZbR (Zd (Za 0) (Zd (Ze Zag (Za 1) (Zj 3)) (Zd (Zj 3) Zm))))) Zm)))) ZaC (Za 8)))) ZU))) (ZE (ZaU (Zd (Za 3) (Zd (Za 4) Zm))))))))))
noncomputable def ZhC:=Zab 3 ZkK
theorem ZsW: SimF false ZkJ ZhC:=Zaf (show S [] [3,4] [] false ZkI ZkK from(Zy (Zcn (O':=[3]) (Zdn (Gs.seq (ZA Zz (Zc 2) (Zl _))) PutOk.one (by decide) Zay (Zej Zdm (Zg (Zc 100) Zo)))) (Zy (Zcn (O':=[3,4]) (Za8 (O':=[]) (Zej Zdm (Zg (ZA Zz (Zc 2) (Zl _)) Zo)))) (Zy (ZY (O':=[3,4]) (ZK Zcd (Zg (Zc 0) (Zg (Zc 1) (Zg (Zaw ZaV (Zg (Zc 3) Zo)) Zo))))) (Zy (ZY (O':=[3,4]) (ZK Zcd (Zg (Zc 0) (Zg (Zad Zal (Zc 1) (Zl _)) (Zg (Zaw ZaV (Zg (Zc 3) Zo)) Zo))))) (Zy (ZY (O':=[3,4]) (ZK Zcd (Zg (Zc 0) (Zg (Zad Zal (Zc 1) (Zl _)) (Zg (Zl _) Zo))))) (Zy (Z3 (ZaA (ZJ (ZC Zcq (Zc 7) (Zl _))) (ZaA (ZJ (ZC ZbP (Zc 5) (Zc 6))) (ZaA (ZJ (ZC Zbr (ZA Zz (ZA Zz (Zc 3) (Zc 5)) (Zc 6)) (Z8))) Zay))) (S.put (O':=[3,4]) (by decide) (Za8 (O':=[4]) (E.flat (ZK Zf6 (Zg (Zc 0) (Zg (Zad Zal (Zc 1) (Zl _)) Zo))))) (Zc5 ZbC (Zc 5)) (Zc 6) (by decide) (by decide)) (Z3 (ZaA (ZJ (ZC Zcq (Zc 7) (Zl _))) (ZaA (ZJ (ZC ZbP (Zc 5) (Zc 6))) Zay)) (S.put (O':=[3,4]) (by decide) (Za8 (O':=[4]) (ZC Zbv (ZC Zbv (ZA Zz (ZA Zz (Zc 3) (Zc 5)) (Zc 6)) (Zl _)) (ZK Zcd (Zg (Zc 0) (Zg (Zad Zal (Zc 1) (Zl _)) (Zg (Zl _) Zo)))))) (Zc5 ZbC (Zc 5)) (Zc 6) (by decide) (by decide)) (Z3 (ZJ (ZC Zdy (Zaw ZaV (Zg (Zc 4) Zo)) (Zl _))) (Zy (ZY (O':=[3,4]) (ZK Zcd (Zg (Zc 0) (Zg (Zc 1) (Zg (Zaw ZaV (Zg (Zc 4) Zo)) Zo))))) (Zy (ZY (O':=[3,4]) (Za8 (O':=[]) (E.flat (ZA Zz (Zc 4) (Zc 8))))) (S.put (O':=[3,4]) (by decide) (Za8 (O':=[3]) (E.flat (ZK Zev (Zg (Zad Za9 (ZA Zz (Zc 9) (Zl _)) (Zad Zal (Zl _) (ZC Zbp (Zc 7) (Zl _)))) (Zg (Zad Zal (ZA Zz (Zc 9) (Zl _)) (ZK Zcd (Zg (Zc 0) (Zg (Zad Zal (Zc 1) (Zl _)) (Zg (Zl _) Zo))))) Zo))))) ZbC (Zc 8) (by decide) (by decide)))) Z6))) (ZV (E.tup (Zg (Zc 3) (Zg (Zc 4) Zo)))))))))))
noncomputable def ZmK: Sm:=Zv (ZN 2 (Zu Zdc (Zf (Zb 0) Zn))) (Zv (ZN 3 (Zu Zdc (Zf (Zb 1) Zn))) (Zv (Zc4 (ZF (Zh oNe (Zb 3) (Zk 0))) (Zv (ZN 4 (Zh oMod (Zb 2) (Zb 3))) (Zv (ZN 2 (Zb 3)) (ZN 3 (Zb 4)))) 1000000) (ZG (Zb 2))))
noncomputable def Zgv:=Z9 2 ZmK
noncomputable def ZmL: PS:=(Zs (ZI 2 (Zr Zdd (Zd (Za 0) Zm))) (Zs (ZI 3 (Zr Zdd (Zd (Za 1) Zm))) (Zs (Zdp (ZD (Ze qNe (Za 3) (Zj 0))) (Zs (ZI 4 (Ze Zbb (Za 2) (Za 3))) (Zs (ZI 2 (Za 3)) (ZI 3 (Za 4)))) 1000000) (ZE (Za 2)))))
noncomputable def Zfp:=Zab 2 ZmL
theorem ZmM: SimF false Zgv Zfp:=Zaf (show S [] [] [] false ZmK ZmL from(Zy (ZY (O':=[]) (Zaw Zd6 (Zg (Zc 0) Zo))) (Zy (ZY (O':=[]) (Zaw Zd6 (Zg (Zc 1) Zo))) (Zy (ZfD (ZJ (ZC ZbP (Zc 3) (Zl _))) (Zy (ZY (O':=[]) (ZC Zbp (Zc 2) (Zc 3))) (Zy (ZY (O':=[]) (Zc 3)) (ZY (O':=[]) (Zc 4)))) 1000000) (ZV (Zc 2))))))
noncomputable def Zoh: Sm:=Zv (ZW (ZF (Zh oLt (Zb 0) (Zk 0))) (PM.sNo) Z1) (Zv (ZW (ZF (Zh oEq (Zb 0) (Zk 0))) (ZG (ZaR (Zf (Zk 0) (Zf (Zb 1) Zn)))) Z1) (ZG (ZaR (Zf (Zb 0) (Zf (Zh oMod (Zb 1) (Zb 0)) Zn)))))
noncomputable def ZfJ:=Z9 2 Zoh
noncomputable def Zoi: PS:=(Zs (ZP (ZD (Ze qLt (Za 0) (Zj 0))) (qNo) ZU) (Zs (ZP (ZD (Ze qEq (Za 0) (Zj 0))) (ZE (ZaU (Zd (Zj 0) (Zd (Za 1) Zm)))) ZU) (ZE (ZaU (Zd (Za 0) (Zd (Ze Zbb (Za 1) (Za 0)) Zm))))))
noncomputable def ZeO:=Zab 2 Zoi
theorem Zi8: SimF false ZfJ ZeO:=Zaf (show S [] [] [] false Zoh Zoi from(Zy (Z3 (ZJ (ZC Zcq (Zc 0) (Zl _))) (Zyb (O':=[])) Z6) (Zy (Z3 (ZJ (ZC ZaN (Zc 0) (Zl _))) (ZV (E.tup (Zg (Zl _) (Zg (Zc 1) Zo)))) Z6) (ZV (E.tup (Zg (Zc 0) (Zg (ZC Zbp (Zc 1) (Zc 0)) Zo)))))))
noncomputable def ZmN: Sm:=Zv (ZN 2 (Zh oMod (Zb 0) (Zb 1))) (Zv (ZN 3 (Zb 1)) (Zv (ZN 4 (Zk 1)) (Zv (ZN 5 (Zk 0)) (Zv (Zc4 (ZF (Zh oNe (Zb 3) (Zk 0))) (Zv (ZN 6 (Zh oDiv (Zb 2) (Zb 3))) (Zv (ZN 7 (Zh Zbl (Zb 2) (Zh ZaX (Zb 6) (Zb 3)))) (Zv (ZN 8 (Zh Zbl (Zb 4) (Zh ZaX (Zb 6) (Zb 5)))) (Zv (ZN 2 (Zb 3)) (Zv (ZN 4 (Zb 5)) (Zv (ZN 3 (Zb 7)) (ZN 5 (Zb 8)))))))) 1000000) (ZG (Zh oMod (Zb 4) (Zb 1)))))))
noncomputable def ZmO:=Z9 2 ZmN
noncomputable def ZmP: PS:=(Zs (ZI 2 (Ze Zbb (Za 0) (Za 1))) (Zs (ZI 3 (Za 1)) (Zs (ZI 4 (Zj 1)) (Zs (ZI 5 (Zj 0)) (Zs (Zdp (ZD (Ze qNe (Za 3) (Zj 0))) (Zs (ZI 6 (Ze ZcB (Za 2) (Za 3))) (Zs (ZI 7 (Ze Za5 (Za 2) (Ze ZaF (Za 6) (Za 3)))) (Zs (ZI 8 (Ze Za5 (Za 4) (Ze ZaF (Za 6) (Za 5)))) (Zs (ZI 2 (Za 3)) (Zs (ZI 4 (Za 5)) (Zs (ZI 3 (Za 7)) (ZI 5 (Za 8)))))))) 1000000) (ZE (Ze Zbb (Za 4) (Za 1))))))))
noncomputable def Zik:=Zab 2 ZmP
theorem Zul: SimF false ZmO Zik:=Zaf (show S [] [] [] false ZmN ZmP from(Zy (ZY (O':=[]) (ZC Zbp (Zc 0) (Zc 1))) (Zy (ZY (O':=[]) (Zc 1)) (Zy (ZY (O':=[]) (Zl _)) (Zy (ZY (O':=[]) (Zl _)) (Zy (ZfD (ZJ (ZC ZbP (Zc 3) (Zl _))) (Zy (ZY (O':=[]) (ZC Zc9 (Zc 2) (Zc 3))) (Zy (ZY (O':=[]) (ZC Zbv (Zc 2) (Zad Za9 (Zc 6) (Zc 3)))) (Zy (ZY (O':=[]) (ZC Zbv (Zc 4) (Zad Za9 (Zc 6) (Zc 5)))) (Zy (ZY (O':=[]) (Zc 3)) (Zy (ZY (O':=[]) (Zc 5)) (Zy (ZY (O':=[]) (Zc 7)) (ZY (O':=[]) (Zc 8)))))))) 1000000) (ZV (ZC Zbp (Zc 4) (Zc 1)))))))))
noncomputable def Zl2: Sm:=Zv (ZW (ZF (Zh oEq (Zh Zt (Zb 0) (Zk 0)) (Zk 0))) (ZG (eIf (ZF (Zu ZeC (Zf (Zb 1) (Zf (Zh Zt (Zb 0) (Zk 1)) Zn)))) (Zb 0) (Z0))) Z1) (Zv (ZW (ZF (Zh oEq (Zh Zt (Zb 1) (Zk 0)) (Zk 0))) (ZG (eIf (ZF (Zu ZeC (Zf (Zb 0) (Zf (Zh Zt (Zb 1) (Zk 1)) Zn)))) (Zb 1) (Z0))) Z1) (Zv (ZN 2 (Zu Zgv (Zf (Zh Zt (Zb 0) (Zk 0)) (Zf (Zh Zt (Zb 1) (Zk 0)) Zn)))) (Zv (ZN 3 (Zh Zbl (Zh Zt (Zb 1) (Zk 1)) (Zh Zt (Zb 0) (Zk 1)))) (Zv (ZW (ZF (Zh oNe (Zh oMod (Zb 3) (Zb 2)) (Zk 0))) (ZG (Z0)) Z1) (Zv (ZN 4 (Zh oDiv (Zh Zt (Zb 1) (Zk 0)) (Zb 2))) (Zv (ZN 5 (Zh ZaX (Zh oDiv (Zb 3) (Zb 2)) (Zu ZmO (Zf (Zh oDiv (Zh Zt (Zb 0) (Zk 0)) (Zb 2)) (Zf (Zb 4) Zn))))) (ZG (Zu ZfJ (Zf (Zh ZaX (Zh Zt (Zb 0) (Zk 0)) (Zb 4)) (Zf (Zh Zah (Zh Zt (Zb 0) (Zk 1)) (Zh ZaX (Zh Zt (Zb 0) (Zk 0)) (Zb 5))) Zn))))))))))
noncomputable def Zh6:=Z9 2 Zl2
noncomputable def Zl3: PS:=(Zs (ZP (ZD (Ze qEq (Ze Zq (Za 0) (Zj 0)) (Zj 0))) (ZE (pIf (ZD (Zr Zee (Zd (Za 1) (Zd (Ze Zq (Za 0) (Zj 1)) Zm)))) (Za 0) (ZR))) ZU) (Zs (ZP (ZD (Ze qEq (Ze Zq (Za 1) (Zj 0)) (Zj 0))) (ZE (pIf (ZD (Zr Zee (Zd (Za 0) (Zd (Ze Zq (Za 1) (Zj 1)) Zm)))) (Za 1) (ZR))) ZU) (Zs (ZI 2 (Zr Zfp (Zd (Ze Zq (Za 0) (Zj 0)) (Zd (Ze Zq (Za 1) (Zj 0)) Zm)))) (Zs (ZI 3 (Ze Za5 (Ze Zq (Za 1) (Zj 1)) (Ze Zq (Za 0) (Zj 1)))) (Zs (ZP (ZD (Ze qNe (Ze Zbb (Za 3) (Za 2)) (Zj 0))) (ZE (ZR)) ZU) (Zs (ZI 4 (Ze ZcB (Ze Zq (Za 1) (Zj 0)) (Za 2))) (Zs (ZI 5 (Ze ZaF (Ze ZcB (Za 3) (Za 2)) (Zr Zik (Zd (Ze ZcB (Ze Zq (Za 0) (Zj 0)) (Za 2)) (Zd (Za 4) Zm))))) (ZE (Zr ZeO (Zd (Ze ZaF (Ze Zq (Za 0) (Zj 0)) (Za 4)) (Zd (Ze Zag (Ze Zq (Za 0) (Zj 1)) (Ze ZaF (Ze Zq (Za 0) (Zj 0)) (Za 5))) Zm)))))))))))
noncomputable def Zgj:=Zab 2 Zl3
theorem ZpB: SimF false Zh6 Zgj:=Zaf (show S [] [] [] false Zl2 Zl3 from(Zy (Z3 (ZJ (ZC ZaN (ZA Zz (Zc 0) (Zl _)) (Zl _))) (ZV (ZeS (ZJ (ZK Zgi (Zg (Zc 1) (Zg (ZA Zz (Zc 0) (Zl _)) Zo)))) (E.sh (Zc 0)) (E.sh (Z8)))) Z6) (Zy (Z3 (ZJ (ZC ZaN (ZA Zz (Zc 1) (Zl _)) (Zl _))) (ZV (ZeS (ZJ (ZK Zgi (Zg (Zc 0) (Zg (ZA Zz (Zc 1) (Zl _)) Zo)))) (E.sh (Zc 1)) (E.sh (Z8)))) Z6) (Zy (ZY (O':=[]) (ZK ZmM (Zg (ZA Zz (Zc 0) (Zl _)) (Zg (ZA Zz (Zc 1) (Zl _)) Zo)))) (Zy (ZY (O':=[]) (ZC Zbv (ZA Zz (Zc 1) (Zl _)) (ZA Zz (Zc 0) (Zl _)))) (Zy (Z3 (ZJ (ZC ZbP (ZC Zbp (Zc 3) (Zc 2)) (Zl _))) (ZV (Z8)) Z6) (Zy (ZY (O':=[]) (ZC Zc9 (ZA Zz (Zc 1) (Zl _)) (Zc 2))) (Zy (ZY (O':=[]) (Zad Za9 (ZC Zc9 (Zc 3) (Zc 2)) (ZK Zul (Zg (ZC Zc9 (ZA Zz (Zc 0) (Zl _)) (Zc 2)) (Zg (Zc 4) Zo))))) (ZV (ZK Zi8 (Zg (Zad Za9 (ZA Zz (Zc 0) (Zl _)) (Zc 4)) (Zg (Zad Zal (ZA Zz (Zc 0) (Zl _)) (Zad Za9 (ZA Zz (Zc 0) (Zl _)) (Zc 5))) Zo))))))))))))
noncomputable def Zli: Sm:=ZG (Zu ZfJ (Zf (Zu Zgv (Zf (Zh Zt (Zb 0) (Zk 0)) (Zf (Zh Zt (Zb 1) (Zk 0)) Zn))) (Zf (Zh Zah (Zh Zt (Zb 0) (Zk 1)) (Zh Zt (Zb 1) (Zk 1))) Zn)))
noncomputable def Zgf:=Z9 2 Zli
noncomputable def Zlj: PS:=(ZE (Zr ZeO (Zd (Zr Zfp (Zd (Ze Zq (Za 0) (Zj 0)) (Zd (Ze Zq (Za 1) (Zj 0)) Zm))) (Zd (Ze Zag (Ze Zq (Za 0) (Zj 1)) (Ze Zq (Za 1) (Zj 1))) Zm))))
noncomputable def Zfb:=Zab 2 Zlj
theorem Zlk: SimF false Zgf Zfb:=Zaf (show S [] [] [] false Zli Zlj from(ZV (ZK Zi8 (Zg (ZK ZmM (Zg (ZA Zz (Zc 0) (Zl _)) (Zg (ZA Zz (Zc 1) (Zl _)) Zo))) (Zg (Zad Zal (ZA Zz (Zc 0) (Zl _)) (ZA Zz (Zc 1) (Zl _))) Zo)))))
noncomputable def ZkL: Sm:=ZG (Zu ZfJ (Zf (Zh ZaX (Zh Zt (Zb 0) (Zk 0)) (Zu Zdc (Zf (Zb 1) Zn))) (Zf (Zh ZaX (Zh Zt (Zb 0) (Zk 1)) (Zb 1)) Zn)))
noncomputable def Zf7:=Z9 2 ZkL
noncomputable def ZkM: PS:=(ZE (Zr ZeO (Zd (Ze ZaF (Ze Zq (Za 0) (Zj 0)) (Zr Zdd (Zd (Za 1) Zm))) (Zd (Ze ZaF (Ze Zq (Za 0) (Zj 1)) (Za 1)) Zm))))
noncomputable def Ze9:=Zab 2 ZkM
theorem ZkN: SimF false Zf7 Ze9:=Zaf (show S [] [] [] false ZkL ZkM from(ZV (ZK Zi8 (Zg (Zad Za9 (ZA Zz (Zc 0) (Zl _)) (Zaw Zd6 (Zg (Zc 1) Zo))) (Zg (Zad Za9 (ZA Zz (Zc 0) (Zl _)) (Zc 1)) Zo)))))
noncomputable def ZkO: Sm:=Zv (ZW (ZF (Zh oEq (Zh Zt (Zb 0) (Zk 0)) (Zk 0))) (ZG (eIf (ZF (Zh oLe (Zh Zt (Zb 0) (Zk 1)) (Zb 1))) (Zh Zt (Zb 0) (Zk 1)) (Z0))) Z1) (ZG (Zh Zbl (Zb 1) (Zh oMod (Zh Zbl (Zb 1) (Zh Zt (Zb 0) (Zk 1))) (Zh Zt (Zb 0) (Zk 0)))))
noncomputable def ZkP:=Z9 2 ZkO
noncomputable def ZkQ: PS:=(Zs (ZP (ZD (Ze qEq (Ze Zq (Za 0) (Zj 0)) (Zj 0))) (ZE (pIf (ZD (Ze qLe (Ze Zq (Za 0) (Zj 1)) (Za 1))) (Ze Zq (Za 0) (Zj 1)) (ZR))) ZU) (ZE (Ze Za5 (Za 1) (Ze Zbb (Ze Za5 (Za 1) (Ze Zq (Za 0) (Zj 1))) (Ze Zq (Za 0) (Zj 0))))))
noncomputable def ZhD:=Zab 2 ZkQ
theorem ZsX: SimF false ZkP ZhD:=Zaf (show S [] [] [] false ZkO ZkQ from(Zy (Z3 (ZJ (ZC ZaN (ZA Zz (Zc 0) (Zl _)) (Zl _))) (ZV (ZeS (ZJ (ZC Zjx (ZA Zz (Zc 0) (Zl _)) (Zc 1))) (E.sh (ZA Zz (Zc 0) (Zl _))) (E.sh (Z8)))) Z6) (ZV (ZC Zbv (Zc 1) (ZC Zbp (ZC Zbv (Zc 1) (ZA Zz (Zc 0) (Zl _))) (ZA Zz (Zc 0) (Zl _)))))))
noncomputable def Znr: Sm:=ZG (eIf (ZF (Zu ZhN (Zf (Zb 0) (Zf (Zb 1) Zn)))) (Zb 0) (Zb 1))
noncomputable def Ziv:=Z9 2 Znr
noncomputable def Zns: PS:=(ZE (pIf (ZD (Zr Zge (Zd (Za 0) (Zd (Za 1) Zm)))) (Za 0) (Za 1)))
noncomputable def ZgF:=Zab 2 Zns
theorem Zqj: SimF false Ziv ZgF:=Zaf (show S [] [] [] false Znr Zns from(ZV (ZeS (ZJ (ZK Zph (Zg (Zc 0) (Zg (Zc 1) Zo)))) (E.sh (Zc 0)) (E.sh (Zc 1)))))
noncomputable def Zl4: Sm:=Zv (ZW (tOr (ZF (Zh oIs (Zb 0) (Z0))) (tOr (ZF (Zh oIs (Zb 1) (Z0))) Zcm)) (ZG (Z0)) Z1) (ZG (Zh Zah (Zb 0) (Zb 1)))
noncomputable def Zef:=Z9 2 Zl4
noncomputable def Zl5: PS:=(Zs (ZP (bOr (ZD (Ze qIs (Za 0) (ZR))) (bOr (ZD (Ze qIs (Za 1) (ZR))) Zce)) (ZE (ZR)) ZU) (ZE (Ze Zag (Za 0) (Za 1))))
noncomputable def ZdS:=Zab 2 Zl5
theorem Zff: SimF false Zef ZdS:=Zaf (show S [] [] [] false Zl4 Zl5 from(Zy (Z3 (Zbh (ZJ (ZC Zbr (Zc 0) (Z8))) (Zbh (ZJ (ZC Zbr (Zc 1) (Z8))) ZcN)) (ZV (Z8)) Z6) (ZV (Zad Zal (Zc 0) (Zc 1)))))
noncomputable def ZjE: Sm:=ZG (ZaI (Zd7 (Zb 0) (Zb 2)) (ZcA 100 101) Zam (Zu Ziv (Zf (Zb 100) (Zf (Zu Zef (Zf (Zb 1) (Zf (Zb 101) Zn))) Zn))))
noncomputable def ZjF:=Z9 3 ZjE
noncomputable def ZjG: PS:=(ZE (Zap (Zd9 (Za 0) (Za 2)) (ZcX 100 101) Zae (ZbV (Zr ZgF (Zd (Za 100) (Zd (Zr ZdS (Zd (Za 1) (Zd (Za 101) Zm))) Zm))))))
noncomputable def Zhi:=Zab 3 ZjG
theorem Zr2: SimF true ZjF Zhi:=Zaf (show S [] [] [] true ZjE ZjG from(Za7 (Zdn (Gs.zip (Zc 0) (Zc 2)) PutOk.two (by decide) Zay (E.flat (ZK Zqj (Zg (Zc 100) (Zg (ZK Zff (Zg (Zc 1) (Zg (Zc 101) Zo))) Zo)))))))
noncomputable def Zll: Sm:=ZG (ZaI (Zby (Zb 0)) (put1 100) Zam (Zu ZjF (Zf (Zb 100) (Zf (Zh Zt (Zb 100) (Zb 1)) (Zf (Zh Zt (Zb 0) (Zb 1)) Zn)))))
noncomputable def Zlm:=Z9 2 Zll
noncomputable def Zln: PS:=(ZE (Zap (ZaD (Za 0)) (Zac 100) Zae (Zr Zhi (Zd (Za 100) (Zd (Ze Zq (Za 100) (Za 1)) (Zd (Ze Zq (Za 0) (Za 1)) Zm))))))
noncomputable def ZhO:=Zab 2 Zln
theorem Zpi: SimF true Zlm ZhO:=Zaf (show S [] [] [] true Zll Zln from(Za7 (Zdn (Gs.seq (Zc 0)) PutOk.one (by decide) Zay (ZbO Zr2 (Zg (Zc 100) (Zg (ZA Zz (Zc 100) (Zc 1)) (Zg (ZA Zz (Zc 0) (Zc 1)) Zo)))))))
noncomputable def ZjZ: Sm:=ZG (Zu Zhd (Zf (ZaI (ZaP (Zf (Zu ZaJ (Zf (Zb 0) Zn)) Zn)) (put1 100) Zam (Zh oLt (Zh Zt (Zh Zt (Zb 0) (Zb 100)) (Zb 100)) (Zk 0))) Zn))
noncomputable def Zj0:=Z9 1 ZjZ
noncomputable def Zj1: PS:=(ZE (Zr Zhe (Zd (Zap (ZaE (Zd (Zr Zar (Zd (Za 0) Zm)) Zm)) (Zac 100) Zae (Ze qLt (Ze Zq (Ze Zq (Za 0) (Za 100)) (Za 100)) (Zj 0))) Zm)))
noncomputable def Zho:=Zab 1 Zj1
theorem ZoS: SimF false Zj0 Zho:=Zaf (show S [] [] [] false ZjZ Zj1 from(ZV (Zaw ZxQ (Zg (Zca (Gs.range (Zg (Zaw ZaV (Zg (Zc 0) Zo)) Zo)) PutOk.one (by decide) Zay (ZC Zcq (ZA Zz (ZA Zz (Zc 0) (Zc 100)) (Zc 100)) (Zl _))) Zo))))
noncomputable def Znt: Sm:=Zv (ZN 1 (Zb 0)) (Zv (ZaM (ZaP (Zf (Zu ZaJ (Zf (Zb 0) Zn)) Zn)) (put1 2) (Zv (ZN 1 (Zu Zlm (Zf (Zb 1) (Zf (Zb 2) Zn)))) (ZW (ZF (Zu Zj0 (Zf (Zb 1) Zn))) (ZG (Z0)) Z1))) (ZG (Zb 1)))
noncomputable def Zfw:=Z9 1 Znt
noncomputable def Znu: PS:=(Zs (ZI 1 (Za 0)) (Zs (Zjq (ZaE (Zd (Zr Zar (Zd (Za 0) Zm)) Zm)) (Zac 2) (Zs (ZI 1 (Zr ZhO (Zd (Za 1) (Zd (Za 2) Zm)))) (ZP (ZD (Zr Zho (Zd (Za 1) Zm))) (ZE (ZR)) ZU))) (ZE (Za 1))))
noncomputable def ZgG:=Zab 1 Znu
theorem Zvc: SimF true Zfw ZgG:=Zaf (show S [] [1] [] true Znt Znu from(Zy (ZY (O':=[]) (Zc 0)) (Zy (Zxz (Gs.range (Zg (Zaw ZaV (Zg (Zc 0) Zo)) Zo)) PutOk.one PutOk.one (by decide) (by decide) (by decide) (Zy (Zcn (O':=[1]) (ZbO Zpi (Zg (Zc 1) (Zg (Zc 2) Zo)))) (Z3 (ZJ (ZK ZoS (Zg (Zc 1) Zo))) (Za7 (Z8)) Z6)) (Zy (Zcn (O':=[1]) (Za8 (O':=[]) (ZbO Zpi (Zg (Zc 1) (Zg (Zc 2) Zo))))) (Z3 (ZJ (ZK ZoS (Zg (Zc 1) Zo))) (Za7 (Z8)) Z6))) (Za7 (E.own (by decide))))))
noncomputable def Zlo: Sm:=ZG (Zdw (eIs "int" (Zb 0)) (Zjs (eIs "bool" (Zb 0))))
noncomputable def Zgg:=Z9 1 Zlo
noncomputable def Zlp: PS:=(ZE ((ZdJ (pIs "int" (Za 0)) (Zjv (pIs "bool" (Za 0))))))
noncomputable def Zfc:=Zab 1 Zlp
theorem Zlq: SimF false Zgg Zfc:=Zaf (show S [] [] [] false Zlo Zlp from(ZV ((ZfN (E.sh (Zd8 (Zc 0))) (E.sh (ZxO (Zd8 (Zc 0))))))))
noncomputable def Zl6: Sm:=Zv (ZW (tOr (Zcp (ZF (eIs "list" (Zb 0)))) (tOr (ZF (Zh oNe (Zu ZaJ (Zf (Zb 0) Zn)) (Zb 1))) Zcm)) (ZG (Zb5 false)) Z1) (Zv (ZaM (ZaP (Zf (Zb 1) Zn)) (put1 2) (Zv (ZW (tOr (Zcp (ZF (eIs "list" (Zh Zt (Zb 0) (Zb 2))))) (tOr (ZF (Zh oNe (Zu ZaJ (Zf (Zh Zt (Zb 0) (Zb 2)) Zn)) (Zb 1))) Zcm)) (ZG (Zb5 false)) Z1) (Zv (ZaM (Zby (Zh Zt (Zb 0) (Zb 2))) (put1 3) (ZW (Zat (ZF (Zh Zbt (Zb 3) (Z0))) (Zat (Zcp (ZF (Zu Zgg (Zf (Zb 3) Zn)))) Zam)) (ZG (Zb5 false)) Z1)) (ZW (ZF (Zh oNe (Zh Zt (Zh Zt (Zb 0) (Zb 2)) (Zb 2)) (Zk 0))) (ZG (Zb5 false)) Z1)))) (ZG (Zb5 true)))
noncomputable def Zl7:=Z9 2 Zl6
noncomputable def Zl8: PS:=(Zs (ZP (bOr (ZbY (ZD (pIs "list" (Za 0)))) (bOr (ZD (Ze qNe (Zr Zar (Zd (Za 0) Zm)) (Za 1))) Zce)) (ZE (ZbD false)) ZU) (Zs (ZaB (ZaE (Zd (Za 1) Zm)) (Zac 2) (Zs (ZP (bOr (ZbY (ZD (pIs "list" (Ze Zq (Za 0) (Za 2))))) (bOr (ZD (Ze qNe (Zr Zar (Zd (Ze Zq (Za 0) (Za 2)) Zm)) (Za 1))) Zce)) (ZE (ZbD false)) ZU) (Zs (ZaB (ZaD (Ze Zq (Za 0) (Za 2))) (Zac 3) (ZP (Zai (ZD (Ze ZaO (Za 3) (ZR))) (Zai (ZbY (ZD (Zr Zfc (Zd (Za 3) Zm)))) Zae)) (ZE (ZbD false)) ZU)) (ZP (ZD (Ze qNe (Ze Zq (Ze Zq (Za 0) (Za 2)) (Za 2)) (Zj 0))) (ZE (ZbD false)) ZU)))) (ZE (ZbD true))))
noncomputable def Zh7:=Zab 2 Zl8
theorem ZtE: SimF false Zl7 Zh7:=Zaf (show S [] [] [] false Zl6 Zl8 from(Zy (Z3 (Zbh (ZcQ (ZJ (Zd8 (Zc 0)))) (Zbh (ZJ (ZC ZbP (Zaw ZaV (Zg (Zc 0) Zo)) (Zc 1))) ZcN)) (ZV (E.bool _)) Z6) (Zy (Zba (Gs.range (Zg (Zc 1) Zo)) PutOk.one (by decide) (by decide) (Zy (Z3 (Zbh (ZcQ (ZJ (Zd8 (ZA Zz (Zc 0) (Zc 2))))) (Zbh (ZJ (ZC ZbP (Zaw ZaV (Zg (ZA Zz (Zc 0) (Zc 2)) Zo)) (Zc 1))) ZcN)) (ZV (E.bool _)) Z6) (Zy (Zba (Gs.seq (ZA Zz (Zc 0) (Zc 2))) PutOk.one (by decide) (by decide) (Z3 (ZaA (ZJ (ZC ZbL (Zc 3) (Z8))) (ZaA (ZcQ (ZJ (ZK Zlq (Zg (Zc 3) Zo)))) Zay)) (ZV (E.bool _)) Z6)) (Z3 (ZJ (ZC ZbP (ZA Zz (ZA Zz (Zc 0) (Zc 2)) (Zc 2)) (Zl _))) (ZV (E.bool _)) Z6)))) (ZV (E.bool _)))))
noncomputable def Zj2: Sm:=ZG (ZaR (Zf (Zu Zef (Zf (Zh Zt (Zb 0) (Zk 0)) (Zf (Zh Zt (Zb 1) (Zk 0)) Zn))) (Zf (Zu Zef (Zf (Zh Zt (Zb 0) (Zk 1)) (Zf (Zh Zt (Zb 1) (Zk 1)) Zn))) Zn)))
noncomputable def Zj3:=Z9 2 Zj2
noncomputable def Zj4: PS:=(ZE (ZaU (Zd (Zr ZdS (Zd (Ze Zq (Za 0) (Zj 0)) (Zd (Ze Zq (Za 1) (Zj 0)) Zm))) (Zd (Zr ZdS (Zd (Ze Zq (Za 0) (Zj 1)) (Zd (Ze Zq (Za 1) (Zj 1)) Zm))) Zm))))
noncomputable def Zhp:=Zab 2 Zj4
theorem Zsj: SimF false Zj3 Zhp:=Zaf (show S [] [] [] false Zj2 Zj4 from(ZV (E.tup (Zg (ZK Zff (Zg (ZA Zz (Zc 0) (Zl _)) (Zg (ZA Zz (Zc 1) (Zl _)) Zo))) (Zg (ZK Zff (Zg (ZA Zz (Zc 0) (Zl _)) (Zg (ZA Zz (Zc 1) (Zl _)) Zo))) Zo)))))
noncomputable def Zlr: Sm:=Zv (ZW (ZF (Zh oIs (Zb 0) (Z0))) (ZG (Z0)) Z1) (ZG (Zh ZaX (Zb 0) (Zb 1)))
noncomputable def Zfd:=Z9 2 Zlr
noncomputable def Zls: PS:=(Zs (ZP (ZD (Ze qIs (Za 0) (ZR))) (ZE (ZR)) ZU) (ZE (Ze ZaF (Za 0) (Za 1))))
noncomputable def Zez:=Zab 2 Zls
theorem ZhP: SimF false Zfd Zez:=Zaf (show S [] [] [] false Zlr Zls from(Zy (Z3 (ZJ (ZC Zbr (Zc 0) (Z8))) (ZV (Z8)) Z6) (ZV (Zad Za9 (Zc 0) (Zc 1)))))
noncomputable def ZjH: Sm:=Zv (ZW (ZF (Zh oEq (Zb 1) (Zk 0))) (ZG (ZaR (Zf (Zk 0) (Zf (Zk 0) Zn)))) Z1) (Zv (ZN 2 (Zu Zfd (Zf (Zh Zt (Zb 0) (Zk 0)) (Zf (Zb 1) Zn)))) (Zv (ZN 3 (Zu Zfd (Zf (Zh Zt (Zb 0) (Zk 1)) (Zf (Zb 1) Zn)))) (Zv (ZW (ZF (Zh oLt (Zb 1) (Zk 0))) (ZG (ZaR (Zf (Zb 3) (Zf (Zb 2) Zn)))) Z1) (ZG (ZaR (Zf (Zb 2) (Zf (Zb 3) Zn)))))))
noncomputable def ZjI:=Z9 2 ZjH
noncomputable def ZjJ: PS:=(Zs (ZP (ZD (Ze qEq (Za 1) (Zj 0))) (ZE (ZaU (Zd (Zj 0) (Zd (Zj 0) Zm)))) ZU) (Zs (ZI 2 (Zr Zez (Zd (Ze Zq (Za 0) (Zj 0)) (Zd (Za 1) Zm)))) (Zs (ZI 3 (Zr Zez (Zd (Ze Zq (Za 0) (Zj 1)) (Zd (Za 1) Zm)))) (Zs (ZP (ZD (Ze qLt (Za 1) (Zj 0))) (ZE (ZaU (Zd (Za 3) (Zd (Za 2) Zm)))) ZU) (ZE (ZaU (Zd (Za 2) (Zd (Za 3) Zm))))))))
noncomputable def Zhj:=Zab 2 ZjJ
theorem Zr3: SimF false ZjI Zhj:=Zaf (show S [] [] [] false ZjH ZjJ from(Zy (Z3 (ZJ (ZC ZaN (Zc 1) (Zl _))) (ZV (E.tup (Zg (Zl _) (Zg (Zl _) Zo)))) Z6) (Zy (ZY (O':=[]) (ZK ZhP (Zg (ZA Zz (Zc 0) (Zl _)) (Zg (Zc 1) Zo)))) (Zy (ZY (O':=[]) (ZK ZhP (Zg (ZA Zz (Zc 0) (Zl _)) (Zg (Zc 1) Zo)))) (Zy (Z3 (ZJ (ZC Zcq (Zc 1) (Zl _))) (ZV (E.tup (Zg (Zc 3) (Zg (Zc 2) Zo)))) Z6) (ZV (E.tup (Zg (Zc 2) (Zg (Zc 3) Zo)))))))))
noncomputable def Zkj: Sm:=Zv (ZN 2 (ZaR (Zf (Zh Zt (Zb 0) (Zk 0)) (Zf (Zh Zt (Zb 0) (Zk 0)) Zn)))) (Zv (ZaM (Zd7 (ZdI (Zb 0) 1) (Zb 1)) (ZcA 3 4) (ZN 2 (Zu Zj3 (Zf (Zb 2) (Zf (Zu ZjI (Zf (Zb 4) (Zf (Zb 3) Zn))) Zn))))) (ZG (Zb 2)))
noncomputable def Zkk:=Z9 2 Zkj
noncomputable def Zkl: PS:=(Zs (ZI 2 (ZaU (Zd (Ze Zq (Za 0) (Zj 0)) (Zd (Ze Zq (Za 0) (Zj 0)) Zm)))) (Zs (ZaB (Zd9 (Zdu (Za 0) 1) (Za 1)) (ZcX 3 4) (ZI 2 (Zr Zhp (Zd (Za 2) (Zd (Zr Zhj (Zd (Za 4) (Zd (Za 3) Zm))) Zm))))) (ZE (Za 2))))
noncomputable def Zhu:=Zab 2 Zkl
theorem Zsz: SimF false Zkk Zhu:=Zaf (show S [] [] [] false Zkj Zkl from(Zy (ZY (O':=[]) (E.tup (Zg (ZA Zz (Zc 0) (Zl _)) (Zg (ZA Zz (Zc 0) (Zl _)) Zo)))) (Zy (Zba (Gs.zip (ZgU (Zc 0)) (Zc 1)) PutOk.two (by decide) (by decide) (ZY (O':=[]) (ZK Zsj (Zg (Zc 2) (Zg (ZK Zr3 (Zg (Zc 4) (Zg (Zc 3) Zo))) Zo))))) (ZV (Zc 2)))))
noncomputable def Zl9: Sm:=Zv (ZN 2 (ZaR (Zf (Zk 0) (Zf (Zh Zt (Zb 0) (Zk 0)) Zn)))) (Zv (ZaM (Zd7 (ZdI (Zb 0) 1) (Zb 1)) (ZcA 3 4) (ZN 2 (Zu Zgf (Zf (Zb 2) (Zf (Zu Zf7 (Zf (Zb 4) (Zf (Zb 3) Zn))) Zn))))) (ZG (Zb 2)))
noncomputable def Zfg:=Z9 2 Zl9
noncomputable def Zma: PS:=(Zs (ZI 2 (ZaU (Zd (Zj 0) (Zd (Ze Zq (Za 0) (Zj 0)) Zm)))) (Zs (ZaB (Zd9 (Zdu (Za 0) 1) (Za 1)) (ZcX 3 4) (ZI 2 (Zr Zfb (Zd (Za 2) (Zd (Zr Ze9 (Zd (Za 4) (Zd (Za 3) Zm))) Zm))))) (ZE (Za 2))))
noncomputable def ZeD:=Zab 2 Zma
theorem Zh8: SimF false Zfg ZeD:=Zaf (show S [] [] [] false Zl9 Zma from(Zy (ZY (O':=[]) (E.tup (Zg (Zl _) (Zg (ZA Zz (Zc 0) (Zl _)) Zo)))) (Zy (Zba (Gs.zip (ZgU (Zc 0)) (Zc 1)) PutOk.two (by decide) (by decide) (ZY (O':=[]) (ZK Zlk (Zg (Zc 2) (Zg (ZK ZkN (Zg (Zc 4) (Zg (Zc 3) Zo))) Zo))))) (ZV (Zc 2)))))
noncomputable def ZmQ: Sm:=ZG (Zdw (Zh Zbt (Zb 0) (Z0)) (Zdw (Zh Zbt (Zb 1) (Z0)) (Zh oGt (Zb 0) (Zb 1))))
noncomputable def ZmR:=Z9 2 ZmQ
noncomputable def ZmS: PS:=(ZE ((ZdJ (Ze ZaO (Za 0) (ZR)) (ZdJ (Ze ZaO (Za 1) (ZR)) (Ze qGt (Za 0) (Za 1))))))
noncomputable def Zfq:=Zab 2 ZmS
theorem Zum: SimF false ZmR Zfq:=Zaf (show S [] [] [] false ZmQ ZmS from(ZV ((ZfN (E.sh (ZC ZbL (Zc 0) (Z8))) (ZfN (E.sh (ZC ZbL (Zc 1) (Z8))) (E.sh (ZC Zdy (Zc 0) (Zc 1))))))))
noncomputable def Zkm: Sm:=ZG (Zh Zah (Zcb (Zf (ZaR (Zf (Zk 0) (Zf (Zk 0) Zn))) Zn)) (Zb 0))
noncomputable def Ze7:=Z9 1 Zkm
noncomputable def Zkn: PS:=(ZE (Ze Zag (Zb6 (Zd (ZaU (Zd (Zj 0) (Zd (Zj 0) Zm))) Zm)) (Za 0)))
noncomputable def Ze8:=Zab 1 Zkn
theorem Zko: SimF false Ze7 Ze8:=Zaf (show S [] [] [] false Zkm Zkn from(ZV (Zad Zal (E.list (Zg (E.tup (Zg (Zl _) (Zg (Zl _) Zo))) Zo)) (Zc 0))))
noncomputable def Zj5: Sm:=Zv (ZN 3 (Zh Zt (Zb 1) (Zb 2))) (Zv (ZaM (Zjo (Zb 1)) (ZcA 4 5) (ZW (Zat (ZF (Zh Zbt (Zb 3) (Z0))) (Zat (ZF (Zh oEq (Zu Zef (Zf (Zh Zt (Zh Zt (Zb 0) (Zb 2)) (Zb 4)) (Zf (Zh Zt (Zh Zt (Zb 0) (Zb 4)) (Zb 2)) Zn))) (Zk 0))) Zam)) (ZN 3 (Zu Zh6 (Zf (Zb 3) (Zf (Zu Zgf (Zf (Zb 5) (Zf (ZaR (Zf (Zk 0) (Zf (Zh Zt (Zh Zt (Zb 0) (Zb 2)) (Zb 4)) Zn))) Zn))) Zn)))) Z1)) (ZG (Zb 3)))
noncomputable def ZfZ:=Z9 3 Zj5
noncomputable def Zj6: PS:=(Zs (ZI 3 (Ze Zq (Za 1) (Za 2))) (Zs (ZaB (Zjp (Za 1)) (ZcX 4 5) (ZP (Zai (ZD (Ze ZaO (Za 3) (ZR))) (Zai (ZD (Ze qEq (Zr ZdS (Zd (Ze Zq (Ze Zq (Za 0) (Za 2)) (Za 4)) (Zd (Ze Zq (Ze Zq (Za 0) (Za 4)) (Za 2)) Zm))) (Zj 0))) Zae)) (ZI 3 (Zr Zgj (Zd (Za 3) (Zd (Zr Zfb (Zd (Za 5) (Zd (ZaU (Zd (Zj 0) (Zd (Ze Zq (Ze Zq (Za 0) (Za 2)) (Za 4)) Zm))) Zm))) Zm)))) ZU)) (ZE (Za 3))))
noncomputable def Zeu:=Zab 3 Zj6
theorem ZoT: SimF false ZfZ Zeu:=Zaf (show S [] [] [] false Zj5 Zj6 from(Zy (ZY (O':=[]) (ZA Zz (Zc 1) (Zc 2))) (Zy (Zba (Zwb (Zc 1)) PutOk.two (by decide) (by decide) (Z3 (ZaA (ZJ (ZC ZbL (Zc 3) (Z8))) (ZaA (ZJ (ZC ZaN (ZK Zff (Zg (ZA Zz (ZA Zz (Zc 0) (Zc 2)) (Zc 4)) (Zg (ZA Zz (ZA Zz (Zc 0) (Zc 4)) (Zc 2)) Zo))) (Zl _))) Zay)) (ZY (O':=[]) (ZK ZpB (Zg (Zc 3) (Zg (ZK Zlk (Zg (Zc 5) (Zg (E.tup (Zg (Zl _) (Zg (ZA Zz (ZA Zz (Zc 0) (Zc 2)) (Zc 4)) Zo))) Zo))) Zo)))) Z6)) (ZV (Zc 3)))))
noncomputable def Zf1: Sm:=Zv (ZW (ZF (Zh oIs (Zb 0) (Z0))) (ZG (Z0)) Z1) (Zv (ZN 1 (Zu Ze7 (Zf (Zh Zt (Zb 0) (Zk 1)) Zn))) (Zv (ZN 2 (ZaI (ZaP (Zf (Zk 1) (Zf (Zu ZaJ (Zf (Zb 1) Zn)) Zn))) (put1 100) Zam (Zu ZfZ (Zf (Zh Zt (Zb 0) (Zk 0)) (Zf (Zb 1) (Zf (Zb 100) Zn)))))) (Zv (ZW (ZF (Zh oIn (Z0) (Zb 2))) (ZG (Z0)) Z1) (ZG (ZaR (Zf (Zh Zt (Zb 0) (Zk 0)) (Zf (Zb 2) Zn)))))))
noncomputable def Zeb:=Z9 1 Zf1
noncomputable def Zf2: PS:=(Zs (ZP (ZD (Ze qIs (Za 0) (ZR))) (ZE (ZR)) ZU) (Zs (ZI 1 (Zr Ze8 (Zd (Ze Zq (Za 0) (Zj 1)) Zm))) (Zs (ZI 2 (Zap (ZaE (Zd (Zj 1) (Zd (Zr Zar (Zd (Za 1) Zm)) Zm))) (Zac 100) Zae (Zr Zeu (Zd (Ze Zq (Za 0) (Zj 0)) (Zd (Za 1) (Zd (Za 100) Zm)))))) (Zs (ZP (ZD (Ze qIn (ZR) (Za 2))) (ZE (ZR)) ZU) (ZE (ZaU (Zd (Ze Zq (Za 0) (Zj 0)) (Zd (Za 2) Zm))))))))
noncomputable def ZdN:=Zab 1 Zf2
theorem ZsA: SimF false Zeb ZdN:=Zaf (show S [] [] [] false Zf1 Zf2 from(Zy (Z3 (ZJ (ZC Zbr (Zc 0) (Z8))) (ZV (Z8)) Z6) (Zy (ZY (O':=[]) (ZK Zko (Zg (ZA Zz (Zc 0) (Zl _)) Zo))) (Zy (ZY (O':=[]) (Zca (Gs.range (Zg (Zl _) (Zg (Zaw ZaV (Zg (Zc 1) Zo)) Zo))) PutOk.one (by decide) Zay (ZK ZoT (Zg (ZA Zz (Zc 0) (Zl _)) (Zg (Zc 1) (Zg (Zc 100) Zo)))))) (Zy (Z3 (ZJ (ZC Ze1 (Z8) (Zc 2))) (ZV (Z8)) Z6) (ZV (E.tup (Zg (ZA Zz (Zc 0) (Zl _)) (Zg (Zc 2) Zo)))))))))
noncomputable def Zi9: Sm:=Zv (ZW (ZF (Zh oIs (Zb 0) (Z0))) (ZG (Z0)) Z1) (Zv (ZN 1 (Zu Zfw (Zf (Zh Zt (Zb 0) (Zk 0)) Zn))) (Zv (ZW (ZF (Zh oIs (Zb 1) (Z0))) (ZG (Z0)) Z1) (ZG (ZaR (Zf (Zb 1) (Zf (Zh Zt (Zb 0) (Zk 1)) Zn))))))
noncomputable def Zem:=Z9 1 Zi9
noncomputable def Zja: PS:=(Zs (ZP (ZD (Ze qIs (Za 0) (ZR))) (ZE (ZR)) ZU) (Zs (ZI 1 (Zr ZgG (Zd (Ze Zq (Za 0) (Zj 0)) Zm))) (Zs (ZP (ZD (Ze qIs (Za 1) (ZR))) (ZE (ZR)) ZU) (ZE (ZaU (Zd (Za 1) (Zd (Ze Zq (Za 0) (Zj 1)) Zm)))))))
noncomputable def Zen:=Zab 1 Zja
noncomputable def Zoj: Sm:=ZG (Zu Zeb (Zf (Zu Zem (Zf (Zb 0) Zn)) Zn))
noncomputable def ZfK:=Z9 1 Zoj
noncomputable def Zjb: PS:=(ZE (Zr ZdN (Zd (Zr Zen (Zd (Za 0) Zm)) Zm)))
noncomputable def ZgN: T→Bool
 | .none=>true
 | .tup [_,.lst ts]=>T.flats ts
 | _=>false
noncomputable def ZeP: List T→Option T:=fun ts=>(Zab 1 Zjb ts).bind fun t=>if ZgN t then some t else none
theorem Zru(hp:0<H.length)(r:RF H a t F): St ⟨H,[],fun x=>x∈F⟩ [] (fun i=>[a][i]?) (fun i=>[t][i]?) H (fun _=>F):=by
 refine⟨fun i u e=>?_,fun i u e x m=>.inr m,fun i hi=>(nomatch hi),Nat.le_refl _,fun x _ _=>rfl,hp,by simp⟩
 cases i with
 | zero=>cases e;exact⟨a,rfl,r⟩
 | succ i=>simp at e
theorem ZqT(e:ρ 0=some a)(r:RF H a t F)(ht:t≠.none): ZW (ZF (Zh oIs (Zb 0) (Z0))) (ZG (Z0)) Z1 ρ H=some (none,ρ,H):=by
 cases r <;> first | exact absurd rfl ht | simp[ZW,ZF,Zh,Zb,e,Z0,oIs,ZcV,Z1]
theorem ZqU(e:σ 0=some t)(ht:t≠.none): ZP (ZD (Ze qIs (Za 0) (ZR))) (ZE (ZR)) ZU σ=some (none,σ):=by
 cases t <;> first | exact absurd rfl ht | simp[ZP,ZD,Ze,Za,e,ZR,qIs,Zb4,ZU]
theorem ZqV(e:σ 0=some .none): ZP (ZD (Ze qIs (Za 0) (ZR))) (ZE (ZR)) ZU σ=some (some .none,σ):=by
 simp[ZP,ZD,Ze,Za,e,ZR,qIs,Zb4,ZE]
theorem ZoH{a b:PS}{σ1:TL}(h:a σ=some (none,σ1)): Zs a b σ=b σ1:=by simp only[Zs,h,Option.bind_some]
theorem ZrU{a b:PS}{σ1:TL}(h:a σ=some (some t,σ1)): Zs a b σ=some (some t,σ1):=by simp only[Zs,h,Option.bind_some]
theorem ZeV{a b:Sm}{ρ1:Lc}{H1:Hp}(h:a ρ H=some (none,ρ1,H1)): Zv a b ρ H=b ρ1 H1:=by simp only[Zv,h,Option.bind_some]
theorem Zx2{a b:Sm}{ρ1:Lc}{H1:Hp}{v:V}(h:a ρ H=some (some v,ρ1,H1)): Zv a b ρ H=some (some v,ρ1,H1):=by simp only[Zv,h,Option.bind_some]
theorem ZtF{u:T}(hp:0<H.length)(r:RF H a t F)(h:Zen [t]=some u):
  (u=.none∧∃X,Zem [a] H=some (.none,H++X))∨∃w0 v1 u0 u1 X F0 F1,u=.tup [u0,u1]∧Zem [a] H=some (.tup [w0,v1],H++X)∧RF (H++X) w0 u0 F0∧F0.Nodup∧(∀x∈F0,H.length≤x)∧RF (H++X) v1 u1 F1:=by
 have st:=Zru hp r
 unfold Zen Zab at h
 simp only[List.length_cons,List.length_nil,Nat.zero_add,if_true]at h
 obtain⟨r1,h,h0⟩:=Zz1.mp h
 unfold Zja at h
 by_cases hn:t=.none
 ·subst hn
  rw[ZrU (ZqV rfl)]at h
  cases h
  cases h0
  cases r
  exact .inl ⟨rfl,[],by simp[Zem,Z9,Zi9,Zv,ZW,ZF,Zh,Zb,Z0,oIs,ZcV,ZG]⟩
 ·rw[ZoH (ZqU (σ:=fun i=>[t][i]?) rfl hn)]at h
  have ev:∀b:Sm,Zv (ZW (ZF (Zh oIs (Zb 0) (Z0))) (ZG (Z0)) Z1) b (fun i=>[a][i]?) H=b (fun i=>[a][i]?) H:=fun b=>ZeV (ZqT rfl r hn)
  obtain⟨r2,h1',h⟩:=Zz0.mp h
  obtain⟨u0,h1,e1⟩:=Zz1.mp h1'
  subst e1
  have x1:E [] [] true (Zu Zfw (Zf (Zh Zt (Zb 0) (Zk 0)) Zn)) (Zr ZgG (Zd (Ze Zq (Za 0) (Zj 0)) Zm)):=ZbO Zvc (Zg (ZA Zz (Zc 0) (Zl _)) Zo)
  obtain⟨w0,X,F0,a1,a2,a3,a4⟩:=x1 _ _ _ _ _ _ st h1
  have new:∀x∈F0,H.length≤x:=fun x m=>(a3 x m).nil
  have e2:ZN 1 (Zu Zfw (Zf (Zh Zt (Zb 0) (Zk 0)) Zn)) (fun i=>[a][i]?) H=some (none,upd (fun i=>[a][i]?) 1 w0,H++X):=by simp only[ZN,a1,Option.map_some]
  simp only at h
  have ev2:∀b:Sm,Zv (ZN 1 (Zu Zfw (Zf (Zh Zt (Zb 0) (Zk 0)) Zn))) b (fun i=>[a][i]?) H=b (upd (fun i=>[a][i]?) 1 w0) (H++X):=fun b=>ZeV e2
  have fin:∀o,Zv (ZW (ZF (Zh oIs (Zb 1) (Z0))) (ZG (Z0)) Z1) (ZG (ZaR (Zf (Zb 1) (Zf (Zh Zt (Zb 0) (Zk 1)) Zn)))) (upd (fun i=>[a][i]?) 1 w0) (H++X)=some o→Zem [a] H=some (o.1.getD .none,o.2.2):=fun o ho=>by
   unfold Zem Z9 Zi9
   simp only[List.length_cons,List.length_nil,Nat.zero_add,if_true]
   rw[ev,ev2,ho]
   rfl
  by_cases hu:u0=.none
  ·subst hu
   cases a2
   obtain⟨r3,h2,h⟩:=Zz0.mp h
   have:r3=(some .none,Zaa (fun i=>[t][i]?) 1 .none):=by
    have:=h2
    simp[ZP,ZD,Ze,Za,Zaa,ZR,qIs,Zb4,ZE]at this
    exact this.symm
   subst this
   cases h
   cases h0
   refine .inl ⟨rfl,X,fin (some .none,upd (fun i=>[a][i]?) 1 .none,H++X) ?_⟩
   exact Zx2 (by simp[ZW,ZF,Zh,Zb,upd,Z0,oIs,ZcV,ZG])
  ·have e3:ZW (ZF (Zh oIs (Zb 1) (Z0))) (ZG (Z0)) Z1 (upd (fun i=>[a][i]?) 1 w0) (H++X)=some (none,upd (fun i=>[a][i]?) 1 w0,H++X):=by
    cases a2 <;> first | exact(hu rfl).elim | simp[ZW,ZF,Zh,Zb,upd,Z0,oIs,ZcV,Z1]
   have e4:ZP (ZD (Ze qIs (Za 1) (ZR))) (ZE (ZR)) ZU (Zaa (fun i=>[t][i]?) 1 u0)=some (none,Zaa (fun i=>[t][i]?) 1 u0):=by
    cases u0 <;> first | exact(hu rfl).elim | simp[ZP,ZD,Ze,Za,Zaa,ZR,qIs,Zb4,ZU]
   rw[ZoH e4]at h
   obtain⟨u',h5,h6⟩:=Zz1.mp h
   subst h6
   obtain⟨us,h7,h8⟩:=Zz1.mp h5
   subst h8
   obtain⟨q0,g1,h9⟩:=Zz0.mp h7
   obtain⟨qs,g2,h10⟩:=Zz0.mp h9
   cases h10
   obtain⟨q1,g3,g6⟩:=Zz0.mp g2
   obtain⟨qs',g4,g7⟩:=Zz0.mp g6
   cases g7
   cases g4
   have eq0:q0=u0:=by
    have:Zaa (fun i=>[t][i]?) 1 u0 1=some q0:=g1
    simp[Zaa]at this
    exact this.symm
   subst eq0
   have g5:Zq t (.int 1)=some q1:=by
    have:=g3
    simpa [Ze,Za,Zaa,Zj]using this
   obtain⟨v1,F1,b1,b2,b3⟩:=Zz _ _ _ _ _ _ _ _ (r.ext X) (RF.int (H:=H++X) 1) g5
   cases h0
   refine .inr ⟨w0,v1,q0,q1,X,F0,F1,rfl,fin (some (.tup [w0,v1]),upd (fun i=>[a][i]?) 1 w0,H++X) ?_,a2,a4 rfl,new,b2⟩
   rw[ZeV e3]
   simp[ZG,ZaR,Zf,Zb,upd,Zh,Zk,b1,Zn,Zbm]
theorem ZpT{put:T→TL→Option TL}{f:PE}{σ:TL}: ∀{ts us:List T},Zcx put Zae f σ ts=some us→T.flats us=true→Zcx put Zae (ZbV f) σ ts=some us
 | [],_,h,_=>h
 | t::ts,us,h,hf=>by
  obtain⟨σ1,h1,h⟩:=Zz0.mp h
  simp only[Zae,Option.bind_some,if_true]at h
  obtain⟨x,h2,h⟩:=Zz0.mp h
  obtain⟨xs,h3,h⟩:=Zz1.mp h
  subst h
  simp only[T.flats,Bool.and_eq_true]at hf
  simp only[Zcx,h1,Option.bind_some,Zae,if_true,ZbV,h2,hf.1,ZpT h3 hf.2,Option.map_some]
theorem ZpC{u:T}(hp:0<H.length)(r:RF H a t F)(h:ZdN [t]=some u)(ok:ZgN u=true):
  (u=.none∧∃X,Zeb [a] H=some (.none,H++X))∨∃w0 w1 u0 u1 X F1,u=.tup [u0,u1]∧Zt a (.int 0) H=some (w0,H)∧Zq t (.int 0)=some u0∧Zeb [a] H=some (.tup [w0,w1],H++X)∧RF (H++X) w1 u1 F1∧F1.Nodup∧(∀x∈F1,H.length≤x):=by
 have st:=Zru hp r
 have hfull:=h
 unfold ZdN Zab at h
 simp only[List.length_cons,List.length_nil,Nat.zero_add,if_true]at h
 obtain⟨r1,h,h0⟩:=Zz1.mp h
 unfold Zf2 at h
 by_cases hn:t=.none
 ·subst hn
  rw[ZrU (ZqV rfl)]at h
  cases h
  cases h0
  cases r
  exact .inl ⟨rfl,[],by simp[Zeb,Z9,Zf1,Zv,ZW,ZF,Zh,Zb,Z0,oIs,ZcV,ZG]⟩
 ·rw[ZoH (ZqU (σ:=fun i=>[t][i]?) rfl hn)]at h
  have ev:∀b:Sm,Zv (ZW (ZF (Zh oIs (Zb 0) (Z0))) (ZG (Z0)) Z1) b (fun i=>[a][i]?) H=b (fun i=>[a][i]?) H:=fun b=>ZeV (ZqT rfl r hn)
  obtain⟨r2,h1',h⟩:=Zz0.mp h
  obtain⟨t1,h1,e1⟩:=Zz1.mp h1'
  subst e1
  have x1:E [] ([0]++[]) false (Zu Ze7 (Zf (Zh Zt (Zb 0) (Zk 1)) Zn)) (Zr Ze8 (Zd (Ze Zq (Za 0) (Zj 1)) Zm)):=ZK Zko (Zg (ZA Zz (Zc 0) (Zl _)) Zo)
  obtain⟨v1,X1,Fr,a1,a2,a3,_⟩:=x1 _ _ _ _ _ _ st h1
  have st1:=(st.ext X1).put (j:=1) (by simp) a2 (fun x m=>st.from_src (a3 x m)) (fun i hi=>(nomatch hi))
  have ev1:∀b:Sm,Zv (ZN 1 (Zu Ze7 (Zf (Zh Zt (Zb 0) (Zk 1)) Zn))) b (fun i=>[a][i]?) H=b (upd (fun i=>[a][i]?) 1 v1) (H++X1):=fun b=>ZeV (by simp only[ZN,a1,Option.map_some])
  simp only at h
  obtain⟨r3,h2',h⟩:=Zz0.mp h
  obtain⟨t2,h2,e2⟩:=Zz1.mp h2'
  subst e2
  simp only at h
  generalize hσ:Zaa (fun i=>[t][i]?) 1 t1=σ1 at *
  generalize hρ:upd (fun i=>[a][i]?) 1 v1=ρ1 at *
  have hρ0:ρ1 0=some a:=by rw[←hρ];simp[upd]
  have hσ0:σ1 0=some t:=by rw[←hσ];simp[Zaa]
  have x2:∀ts,T.flats ts=true→Zap (ZaE (Zd (Zj 1) (Zd (Zr Zar (Zd (Za 1) Zm)) Zm))) (Zac 100) Zae (Zr Zeu (Zd (Ze Zq (Za 0) (Zj 0)) (Zd (Za 1) (Zd (Za 100) Zm)))) σ1=some (.lst ts)→∃w X G,ZaI (ZaP (Zf (Zk 1) (Zf (Zu ZaJ (Zf (Zb 1) Zn)) Zn))) (put1 100) Zam (Zu ZfZ (Zf (Zh Zt (Zb 0) (Zk 0)) (Zf (Zb 1) (Zf (Zb 100) Zn)))) ρ1 (H++X1)=some (w,H++X1++X)∧RF (H++X1++X) w (.lst ts) G∧G.Nodup∧∀x∈G,(H++X1).length≤x:=fun ts hf he=>by
   have y:E [] [] true (ZaI (ZaP (Zf (Zk 1) (Zf (Zu ZaJ (Zf (Zb 1) Zn)) Zn))) (put1 100) Zam (Zu ZfZ (Zf (Zh Zt (Zb 0) (Zk 0)) (Zf (Zb 1) (Zf (Zb 100) Zn))))) (Zap (ZaE (Zd (Zj 1) (Zd (Zr Zar (Zd (Za 1) Zm)) Zm))) (Zac 100) Zae (ZbV (Zr Zeu (Zd (Ze Zq (Za 0) (Zj 0)) (Zd (Za 1) (Zd (Za 100) Zm)))))):=Zdn (Gs.range (Zg (Zl _) (Zg (Zaw ZaV (Zg (Zc 1) Zo)) Zo))) PutOk.one (by decide) Zay (E.flat (ZK ZoT (Zg (ZA Zz (Zc 0) (Zl _)) (Zg (Zc 1) (Zg (Zc 100) Zo)))))
   have he2:Zap (ZaE (Zd (Zj 1) (Zd (Zr Zar (Zd (Za 1) Zm)) Zm))) (Zac 100) Zae (ZbV (Zr Zeu (Zd (Ze Zq (Za 0) (Zj 0)) (Zd (Za 1) (Zd (Za 100) Zm))))) σ1=some (.lst ts):=by
    obtain⟨zs,g1,g2⟩:=Zz0.mp he
    split at g2
    ·rename_i hl
     obtain⟨us,g3,g4⟩:=Zz1.mp g2
     cases g4
     simp only[Zap,g1,Option.bind_some]
     rw[if_pos hl,ZpT g3 hf]
     rfl
    ·cases g2
   obtain⟨w,X,G,b1,b2,b3,b4⟩:=y _ _ _ _ _ _ st1 he2
   exact⟨w,X,G,b1,b2,b4 rfl,fun x m=>(b3 x m).nil⟩
  obtain⟨ts,rfl⟩:∃ts,t2=.lst ts:=by
   obtain⟨zs,g1,g2⟩:=Zz0.mp h2
   split at g2
   ·obtain⟨us,g3,g4⟩:=Zz1.mp g2
    exact⟨us,g4.symm⟩
   ·cases g2
  by_cases hu:u=.none
  ·subst hu
   obtain⟨v,X,G,c1,c2,_⟩:=ZsA H [a] [t] .none F hp (RFs.one r) hfull
   cases c2
   exact .inl ⟨rfl,X,c1⟩
  ·obtain⟨r4,h3,h⟩:=Zz0.mp h
   obtain⟨b,h4,h5⟩:=Zz0.mp h3
   cases b with
   | true=>
    simp only[if_true]at h5
    cases h5
    cases h
    cases h0
    exact absurd rfl hu
   | false=>
    cases h5
    simp only at h
    obtain⟨u',h6,h7⟩:=Zz1.mp h
    subst h7
    obtain⟨us,h8,h9⟩:=Zz1.mp h6
    subst h9
    obtain⟨q0,g1,h10⟩:=Zz0.mp h8
    obtain⟨qs,g2,h11⟩:=Zz0.mp h10
    cases h11
    obtain⟨q1,g3,g6⟩:=Zz0.mp g2
    obtain⟨qs',g4,g7⟩:=Zz0.mp g6
    cases g7
    cases g4
    have eq1:q1=.lst ts:=by
     have:Zaa σ1 2 (.lst ts) 2=some q1:=g3
     simp[Zaa]at this
     exact this.symm
    subst eq1
    have g5:Zq t (.int 0)=some q0:=by
     have:=g1
     simpa [Ze,Za,Zaa,Zj,hσ0]using this
    cases h0
    obtain⟨w,X,G,b1,b2,b3,b4⟩:=x2 ts ok h2
    obtain⟨w0,F0,i1,i2,i3⟩:=Zz _ _ _ _ _ _ _ _ r (RF.int (H:=H) 0) g5
    have st2:=(st1.ext X).put (j:=2) (by simp) b2 (fun x m=>.inl (by have:=b4 x m;simp at this;show H.length≤x;omega)) (fun i hi=>(nomatch hi))
    have bt:Bt [] (ZF (Zh oIn (Z0) (Zb 2))) (ZD (Ze qIn (ZR) (Za 2))):=ZJ (ZC Ze1 Z8 (Zc 2))
    obtain⟨Y,k1⟩:=bt _ _ _ _ _ _ st2 h4
    refine .inr ⟨w0,w,q0,.lst ts,X1++X++Y,G,rfl,i1,g5,?_,by rw[←List.append_assoc,←List.append_assoc];exact b2.ext Y,b3,fun x m=>by have:=b4 x m;simp at this;omega⟩
    unfold Zeb Z9 Zf1
    simp only[List.length_cons,List.length_nil,Nat.zero_add,if_true]
    rw[ev,ev1,ZeV (ρ1:=upd ρ1 2 w) (H1:=H++X1++X) (by simp only[ZN,b1,Option.map_some]),ZeV (ρ1:=upd ρ1 2 w) (H1:=H++X1++X++Y) (by simp only[ZW,k1,Option.bind_some];rfl)]
    have hidx:=(ZmC i1 (X1++X++Y)).2
    have hr:(upd ρ1 2 w) 0=some a:=by simp[upd,hρ0]
    have h2w:(upd ρ1 2 w) 2=some w:=by simp[upd]
    simp only[←List.append_assoc]at hidx ⊢
    generalize H++X1++X++Y=K at *
    have e5:ZaR (Zf (Zh Zt (Zb 0) (Zk 0)) (Zf (Zb 2) Zn)) (upd ρ1 2 w) K=some (.tup [w0,w],K):=by
     simp only[ZaR,Zf,Zh,Zb,hr,h2w,Zk,Zn,Option.map_some,Option.bind_some,hidx]
     rw[if_pos (by rw[Zbm];simp)]
    simp only[ZG,e5,Option.map_some]
    rfl
theorem Zrv: SimF true ZfK ZeP:=fun H vs ts t F1 hp r h=>by
 obtain⟨t',h1,h2⟩:=Zz0.mp h
 by_cases ok:ZgN t'=true
 ·rw[if_pos ok]at h2
  cases h2
  unfold Zab at h1
  split at h1
  ·rename_i hl
   obtain⟨t0,rfl⟩:∃t0,ts=[t0]:=List.length_eq_one_iff.mp hl
   obtain⟨a,rfl,r0⟩:=r.one_inv
   obtain⟨r1,h3,h4⟩:=Zz1.mp h1
   obtain⟨u,h5,h6⟩:=Zz1.mp h3
   subst h6
   cases h4
   obtain⟨us,h7,h8⟩:=Zz0.mp h5
   obtain⟨q0,g1,h9⟩:=Zz0.mp h7
   obtain⟨qs,g2,h10⟩:=Zz0.mp h9
   cases h10
   cases g2
   have g3:Zen [t0]=some q0:=by
    have:=g1
    simpa [Zr,Zd,Za,Zm]using this
   have g4:ZdN [q0]=some u:=h8
   have run:∀v1 X1 v2 X2,Zem [a] H=some (v1,H++X1)→Zeb [v1] (H++X1)=some (v2,H++X1++X2)→ZfK [a] H=some (v2,H++(X1++X2)):=fun v1 X1 v2 X2 e1 e2=>by
    simp[ZfK,Z9,Zoj,ZG,Zu,Zf,Zb,Zn,e1,e2]
   rcases ZtF hp r0 g3 with⟨rfl,X,e1⟩ | ⟨w0,v1,u0,u1,X,F0,F2,rfl,e1,a1,a2,a3,a4⟩
   ·have hp2:0<(H++X).length:=by rw[List.length_append];omega
    rcases ZpC hp2 (.none (H:=H++X)) g4 ok with⟨rfl,Y,e2⟩ | ⟨_,_,_,_,_,_,_,e2,_⟩
    ·exact⟨.none,X++Y,[],run _ _ _ _ e1 e2,.none,by simp,by simp⟩
    ·cases e2
   ·have hp2:0<(H++X).length:=by rw[List.length_append];omega
    rcases ZpC hp2 (.tup (.cons a1 (.one a4))) g4 ok with⟨rfl,Y,e2⟩ | ⟨x0,w1,y0,y1,Y,F1',rfl,e3,e4,e2,b1,b2,b3⟩
    ·exact⟨.none,X++Y,[],run _ _ _ _ e1 e2,.none,by simp,by simp⟩
    ·have ex:x0=w0:=by
      have:Zt (.tup [w0,v1]) (.int 0) (H++X)=some (w0,H++X):=by simp[Zt,seqIndex?]
      rw[this]at e3
      cases e3
      rfl
     have ey:y0=u0:=by
      have:Zq (.tup [u0,u1]) (.int 0)=some u0:=by simp[Zq,seqIndex?]
      rw[this]at e4
      cases e4
      rfl
     subst ex ey
     have nd:(F0++F1').Nodup:=by
      rw[List.nodup_append]
      refine⟨a2,b2,fun x hx y hy e=>?_⟩
      have:=a1.lt x hx
      have:=b3 y hy
      omega
     have nw:∀x∈F0++F1',H.length≤x:=fun x m=>by
      rcases Zz8.mp m with m | m
      ·exact a3 x m
      ·have:=b3 x m;rw[List.length_append]at this;omega
     exact⟨.tup [x0,w1],X++Y,F0++F1',run _ _ _ _ e1 e2,by rw[←List.append_assoc];exact .tup (.cons (a1.ext Y) (.one b1)),fun x m=>.inl (nw x m),fun _=>⟨nd,nw⟩⟩
  ·cases h1
 ·rw[if_neg ok]at h2
  cases h2
noncomputable def ZjK: Sm:=Zv (ZW (ZF (Zh Zbt (Zb 0) (Z0))) (ZG (Zu ZkP (Zf (Zb 1) (Zf (Zb 0) Zn)))) Z1) (Zv (ZW (ZF (Zh oEq (Zh Zt (Zb 1) (Zk 0)) (Zk 0))) (ZG (Zh Zt (Zb 1) (Zk 1))) Z1) (ZG (Z0)))
noncomputable def ZjL:=Z9 2 ZjK
noncomputable def ZjM: PS:=(Zs (ZP (ZD (Ze ZaO (Za 0) (ZR))) (ZE (Zr ZhD (Zd (Za 1) (Zd (Za 0) Zm)))) ZU) (Zs (ZP (ZD (Ze qEq (Ze Zq (Za 1) (Zj 0)) (Zj 0))) (ZE (Ze Zq (Za 1) (Zj 1))) ZU) (ZE (ZR))))
noncomputable def Zhk:=Zab 2 ZjM
theorem Zr4: SimF false ZjL Zhk:=Zaf (show S [] [] [] false ZjK ZjM from(Zy (Z3 (ZJ (ZC ZbL (Zc 0) (Z8))) (ZV (ZK ZsX (Zg (Zc 1) (Zg (Zc 0) Zo)))) Z6) (Zy (Z3 (ZJ (ZC ZaN (ZA Zz (Zc 1) (Zl _)) (Zl _))) (ZV (ZA Zz (Zc 1) (Zl _))) Z6) (ZV (Z8)))))
noncomputable def Zkp: Sm:=Zv (ZN 3 (Zcb Zn)) (Zv (ZaM (Zd7 (Zb 0) (Zb 2)) (ZcA 4 5) (Zv (ZN 6 (Zu ZjL (Zf (Zb 4) (Zf (Zu Zgf (Zf (Zb 1) (Zf (Zu Zf7 (Zf (Zb 5) (Zf (eUn Zbq (Zk 1)) Zn))) Zn))) Zn)))) (Zv (ZW (Zat (ZF (Zh oIs (Zb 6) (Z0))) (Zat (ZF (Zh Zbt (Zb 4) (Z0))) Zam)) (ZG (Z0)) Z1) (Zcz (ZeI (Zb 3) (Zb 6)))))) (ZG (Zb 3)))
noncomputable def Zkq:=Z9 3 Zkp
noncomputable def Zkr: PS:=(Zs (ZI 3 (Zb6 Zm)) (Zs (ZaB (Zd9 (Za 0) (Za 2)) (ZcX 4 5) (Zs (ZI 6 (Zr Zhk (Zd (Za 4) (Zd (Zr Zfb (Zd (Za 1) (Zd (Zr Ze9 (Zd (Za 5) (Zd (pUn Zbc (Zj 1)) Zm))) Zm))) Zm)))) (Zs (ZP (Zai (ZD (Ze qIs (Za 6) (ZR))) (Zai (ZD (Ze ZaO (Za 4) (ZR))) Zae)) (ZE (ZR)) ZU) (Zc0 3 [] ZaC (ZbV (Za 6)))))) (ZE (Za 3))))
noncomputable def Zhv:=Zab 3 Zkr
theorem ZsB: SimF false Zkq Zhv:=Zaf (show S [] [3] [] false Zkp Zkr from(Zy (Zcn (O':=[3]) (E.list Zo)) (Zy (Zba (Gs.zip (Zc 0) (Zc 2)) PutOk.two (by decide) (by decide) (Zy (ZY (O':=[3]) (ZK Zr4 (Zg (Zc 4) (Zg (ZK Zlk (Zg (Zc 1) (Zg (ZK ZkN (Zg (Zc 5) (Zg (ZbE ZbF (Zl _)) Zo))) Zo))) Zo)))) (Zy (Z3 (ZaA (ZJ (ZC Zbr (Zc 6) (Z8))) (ZaA (ZJ (ZC ZbL (Zc 4) (Z8))) Zay)) (ZV (Z8)) Z6) (Zjm (O':=[3]) (by decide) ZbC (Za8 (O':=[]) (E.flat (Zc 6))) (by decide) (by decide))))) (ZV (Zc 3)))))
noncomputable def ZmT: Sm:=Zv (ZW (ZF (Zh oIs (Zb 0) (Z0))) (ZG (Z0)) Z1) (Zv (ZN 1 (Zu Ze7 (Zf (Zh Zt (Zb 0) (Zk 1)) Zn))) (Zv (ZN 2 (ZaI (Zd7 (Zh Zt (Zb 0) (Zk 0)) (Zb 1)) (ZcA 100 101) Zam (Zu Zkq (Zf (Zb 100) (Zf (Zb 101) (Zf (Zb 1) Zn)))))) (Zv (ZW (ZF (Zh oIn (Z0) (Zb 2))) (ZG (Z0)) Z1) (ZG (ZaR (Zf (Zb 2) (Zf (Zh Zt (Zb 0) (Zk 1)) Zn)))))))
noncomputable def ZmU:=Z9 1 ZmT
noncomputable def Zil: PS:=(Zs (ZP (ZD (Ze qIs (Za 0) (ZR))) (ZE (ZR)) ZU) (Zs (ZI 1 (Zr Ze8 (Zd (Ze Zq (Za 0) (Zj 1)) Zm))) (Zs (ZI 2 (Zap (Zd9 (Ze Zq (Za 0) (Zj 0)) (Za 1)) (ZcX 100 101) Zae (Zr Zhv (Zd (Za 100) (Zd (Za 101) (Zd (Za 1) Zm)))))) (Zs (ZP (ZD (Ze qIn (ZR) (Za 2))) (ZE (ZR)) ZU) (ZE (ZaU (Zd (Za 2) (Zd (Ze Zq (Za 0) (Zj 1)) Zm))))))))
noncomputable def Zfr:=Zab 1 Zil
theorem Zun: SimF false ZmU Zfr:=Zaf (show S [] [] [] false ZmT Zil from(Zy (Z3 (ZJ (ZC Zbr (Zc 0) (Z8))) (ZV (Z8)) Z6) (Zy (ZY (O':=[]) (ZK Zko (Zg (ZA Zz (Zc 0) (Zl _)) Zo))) (Zy (ZY (O':=[]) (Zca (Gs.zip (ZA Zz (Zc 0) (Zl _)) (Zc 1)) PutOk.two (by decide) Zay (ZK ZsB (Zg (Zc 100) (Zg (Zc 101) (Zg (Zc 1) Zo)))))) (Zy (Z3 (ZJ (ZC Ze1 (Z8) (Zc 2))) (ZV (Z8)) Z6) (ZV (E.tup (Zg (Zc 2) (Zg (ZA Zz (Zc 0) (Zl _)) Zo)))))))))
noncomputable def ZnQ: Sm:=ZG (Zu ZfK (Zf (Zu ZmU (Zf (Zu ZfK (Zf (Zb 0) Zn)) Zn)) Zn))
noncomputable def ZiN:=Z9 1 ZnQ
noncomputable def ZnR: PS:=(ZE (Zr ZeP (Zd (Zr Zfr (Zd (Zr ZeP (Zd (Za 0) Zm)) Zm)) Zm)))
noncomputable def ZdX:=Zab 1 ZnR
theorem ZqW: SimF true ZiN ZdX:=Zaf (show S [] [] [] true ZnQ ZnR from(Za7 (ZbO Zrv (Zg (ZK Zun (Zg (ZK Zrv (Zg (Zc 0) Zo)) Zo)) Zo))))
noncomputable def ZjB: Sm:=Zv (ZN 1 (Zu ZaJ (Zf (Zb 0) Zn))) (Zv (ZN 2 (ZaI (Zby (Zb 0)) (put1 100) Zam (Zu Zcu (Zf (Zb 100) Zn)))) (Zv (ZN 3 (Zk 1)) (Zv (Zc4 (ZF (Zh oLt (Zb 3) (Zb 1))) (Zv (ZN 4 (ZaI (Zby (Zb 2)) (put1 102) Zam (Zu Zcu (Zf (Zb 102) Zn)))) (Zv (ZaM (ZaP (Zf (Zb 1) Zn)) (put1 5) (ZaM (ZaP (Zf (Zb 1) Zn)) (put1 6) (ZaM (ZaP (Zf (Zb 1) Zn)) (put1 7) (ZW (Zat (ZF (Zh Zbt (Zh Zt (Zh Zt (Zb 4) (Zb 5)) (Zb 7)) (Z0))) (Zat (ZF (Zh Zbt (Zh Zt (Zh Zt (Zb 4) (Zb 7)) (Zb 6)) (Z0))) Zam)) (Zv (ZN 8 (Zh Zah (Zh Zt (Zh Zt (Zb 4) (Zb 5)) (Zb 7)) (Zh Zt (Zh Zt (Zb 4) (Zb 7)) (Zb 6)))) (ZW (tOr (ZF (Zh oIs (Zh Zt (Zh Zt (Zb 2) (Zb 5)) (Zb 6)) (Z0))) (tOr (ZF (Zh oLt (Zb 8) (Zh Zt (Zh Zt (Zb 2) (Zb 5)) (Zb 6)))) Zcm)) (ZbI (Zb 8) (Zh Zt (Zb 2) (Zb 5)) (Zb 6)) Z1)) Z1)))) (ZN 3 (Zh ZaX (Zk 2) (Zb 3))))) 1000000) (Zv (ZaM (ZaP (Zf (Zb 1) Zn)) (put1 5) (ZW (ZF (Zh oLt (Zh Zt (Zh Zt (Zb 2) (Zb 5)) (Zb 5)) (Zk 0))) (ZG (Z0)) Z1)) (ZG (Zb 2))))))
noncomputable def Zhh:=Z9 1 ZjB
noncomputable def ZjC: PS:=(Zs (ZI 1 (Zr Zar (Zd (Za 0) Zm))) (Zs (ZI 2 (Zap (ZaD (Za 0)) (Zac 100) Zae (pFl (Zr Zcf (Zd (Za 100) Zm))))) (Zs (ZI 3 (Zj 1)) (Zs (Zdp (ZD (Ze qLt (Za 3) (Za 1))) (Zs (ZI 4 (Zap (ZaD (Za 2)) (Zac 102) Zae (pFl (Zr Zcf (Zd (Za 102) Zm))))) (Zs (ZaB (ZaE (Zd (Za 1) Zm)) (Zac 5) (ZaB (ZaE (Zd (Za 1) Zm)) (Zac 6) (ZaB (ZaE (Zd (Za 1) Zm)) (Zac 7) (ZP (Zai (ZD (Ze ZaO (Ze Zq (Ze Zq (Za 4) (Za 5)) (Za 7)) (ZR))) (Zai (ZD (Ze ZaO (Ze Zq (Ze Zq (Za 4) (Za 7)) (Za 6)) (ZR))) Zae)) (Zs (ZI 8 (Ze Zag (Ze Zq (Ze Zq (Za 4) (Za 5)) (Za 7)) (Ze Zq (Ze Zq (Za 4) (Za 7)) (Za 6)))) (ZP (bOr (ZD (Ze qIs (Ze Zq (Ze Zq (Za 2) (Za 5)) (Za 6)) (ZR))) (bOr (ZD (Ze qLt (Za 8) (Ze Zq (Ze Zq (Za 2) (Za 5)) (Za 6)))) Zce)) (Za2 2 [] (ZbV (Za 8)) (Zbu ZaC (Za 5)) (Za 6)) ZU)) ZU)))) (ZI 3 (Ze ZaF (Zj 2) (Za 3))))) 1000000) (Zs (ZaB (ZaE (Zd (Za 1) Zm)) (Zac 5) (ZP (ZD (Ze qLt (Ze Zq (Ze Zq (Za 2) (Za 5)) (Za 5)) (Zj 0))) (ZE (ZR)) ZU)) (ZE (Za 2)))))))
noncomputable def Ze4:=Zab 1 ZjC
theorem ZoK: SimF false Zhh Ze4:=Zaf (show S [] [2] [] false ZjB ZjC from(Zy (ZY (O':=[]) (Zaw ZaV (Zg (Zc 0) Zo))) (Zy (Zcn (O':=[2]) (Zdn (Gs.seq (Zc 0)) PutOk.one (by decide) Zay (Zej Zdm (Zg (Zc 100) Zo)))) (Zy (ZY (O':=[2]) (Zl _)) (Zy (ZfD (ZJ (ZC Zcq (Zc 3) (Zc 1))) (Zy (ZY (O':=[2]) (Za8 (O':=[]) (Zdn (Gs.seq (Zc 2)) PutOk.one (by decide) Zay (Zej Zdm (Zg (Zc 102) Zo))))) (Zy (Zba (Gs.range (Zg (Zc 1) Zo)) PutOk.one (by decide) (by decide) (Zba (Gs.range (Zg (Zc 1) Zo)) PutOk.one (by decide) (by decide) (Zba (Gs.range (Zg (Zc 1) Zo)) PutOk.one (by decide) (by decide) (Z3 (ZaA (ZJ (ZC ZbL (ZA Zz (ZA Zz (Zc 4) (Zc 5)) (Zc 7)) (Z8))) (ZaA (ZJ (ZC ZbL (ZA Zz (ZA Zz (Zc 4) (Zc 7)) (Zc 6)) (Z8))) Zay)) (Zy (ZY (O':=[2]) (Zad Zal (ZA Zz (ZA Zz (Zc 4) (Zc 5)) (Zc 7)) (ZA Zz (ZA Zz (Zc 4) (Zc 7)) (Zc 6)))) (Z3 (Zbh (ZJ (ZC Zbr (ZA Zz (ZA Zz (Zc 2) (Zc 5)) (Zc 6)) (Z8))) (Zbh (ZJ (ZC Zcq (Zc 8) (ZA Zz (ZA Zz (Zc 2) (Zc 5)) (Zc 6)))) ZcN)) (S.put (O':=[2]) (by decide) (Za8 (O':=[]) (E.flat (Zc 8))) (Zc5 ZbC (Zc 5)) (Zc 6) (by decide) (by decide)) Z6)) Z6)))) (ZY (O':=[2]) (Zad Za9 (Zl _) (Zc 3))))) 1000000) (Zy (Zba (Gs.range (Zg (Zc 1) Zo)) PutOk.one (by decide) (by decide) (Z3 (ZJ (ZC Zcq (ZA Zz (ZA Zz (Zc 2) (Zc 5)) (Zc 5)) (Zl _))) (ZV (Z8)) Z6)) (ZV (Zc 2))))))))
noncomputable def ZmV: Sm:=Zv (ZN 2 (Zh Zt (Zb 0) (Zk 0))) (Zv (ZN 3 (Zh Zt (Zb 1) (Zk 0))) (Zv (ZN 4 (Zk 1)) (Zv (ZN 5 (Zk 0)) (Zv (Zc4 (ZF (Zh oNe (Zb 3) (Zk 0))) (Zv (ZN 6 (Zh oDiv (Zb 2) (Zb 3))) (Zv (ZN 7 (Zh Zbl (Zb 2) (Zh ZaX (Zb 6) (Zb 3)))) (Zv (ZN 2 (Zb 3)) (Zv (ZN 3 (Zb 7)) (Zv (ZN 7 (Zh Zbl (Zb 4) (Zh ZaX (Zb 6) (Zb 5)))) (Zv (ZN 4 (Zb 5)) (ZN 5 (Zb 7)))))))) 1000000) (Zv (ZN 8 (Zh Zbl (Zh Zt (Zb 1) (Zk 1)) (Zh Zt (Zb 0) (Zk 1)))) (Zv (ZW (ZF (Zh oEq (Zb 2) (Zk 0))) (Zv (ZW (ZF (Zh oNe (Zb 8) (Zk 0))) (ZG (Z0)) Z1) (ZG (Zb 0))) Z1) (Zv (ZW (ZF (Zh oNe (Zh oMod (Zb 8) (Zb 2)) (Zk 0))) (ZG (Z0)) Z1) (ZG (Zu ZdM (Zf (Zh ZaX (Zh oDiv (Zh Zt (Zb 0) (Zk 0)) (Zb 2)) (Zh Zt (Zb 1) (Zk 0))) (Zf (Zh Zah (Zh Zt (Zb 0) (Zk 1)) (Zh ZaX (Zh ZaX (Zh Zt (Zb 0) (Zk 0)) (Zb 4)) (Zh oDiv (Zb 8) (Zb 2)))) Zn)))))))))))
noncomputable def Zim:=Z9 2 ZmV
noncomputable def ZmW: PS:=(Zs (ZI 2 (Ze Zq (Za 0) (Zj 0))) (Zs (ZI 3 (Ze Zq (Za 1) (Zj 0))) (Zs (ZI 4 (Zj 1)) (Zs (ZI 5 (Zj 0)) (Zs (Zdp (ZD (Ze qNe (Za 3) (Zj 0))) (Zs (ZI 6 (Ze ZcB (Za 2) (Za 3))) (Zs (ZI 7 (Ze Za5 (Za 2) (Ze ZaF (Za 6) (Za 3)))) (Zs (ZI 2 (Za 3)) (Zs (ZI 3 (Za 7)) (Zs (ZI 7 (Ze Za5 (Za 4) (Ze ZaF (Za 6) (Za 5)))) (Zs (ZI 4 (Za 5)) (ZI 5 (Za 7)))))))) 1000000) (Zs (ZI 8 (Ze Za5 (Ze Zq (Za 1) (Zj 1)) (Ze Zq (Za 0) (Zj 1)))) (Zs (ZP (ZD (Ze qEq (Za 2) (Zj 0))) (Zs (ZP (ZD (Ze qNe (Za 8) (Zj 0))) (ZE (ZR)) ZU) (ZE (Za 0))) ZU) (Zs (ZP (ZD (Ze qNe (Ze Zbb (Za 8) (Za 2)) (Zj 0))) (ZE (ZR)) ZU) (ZE (Zr ZdA (Zd (Ze ZaF (Ze ZcB (Ze Zq (Za 0) (Zj 0)) (Za 2)) (Ze Zq (Za 1) (Zj 0))) (Zd (Ze Zag (Ze Zq (Za 0) (Zj 1)) (Ze ZaF (Ze ZaF (Ze Zq (Za 0) (Zj 0)) (Za 4)) (Ze ZcB (Za 8) (Za 2)))) Zm))))))))))))
noncomputable def Zgw:=Zab 2 ZmW
theorem ZpU: SimF false Zim Zgw:=Zaf (show S [] [] [] false ZmV ZmW from(Zy (ZY (O':=[]) (ZA Zz (Zc 0) (Zl _))) (Zy (ZY (O':=[]) (ZA Zz (Zc 1) (Zl _))) (Zy (ZY (O':=[]) (Zl _)) (Zy (ZY (O':=[]) (Zl _)) (Zy (ZfD (ZJ (ZC ZbP (Zc 3) (Zl _))) (Zy (ZY (O':=[]) (ZC Zc9 (Zc 2) (Zc 3))) (Zy (ZY (O':=[]) (ZC Zbv (Zc 2) (Zad Za9 (Zc 6) (Zc 3)))) (Zy (ZY (O':=[]) (Zc 3)) (Zy (ZY (O':=[]) (Zc 7)) (Zy (ZY (O':=[]) (ZC Zbv (Zc 4) (Zad Za9 (Zc 6) (Zc 5)))) (Zy (ZY (O':=[]) (Zc 5)) (ZY (O':=[]) (Zc 7)))))))) 1000000) (Zy (ZY (O':=[]) (ZC Zbv (ZA Zz (Zc 1) (Zl _)) (ZA Zz (Zc 0) (Zl _)))) (Zy (Z3 (ZJ (ZC ZaN (Zc 2) (Zl _))) (Zy (Z3 (ZJ (ZC ZbP (Zc 8) (Zl _))) (ZV (Z8)) Z6) (ZV (Zc 0))) Z6) (Zy (Z3 (ZJ (ZC ZbP (ZC Zbp (Zc 8) (Zc 2)) (Zl _))) (ZV (Z8)) Z6) (ZV (ZK Zev (Zg (Zad Za9 (ZC Zc9 (ZA Zz (Zc 0) (Zl _)) (Zc 2)) (ZA Zz (Zc 1) (Zl _))) (Zg (Zad Zal (ZA Zz (Zc 0) (Zl _)) (Zad Za9 (Zad Za9 (ZA Zz (Zc 0) (Zl _)) (Zc 4)) (ZC Zc9 (Zc 8) (Zc 2)))) Zo)))))))))))))
noncomputable def ZkR: Sm:=Zv (ZN 2 (Zh Zah (Zcb (Zf (ZaR (Zf (Zk 0) (Zf (Zk 0) Zn))) Zn)) (Zb 1))) (Zv (ZN 3 (Zh Zah (Zcb (Zf (ZaR (Zf (Zk 0) (Zf (Zk 0) Zn))) Zn)) (Zb 1))) (Zv (ZaM (ZaP (Zf (Zk 1) (Zf (Zu ZaJ (Zf (Zb 2) Zn)) Zn))) (put1 4) (ZaM (ZaP (Zf (Zu ZaJ (Zf (Zb 2) Zn)) Zn)) (put1 5) (Zv (ZN 6 (Zh Zt (Zh Zt (Zb 0) (Zb 4)) (Zb 5))) (ZW (Zat (ZF (Zh oNe (Zb 4) (Zb 5))) (Zat (ZF (Zh Zbt (Zb 6) (Z0))) (Zat (ZF (Zh oEq (Zh Zt (Zh Zt (Zb 0) (Zb 5)) (Zb 4)) (eUn Zbq (Zb 6)))) (Zat (ZF (Zh Zbt (Zh Zt (Zb 3) (Zb 4)) (Z0))) Zam)))) (ZbI (Zu Zim (Zf (Zh Zt (Zb 3) (Zb 4)) (Zf (Zu ZdM (Zf (Zh Zt (Zh Zt (Zb 2) (Zb 5)) (Zk 0)) (Zf (Zh Zah (Zh Zt (Zh Zt (Zb 2) (Zb 5)) (Zk 1)) (Zb 6)) Zn))) Zn))) (Zb 3) (Zb 4)) Z1)))) (Zv (ZW (ZF (Zh oIn (Z0) (Zb 3))) (ZG (Z0)) Z1) (ZG (ZdI (Zb 3) 1)))))
noncomputable def ZhE:=Z9 2 ZkR
noncomputable def ZkS: PS:=(Zs (ZI 2 (Ze Zag (Zb6 (Zd (ZaU (Zd (Zj 0) (Zd (Zj 0) Zm))) Zm)) (Za 1))) (Zs (ZI 3 (pFl (Ze Zag (Zb6 (Zd (ZaU (Zd (Zj 0) (Zd (Zj 0) Zm))) Zm)) (Za 1)))) (Zs (ZaB (ZaE (Zd (Zj 1) (Zd (Zr Zar (Zd (Za 2) Zm)) Zm))) (Zac 4) (ZaB (ZaE (Zd (Zr Zar (Zd (Za 2) Zm)) Zm)) (Zac 5) (Zs (ZI 6 (Ze Zq (Ze Zq (Za 0) (Za 4)) (Za 5))) (ZP (Zai (ZD (Ze qNe (Za 4) (Za 5))) (Zai (ZD (Ze ZaO (Za 6) (ZR))) (Zai (ZD (Ze qEq (Ze Zq (Ze Zq (Za 0) (Za 5)) (Za 4)) (pUn Zbc (Za 6)))) (Zai (ZD (Ze ZaO (Ze Zq (Za 3) (Za 4)) (ZR))) Zae)))) (Za2 3 [] (ZbV (Zr Zgw (Zd (Ze Zq (Za 3) (Za 4)) (Zd (Zr ZdA (Zd (Ze Zq (Ze Zq (Za 2) (Za 5)) (Zj 0)) (Zd (Ze Zag (Ze Zq (Ze Zq (Za 2) (Za 5)) (Zj 1)) (Za 6)) Zm))) Zm)))) ZaC (Za 4)) ZU)))) (Zs (ZP (ZD (Ze qIn (ZR) (Za 3))) (ZE (ZR)) ZU) (ZE (Zdu (Za 3) 1))))))
noncomputable def Zf8:=Zab 2 ZkS
theorem Zo4: SimF false ZhE Zf8:=Zaf (show S [] [3] [] false ZkR ZkS from(Zy (ZY (O':=[]) (Zad Zal (E.list (Zg (E.tup (Zg (Zl _) (Zg (Zl _) Zo))) Zo)) (Zc 1))) (Zy (Zcn (O':=[3]) (Zoc Zal (E.list (Zg (E.tup (Zg (Zl _) (Zg (Zl _) Zo))) Zo)) (Zc 1))) (Zy (Zba (Gs.range (Zg (Zl _) (Zg (Zaw ZaV (Zg (Zc 2) Zo)) Zo))) PutOk.one (by decide) (by decide) (Zba (Gs.range (Zg (Zaw ZaV (Zg (Zc 2) Zo)) Zo)) PutOk.one (by decide) (by decide) (Zy (ZY (O':=[3]) (ZA Zz (ZA Zz (Zc 0) (Zc 4)) (Zc 5))) (Z3 (ZaA (ZJ (ZC ZbP (Zc 4) (Zc 5))) (ZaA (ZJ (ZC ZbL (Zc 6) (Z8))) (ZaA (ZJ (ZC ZaN (ZA Zz (ZA Zz (Zc 0) (Zc 5)) (Zc 4)) (ZbE ZbF (Zc 6)))) (ZaA (ZJ (ZC ZbL (ZA Zz (Zc 3) (Zc 4)) (Z8))) Zay)))) (S.put (O':=[3]) (by decide) (Za8 (O':=[]) (E.flat (ZK ZpU (Zg (ZA Zz (Zc 3) (Zc 4)) (Zg (ZK Zev (Zg (ZA Zz (ZA Zz (Zc 2) (Zc 5)) (Zl _)) (Zg (Zad Zal (ZA Zz (ZA Zz (Zc 2) (Zc 5)) (Zl _)) (Zc 6)) Zo))) Zo))))) ZbC (Zc 4) (by decide) (by decide)) Z6)))) (Zy (Z3 (ZJ (ZC Ze1 (Z8) (Zc 3))) (ZV (Z8)) Z6) (ZV (ZgU (Zc 3))))))))
noncomputable def Zks: Sm:=Zv (ZN 2 (Zh Zah (Zcb (Zf (ZaR (Zf (Zk 0) (Zf (Zk 0) Zn))) Zn)) (Zb 1))) (Zv (ZN 3 (ZaI (Zby (Zb 0)) (put1 100) Zam (Zu Zcu (Zf (Zb 100) Zn)))) (Zv (ZaM (ZaP (Zf (Zu ZaJ (Zf (Zb 2) Zn)) Zn)) (put1 4) (ZaM (ZaP (Zf (Zu ZaJ (Zf (Zb 2) Zn)) Zn)) (put1 5) (Zv (ZN 6 (Zu Zgu (Zf (Zh Zt (Zh Zt (Zb 2) (Zb 4)) (Zk 0)) (Zf (Zh Zt (Zh Zt (Zb 2) (Zb 5)) (Zk 0)) Zn)))) (Zv (ZN 7 (Zh Zbl (Zh Zt (Zh Zt (Zb 2) (Zb 4)) (Zk 1)) (Zh Zt (Zh Zt (Zb 2) (Zb 5)) (Zk 1)))) (Zv (ZN 8 (Zh Zt (Zh Zt (Zb 0) (Zb 4)) (Zb 5))) (ZW (Zat (ZF (Zh oNe (Zb 4) (Zb 5))) (Zat (ZF (Zh oEq (Zb 6) (Zk 0))) Zam)) (Zv (ZW (Zat (ZF (Zh Zbt (Zb 8) (Z0))) (Zat (ZF (Zh oLt (Zb 8) (Zb 7))) Zam)) (ZG (Z0)) Z1) (ZbI (Zb 7) (Zh Zt (Zb 3) (Zb 4)) (Zb 5))) (ZW (Zat (ZF (Zh oNe (Zb 4) (Zb 5))) (Zat (ZF (Zh Zbt (Zb 8) (Z0))) Zam)) (ZbI (Zh Zbl (Zb 8) (Zh oMod (Zh Zbl (Zb 8) (Zb 7)) (Zb 6))) (Zh Zt (Zb 3) (Zb 4)) (Zb 5)) Z1))))))) (ZG (Zb 3))))
noncomputable def Zkt:=Z9 2 Zks
noncomputable def Zku: PS:=(Zs (ZI 2 (Ze Zag (Zb6 (Zd (ZaU (Zd (Zj 0) (Zd (Zj 0) Zm))) Zm)) (Za 1))) (Zs (ZI 3 (Zap (ZaD (Za 0)) (Zac 100) Zae (pFl (Zr Zcf (Zd (Za 100) Zm))))) (Zs (ZaB (ZaE (Zd (Zr Zar (Zd (Za 2) Zm)) Zm)) (Zac 4) (ZaB (ZaE (Zd (Zr Zar (Zd (Za 2) Zm)) Zm)) (Zac 5) (Zs (ZI 6 (Zr Zfo (Zd (Ze Zq (Ze Zq (Za 2) (Za 4)) (Zj 0)) (Zd (Ze Zq (Ze Zq (Za 2) (Za 5)) (Zj 0)) Zm)))) (Zs (ZI 7 (Ze Za5 (Ze Zq (Ze Zq (Za 2) (Za 4)) (Zj 1)) (Ze Zq (Ze Zq (Za 2) (Za 5)) (Zj 1)))) (Zs (ZI 8 (Ze Zq (Ze Zq (Za 0) (Za 4)) (Za 5))) (ZP (Zai (ZD (Ze qNe (Za 4) (Za 5))) (Zai (ZD (Ze qEq (Za 6) (Zj 0))) Zae)) (Zs (ZP (Zai (ZD (Ze ZaO (Za 8) (ZR))) (Zai (ZD (Ze qLt (Za 8) (Za 7))) Zae)) (ZE (ZR)) ZU) (Za2 3 [] (ZbV (Za 7)) (Zbu ZaC (Za 4)) (Za 5))) (ZP (Zai (ZD (Ze qNe (Za 4) (Za 5))) (Zai (ZD (Ze ZaO (Za 8) (ZR))) Zae)) (Za2 3 [] (Ze Za5 (Za 8) (Ze Zbb (Ze Za5 (Za 8) (Za 7)) (Za 6))) (Zbu ZaC (Za 4)) (Za 5)) ZU))))))) (ZE (Za 3)))))
noncomputable def Zhw:=Zab 2 Zku
theorem ZsC: SimF false Zkt Zhw:=Zaf (show S [] [3] [] false Zks Zku from(Zy (ZY (O':=[]) (Zad Zal (E.list (Zg (E.tup (Zg (Zl _) (Zg (Zl _) Zo))) Zo)) (Zc 1))) (Zy (Zcn (O':=[3]) (Zdn (Gs.seq (Zc 0)) PutOk.one (by decide) Zay (Zej Zdm (Zg (Zc 100) Zo)))) (Zy (Zba (Gs.range (Zg (Zaw ZaV (Zg (Zc 2) Zo)) Zo)) PutOk.one (by decide) (by decide) (Zba (Gs.range (Zg (Zaw ZaV (Zg (Zc 2) Zo)) Zo)) PutOk.one (by decide) (by decide) (Zy (ZY (O':=[3]) (ZK ZmJ (Zg (ZA Zz (ZA Zz (Zc 2) (Zc 4)) (Zl _)) (Zg (ZA Zz (ZA Zz (Zc 2) (Zc 5)) (Zl _)) Zo)))) (Zy (ZY (O':=[3]) (ZC Zbv (ZA Zz (ZA Zz (Zc 2) (Zc 4)) (Zl _)) (ZA Zz (ZA Zz (Zc 2) (Zc 5)) (Zl _)))) (Zy (ZY (O':=[3]) (ZA Zz (ZA Zz (Zc 0) (Zc 4)) (Zc 5))) (Z3 (ZaA (ZJ (ZC ZbP (Zc 4) (Zc 5))) (ZaA (ZJ (ZC ZaN (Zc 6) (Zl _))) Zay)) (Zy (Z3 (ZaA (ZJ (ZC ZbL (Zc 8) (Z8))) (ZaA (ZJ (ZC Zcq (Zc 8) (Zc 7))) Zay)) (ZV (Z8)) Z6) (S.put (O':=[3]) (by decide) (Za8 (O':=[]) (E.flat (Zc 7))) (Zc5 ZbC (Zc 4)) (Zc 5) (by decide) (by decide))) (Z3 (ZaA (ZJ (ZC ZbP (Zc 4) (Zc 5))) (ZaA (ZJ (ZC ZbL (Zc 8) (Z8))) Zay)) (S.put (O':=[3]) (by decide) (Za8 (O':=[]) (ZC Zbv (Zc 8) (ZC Zbp (ZC Zbv (Zc 8) (Zc 7)) (Zc 6)))) (Zc5 ZbC (Zc 4)) (Zc 5) (by decide) (by decide)) Z6))))))) (ZV (Zc 3))))))
noncomputable def Zlt: Sm:=Zv (ZW (ZF (Zh oIs (Zb 0) (Z0))) (ZG (Z0)) Z1) (Zv (ZN 1 (Zu Zhh (Zf (Zh Zt (Zb 0) (Zk 0)) Zn))) (Zv (ZW (ZF (Zh oIs (Zb 1) (Z0))) (ZG (Z0)) Z1) (Zv (ZN 2 (Zu ZhE (Zf (Zb 1) (Zf (Zh Zt (Zb 0) (Zk 1)) Zn)))) (Zv (ZW (ZF (Zh oIs (Zb 2) (Z0))) (ZG (Z0)) Z1) (Zv (ZN 1 (Zu Zkt (Zf (Zb 1) (Zf (Zb 2) Zn)))) (Zv (ZW (ZF (Zh oIs (Zb 1) (Z0))) (ZG (Z0)) Z1) (Zv (ZN 1 (Zu Zhh (Zf (Zb 1) Zn))) (Zv (ZW (ZF (Zh oIs (Zb 1) (Z0))) (ZG (Z0)) Z1) (Zv (ZN 2 (Zu ZhE (Zf (Zb 1) (Zf (Zb 2) Zn)))) (Zv (ZW (ZF (Zh oIs (Zb 2) (Z0))) (ZG (Z0)) Z1) (ZG (ZaR (Zf (Zb 1) (Zf (Zb 2) Zn))))))))))))))
noncomputable def ZhQ:=Z9 1 Zlt
noncomputable def Zlu: PS:=(Zs (ZP (ZD (Ze qIs (Za 0) (ZR))) (ZE (ZR)) ZU) (Zs (ZI 1 (Zr Ze4 (Zd (Ze Zq (Za 0) (Zj 0)) Zm))) (Zs (ZP (ZD (Ze qIs (Za 1) (ZR))) (ZE (ZR)) ZU) (Zs (ZI 2 (Zr Zf8 (Zd (Za 1) (Zd (Ze Zq (Za 0) (Zj 1)) Zm)))) (Zs (ZP (ZD (Ze qIs (Za 2) (ZR))) (ZE (ZR)) ZU) (Zs (ZI 1 (Zr Zhw (Zd (Za 1) (Zd (Za 2) Zm)))) (Zs (ZP (ZD (Ze qIs (Za 1) (ZR))) (ZE (ZR)) ZU) (Zs (ZI 1 (Zr Ze4 (Zd (Za 1) Zm))) (Zs (ZP (ZD (Ze qIs (Za 1) (ZR))) (ZE (ZR)) ZU) (Zs (ZI 2 (Zr Zf8 (Zd (Za 1) (Zd (Za 2) Zm)))) (Zs (ZP (ZD (Ze qIs (Za 2) (ZR))) (ZE (ZR)) ZU) (ZE (ZaU (Zd (Za 1) (Zd (Za 2) Zm)))))))))))))))
noncomputable def ZdP:=Zab 1 Zlu
theorem Zpj: SimF false ZhQ ZdP:=Zaf (show S [] [] [] false Zlt Zlu from(Zy (Z3 (ZJ (ZC Zbr (Zc 0) (Z8))) (ZV (Z8)) Z6) (Zy (ZY (O':=[]) (ZK ZoK (Zg (ZA Zz (Zc 0) (Zl _)) Zo))) (Zy (Z3 (ZJ (ZC Zbr (Zc 1) (Z8))) (ZV (Z8)) Z6) (Zy (ZY (O':=[]) (ZK Zo4 (Zg (Zc 1) (Zg (ZA Zz (Zc 0) (Zl _)) Zo)))) (Zy (Z3 (ZJ (ZC Zbr (Zc 2) (Z8))) (ZV (Z8)) Z6) (Zy (ZY (O':=[]) (ZK ZsC (Zg (Zc 1) (Zg (Zc 2) Zo)))) (Zy (Z3 (ZJ (ZC Zbr (Zc 1) (Z8))) (ZV (Z8)) Z6) (Zy (ZY (O':=[]) (ZK ZoK (Zg (Zc 1) Zo))) (Zy (Z3 (ZJ (ZC Zbr (Zc 1) (Z8))) (ZV (Z8)) Z6) (Zy (ZY (O':=[]) (ZK Zo4 (Zg (Zc 1) (Zg (Zc 2) Zo)))) (Zy (Z3 (ZJ (ZC Zbr (Zc 2) (Z8))) (ZV (Z8)) Z6) (ZV (E.tup (Zg (Zc 1) (Zg (Zc 2) Zo))))))))))))))))
noncomputable def Zlv: Sm:=Zv (ZW (tOr (Zcp (ZF (eIs "tuple" (Zb 0)))) (tOr (ZF (Zh oNe (Zu ZaJ (Zf (Zb 0) Zn)) (Zk 2))) (tOr (Zcp (ZF (Zu Zl7 (Zf (Zh Zt (Zb 0) (Zk 0)) (Zf (Zh Zah (Zb 1) (Zk 1)) Zn))))) Zcm))) (ZG (Zb5 false)) Z1) (Zv (ZW (tOr (Zcp (ZF (eIs "list" (Zh Zt (Zb 0) (Zk 1))))) (tOr (ZF (Zh oNe (Zu ZaJ (Zf (Zh Zt (Zb 0) (Zk 1)) Zn)) (Zb 1))) Zcm)) (ZG (Zb5 false)) Z1) (Zv (ZaM (Zby (Zh Zt (Zb 0) (Zk 1))) (put1 2) (Zv (ZW (tOr (Zcp (ZF (eIs "tuple" (Zb 2)))) (tOr (ZF (Zh oNe (Zu ZaJ (Zf (Zb 2) Zn)) (Zk 2))) Zcm)) (ZG (Zb5 false)) Z1) (Zv (ZW (tOr (Zcp (ZF (Zu Zgg (Zf (Zh Zt (Zb 2) (Zk 0)) Zn)))) (tOr (Zcp (ZF (Zu Zgg (Zf (Zh Zt (Zb 2) (Zk 1)) Zn)))) Zcm)) (ZG (Zb5 false)) Z1) (ZW (tOr (ZF (Zh oLt (Zh Zt (Zb 2) (Zk 0)) (Zk 0))) (tOr (Zat (ZF (Zh oGt (Zh Zt (Zb 2) (Zk 0)) (Zk 0))) (Zat (Zcp (ZgW oLe oLt (Zk 0) (Zh Zt (Zb 2) (Zk 1)) (Zh Zt (Zb 2) (Zk 0)))) Zam)) Zcm)) (ZG (Zb5 false)) Z1)))) (ZG (Zb5 true))))
noncomputable def Zlw:=Z9 2 Zlv
noncomputable def Zlx: PS:=(Zs (ZP (bOr (ZbY (ZD (pIs "tuple" (Za 0)))) (bOr (ZD (Ze qNe (Zr Zar (Zd (Za 0) Zm)) (Zj 2))) (bOr (ZbY (ZD (Zr Zh7 (Zd (Ze Zq (Za 0) (Zj 0)) (Zd (Ze Zag (Za 1) (Zj 1)) Zm))))) Zce))) (ZE (ZbD false)) ZU) (Zs (ZP (bOr (ZbY (ZD (pIs "list" (Ze Zq (Za 0) (Zj 1))))) (bOr (ZD (Ze qNe (Zr Zar (Zd (Ze Zq (Za 0) (Zj 1)) Zm)) (Za 1))) Zce)) (ZE (ZbD false)) ZU) (Zs (ZaB (ZaD (Ze Zq (Za 0) (Zj 1))) (Zac 2) (Zs (ZP (bOr (ZbY (ZD (pIs "tuple" (Za 2)))) (bOr (ZD (Ze qNe (Zr Zar (Zd (Za 2) Zm)) (Zj 2))) Zce)) (ZE (ZbD false)) ZU) (Zs (ZP (bOr (ZbY (ZD (Zr Zfc (Zd (Ze Zq (Za 2) (Zj 0)) Zm)))) (bOr (ZbY (ZD (Zr Zfc (Zd (Ze Zq (Za 2) (Zj 1)) Zm)))) Zce)) (ZE (ZbD false)) ZU) (ZP (bOr (ZD (Ze qLt (Ze Zq (Za 2) (Zj 0)) (Zj 0))) (bOr (Zai (ZD (Ze qGt (Ze Zq (Za 2) (Zj 0)) (Zj 0))) (Zai (ZbY (ZgX qLe qLt (Zj 0) (Ze Zq (Za 2) (Zj 1)) (Ze Zq (Za 2) (Zj 0)))) Zae)) Zce)) (ZE (ZbD false)) ZU)))) (ZE (ZbD true)))))
noncomputable def ZhR:=Zab 2 Zlx
theorem Ztj: SimF false Zlw ZhR:=Zaf (show S [] [] [] false Zlv Zlx from(Zy (Z3 (Zbh (ZcQ (ZJ (Zd8 (Zc 0)))) (Zbh (ZJ (ZC ZbP (Zaw ZaV (Zg (Zc 0) Zo)) (Zl _))) (Zbh (ZcQ (ZJ (ZK ZtE (Zg (ZA Zz (Zc 0) (Zl _)) (Zg (Zad Zal (Zc 1) (Zl _)) Zo))))) ZcN))) (ZV (E.bool _)) Z6) (Zy (Z3 (Zbh (ZcQ (ZJ (Zd8 (ZA Zz (Zc 0) (Zl _))))) (Zbh (ZJ (ZC ZbP (Zaw ZaV (Zg (ZA Zz (Zc 0) (Zl _)) Zo)) (Zc 1))) ZcN)) (ZV (E.bool _)) Z6) (Zy (Zba (Gs.seq (ZA Zz (Zc 0) (Zl _))) PutOk.one (by decide) (by decide) (Zy (Z3 (Zbh (ZcQ (ZJ (Zd8 (Zc 2)))) (Zbh (ZJ (ZC ZbP (Zaw ZaV (Zg (Zc 2) Zo)) (Zl _))) ZcN)) (ZV (E.bool _)) Z6) (Zy (Z3 (Zbh (ZcQ (ZJ (ZK Zlq (Zg (ZA Zz (Zc 2) (Zl _)) Zo)))) (Zbh (ZcQ (ZJ (ZK Zlq (Zg (ZA Zz (Zc 2) (Zl _)) Zo)))) ZcN)) (ZV (E.bool _)) Z6) (Z3 (Zbh (ZJ (ZC Zcq (ZA Zz (Zc 2) (Zl _)) (Zl _))) (Zbh (ZaA (ZJ (ZC Zdy (ZA Zz (Zc 2) (Zl _)) (Zl _))) (ZaA (ZcQ (Zu7 Zjx Zcq (Zl _) (ZA Zz (Zc 2) (Zl _)) (ZA Zz (Zc 2) (Zl _)))) Zay)) ZcN)) (ZV (E.bool _)) Z6)))) (ZV (E.bool _))))))
noncomputable def Zmb: Sm:=Zv (ZW (ZF (Zh oIs (Zb 1) (Z0))) (ZG (Zh oIs (Zb 0) (Z0))) Z1) (ZG (Zdw (Zu Zlw (Zf (Zb 0) (Zf (Zu ZaJ (Zf (Zh Zt (Zb 1) (Zk 1)) Zn)) Zn))) (Zh oEq (Zb 0) (Zb 1))))
noncomputable def Zmc:=Z9 2 Zmb
noncomputable def Zh9: PS:=(Zs (ZP (ZD (Ze qIs (Za 1) (ZR))) (ZE (Ze qIs (Za 0) (ZR))) ZU) (ZE ((ZdJ (Zr ZhR (Zd (Za 0) (Zd (Zr Zar (Zd (Ze Zq (Za 1) (Zj 1)) Zm)) Zm))) (Ze qEq (Za 0) (Za 1))))))
noncomputable def ZdT:=Zab 2 Zh9
theorem ZtG: SimF false Zmc ZdT:=Zaf (show S [] [] [] false Zmb Zh9 from(Zy (Z3 (ZJ (ZC Zbr (Zc 1) (Z8))) (ZV (ZC Zbr (Zc 0) (Z8))) Z6) (ZV ((ZfN (E.sh (ZK Ztj (Zg (Zc 0) (Zg (Zaw ZaV (Zg (ZA Zz (Zc 1) (Zl _)) Zo)) Zo)))) (E.sh (ZC ZaN (Zc 0) (Zc 1))))))))
noncomputable def ZnS(F:List V→Hp→Option (V×Hp)): Sm:=Zv (ZW (ZF (eIs "list" (Zb 0))) (ZG (ZaI (Zby (Zb 0)) (put1 100) Zam (Zu F (Zf (Zb 100) Zn)))) Z1) (Zv (ZW (ZF (eIs "tuple" (Zb 0))) (ZG (Zu ZfB (Zf (ZaI (Zby (Zb 0)) (put1 102) Zam (Zu F (Zf (Zb 102) Zn))) Zn))) Z1) (ZG (Zb 0)))
noncomputable def Zfx: Nat→List V→Hp→Option (V×Hp)
 | 0=>fun _ _=>none
 | n+1=>Z9 1 (ZnS (Zfx n))
noncomputable def ZgO: List V→Hp→Option (V×Hp):=Zfx 9
noncomputable def ZfE(F:List T→Option T): PS:=(Zs (ZP (ZD (pIs "list" (Za 0))) (ZE (Zap (ZaD (Za 0)) (Zac 100) Zae (Zr F (Zd (Za 100) Zm)))) ZU) (Zs (ZP (ZD (pIs "tuple" (Za 0))) (ZE (Zr ZiF (Zd (Zap (ZaD (Za 0)) (Zac 102) Zae (Zr F (Zd (Za 102) Zm))) Zm))) ZU) (ZE (ZbV (Za 0)))))
noncomputable def ZeH: Nat→List T→Option T
 | 0=>fun _=>none
 | n+1=>Zab 1 (ZfE (ZeH n))
noncomputable def ZfF: List T→Option T:=ZeH 9
theorem Znv: ∀n:Nat,SimF true (Zfx n) (ZeH n)
 | 0=>Zui
 | n+1=>Zaf (show S [] [] [] true (ZnS (Zfx n)) (ZfE (ZeH n))from(Zy (Z3 (ZJ (Zd8 (Zc 0))) (Za7 (Zdn (Gs.seq (Zc 0)) PutOk.one (by decide) Zay (ZbO (Znv n) (Zg (Zc 100) Zo)))) Z6) (Zy (Z3 (ZJ (Zd8 (Zc 0))) (Za7 (Zwe Zu8 (ZgE (Zdn (Gs.seq (Zc 0)) PutOk.one (by decide) Zay (ZbO (Znv n) (Zg (Zc 102) Zo))) Zo (by decide) (by decide)))) Z6) (Za7 (E.flat (Zc 0))))))
theorem ZnT: SimF true ZgO ZfF:=Znv 9
noncomputable def Zia: Sm:=ZbI (Zu Ziv (Zf (Zh Zt (Zh Zt (Zb 0) (Zb 1)) (Zb 2)) (Zf (Zb 3) Zn))) (Zh Zt (Zb 0) (Zb 1)) (Zb 2)
noncomputable def Zgk:=Z9 4 Zia
noncomputable def Zmd: PS:=(Za2 0 [] (ZbV (Zr ZgF (Zd (Ze Zq (Ze Zq (Za 0) (Za 1)) (Za 2)) (Zd (Za 3) Zm)))) (Zbu ZaC (Za 1)) (Za 2))
noncomputable def Zfh:=Ze2 4 Zmd
theorem Zme: SimM Zgk Zfh:=ZnN (show S [0] [0] [0] false Zia Zmd from(S.put (O':=[0]) (by decide) (Za8 (O':=[]) (E.flat (ZK Zqj (Zg (ZA Zz (ZA Zz (Zc 0) (Zc 1)) (Zc 2)) (Zg (Zc 3) Zo))))) (Zc5 ZbC (Zc 1)) (Zc 2) (by decide) (by decide))) (by decide) (by unfold Zia;repeat' first | exact Keep0.next | exact ZmF | exact Keep0.ret | exact Keep0.put | apply Keep0.seq | apply ZmG | exact Keep0.set (by decide))
noncomputable def ZmX: Sm:=Zv (ZN 3 (Zh Zah (Zcb (Zf (Zu Zex (Zf (Zb 0) (Zf (Zb 1) Zn))) Zn)) (Zh ZaX (Zcb (Zf (Zk 0) Zn)) (Zb 2)))) (Zv (ZN 4 (Zu Zb2 (Zf (Zb 0) (Zf (Zb 1) (Zf (Zk 6) Zn))))) (Zv (ZW (tOr (ZF (Zh oEq (Zb 4) (Zk 0))) (tOr (ZF (Zh oEq (Zb 2) (Zk 0))) Zcm)) (ZG (Zb 3)) Z1) (Zv (ZN 5 (Zh Zah (Zk 1) (Zu Zb2 (Zf (Zb 0) (Zf (Zh Zah (Zb 1) (Zk 1)) (Zf (Zb 2) Zn)))))) (Zv (ZW (ZF (Zh oEq (Zb 4) (Zk 1))) (ZbI (Zh Zbl (Zu Zb2 (Zf (Zb 0) (Zf (Zh Zah (Zb 1) (Zk 2)) (Zf (Zk 13) Zn)))) (Zk 6)) (Zb 3) (Zb 5)) Z1) (Zv (ZW (tOr (ZF (Zh oEq (Zb 4) (Zk 2))) (tOr (ZF (Zh oEq (Zb 4) (Zk 3))) Zcm)) (Zv (ZN 6 (Zh Zah (Zk 1) (Zu Zb2 (Zf (Zb 0) (Zf (Zh Zah (Zb 1) (Zk 2)) (Zf (Zb 2) Zn)))))) (Zv (ZbI (Zk 1) (Zb 3) (Zb 5)) (ZbI (Zh Zbl (Zh Zt (Zb 3) (Zb 6)) (Zk 1)) (Zb 3) (Zb 6)))) Z1) (Zv (ZW (ZF (Zh oEq (Zb 4) (Zk 4))) (ZaM (ZaP (Zf (Zb 2) Zn)) (put1 7) (ZbI (Zh Zbl (Zu Zb2 (Zf (Zb 0) (Zf (Zh Zah (Zh Zah (Zb 1) (Zk 1)) (Zb 7)) (Zf (Zk 7) Zn)))) (Zk 3)) (Zb 3) (Zh Zah (Zb 7) (Zk 1)))) Z1) (Zv (ZW (ZF (Zh oEq (Zb 4) (Zk 5))) (ZaM (ZaP (Zf (Zb 2) Zn)) (put1 7) (ZbI (Zh Zbl (Zu Zb2 (Zf (Zb 0) (Zf (Zh Zah (Zh Zah (Zb 1) (Zk 1)) (Zb 7)) (Zf (Zk 2000000001) Zn)))) (Zk 1000000000)) (Zb 3) (Zh Zah (Zb 7) (Zk 1)))) Z1) (ZG (Zb 3)))))))))
noncomputable def ZmY:=Z9 3 ZmX
noncomputable def ZmZ: PS:=(Zs (ZI 3 (pFl (Ze Zag (Zb6 (Zd (Zr Zec (Zd (Za 0) (Zd (Za 1) Zm))) Zm)) (Ze ZaF (Zb6 (Zd (Zj 0) Zm)) (Za 2))))) (Zs (ZI 4 (Zr ZbR (Zd (Za 0) (Zd (Za 1) (Zd (Zj 6) Zm))))) (Zs (ZP (bOr (ZD (Ze qEq (Za 4) (Zj 0))) (bOr (ZD (Ze qEq (Za 2) (Zj 0))) Zce)) (ZE (Za 3)) ZU) (Zs (ZI 5 (Ze Zag (Zj 1) (Zr ZbR (Zd (Za 0) (Zd (Ze Zag (Za 1) (Zj 1)) (Zd (Za 2) Zm)))))) (Zs (ZP (ZD (Ze qEq (Za 4) (Zj 1))) (Za2 3 [] (Ze Za5 (Zr ZbR (Zd (Za 0) (Zd (Ze Zag (Za 1) (Zj 2)) (Zd (Zj 13) Zm)))) (Zj 6)) ZaC (Za 5)) ZU) (Zs (ZP (bOr (ZD (Ze qEq (Za 4) (Zj 2))) (bOr (ZD (Ze qEq (Za 4) (Zj 3))) Zce)) (Zs (ZI 6 (Ze Zag (Zj 1) (Zr ZbR (Zd (Za 0) (Zd (Ze Zag (Za 1) (Zj 2)) (Zd (Za 2) Zm)))))) (Zs (Za2 3 [] (Zj 1) ZaC (Za 5)) (Za2 3 [] (Ze Za5 (Ze Zq (Za 3) (Za 6)) (Zj 1)) ZaC (Za 6)))) ZU) (Zs (ZP (ZD (Ze qEq (Za 4) (Zj 4))) (ZaB (ZaE (Zd (Za 2) Zm)) (Zac 7) (Za2 3 [] (Ze Za5 (Zr ZbR (Zd (Za 0) (Zd (Ze Zag (Ze Zag (Za 1) (Zj 1)) (Za 7)) (Zd (Zj 7) Zm)))) (Zj 3)) ZaC (Ze Zag (Za 7) (Zj 1)))) ZU) (Zs (ZP (ZD (Ze qEq (Za 4) (Zj 5))) (ZaB (ZaE (Zd (Za 2) Zm)) (Zac 7) (Za2 3 [] (Ze Za5 (Zr ZbR (Zd (Za 0) (Zd (Ze Zag (Ze Zag (Za 1) (Zj 1)) (Za 7)) (Zd (Zj 2000000001) Zm)))) (Zj 1000000000)) ZaC (Ze Zag (Za 7) (Zj 1)))) ZU) (ZE (Za 3))))))))))
noncomputable def Zin:=Zab 3 ZmZ
theorem Zuo: SimF true ZmY Zin:=Zaf (show S [] [3] [] true ZmX ZmZ from(Zy (Zcn (O':=[3]) (Zoc Zal (E.list (Zg (ZK Zf6 (Zg (Zc 0) (Zg (Zc 1) Zo))) Zo)) (Zad Za9 (E.list (Zg (Zl _) Zo)) (Zc 2)))) (Zy (ZY (O':=[3]) (ZK Zcd (Zg (Zc 0) (Zg (Zc 1) (Zg (Zl _) Zo))))) (Zy (Z3 (Zbh (ZJ (ZC ZaN (Zc 4) (Zl _))) (Zbh (ZJ (ZC ZaN (Zc 2) (Zl _))) ZcN)) (Za7 (E.own (by decide))) Z6) (Zy (ZY (O':=[3]) (Zad Zal (Zl _) (ZK Zcd (Zg (Zc 0) (Zg (Zad Zal (Zc 1) (Zl _)) (Zg (Zc 2) Zo)))))) (Zy (Z3 (ZJ (ZC ZaN (Zc 4) (Zl _))) (S.put (O':=[3]) (by decide) (Za8 (O':=[]) (ZC Zbv (ZK Zcd (Zg (Zc 0) (Zg (Zad Zal (Zc 1) (Zl _)) (Zg (Zl _) Zo)))) (Zl _))) ZbC (Zc 5) (by decide) (by decide)) Z6) (Zy (Z3 (Zbh (ZJ (ZC ZaN (Zc 4) (Zl _))) (Zbh (ZJ (ZC ZaN (Zc 4) (Zl _))) ZcN)) (Zy (ZY (O':=[3]) (Zad Zal (Zl _) (ZK Zcd (Zg (Zc 0) (Zg (Zad Zal (Zc 1) (Zl _)) (Zg (Zc 2) Zo)))))) (Zy (S.put (O':=[3]) (by decide) (Za8 (O':=[]) (Zl _)) ZbC (Zc 5) (by decide) (by decide)) (S.put (O':=[3]) (by decide) (Za8 (O':=[]) (ZC Zbv (ZA Zz (Zc 3) (Zc 6)) (Zl _))) ZbC (Zc 6) (by decide) (by decide)))) Z6) (Zy (Z3 (ZJ (ZC ZaN (Zc 4) (Zl _))) (Zba (Gs.range (Zg (Zc 2) Zo)) PutOk.one (by decide) (by decide) (S.put (O':=[3]) (by decide) (Za8 (O':=[]) (ZC Zbv (ZK Zcd (Zg (Zc 0) (Zg (Zad Zal (Zad Zal (Zc 1) (Zl _)) (Zc 7)) (Zg (Zl _) Zo)))) (Zl _))) ZbC (Zad Zal (Zc 7) (Zl _)) (by decide) (by decide))) Z6) (Zy (Z3 (ZJ (ZC ZaN (Zc 4) (Zl _))) (Zba (Gs.range (Zg (Zc 2) Zo)) PutOk.one (by decide) (by decide) (S.put (O':=[3]) (by decide) (Za8 (O':=[]) (ZC Zbv (ZK Zcd (Zg (Zc 0) (Zg (Zad Zal (Zad Zal (Zc 1) (Zl _)) (Zc 7)) (Zg (Zl _) Zo)))) (Zl _))) ZbC (Zad Zal (Zc 7) (Zl _)) (by decide) (by decide))) Z6) (Za7 (E.own (by decide))))))))))))
noncomputable def Zj7: Sm:=Zv (ZN 2 (ZaI (ZaP (Zf (Zk 1) (Zf (Zu ZaJ (Zf (Zb 1) Zn)) Zn))) (put1 100) (ZF (Zh oGt (Zh Zt (Zb 1) (Zb 100)) (Zk 0))) (Zb 100))) (Zv (ZN 3 (ZaI (ZaP (Zf (Zk 1) (Zf (Zu ZaJ (Zf (Zb 1) Zn)) Zn))) (put1 102) (ZF (Zh oLt (Zh Zt (Zb 1) (Zb 102)) (Zk 0))) (Zb 102))) (Zv (ZW (Zat (ZF (Zh oEq (Zu ZaJ (Zf (Zb 2) Zn)) (Zk 1))) (Zat (ZF (Zh oEq (Zu ZaJ (Zf (Zb 3) Zn)) (Zk 1))) (Zat (ZF (Zh oEq (Zh Zt (Zb 1) (Zh Zt (Zb 2) (Zk 0))) (Zk 1))) (Zat (ZF (Zh oEq (Zh Zt (Zb 1) (Zh Zt (Zb 3) (Zk 0))) (eUn Zbq (Zk 1)))) Zam)))) (Zv (ZW (ZF (Zh oIs (Zh Zt (Zh Zt (Zh Zt (Zb 0) (Zk 0)) (Zh Zt (Zb 2) (Zk 0))) (Zh Zt (Zb 3) (Zk 0))) (Z0))) (ZG (Z0)) Z1) (ZG (Zh Zah (Zh Zt (Zh Zt (Zh Zt (Zb 0) (Zk 0)) (Zh Zt (Zb 2) (Zk 0))) (Zh Zt (Zb 3) (Zk 0))) (Zh Zt (Zb 1) (Zk 0))))) Z1) (Zv (ZN 4 (Zh Zah (ZaI (Zby (Zb 2)) (put1 104) Zam (Zh Zt (Zh Zt (Zh Zt (Zb 0) (Zk 0)) (Zb 104)) (Zk 0))) (ZaI (Zby (Zb 3)) (put1 106) Zam (Zh Zt (Zh Zt (Zh Zt (Zb 0) (Zk 0)) (Zk 0)) (Zb 106))))) (Zv (ZW (ZF (Zh oIn (Z0) (Zb 4))) (ZG (Z0)) Z1) (Zv (ZN 5 (Zh Zt (Zb 1) (Zk 0))) (Zv (ZaM (Zby (Zb 2)) (put1 6) (ZN 5 (Zh Zah (Zb 5) (Zh ZaX (Zh Zt (Zb 1) (Zb 6)) (Zh Zt (Zh Zt (Zh Zt (Zb 0) (Zk 0)) (Zb 6)) (Zk 0)))))) (Zv (ZaM (Zby (Zb 3)) (put1 6) (ZN 5 (Zh Zbl (Zb 5) (Zh ZaX (Zh Zt (Zb 1) (Zb 6)) (Zh Zt (Zh Zt (Zh Zt (Zb 0) (Zk 0)) (Zk 0)) (Zb 6)))))) (ZG (Zb 5)))))))))
noncomputable def Ze6:=Z9 2 Zj7
noncomputable def Zj8: PS:=(Zs (ZI 2 (Zap (ZaE (Zd (Zj 1) (Zd (Zr Zar (Zd (Za 1) Zm)) Zm))) (Zac 100) (ZD (Ze qGt (Ze Zq (Za 1) (Za 100)) (Zj 0))) (Za 100))) (Zs (ZI 3 (Zap (ZaE (Zd (Zj 1) (Zd (Zr Zar (Zd (Za 1) Zm)) Zm))) (Zac 102) (ZD (Ze qLt (Ze Zq (Za 1) (Za 102)) (Zj 0))) (Za 102))) (Zs (ZP (Zai (ZD (Ze qEq (Zr Zar (Zd (Za 2) Zm)) (Zj 1))) (Zai (ZD (Ze qEq (Zr Zar (Zd (Za 3) Zm)) (Zj 1))) (Zai (ZD (Ze qEq (Ze Zq (Za 1) (Ze Zq (Za 2) (Zj 0))) (Zj 1))) (Zai (ZD (Ze qEq (Ze Zq (Za 1) (Ze Zq (Za 3) (Zj 0))) (pUn Zbc (Zj 1)))) Zae)))) (Zs (ZP (ZD (Ze qIs (Ze Zq (Ze Zq (Ze Zq (Za 0) (Zj 0)) (Ze Zq (Za 2) (Zj 0))) (Ze Zq (Za 3) (Zj 0))) (ZR))) (ZE (ZR)) ZU) (ZE (Ze Zag (Ze Zq (Ze Zq (Ze Zq (Za 0) (Zj 0)) (Ze Zq (Za 2) (Zj 0))) (Ze Zq (Za 3) (Zj 0))) (Ze Zq (Za 1) (Zj 0))))) ZU) (Zs (ZI 4 (Ze Zag (Zap (ZaD (Za 2)) (Zac 104) Zae (Ze Zq (Ze Zq (Ze Zq (Za 0) (Zj 0)) (Za 104)) (Zj 0))) (Zap (ZaD (Za 3)) (Zac 106) Zae (Ze Zq (Ze Zq (Ze Zq (Za 0) (Zj 0)) (Zj 0)) (Za 106))))) (Zs (ZP (ZD (Ze qIn (ZR) (Za 4))) (ZE (ZR)) ZU) (Zs (ZI 5 (Ze Zq (Za 1) (Zj 0))) (Zs (ZaB (ZaD (Za 2)) (Zac 6) (ZI 5 (Ze Zag (Za 5) (Ze ZaF (Ze Zq (Za 1) (Za 6)) (Ze Zq (Ze Zq (Ze Zq (Za 0) (Zj 0)) (Za 6)) (Zj 0)))))) (Zs (ZaB (ZaD (Za 3)) (Zac 6) (ZI 5 (Ze Za5 (Za 5) (Ze ZaF (Ze Zq (Za 1) (Za 6)) (Ze Zq (Ze Zq (Ze Zq (Za 0) (Zj 0)) (Zj 0)) (Za 6)))))) (ZE (Za 5))))))))))
noncomputable def ZdL:=Zab 2 Zj8
theorem Zhq: SimF false Ze6 ZdL:=Zaf (show S [] [] [] false Zj7 Zj8 from(Zy (ZY (O':=[]) (Zca (Gs.range (Zg (Zl _) (Zg (Zaw ZaV (Zg (Zc 1) Zo)) Zo))) PutOk.one (by decide) (ZJ (ZC Zdy (ZA Zz (Zc 1) (Zc 100)) (Zl _))) (Zc 100))) (Zy (ZY (O':=[]) (Zca (Gs.range (Zg (Zl _) (Zg (Zaw ZaV (Zg (Zc 1) Zo)) Zo))) PutOk.one (by decide) (ZJ (ZC Zcq (ZA Zz (Zc 1) (Zc 102)) (Zl _))) (Zc 102))) (Zy (Z3 (ZaA (ZJ (ZC ZaN (Zaw ZaV (Zg (Zc 2) Zo)) (Zl _))) (ZaA (ZJ (ZC ZaN (Zaw ZaV (Zg (Zc 3) Zo)) (Zl _))) (ZaA (ZJ (ZC ZaN (ZA Zz (Zc 1) (ZA Zz (Zc 2) (Zl _))) (Zl _))) (ZaA (ZJ (ZC ZaN (ZA Zz (Zc 1) (ZA Zz (Zc 3) (Zl _))) (ZbE ZbF (Zl _)))) Zay)))) (Zy (Z3 (ZJ (ZC Zbr (ZA Zz (ZA Zz (ZA Zz (Zc 0) (Zl _)) (ZA Zz (Zc 2) (Zl _))) (ZA Zz (Zc 3) (Zl _))) (Z8))) (ZV (Z8)) Z6) (ZV (Zad Zal (ZA Zz (ZA Zz (ZA Zz (Zc 0) (Zl _)) (ZA Zz (Zc 2) (Zl _))) (ZA Zz (Zc 3) (Zl _))) (ZA Zz (Zc 1) (Zl _))))) Z6) (Zy (ZY (O':=[]) (Zad Zal (Zca (Gs.seq (Zc 2)) PutOk.one (by decide) Zay (ZA Zz (ZA Zz (ZA Zz (Zc 0) (Zl _)) (Zc 104)) (Zl _))) (Zca (Gs.seq (Zc 3)) PutOk.one (by decide) Zay (ZA Zz (ZA Zz (ZA Zz (Zc 0) (Zl _)) (Zl _)) (Zc 106))))) (Zy (Z3 (ZJ (ZC Ze1 (Z8) (Zc 4))) (ZV (Z8)) Z6) (Zy (ZY (O':=[]) (ZA Zz (Zc 1) (Zl _))) (Zy (Zba (Gs.seq (Zc 2)) PutOk.one (by decide) (by decide) (ZY (O':=[]) (Zad Zal (Zc 5) (Zad Za9 (ZA Zz (Zc 1) (Zc 6)) (ZA Zz (ZA Zz (ZA Zz (Zc 0) (Zl _)) (Zc 6)) (Zl _)))))) (Zy (Zba (Gs.seq (Zc 3)) PutOk.one (by decide) (by decide) (ZY (O':=[]) (ZC Zbv (Zc 5) (Zad Za9 (ZA Zz (Zc 1) (Zc 6)) (ZA Zz (ZA Zz (ZA Zz (Zc 0) (Zl _)) (Zl _)) (Zc 6)))))) (ZV (Zc 5)))))))))))
noncomputable def ZjN: Sm:=ZG (Zh oEq (Zu ZgM (Zf (ZaI (Zby (ZdI (Zb 0) 1)) (put1 100) (ZF (Zh oNe (Zb 100) (Zk 0))) (Zb 100)) Zn)) (Zcb (Zf (eUn Zbq (Zk 1)) (Zf (Zk 1) Zn))))
noncomputable def ZjO:=Z9 1 ZjN
noncomputable def ZjP: PS:=(ZE (Ze qEq (Zr ZiM (Zd (Zap (ZaD (Zdu (Za 0) 1)) (Zac 100) (ZD (Ze qNe (Za 100) (Zj 0))) (Za 100)) Zm)) (Zb6 (Zd (pUn Zbc (Zj 1)) (Zd (Zj 1) Zm)))))
noncomputable def Zhl:=Zab 1 ZjP
theorem Zr5: SimF false ZjO Zhl:=Zaf (show S [] [] [] false ZjN ZjP from(ZV (ZC ZaN (ZiC Zva (Zg (Zca (Gs.seq (ZgU (Zc 0))) PutOk.one (by decide) (ZJ (ZC ZbP (Zc 100) (Zl _))) (Zc 100)) Zo)) (E.list (Zg (ZbE ZbF (Zl _)) (Zg (Zl _) Zo))))))
noncomputable def Zj9: Sm:=Zv (ZN 1 (Zh Zt (Zb 0) (Zk 0))) (ZG (ZaI (ZaP (Zf (Zk 1) (Zf (Zu ZaJ (Zf (Zb 1) Zn)) Zn))) (put1 100) Zam (ZaR (Zf (Zu Zfd (Zf (Zh Zt (Zh Zt (Zb 1) (Zk 0)) (Zb 100)) (Zf (eUn Zbq (Zk 1)) Zn))) (Zf (Zh Zt (Zh Zt (Zb 1) (Zb 100)) (Zk 0)) Zn)))))
noncomputable def Zka:=Z9 1 Zj9
noncomputable def Zkb: PS:=(Zs (ZI 1 (Ze Zq (Za 0) (Zj 0))) (ZE (Zap (ZaE (Zd (Zj 1) (Zd (Zr Zar (Zd (Za 1) Zm)) Zm))) (Zac 100) Zae (ZaU (Zd (Zr Zez (Zd (Ze Zq (Ze Zq (Za 1) (Zj 0)) (Za 100)) (Zd (pUn Zbc (Zj 1)) Zm))) (Zd (Ze Zq (Ze Zq (Za 1) (Za 100)) (Zj 0)) Zm))))))
noncomputable def Zhr:=Zab 1 Zkb
theorem Zsk: SimF false Zka Zhr:=Zaf (show S [] [] [] false Zj9 Zkb from(Zy (ZY (O':=[]) (ZA Zz (Zc 0) (Zl _))) (ZV (Zca (Gs.range (Zg (Zl _) (Zg (Zaw ZaV (Zg (Zc 1) Zo)) Zo))) PutOk.one (by decide) Zay (E.tup (Zg (ZK ZhP (Zg (ZA Zz (ZA Zz (Zc 1) (Zl _)) (Zc 100)) (Zg (ZbE ZbF (Zl _)) Zo))) (Zg (ZA Zz (ZA Zz (Zc 1) (Zc 100)) (Zl _)) Zo)))))))
noncomputable def Zmf: Sm:=Zv (ZW (ZF (Zu ZjO (Zf (Zb 1) Zn))) (ZG (Zu Zef (Zf (Zh Zt (Zh Zt (Zh Zt (Zb 0) (Zk 0)) (Zg0 (Zb 1) (Zk 1) (Zk 1))) (Zg0 (Zb 1) (eUn Zbq (Zk 1)) (Zk 1))) (Zf (Zh Zt (Zb 1) (Zk 0)) Zn)))) Z1) (ZG (Zh Zt (Zu Zkk (Zf (Zb 1) (Zf (Zu Zka (Zf (Zb 0) Zn)) Zn))) (Zk 1)))
noncomputable def Zgl:=Z9 2 Zmf
noncomputable def Zmg: PS:=(Zs (ZP (ZD (Zr Zhl (Zd (Za 1) Zm))) (ZE (Zr ZdS (Zd (Ze Zq (Ze Zq (Ze Zq (Za 0) (Zj 0)) (Zg1 (Za 1) (Zj 1) (Zj 1))) (Zg1 (Za 1) (pUn Zbc (Zj 1)) (Zj 1))) (Zd (Ze Zq (Za 1) (Zj 0)) Zm)))) ZU) (ZE (Ze Zq (Zr Zhu (Zd (Za 1) (Zd (Zr Zhr (Zd (Za 0) Zm)) Zm))) (Zj 1))))
noncomputable def Zfi:=Zab 2 Zmg
theorem Zmh: SimF false Zgl Zfi:=Zaf (show S [] [] [] false Zmf Zmg from(Zy (Z3 (ZJ (ZK Zr5 (Zg (Zc 1) Zo))) (ZV (ZK Zff (Zg (ZA Zz (ZA Zz (ZA Zz (Zc 0) (Zl _)) (E.index (Zc 1) (Zl _) (Zl _))) (E.index (Zc 1) (ZbE ZbF (Zl _)) (Zl _))) (Zg (ZA Zz (Zc 1) (Zl _)) Zo)))) Z6) (ZV (ZA Zz (ZK Zsz (Zg (Zc 1) (Zg (ZK Zsk (Zg (Zc 0) Zo)) Zo))) (Zl _)))))
noncomputable def Zly: Sm:=ZG (ZaI (Zby (Zb 0)) (put1 100) Zam (Zh ZaX (Zb 100) (Zb 1)))
noncomputable def ZdQ:=Z9 2 Zly
noncomputable def Zlz: PS:=(ZE (Zap (ZaD (Za 0)) (Zac 100) Zae (Ze ZaF (Za 100) (Za 1))))
noncomputable def ZdB:=Zab 2 Zlz
theorem ZeA: SimF false ZdQ ZdB:=Zaf (show S [] [] [] false Zly Zlz from(ZV (Zca (Gs.seq (Zc 0)) PutOk.one (by decide) Zay (Zad Za9 (Zc 100) (Zc 1)))))
noncomputable def ZnU: Sm:=ZG (Zu Zfd (Zf (Zu Zgl (Zf (Zb 0) (Zf (Zu ZdQ (Zf (Zb 1) (Zf (eUn Zbq (Zk 1)) Zn))) Zn))) (Zf (eUn Zbq (Zk 1)) Zn)))
noncomputable def ZnV:=Z9 2 ZnU
noncomputable def ZnW: PS:=(ZE (Zr Zez (Zd (Zr Zfi (Zd (Za 0) (Zd (Zr ZdB (Zd (Za 1) (Zd (pUn Zbc (Zj 1)) Zm))) Zm))) (Zd (pUn Zbc (Zj 1)) Zm))))
noncomputable def ZgP:=Zab 2 ZnW
theorem Zwg: SimF false ZnV ZgP:=Zaf (show S [] [] [] false ZnU ZnW from(ZV (ZK ZhP (Zg (ZK Zmh (Zg (Zc 0) (Zg (ZK ZeA (Zg (Zc 1) (Zg (ZbE ZbF (Zl _)) Zo))) Zo))) (Zg (ZbE ZbF (Zl _)) Zo)))))
noncomputable def ZlA: Sm:=ZG (Zh Zah (Zh Zt (Zb 0) (Zk 0)) (Zu Zhb (Zf (ZaI (ZaP (Zf (Zu ZaJ (Zf (Zb 1) Zn)) Zn)) (put1 100) Zam (Zh ZaX (Zh Zt (Zb 0) (Zh Zah (Zb 100) (Zk 1))) (Zh Zt (Zb 1) (Zb 100)))) Zn)))
noncomputable def ZlB:=Z9 2 ZlA
noncomputable def ZlC: PS:=(ZE (Ze Zag (Ze Zq (Za 0) (Zj 0)) (Zr Zjy (Zd (Zap (ZaE (Zd (Zr Zar (Zd (Za 1) Zm)) Zm)) (Zac 100) Zae (Ze ZaF (Ze Zq (Za 0) (Ze Zag (Za 100) (Zj 1))) (Ze Zq (Za 1) (Za 100)))) Zm))))
noncomputable def ZhS:=Zab 2 ZlC
theorem Ztk: SimF false ZlB ZhS:=Zaf (show S [] [] [] false ZlA ZlC from(ZV (Zad Zal (ZA Zz (Zc 0) (Zl _)) (Zaw ZxP (Zg (Zca (Gs.range (Zg (Zaw ZaV (Zg (Zc 1) Zo)) Zo)) PutOk.one (by decide) Zay (Zad Za9 (ZA Zz (Zc 0) (Zad Zal (Zc 100) (Zl _))) (ZA Zz (Zc 1) (Zc 100)))) Zo)))))
noncomputable def Zmi: Sm:=ZG (ZaI (Zd7 (Zb 0) (Zb 1)) (ZcA 100 101) Zam (Zh Zah (Zb 100) (Zb 101)))
noncomputable def Zmj:=Z9 2 Zmi
noncomputable def Zmk: PS:=(ZE (Zap (Zd9 (Za 0) (Za 1)) (ZcX 100 101) Zae (Ze Zag (Za 100) (Za 101))))
noncomputable def Zib:=Zab 2 Zmk
theorem ZtH: SimF false Zmj Zib:=Zaf (show S [] [] [] false Zmi Zmk from(ZV (Zca (Gs.zip (Zc 0) (Zc 1)) PutOk.two (by decide) Zay (Zad Zal (Zc 100) (Zc 101)))))
noncomputable def Zml: Sm:=ZG (Zu Zmj (Zf (Zb 0) (Zf (Zu ZdQ (Zf (Zb 1) (Zf (eUn Zbq (Zk 1)) Zn))) Zn)))
noncomputable def Zgm:=Z9 2 Zml
noncomputable def Zmm: PS:=(ZE (Zr Zib (Zd (Za 0) (Zd (Zr ZdB (Zd (Za 1) (Zd (pUn Zbc (Zj 1)) Zm))) Zm))))
noncomputable def Zfj:=Zab 2 Zmm
theorem Zmn: SimF false Zgm Zfj:=Zaf (show S [] [] [] false Zml Zmm from(ZV (ZK ZtH (Zg (Zc 0) (Zg (ZK ZeA (Zg (Zc 1) (Zg (ZbE ZbF (Zl _)) Zo))) Zo)))))
noncomputable def Zm0: Sm:=ZG (ZaI (ZaP (Zf (Zh Zah (Zb 1) (Zk 1)) Zn)) (put1 100) Zam (eIf (Zat (ZF (Zh oGt (Zb 0) (Zk 0))) (Zat (ZF (Zh oEq (Zb 100) (Zb 0))) Zam)) (Zk 1) (Zk 0)))
noncomputable def Zfs:=Z9 2 Zm0
noncomputable def Zm1: PS:=(ZE (Zap (ZaE (Zd (Ze Zag (Za 1) (Zj 1)) Zm)) (Zac 100) Zae (pIf (Zai (ZD (Ze qGt (Za 0) (Zj 0))) (Zai (ZD (Ze qEq (Za 100) (Za 0))) Zae)) (Zj 1) (Zj 0))))
noncomputable def ZeF:=Zab 2 Zm1
theorem Zio: SimF false Zfs ZeF:=Zaf (show S [] [] [] false Zm0 Zm1 from(ZV (Zca (Gs.range (Zg (Zad Zal (Zc 1) (Zl _)) Zo)) PutOk.one (by decide) Zay (ZeS (ZaA (ZJ (ZC Zdy (Zc 0) (Zl _))) (ZaA (ZJ (ZC ZaN (Zc 100) (Zc 0))) Zay)) (E.sh (Zl _)) (E.sh (Zl _))))))
noncomputable def Zkc: Sm:=Zv (ZN 2 (Zk 0)) (Zv (ZN 3 (Zh Zt (Zb 0) (Zk 0))) (Zv (ZaM (ZaP (Zf (Zu ZaJ (Zf (Zb 1) Zn)) Zn)) (put1 4) (Zv (ZN 2 (Zu Zgu (Zf (Zb 2) (Zf (Zh ZaX (Zh Zt (Zb 0) (Zh Zah (Zb 4) (Zk 1))) (Zh Zt (Zh Zt (Zb 1) (Zb 4)) (Zk 0))) Zn)))) (ZN 3 (Zh Zah (Zb 3) (Zh ZaX (Zh Zt (Zb 0) (Zh Zah (Zb 4) (Zk 1))) (Zh Zt (Zh Zt (Zb 1) (Zb 4)) (Zk 1))))))) (ZG (Zu ZdM (Zf (Zb 2) (Zf (Zb 3) Zn))))))
noncomputable def Zhs:=Z9 2 Zkc
noncomputable def Zkd: PS:=(Zs (ZI 2 (Zj 0)) (Zs (ZI 3 (Ze Zq (Za 0) (Zj 0))) (Zs (ZaB (ZaE (Zd (Zr Zar (Zd (Za 1) Zm)) Zm)) (Zac 4) (Zs (ZI 2 (Zr Zfo (Zd (Za 2) (Zd (Ze ZaF (Ze Zq (Za 0) (Ze Zag (Za 4) (Zj 1))) (Ze Zq (Ze Zq (Za 1) (Za 4)) (Zj 0))) Zm)))) (ZI 3 (Ze Zag (Za 3) (Ze ZaF (Ze Zq (Za 0) (Ze Zag (Za 4) (Zj 1))) (Ze Zq (Ze Zq (Za 1) (Za 4)) (Zj 1))))))) (ZE (Zr ZdA (Zd (Za 2) (Zd (Za 3) Zm)))))))
noncomputable def Zf0:=Zab 2 Zkd
theorem ZoU: SimF false Zhs Zf0:=Zaf (show S [] [] [] false Zkc Zkd from(Zy (ZY (O':=[]) (Zl _)) (Zy (ZY (O':=[]) (ZA Zz (Zc 0) (Zl _))) (Zy (Zba (Gs.range (Zg (Zaw ZaV (Zg (Zc 1) Zo)) Zo)) PutOk.one (by decide) (by decide) (Zy (ZY (O':=[]) (ZK ZmJ (Zg (Zc 2) (Zg (Zad Za9 (ZA Zz (Zc 0) (Zad Zal (Zc 4) (Zl _))) (ZA Zz (ZA Zz (Zc 1) (Zc 4)) (Zl _))) Zo)))) (ZY (O':=[]) (Zad Zal (Zc 3) (Zad Za9 (ZA Zz (Zc 0) (Zad Zal (Zc 4) (Zl _))) (ZA Zz (ZA Zz (Zc 1) (Zc 4)) (Zl _))))))) (ZV (ZK Zev (Zg (Zc 2) (Zg (Zc 3) Zo))))))))
noncomputable def ZkT: Sm:=ZG (Zu Zef (Zf (Zu Zgl (Zf (Zb 0) (Zf (Zu Zgm (Zf (Zb 1) (Zf (Zb 2) Zn))) Zn))) (Zf (Zb 3) Zn)))
noncomputable def ZhF:=Z9 4 ZkT
noncomputable def ZkU: PS:=(ZE (Zr ZdS (Zd (Zr Zfi (Zd (Za 0) (Zd (Zr Zfj (Zd (Za 1) (Zd (Za 2) Zm))) Zm))) (Zd (Za 3) Zm))))
noncomputable def Zf9:=Zab 4 ZkU
theorem Zo5: SimF false ZhF Zf9:=Zaf (show S [] [] [] false ZkT ZkU from(ZV (ZK Zff (Zg (ZK Zmh (Zg (Zc 0) (Zg (ZK Zmn (Zg (Zc 1) (Zg (Zc 2) Zo))) Zo))) (Zg (Zc 3) Zo)))))
noncomputable def Zhx: Sm:=Zv (ZN 4 (Zu ZaJ (Zf (Zh Zt (Zb 1) (Zk 1)) Zn))) (ZaM (ZaP (Zf (Zh Zah (Zb 4) (Zk 1)) Zn)) (put1 5) (ZaM (ZaP (Zf (Zh Zah (Zb 4) (Zk 1)) Zn)) (put1 6) (Zv (ZN 7 (Zu Zgm (Zf (Zu Zfs (Zf (Zb 5) (Zf (Zb 4) Zn))) (Zf (Zu Zfs (Zf (Zb 6) (Zf (Zb 4) Zn))) Zn)))) (Zcz (Zu Zgk (Zf (Zb 0) (Zf (Zb 5) (Zf (Zb 6) (Zf (Zu ZhF (Zf (Zb 1) (Zf (Zb 7) (Zf (Zb 2) (Zf (Zb 3) Zn))))) Zn)))))))))
noncomputable def Zkv:=Z9 4 Zhx
noncomputable def Zkw: PS:=(Zs (ZI 4 (Zr Zar (Zd (Ze Zq (Za 1) (Zj 1)) Zm))) (ZaB (ZaE (Zd (Ze Zag (Za 4) (Zj 1)) Zm)) (Zac 5) (ZaB (ZaE (Zd (Ze Zag (Za 4) (Zj 1)) Zm)) (Zac 6) (Zs (ZI 7 (Zr Zfj (Zd (Zr ZeF (Zd (Za 5) (Zd (Za 4) Zm))) (Zd (Zr ZeF (Zd (Za 6) (Zd (Za 4) Zm))) Zm)))) (Zet 0 Zfh (Zd (Za 5) (Zd (Za 6) (Zd (Zr Zf9 (Zd (Za 1) (Zd (Za 7) (Zd (Za 2) (Zd (Za 3) Zm))))) Zm))))))))
noncomputable def Zhy:=Ze2 4 Zkw
theorem ZsD: SimM Zkv Zhy:=ZnN (show S [0] [0] [0] false Zhx Zkw from(Zy (ZY (O':=[0]) (Zaw ZaV (Zg (ZA Zz (Zc 1) (Zl _)) Zo))) (Zba (Gs.range (Zg (Zad Zal (Zc 4) (Zl _)) Zo)) PutOk.one (by decide) (by decide) (Zba (Gs.range (Zg (Zad Zal (Zc 4) (Zl _)) Zo)) PutOk.one (by decide) (by decide) (Zy (ZY (O':=[0]) (ZK Zmn (Zg (ZK Zio (Zg (Zc 5) (Zg (Zc 4) Zo))) (Zg (ZK Zio (Zg (Zc 6) (Zg (Zc 4) Zo))) Zo)))) (ZgY (O':=[0]) (by decide) Zme (Zg (Zc 5) (Zg (Zc 6) (Zg (ZK Zo5 (Zg (Zc 1) (Zg (Zc 7) (Zg (Zc 2) (Zg (Zc 3) Zo))))) Zo))) (by decide) (by decide))))))) (by decide) (by unfold Zhx;repeat' first | exact Keep0.next | exact ZmF | exact Keep0.ret | exact Keep0.put | apply Keep0.seq | apply ZmG | exact Keep0.set (by decide) | apply ZpS (Zpz (by decide)))
noncomputable def ZkV: Sm:=Zv (ZW (ZF (Zh oIs (Zb 0) (Z0))) (ZG (Z0)) Z1) (ZG (Zh oDiv (Zb 0) (Zb 1)))
noncomputable def ZhG:=Z9 2 ZkV
noncomputable def ZkW: PS:=(Zs (ZP (ZD (Ze qIs (Za 0) (ZR))) (ZE (ZR)) ZU) (ZE (Ze ZcB (Za 0) (Za 1))))
noncomputable def Zga:=Zab 2 ZkW
theorem Zo6: SimF false ZhG Zga:=Zaf (show S [] [] [] false ZkV ZkW from(Zy (Z3 (ZJ (ZC Zbr (Zc 0) (Z8))) (ZV (Z8)) Z6) (ZV (ZC Zc9 (Zc 0) (Zc 1)))))
noncomputable def Zhz: Sm:=Zv (ZN 4 (Zu ZaJ (Zf (Zh Zt (Zb 1) (Zk 1)) Zn))) (ZaM (ZaP (Zf (Zk 1) (Zf (Zh Zah (Zb 4) (Zk 1)) Zn))) (put1 5) (Zv (ZN 6 (Zh Zt (Zb 2) (Zb 5))) (Zv (ZN 7 (Zu ZhF (Zf (Zb 1) (Zf (Zu ZdQ (Zf (Zu Zfs (Zf (Zb 5) (Zf (Zb 4) Zn))) (Zf (Zb 6) Zn))) (Zf (Zb 2) (Zf (Zb 3) Zn)))))) (Zv (ZW (ZF (Zh oGt (Zb 6) (Zk 0))) (Zcz (Zu Zgk (Zf (Zb 0) (Zf (Zb 5) (Zf (Zk 0) (Zf (Zu ZhG (Zf (Zb 7) (Zf (Zb 6) Zn))) Zn)))))) Z1) (ZW (ZF (Zh oLt (Zb 6) (Zk 0))) (Zcz (Zu Zgk (Zf (Zb 0) (Zf (Zk 0) (Zf (Zb 5) (Zf (Zu ZhG (Zf (Zb 7) (Zf (eUn Zbq (Zb 6)) Zn))) Zn)))))) Z1)))))
noncomputable def Zkx:=Z9 4 Zhz
noncomputable def Zky: PS:=(Zs (ZI 4 (Zr Zar (Zd (Ze Zq (Za 1) (Zj 1)) Zm))) (ZaB (ZaE (Zd (Zj 1) (Zd (Ze Zag (Za 4) (Zj 1)) Zm))) (Zac 5) (Zs (ZI 6 (Ze Zq (Za 2) (Za 5))) (Zs (ZI 7 (Zr Zf9 (Zd (Za 1) (Zd (Zr ZdB (Zd (Zr ZeF (Zd (Za 5) (Zd (Za 4) Zm))) (Zd (Za 6) Zm))) (Zd (Za 2) (Zd (Za 3) Zm)))))) (Zs (ZP (ZD (Ze qGt (Za 6) (Zj 0))) (Zet 0 Zfh (Zd (Za 5) (Zd (Zj 0) (Zd (Zr Zga (Zd (Za 7) (Zd (Za 6) Zm))) Zm)))) ZU) (ZP (ZD (Ze qLt (Za 6) (Zj 0))) (Zet 0 Zfh (Zd (Zj 0) (Zd (Za 5) (Zd (Zr Zga (Zd (Za 7) (Zd (pUn Zbc (Za 6)) Zm))) Zm)))) ZU))))))
noncomputable def ZhA:=Ze2 4 Zky
theorem ZsE: SimM Zkx ZhA:=ZnN (show S [0] [0] [0] false Zhz Zky from(Zy (ZY (O':=[0]) (Zaw ZaV (Zg (ZA Zz (Zc 1) (Zl _)) Zo))) (Zba (Gs.range (Zg (Zl _) (Zg (Zad Zal (Zc 4) (Zl _)) Zo))) PutOk.one (by decide) (by decide) (Zy (ZY (O':=[0]) (ZA Zz (Zc 2) (Zc 5))) (Zy (ZY (O':=[0]) (ZK Zo5 (Zg (Zc 1) (Zg (ZK ZeA (Zg (ZK Zio (Zg (Zc 5) (Zg (Zc 4) Zo))) (Zg (Zc 6) Zo))) (Zg (Zc 2) (Zg (Zc 3) Zo)))))) (Zy (Z3 (ZJ (ZC Zdy (Zc 6) (Zl _))) (ZgY (O':=[0]) (by decide) Zme (Zg (Zc 5) (Zg (Zl _) (Zg (ZK Zo6 (Zg (Zc 7) (Zg (Zc 6) Zo))) Zo))) (by decide) (by decide)) Z6) (Z3 (ZJ (ZC Zcq (Zc 6) (Zl _))) (ZgY (O':=[0]) (by decide) Zme (Zg (Zl _) (Zg (Zc 5) (Zg (ZK Zo6 (Zg (Zc 7) (Zg (ZbE ZbF (Zc 6)) Zo))) Zo))) (by decide) (by decide)) Z6))))))) (by decide) (by unfold Zhz;repeat' first | exact Keep0.next | exact ZmF | exact Keep0.ret | exact Keep0.put | apply Keep0.seq | apply ZmG | exact Keep0.set (by decide) | apply ZpS (Zpz (by decide)))
noncomputable def Zm2: Sm:=Zv (ZW (tOr (ZF (Zh oIs (Zb 0) (Z0))) (tOr (ZF (Zu ZmR (Zf (Zu ZnV (Zf (Zb 0) (Zf (Zb 1) Zn))) (Zf (Zb 2) Zn)))) Zcm)) (ZG (Z0)) Z1) (Zv (ZN 3 (Zu ZgO (Zf (Zh Zt (Zb 0) (Zk 0)) Zn))) (Zv (Zcz (Zu Zkv (Zf (Zb 3) (Zf (Zb 0) (Zf (Zb 1) (Zf (Zb 2) Zn)))))) (Zv (Zcz (Zu Zkx (Zf (Zb 3) (Zf (Zb 0) (Zf (Zb 1) (Zf (Zb 2) Zn)))))) (ZG (Zu ZiN (Zf (ZaR (Zf (Zb 3) (Zf (Zh Zt (Zb 0) (Zk 1)) Zn))) Zn))))))
noncomputable def ZeG:=Z9 3 Zm2
noncomputable def Zgx: PS:=(Zs (ZP (bOr (ZD (Ze qIs (Za 0) (ZR))) (bOr (ZD (Zr Zfq (Zd (Zr ZgP (Zd (Za 0) (Zd (Za 1) Zm))) (Zd (Za 2) Zm)))) Zce)) (ZE (ZR)) ZU) (Zs (ZI 3 (Zr ZfF (Zd (Ze Zq (Za 0) (Zj 0)) Zm))) (Zs (Zet 3 Zhy (Zd (Za 0) (Zd (Za 1) (Zd (Za 2) Zm)))) (Zs (Zet 3 ZhA (Zd (Za 0) (Zd (Za 1) (Zd (Za 2) Zm)))) (ZE (Zr ZdX (Zd (ZaU (Zd (Za 3) (Zd (Ze Zq (Za 0) (Zj 1)) Zm))) Zm)))))))
noncomputable def ZcG:=Zab 3 Zgx
theorem Zgy: SimF true ZeG ZcG:=Zaf (show S [] [3] [] true Zm2 Zgx from(Zy (Z3 (Zbh (ZJ (ZC Zbr (Zc 0) (Z8))) (Zbh (ZJ (ZK Zum (Zg (ZK Zwg (Zg (Zc 0) (Zg (Zc 1) Zo))) (Zg (Zc 2) Zo)))) ZcN)) (Za7 (Z8)) Z6) (Zy (Zcn (O':=[3]) (ZbO ZnT (Zg (ZA Zz (Zc 0) (Zl _)) Zo))) (Zy (ZgY (O':=[3]) (by decide) ZsD (Zg (Zc 0) (Zg (Zc 1) (Zg (Zc 2) Zo))) (by decide) (by decide)) (Zy (ZgY (O':=[3]) (by decide) ZsE (Zg (Zc 0) (Zg (Zc 1) (Zg (Zc 2) Zo))) (by decide) (by decide)) (Za7 (ZbO ZqW (Zg (E.tup (Zg (Zc 3) (Zg (ZA Zz (Zc 0) (Zl _)) Zo))) Zo))))))))
noncomputable def ZkX: Sm:=Zv (ZW (ZF (Zb 2)) (ZG (Zu ZeG (Zf (Zb 0) (Zf (Zb 1) (Zf (eUn Zbq (Zk 1)) Zn))))) Z1) (ZG (Zu ZeG (Zf (Zb 0) (Zf (Zu ZdQ (Zf (Zb 1) (Zf (eUn Zbq (Zk 1)) Zn))) (Zf (Zk 0) Zn)))))
noncomputable def ZkY:=Z9 3 ZkX
noncomputable def Zo7: PS:=(Zs (ZP (ZD (Za 2)) (ZE (Zr ZcG (Zd (Za 0) (Zd (Za 1) (Zd (pUn Zbc (Zj 1)) Zm))))) ZU) (ZE (Zr ZcG (Zd (Za 0) (Zd (Zr ZdB (Zd (Za 1) (Zd (pUn Zbc (Zj 1)) Zm))) (Zd (Zj 0) Zm))))))
noncomputable def Zo8:=Zab 3 Zo7
theorem ZsY: SimF true ZkY Zo8:=Zaf (show S [] [] [] true ZkX Zo7 from(Zy (Z3 (ZJ (Zc 2)) (Za7 (ZbO Zgy (Zg (Zc 0) (Zg (Zc 1) (Zg (ZbE ZbF (Zl _)) Zo))))) Z6) (Za7 (ZbO Zgy (Zg (Zc 0) (Zg (ZK ZeA (Zg (Zc 1) (Zg (ZbE ZbF (Zl _)) Zo))) (Zg (Zl _) Zo)))))))
noncomputable def ZjQ: Sm:=ZG (Zu ZfJ (Zf (Zu Zgv (Zf (Zh Zt (Zb 0) (Zk 0)) (Zf (Zb 1) Zn))) (Zf (Zh Zt (Zb 0) (Zk 1)) Zn)))
noncomputable def Zhm:=Z9 2 ZjQ
noncomputable def ZjR: PS:=(ZE (Zr ZeO (Zd (Zr Zfp (Zd (Ze Zq (Za 0) (Zj 0)) (Zd (Za 1) Zm))) (Zd (Ze Zq (Za 0) (Zj 1)) Zm))))
noncomputable def ZfX:=Zab 2 ZjR
theorem ZoO: SimF false Zhm ZfX:=Zaf (show S [] [] [] false ZjQ ZjR from(ZV (ZK Zi8 (Zg (ZK ZmM (Zg (ZA Zz (Zc 0) (Zl _)) (Zg (Zc 1) Zo))) (Zg (ZA Zz (Zc 0) (Zl _)) Zo)))))
noncomputable def Zkz: Sm:=Zv (ZN 4 (Zh Zt (Zb 1) (Zb 3))) (Zv (ZN 5 (Zh Zt (Zb 0) (Zh Zbl (Zb 3) (Zk 1)))) (Zv (ZW (ZF (Zh oNe (Zu Zdc (Zf (Zb 4) Zn)) (Zk 1))) (ZG (Zb 5)) Z1) (Zv (ZN 6 (Zu Zgm (Zf (Zb 1) (Zf (Zu ZdQ (Zf (Zu Zfs (Zf (Zb 3) (Zf (Zu ZaJ (Zf (Zb 0) Zn)) Zn))) (Zf (Zb 4) Zn))) Zn)))) (ZG (Zu Zh6 (Zf (Zb 5) (Zf (Zu Zhm (Zf (Zu Zf7 (Zf (Zu Zfg (Zf (Zb 6) (Zf (Zb 0) Zn))) (Zf (eUn Zbq (Zb 4)) Zn))) (Zf (Zb 2) Zn))) Zn)))))))
noncomputable def ZkA:=Z9 4 Zkz
noncomputable def ZkB: PS:=(Zs (ZI 4 (Ze Zq (Za 1) (Za 3))) (Zs (ZI 5 (Ze Zq (Za 0) (Ze Za5 (Za 3) (Zj 1)))) (Zs (ZP (ZD (Ze qNe (Zr Zdd (Zd (Za 4) Zm)) (Zj 1))) (ZE (Za 5)) ZU) (Zs (ZI 6 (Zr Zfj (Zd (Za 1) (Zd (Zr ZdB (Zd (Zr ZeF (Zd (Za 3) (Zd (Zr Zar (Zd (Za 0) Zm)) Zm))) (Zd (Za 4) Zm))) Zm)))) (ZE (Zr Zgj (Zd (Za 5) (Zd (Zr ZfX (Zd (Zr Ze9 (Zd (Zr ZeD (Zd (Za 6) (Zd (Za 0) Zm))) (Zd (pUn Zbc (Za 4)) Zm))) (Zd (Za 2) Zm))) Zm))))))))
noncomputable def Zf3:=Zab 4 ZkB
theorem ZsF: SimF false ZkA Zf3:=Zaf (show S [] [] [] false Zkz ZkB from(Zy (ZY (O':=[]) (ZA Zz (Zc 1) (Zc 3))) (Zy (ZY (O':=[]) (ZA Zz (Zc 0) (ZC Zbv (Zc 3) (Zl _)))) (Zy (Z3 (ZJ (ZC ZbP (Zaw Zd6 (Zg (Zc 4) Zo)) (Zl _))) (ZV (Zc 5)) Z6) (Zy (ZY (O':=[]) (ZK Zmn (Zg (Zc 1) (Zg (ZK ZeA (Zg (ZK Zio (Zg (Zc 3) (Zg (Zaw ZaV (Zg (Zc 0) Zo)) Zo))) (Zg (Zc 4) Zo))) Zo)))) (ZV (ZK ZpB (Zg (Zc 5) (Zg (ZK ZoO (Zg (ZK ZkN (Zg (ZK Zh8 (Zg (Zc 6) (Zg (Zc 0) Zo))) (Zg (ZbE ZbF (Zc 4)) Zo))) (Zg (Zc 2) Zo))) Zo)))))))))
noncomputable def ZlD: Sm:=Zv (ZW (ZF (Zh oIs (Zb 0) (Z0))) (ZG (Z0)) Z1) (Zv (ZN 3 (ZaI (ZaP (Zf (Zk 1) (Zf (Zu ZaJ (Zf (Zb 1) Zn)) Zn))) (put1 100) Zam (Zu ZkA (Zf (Zh Zt (Zb 0) (Zk 1)) (Zf (Zb 1) (Zf (Zb 2) (Zf (Zb 100) Zn))))))) (Zv (ZW (ZF (Zh oIn (Z0) (Zb 3))) (ZG (Z0)) Z1) (ZG (Zu ZiN (Zf (ZaR (Zf (Zh Zt (Zb 0) (Zk 0)) (Zf (Zb 3) Zn))) Zn)))))
noncomputable def ZhT:=Z9 3 ZlD
noncomputable def ZhU: PS:=(Zs (ZP (ZD (Ze qIs (Za 0) (ZR))) (ZE (ZR)) ZU) (Zs (ZI 3 (Zap (ZaE (Zd (Zj 1) (Zd (Zr Zar (Zd (Za 1) Zm)) Zm))) (Zac 100) Zae (Zr Zf3 (Zd (Ze Zq (Za 0) (Zj 1)) (Zd (Za 1) (Zd (Za 2) (Zd (Za 100) Zm))))))) (Zs (ZP (ZD (Ze qIn (ZR) (Za 3))) (ZE (ZR)) ZU) (ZE (Zr ZdX (Zd (ZaU (Zd (Ze Zq (Za 0) (Zj 0)) (Zd (Za 3) Zm))) Zm))))))
noncomputable def Zdg:=Zab 3 ZhU
theorem Zpk: SimF true ZhT Zdg:=Zaf (show S [] [] [] true ZlD ZhU from(Zy (Z3 (ZJ (ZC Zbr (Zc 0) (Z8))) (Za7 (Z8)) Z6) (Zy (ZY (O':=[]) (Zca (Gs.range (Zg (Zl _) (Zg (Zaw ZaV (Zg (Zc 1) Zo)) Zo))) PutOk.one (by decide) Zay (ZK ZsF (Zg (ZA Zz (Zc 0) (Zl _)) (Zg (Zc 1) (Zg (Zc 2) (Zg (Zc 100) Zo))))))) (Zy (Z3 (ZJ (ZC Ze1 (Z8) (Zc 3))) (Za7 (Z8)) Z6) (Za7 (ZbO ZqW (Zg (E.tup (Zg (ZA Zz (Zc 0) (Zl _)) (Zg (Zc 3) Zo))) Zo)))))))
noncomputable def ZlE: Sm:=Zv (ZW (Zcp (ZF (Zu ZeC (Zf (Zu Zhm (Zf (Zu Zfg (Zf (Zb 1) (Zf (Zh Zt (Zb 0) (Zk 1)) Zn))) (Zf (Zb 2) Zn))) (Zf (Zk 0) Zn))))) (ZG (Z0)) Z1) (ZG (Zu ZhT (Zf (Zb 0) (Zf (Zb 1) (Zf (Zb 2) Zn)))))
noncomputable def ZhV:=Z9 3 ZlE
noncomputable def Zpl: PS:=(Zs (ZP (ZbY (ZD (Zr Zee (Zd (Zr ZfX (Zd (Zr ZeD (Zd (Za 1) (Zd (Ze Zq (Za 0) (Zj 1)) Zm))) (Zd (Za 2) Zm))) (Zd (Zj 0) Zm))))) (ZE (ZR)) ZU) (ZE (Zr Zdg (Zd (Za 0) (Zd (Za 1) (Zd (Za 2) Zm))))))
noncomputable def ZlF:=Zab 3 Zpl
theorem Zpm: SimF true ZhV ZlF:=Zaf (show S [] [] [] true ZlE Zpl from(Zy (Z3 (ZcQ (ZJ (ZK Zgi (Zg (ZK ZoO (Zg (ZK Zh8 (Zg (Zc 1) (Zg (ZA Zz (Zc 0) (Zl _)) Zo))) (Zg (Zc 2) Zo))) (Zg (Zl _) Zo))))) (Za7 (Z8)) Z6) (Za7 (ZbO Zpk (Zg (Zc 0) (Zg (Zc 1) (Zg (Zc 2) Zo)))))))
noncomputable def ZjS: Sm:=Zv (ZW (ZF (Zu Zki (Zf (Zu Zfg (Zf (Zb 1) (Zf (Zh Zt (Zb 0) (Zk 1)) Zn))) (Zf (ZaR (Zf (Zb 2) (Zf (Zk 0) Zn))) Zn)))) (ZG (Z0)) Z1) (Zv (ZW (ZF (Zh oEq (Zb 2) (Zk 2))) (ZG (Zu ZhV (Zf (Zb 0) (Zf (Zh Zah (Zcb (Zf (Zh Zah (Zh Zt (Zb 1) (Zk 0)) (Zk 1)) Zn)) (ZdI (Zb 1) 1)) (Zf (Zk 2) Zn))))) Z1) (ZG (Zu ZgO (Zf (Zb 0) Zn))))
noncomputable def ZjT:=Z9 3 ZjS
noncomputable def ZoP: PS:=(Zs (ZP (ZD (Zr ZoZ (Zd (Zr ZeD (Zd (Za 1) (Zd (Ze Zq (Za 0) (Zj 1)) Zm))) (Zd (ZaU (Zd (Za 2) (Zd (Zj 0) Zm))) Zm)))) (ZE (ZR)) ZU) (Zs (ZP (ZD (Ze qEq (Za 2) (Zj 2))) (ZE (Zr ZlF (Zd (Za 0) (Zd (Ze Zag (Zb6 (Zd (Ze Zag (Ze Zq (Za 1) (Zj 0)) (Zj 1)) Zm)) (Zdu (Za 1) 1)) (Zd (Zj 2) Zm))))) ZU) (ZE (Zr ZfF (Zd (Za 0) Zm)))))
noncomputable def ZoQ:=Zab 3 ZoP
theorem Zr6: SimF true ZjT ZoQ:=Zaf (show S [] [] [] true ZjS ZoP from(Zy (Z3 (ZJ (ZK Zsy (Zg (ZK Zh8 (Zg (Zc 1) (Zg (ZA Zz (Zc 0) (Zl _)) Zo))) (Zg (E.tup (Zg (Zc 2) (Zg (Zl _) Zo))) Zo)))) (Za7 (Z8)) Z6) (Zy (Z3 (ZJ (ZC ZaN (Zc 2) (Zl _))) (Za7 (ZbO Zpm (Zg (Zc 0) (Zg (Zad Zal (E.list (Zg (Zad Zal (ZA Zz (Zc 1) (Zl _)) (Zl _)) Zo)) (ZgU (Zc 1))) (Zg (Zl _) Zo))))) Z6) (Za7 (ZbO ZnT (Zg (Zc 0) Zo))))))
noncomputable def ZlG: Sm:=Zv (ZW (Zcp (ZF (Zu ZeC (Zf (Zu Zfg (Zf (Zb 1) (Zf (Zh Zt (Zb 0) (Zk 1)) Zn))) (Zf (Zk 0) Zn))))) (ZG (Z0)) Z1) (Zv (ZN 2 (Zu ZeG (Zf (Zu ZeG (Zf (Zb 0) (Zf (Zb 1) (Zf (Zk 0) Zn)))) (Zf (Zu ZdQ (Zf (Zb 1) (Zf (eUn Zbq (Zk 1)) Zn))) (Zf (Zk 0) Zn))))) (ZG (Zu ZhT (Zf (Zb 2) (Zf (Zb 1) (Zf (Zk 0) Zn))))))
noncomputable def ZlH:=Z9 2 ZlG
noncomputable def ZhW: PS:=(Zs (ZP (ZbY (ZD (Zr Zee (Zd (Zr ZeD (Zd (Za 1) (Zd (Ze Zq (Za 0) (Zj 1)) Zm))) (Zd (Zj 0) Zm))))) (ZE (ZR)) ZU) (Zs (ZI 2 (Zr ZcG (Zd (Zr ZcG (Zd (Za 0) (Zd (Za 1) (Zd (Zj 0) Zm)))) (Zd (Zr ZdB (Zd (Za 1) (Zd (pUn Zbc (Zj 1)) Zm))) (Zd (Zj 0) Zm))))) (ZE (Zr Zdg (Zd (Za 2) (Zd (Za 1) (Zd (Zj 0) Zm)))))))
noncomputable def Zed:=Zab 2 ZhW
theorem Ztl: SimF true ZlH Zed:=Zaf (show S [] [] [] true ZlG ZhW from(Zy (Z3 (ZcQ (ZJ (ZK Zgi (Zg (ZK Zh8 (Zg (Zc 1) (Zg (ZA Zz (Zc 0) (Zl _)) Zo))) (Zg (Zl _) Zo))))) (Za7 (Z8)) Z6) (Zy (ZY (O':=[]) (ZK Zgy (Zg (ZK Zgy (Zg (Zc 0) (Zg (Zc 1) (Zg (Zl _) Zo)))) (Zg (ZK ZeA (Zg (Zc 1) (Zg (ZbE ZbF (Zl _)) Zo))) (Zg (Zl _) Zo))))) (Za7 (ZbO Zpk (Zg (Zc 2) (Zg (Zc 1) (Zg (Zl _) Zo))))))))
noncomputable def Zmo: Sm:=Zv (ZW (Zat (ZF (Zh Zbt (Zb 0) (Z0))) (Zat (ZF (Zu ZhN (Zf (Zu Zgl (Zf (Zb 0) (Zf (Zb 1) Zn))) (Zf (Zk 0) Zn)))) Zam)) (ZG (Zu ZeG (Zf (Zb 0) (Zf (Zb 1) (Zf (eUn Zbq (Zk 1)) Zn))))) Z1) (ZG (Zb 0))
noncomputable def Zic:=Z9 2 Zmo
noncomputable def Zgn: PS:=(Zs (ZP (Zai (ZD (Ze ZaO (Za 0) (ZR))) (Zai (ZD (Zr Zge (Zd (Zr Zfi (Zd (Za 0) (Zd (Za 1) Zm))) (Zd (Zj 0) Zm)))) Zae)) (ZE (Zr ZcG (Zd (Za 0) (Zd (Za 1) (Zd (pUn Zbc (Zj 1)) Zm))))) ZU) (ZE (Za 0)))
noncomputable def ZdC:=Zab 2 Zgn
theorem ZpD: SimF false Zic ZdC:=Zaf (show S [] [] [] false Zmo Zgn from(Zy (Z3 (ZaA (ZJ (ZC ZbL (Zc 0) (Z8))) (ZaA (ZJ (ZK Zph (Zg (ZK Zmh (Zg (Zc 0) (Zg (Zc 1) Zo))) (Zg (Zl _) Zo)))) Zay)) (ZV (ZK Zgy (Zg (Zc 0) (Zg (Zc 1) (Zg (ZbE ZbF (Zl _)) Zo))))) Z6) (ZV (Zc 0))))
noncomputable def ZjU: Sm:=ZG (Zu ZgO (Zf (Zu Zic (Zf (Zu Zic (Zf (Zb 0) (Zf (Zb 1) Zn))) (Zf (Zu ZdQ (Zf (Zb 1) (Zf (eUn Zbq (Zk 1)) Zn))) Zn))) Zn))
noncomputable def ZjV:=Z9 2 ZjU
noncomputable def ZjW: PS:=(ZE (Zr ZfF (Zd (Zr ZdC (Zd (Zr ZdC (Zd (Za 0) (Zd (Za 1) Zm))) (Zd (Zr ZdB (Zd (Za 1) (Zd (pUn Zbc (Zj 1)) Zm))) Zm))) Zm)))
noncomputable def Ze5:=Zab 2 ZjW
theorem Zr7: SimF true ZjV Ze5:=Zaf (show S [] [] [] true ZjU ZjW from(Za7 (ZbO ZnT (Zg (ZK ZpD (Zg (ZK ZpD (Zg (Zc 0) (Zg (Zc 1) Zo))) (Zg (ZK ZeA (Zg (Zc 1) (Zg (ZbE ZbF (Zl _)) Zo))) Zo))) Zo))))
noncomputable def Zok: Sm:=Zv (ZW (ZF (Zh oIs (Zb 0) (Z0))) (ZG (Z0)) Z1) (Zv (ZW (ZF (Zh oEq (Zh Zt (Zb 1) (Zk 0)) (ZeX (Str.ofString "under")))) (ZG (Zu ZkY (Zf (Zb 0) (Zf (Zh Zt (Zb 1) (Zk 1)) (Zf (Zb 2) Zn))))) Z1) (Zv (ZW (ZF (Zh oEq (Zh Zt (Zb 1) (Zk 0)) (ZeX (Str.ofString "same")))) (ZG (eIf (ZF (Zb 2)) (Zu ZlH (Zf (Zb 0) (Zf (Zh Zt (Zb 1) (Zk 1)) Zn))) (Zu ZjV (Zf (Zb 0) (Zf (Zh Zt (Zb 1) (Zk 1)) Zn))))) Z1) (ZG (eIf (ZF (Zb 2)) (Zu ZhV (Zf (Zb 0) (Zf (Zh Zt (Zb 1) (Zk 1)) (Zf (Zh Zt (Zb 1) (Zk 2)) Zn)))) (Zu ZjT (Zf (Zb 0) (Zf (Zh Zt (Zb 1) (Zk 1)) (Zf (Zh Zt (Zb 1) (Zk 2)) Zn))))))))
noncomputable def Zol:=Z9 3 Zok
noncomputable def Zjc: PS:=(Zs (ZP (ZD (Ze qIs (Za 0) (ZR))) (ZE (ZR)) ZU) (Zs (ZP (ZD (Ze qEq (Ze Zq (Za 1) (Zj 0)) (ZfT (Str.ofString "under")))) (ZE (Zr Zo8 (Zd (Za 0) (Zd (Ze Zq (Za 1) (Zj 1)) (Zd (Za 2) Zm))))) ZU) (Zs (ZP (ZD (Ze qEq (Ze Zq (Za 1) (Zj 0)) (ZfT (Str.ofString "same")))) (ZE (pIf (ZD (Za 2)) (Zr Zed (Zd (Za 0) (Zd (Ze Zq (Za 1) (Zj 1)) Zm))) (Zr Ze5 (Zd (Za 0) (Zd (Ze Zq (Za 1) (Zj 1)) Zm))))) ZU) (ZE (pIf (ZD (Za 2)) (Zr ZlF (Zd (Za 0) (Zd (Ze Zq (Za 1) (Zj 1)) (Zd (Ze Zq (Za 1) (Zj 2)) Zm)))) (Zr ZoQ (Zd (Za 0) (Zd (Ze Zq (Za 1) (Zj 1)) (Zd (Ze Zq (Za 1) (Zj 2)) Zm)))))))))
noncomputable def Zd3:=Zab 3 Zjc
theorem ZxA: SimF true Zol Zd3:=Zaf (show S [] [] [] true Zok Zjc from(Zy (Z3 (ZJ (ZC Zbr (Zc 0) (Z8))) (Za7 (Z8)) Z6) (Zy (Z3 (ZJ (ZC ZaN (ZA Zz (Zc 1) (Zl _)) (E.str _))) (Za7 (ZbO ZsY (Zg (Zc 0) (Zg (ZA Zz (Zc 1) (Zl _)) (Zg (Zc 2) Zo))))) Z6) (Zy (Z3 (ZJ (ZC ZaN (ZA Zz (Zc 1) (Zl _)) (E.str _))) (Za7 (ZeS (ZJ (Zc 2)) (ZbO Ztl (Zg (Zc 0) (Zg (ZA Zz (Zc 1) (Zl _)) Zo))) (ZbO Zr7 (Zg (Zc 0) (Zg (ZA Zz (Zc 1) (Zl _)) Zo))))) Z6) (Za7 (ZeS (ZJ (Zc 2)) (ZbO Zpm (Zg (Zc 0) (Zg (ZA Zz (Zc 1) (Zl _)) (Zg (ZA Zz (Zc 1) (Zl _)) Zo)))) (ZbO Zr6 (Zg (Zc 0) (Zg (ZA Zz (Zc 1) (Zl _)) (Zg (ZA Zz (Zc 1) (Zl _)) Zo))))))))))
noncomputable def Zmp: Sm:=Zv (ZN 3 (Zu Zcu (Zf (Zb 0) Zn))) (Zv (ZW (ZF (Zh oGt (Zb 1) (Zk 0))) (ZbI (Zh Zah (Zh Zt (Zb 3) (Zb 1)) (Zb 2)) (Zb 3) (Zb 1)) Z1) (ZG (Zb 3)))
noncomputable def Zfk:=Z9 3 Zmp
noncomputable def Zmq: PS:=(Zs (ZI 3 (pFl (Zr Zcf (Zd (Za 0) Zm)))) (Zs (ZP (ZD (Ze qGt (Za 1) (Zj 0))) (Za2 3 [] (pFl (Ze Zag (Ze Zq (Za 3) (Za 1)) (Za 2))) ZaC (Za 1)) ZU) (ZE (Za 3))))
noncomputable def Zeg:=Zab 3 Zmq
theorem Zid: SimF false Zfk Zeg:=Zaf (show S [] [3] [] false Zmp Zmq from(Zy (Zcn (O':=[3]) (Zej Zdm (Zg (Zc 0) Zo))) (Zy (Z3 (ZJ (ZC Zdy (Zc 1) (Zl _))) (S.put (O':=[3]) (by decide) (Za8 (O':=[]) (Zoc Zal (ZA Zz (Zc 3) (Zc 1)) (Zc 2))) ZbC (Zc 1) (by decide) (by decide)) Z6) (ZV (Zc 3)))))
noncomputable def ZkZ: Sm:=Zv (ZW (ZF (Zh oIs (Zb 0) (Z0))) (ZG (Zb 1)) Z1) (Zv (ZW (ZF (Zh oIs (Zb 1) (Z0))) (ZG (Zb 0)) Z1) (ZG (Zu Zjj (Zf (Zb 0) (Zf (Zb 1) Zn)))))
noncomputable def Zgb:=Z9 2 ZkZ
noncomputable def Zk0: PS:=(Zs (ZP (ZD (Ze qIs (Za 0) (ZR))) (ZE (Za 1)) ZU) (Zs (ZP (ZD (Ze qIs (Za 1) (ZR))) (ZE (Za 0)) ZU) (ZE (Zr Zjl (Zd (Za 0) (Zd (Za 1) Zm))))))
noncomputable def Zey:=Zab 2 Zk0
theorem Zk1: SimF false Zgb Zey:=Zaf (show S [] [] [] false ZkZ Zk0 from(Zy (Z3 (ZJ (ZC Zbr (Zc 0) (Z8))) (ZV (Zc 1)) Z6) (Zy (Z3 (ZJ (ZC Zbr (Zc 1) (Z8))) (ZV (Zc 0)) Z6) (ZV (Zaw Zw1 (Zg (Zc 0) (Zg (Zc 1) Zo)))))))
noncomputable def ZkC: Sm:=Zv (ZW (ZF (Zh oIs (Zb 0) (Z0))) (ZG (Z0)) Z1) (Zv (ZN 3 (ZaI (Zby (Zb 1)) (put1 100) Zam (eUn Zbq (Zb 100)))) (Zv (ZN 4 (Zu Ze6 (Zf (Zb 0) (Zf (Zb 3) Zn)))) (Zv (ZW (Zat (ZF (Zh Zbt (Zb 4) (Z0))) (Zat (ZF (Zh oGt (eUn Zbq (Zb 4)) (Zb 2))) Zam)) (ZG (Z0)) Z1) (Zv (ZN 5 (ZaI (Zby (Zh Zt (Zb 0) (Zk 0))) (put1 102) Zam (Zu Zcu (Zf (Zb 102) Zn)))) (Zv (ZaM (ZaP (Zf (Zu ZaJ (Zf (Zb 5) Zn)) Zn)) (put1 6) (ZaM (ZaP (Zf (Zu ZaJ (Zf (Zb 5) Zn)) Zn)) (put1 7) (Zv (ZN 4 (Zu Ze6 (Zf (Zb 0) (Zf (Zu Zfk (Zf (Zu Zfk (Zf (Zb 3) (Zf (Zb 6) (Zf (Zk 1) Zn)))) (Zf (Zb 7) (Zf (eUn Zbq (Zk 1)) Zn)))) Zn)))) (ZW (Zat (ZF (Zh oNe (Zb 6) (Zb 7))) (Zat (ZF (Zh Zbt (Zb 4) (Z0))) Zam)) (ZbI (Zu Zgb (Zf (Zh Zt (Zh Zt (Zb 5) (Zb 6)) (Zb 7)) (Zf (Zh Zah (Zb 4) (Zb 2)) Zn))) (Zh Zt (Zb 5) (Zb 6)) (Zb 7)) Z1)))) (Zv (ZaM (ZaP (Zf (Zk 1) (Zf (Zu ZaJ (Zf (Zb 5) Zn)) Zn))) (put1 6) (Zv (ZN 4 (Zu Ze6 (Zf (Zb 0) (Zf (Zu Zfk (Zf (Zb 3) (Zf (Zb 6) (Zf (Zh Zt (Zb 1) (Zb 6)) Zn)))) Zn)))) (Zv (ZW (Zat (ZF (Zh oGt (Zh Zt (Zb 1) (Zb 6)) (Zk 0))) (Zat (ZF (Zh Zbt (Zb 4) (Z0))) Zam)) (ZbI (Zu Zgb (Zf (Zh Zt (Zh Zt (Zb 5) (Zb 6)) (Zk 0)) (Zf (Zh oDiv (Zh Zah (Zb 4) (Zb 2)) (Zh Zt (Zb 1) (Zb 6))) Zn))) (Zh Zt (Zb 5) (Zb 6)) (Zk 0)) Z1) (ZW (Zat (ZF (Zh oLt (Zh Zt (Zb 1) (Zb 6)) (Zk 0))) (Zat (ZF (Zh Zbt (Zb 4) (Z0))) Zam)) (ZbI (Zu Zgb (Zf (Zh Zt (Zh Zt (Zb 5) (Zk 0)) (Zb 6)) (Zf (Zh oDiv (Zh Zah (Zb 4) (Zb 2)) (Zu Zdc (Zf (Zh Zt (Zb 1) (Zb 6)) Zn))) Zn))) (Zh Zt (Zb 5) (Zk 0)) (Zb 6)) Z1)))) (ZG (Zu ZhQ (Zf (ZaR (Zf (Zb 5) (Zf (Zh Zt (Zb 0) (Zk 1)) Zn))) Zn)))))))))
noncomputable def Zf4:=Z9 3 ZkC
noncomputable def Zf5: PS:=(Zs (ZP (ZD (Ze qIs (Za 0) (ZR))) (ZE (ZR)) ZU) (Zs (ZI 3 (Zap (ZaD (Za 1)) (Zac 100) Zae (pUn Zbc (Za 100)))) (Zs (ZI 4 (Zr ZdL (Zd (Za 0) (Zd (Za 3) Zm)))) (Zs (ZP (Zai (ZD (Ze ZaO (Za 4) (ZR))) (Zai (ZD (Ze qGt (pUn Zbc (Za 4)) (Za 2))) Zae)) (ZE (ZR)) ZU) (Zs (ZI 5 (Zap (ZaD (Ze Zq (Za 0) (Zj 0))) (Zac 102) Zae (pFl (Zr Zcf (Zd (Za 102) Zm))))) (Zs (ZaB (ZaE (Zd (Zr Zar (Zd (Za 5) Zm)) Zm)) (Zac 6) (ZaB (ZaE (Zd (Zr Zar (Zd (Za 5) Zm)) Zm)) (Zac 7) (Zs (ZI 4 (Zr ZdL (Zd (Za 0) (Zd (Zr Zeg (Zd (Zr Zeg (Zd (Za 3) (Zd (Za 6) (Zd (Zj 1) Zm)))) (Zd (Za 7) (Zd (pUn Zbc (Zj 1)) Zm)))) Zm)))) (ZP (Zai (ZD (Ze qNe (Za 6) (Za 7))) (Zai (ZD (Ze ZaO (Za 4) (ZR))) Zae)) (Za2 5 [] (ZbV (Zr Zey (Zd (Ze Zq (Ze Zq (Za 5) (Za 6)) (Za 7)) (Zd (Ze Zag (Za 4) (Za 2)) Zm)))) (Zbu ZaC (Za 6)) (Za 7)) ZU)))) (Zs (ZaB (ZaE (Zd (Zj 1) (Zd (Zr Zar (Zd (Za 5) Zm)) Zm))) (Zac 6) (Zs (ZI 4 (Zr ZdL (Zd (Za 0) (Zd (Zr Zeg (Zd (Za 3) (Zd (Za 6) (Zd (Ze Zq (Za 1) (Za 6)) Zm)))) Zm)))) (Zs (ZP (Zai (ZD (Ze qGt (Ze Zq (Za 1) (Za 6)) (Zj 0))) (Zai (ZD (Ze ZaO (Za 4) (ZR))) Zae)) (Za2 5 [] (ZbV (Zr Zey (Zd (Ze Zq (Ze Zq (Za 5) (Za 6)) (Zj 0)) (Zd (Ze ZcB (Ze Zag (Za 4) (Za 2)) (Ze Zq (Za 1) (Za 6))) Zm)))) (Zbu ZaC (Za 6)) (Zj 0)) ZU) (ZP (Zai (ZD (Ze qLt (Ze Zq (Za 1) (Za 6)) (Zj 0))) (Zai (ZD (Ze ZaO (Za 4) (ZR))) Zae)) (Za2 5 [] (ZbV (Zr Zey (Zd (Ze Zq (Ze Zq (Za 5) (Zj 0)) (Za 6)) (Zd (Ze ZcB (Ze Zag (Za 4) (Za 2)) (Zr Zdd (Zd (Ze Zq (Za 1) (Za 6)) Zm))) Zm)))) (Zbu ZaC (Zj 0)) (Za 6)) ZU)))) (ZE (Zr ZdP (Zd (ZaU (Zd (Za 5) (Zd (Ze Zq (Za 0) (Zj 1)) Zm))) Zm))))))))))
noncomputable def ZcE:=Zab 3 Zf5
theorem ZkD: SimF false Zf4 ZcE:=Zaf (show S [] [5] [] false ZkC Zf5 from(Zy (Z3 (ZJ (ZC Zbr (Zc 0) (Z8))) (ZV (Z8)) Z6) (Zy (ZY (O':=[]) (Zca (Gs.seq (Zc 1)) PutOk.one (by decide) Zay (ZbE ZbF (Zc 100)))) (Zy (ZY (O':=[]) (ZK Zhq (Zg (Zc 0) (Zg (Zc 3) Zo)))) (Zy (Z3 (ZaA (ZJ (ZC ZbL (Zc 4) (Z8))) (ZaA (ZJ (ZC Zdy (ZbE ZbF (Zc 4)) (Zc 2))) Zay)) (ZV (Z8)) Z6) (Zy (Zcn (O':=[5]) (Zdn (Gs.seq (ZA Zz (Zc 0) (Zl _))) PutOk.one (by decide) Zay (Zej Zdm (Zg (Zc 102) Zo)))) (Zy (Zba (Gs.range (Zg (Zaw ZaV (Zg (Zc 5) Zo)) Zo)) PutOk.one (by decide) (by decide) (Zba (Gs.range (Zg (Zaw ZaV (Zg (Zc 5) Zo)) Zo)) PutOk.one (by decide) (by decide) (Zy (ZY (O':=[5]) (ZK Zhq (Zg (Zc 0) (Zg (ZK Zid (Zg (ZK Zid (Zg (Zc 3) (Zg (Zc 6) (Zg (Zl _) Zo)))) (Zg (Zc 7) (Zg (ZbE ZbF (Zl _)) Zo)))) Zo)))) (Z3 (ZaA (ZJ (ZC ZbP (Zc 6) (Zc 7))) (ZaA (ZJ (ZC ZbL (Zc 4) (Z8))) Zay)) (S.put (O':=[5]) (by decide) (Za8 (O':=[]) (E.flat (ZK Zk1 (Zg (ZA Zz (ZA Zz (Zc 5) (Zc 6)) (Zc 7)) (Zg (Zad Zal (Zc 4) (Zc 2)) Zo))))) (Zc5 ZbC (Zc 6)) (Zc 7) (by decide) (by decide)) Z6)))) (Zy (Zba (Gs.range (Zg (Zl _) (Zg (Zaw ZaV (Zg (Zc 5) Zo)) Zo))) PutOk.one (by decide) (by decide) (Zy (ZY (O':=[5]) (ZK Zhq (Zg (Zc 0) (Zg (ZK Zid (Zg (Zc 3) (Zg (Zc 6) (Zg (ZA Zz (Zc 1) (Zc 6)) Zo)))) Zo)))) (Zy (Z3 (ZaA (ZJ (ZC Zdy (ZA Zz (Zc 1) (Zc 6)) (Zl _))) (ZaA (ZJ (ZC ZbL (Zc 4) (Z8))) Zay)) (S.put (O':=[5]) (by decide) (Za8 (O':=[]) (E.flat (ZK Zk1 (Zg (ZA Zz (ZA Zz (Zc 5) (Zc 6)) (Zl _)) (Zg (ZC Zc9 (Zad Zal (Zc 4) (Zc 2)) (ZA Zz (Zc 1) (Zc 6))) Zo))))) (Zc5 ZbC (Zc 6)) (Zl _) (by decide) (by decide)) Z6) (Z3 (ZaA (ZJ (ZC Zcq (ZA Zz (Zc 1) (Zc 6)) (Zl _))) (ZaA (ZJ (ZC ZbL (Zc 4) (Z8))) Zay)) (S.put (O':=[5]) (by decide) (Za8 (O':=[]) (E.flat (ZK Zk1 (Zg (ZA Zz (ZA Zz (Zc 5) (Zl _)) (Zc 6)) (Zg (ZC Zc9 (Zad Zal (Zc 4) (Zc 2)) (Zaw Zd6 (Zg (ZA Zz (Zc 1) (Zc 6)) Zo))) Zo))))) (Zc5 ZbC (Zl _)) (Zc 6) (by decide) (by decide)) Z6)))) (ZV (ZK Zpj (Zg (E.tup (Zg (Zc 5) (Zg (ZA Zz (Zc 0) (Zl _)) Zo))) Zo)))))))))))
noncomputable def Zmr: Sm:=Zv (ZN 3 (Zu Zcu (Zf (Zh Zt (Zb 0) (Zk 1)) Zn))) (Zv (ZaM (ZaP (Zf (Zk 1) (Zf (Zu ZaJ (Zf (Zb 1) Zn)) Zn))) (put1 4) (Zv (ZN 5 (Zh Zt (Zb 1) (Zb 4))) (ZW (tOr (ZF (Zh oEq (Zb 5) (Zk 1))) (tOr (ZF (Zh oEq (Zb 5) (eUn Zbq (Zk 1)))) Zcm)) (Zv (ZN 6 (Zu Zhs (Zf (Zu Zfk (Zf (Zb 1) (Zf (Zb 4) (Zf (eUn Zbq (Zb 5)) Zn)))) (Zf (Zh Zt (Zb 0) (Zk 1)) Zn)))) (Zv (ZN 6 (Zu ZdM (Zf (Zu Zgu (Zf (Zh Zt (Zb 6) (Zk 0)) (Zf (Zb 2) Zn))) (Zf (Zh ZaX (eUn Zbq (Zb 5)) (Zh Zt (Zb 6) (Zk 1))) Zn)))) (ZbI (Zu Zim (Zf (Zh Zt (Zb 3) (Zh Zbl (Zb 4) (Zk 1))) (Zf (Zb 6) Zn))) (Zb 3) (Zh Zbl (Zb 4) (Zk 1))))) Z1))) (Zv (ZW (ZF (Zh oIn (Z0) (Zb 3))) (ZG (Z0)) Z1) (ZG (Zu ZhQ (Zf (ZaR (Zf (Zh Zt (Zb 0) (Zk 0)) (Zf (Zb 3) Zn))) Zn)))))
noncomputable def Zms:=Z9 3 Zmr
noncomputable def Zmt: PS:=(Zs (ZI 3 (pFl (Zr Zcf (Zd (Ze Zq (Za 0) (Zj 1)) Zm)))) (Zs (ZaB (ZaE (Zd (Zj 1) (Zd (Zr Zar (Zd (Za 1) Zm)) Zm))) (Zac 4) (Zs (ZI 5 (Ze Zq (Za 1) (Za 4))) (ZP (bOr (ZD (Ze qEq (Za 5) (Zj 1))) (bOr (ZD (Ze qEq (Za 5) (pUn Zbc (Zj 1)))) Zce)) (Zs (ZI 6 (Zr Zf0 (Zd (Zr Zeg (Zd (Za 1) (Zd (Za 4) (Zd (pUn Zbc (Za 5)) Zm)))) (Zd (Ze Zq (Za 0) (Zj 1)) Zm)))) (Zs (ZI 6 (Zr ZdA (Zd (Zr Zfo (Zd (Ze Zq (Za 6) (Zj 0)) (Zd (Za 2) Zm))) (Zd (Ze ZaF (pUn Zbc (Za 5)) (Ze Zq (Za 6) (Zj 1))) Zm)))) (Za2 3 [] (ZbV (Zr Zgw (Zd (Ze Zq (Za 3) (Ze Za5 (Za 4) (Zj 1))) (Zd (Za 6) Zm)))) ZaC (Ze Za5 (Za 4) (Zj 1))))) ZU))) (Zs (ZP (ZD (Ze qIn (ZR) (Za 3))) (ZE (ZR)) ZU) (ZE (Zr ZdP (Zd (ZaU (Zd (Ze Zq (Za 0) (Zj 0)) (Zd (Za 3) Zm))) Zm))))))
noncomputable def Zeh:=Zab 3 Zmt
theorem ZtI: SimF false Zms Zeh:=Zaf (show S [] [3] [] false Zmr Zmt from(Zy (Zcn (O':=[3]) (Zej Zdm (Zg (ZA Zz (Zc 0) (Zl _)) Zo))) (Zy (Zba (Gs.range (Zg (Zl _) (Zg (Zaw ZaV (Zg (Zc 1) Zo)) Zo))) PutOk.one (by decide) (by decide) (Zy (ZY (O':=[3]) (ZA Zz (Zc 1) (Zc 4))) (Z3 (Zbh (ZJ (ZC ZaN (Zc 5) (Zl _))) (Zbh (ZJ (ZC ZaN (Zc 5) (ZbE ZbF (Zl _)))) ZcN)) (Zy (ZY (O':=[3]) (ZK ZoU (Zg (ZK Zid (Zg (Zc 1) (Zg (Zc 4) (Zg (ZbE ZbF (Zc 5)) Zo)))) (Zg (ZA Zz (Zc 0) (Zl _)) Zo)))) (Zy (ZY (O':=[3]) (ZK Zev (Zg (ZK ZmJ (Zg (ZA Zz (Zc 6) (Zl _)) (Zg (Zc 2) Zo))) (Zg (Zad Za9 (ZbE ZbF (Zc 5)) (ZA Zz (Zc 6) (Zl _))) Zo)))) (S.put (O':=[3]) (by decide) (Za8 (O':=[]) (E.flat (ZK ZpU (Zg (ZA Zz (Zc 3) (ZC Zbv (Zc 4) (Zl _))) (Zg (Zc 6) Zo))))) ZbC (ZC Zbv (Zc 4) (Zl _)) (by decide) (by decide)))) Z6))) (Zy (Z3 (ZJ (ZC Ze1 (Z8) (Zc 3))) (ZV (Z8)) Z6) (ZV (ZK Zpj (Zg (E.tup (Zg (ZA Zz (Zc 0) (Zl _)) (Zg (Zc 3) Zo))) Zo)))))))
noncomputable def ZjX: Sm:=Zv (ZW (ZF (Zh oNe (Zh Zt (Zu Zhs (Zf (Zb 1) (Zf (Zh Zt (Zb 0) (Zk 1)) Zn))) (Zk 1)) (Zk 0))) (ZG (Z0)) Z1) (Zv (ZN 2 (Zu Zf4 (Zf (Zu Zf4 (Zf (Zb 0) (Zf (Zb 1) (Zf (Zk 0) Zn)))) (Zf (ZaI (Zby (Zb 1)) (put1 100) Zam (eUn Zbq (Zb 100))) (Zf (Zk 0) Zn))))) (Zv (ZW (ZF (Zh oIs (Zb 2) (Z0))) (ZG (Z0)) Z1) (ZG (Zu Zms (Zf (Zb 2) (Zf (Zb 1) (Zf (Zk 0) Zn)))))))
noncomputable def ZjY:=Z9 2 ZjX
noncomputable def Zhn: PS:=(Zs (ZP (ZD (Ze qNe (Ze Zq (Zr Zf0 (Zd (Za 1) (Zd (Ze Zq (Za 0) (Zj 1)) Zm))) (Zj 1)) (Zj 0))) (ZE (ZR)) ZU) (Zs (ZI 2 (Zr ZcE (Zd (Zr ZcE (Zd (Za 0) (Zd (Za 1) (Zd (Zj 0) Zm)))) (Zd (Zap (ZaD (Za 1)) (Zac 100) Zae (pUn Zbc (Za 100))) (Zd (Zj 0) Zm))))) (Zs (ZP (ZD (Ze qIs (Za 2) (ZR))) (ZE (ZR)) ZU) (ZE (Zr Zeh (Zd (Za 2) (Zd (Za 1) (Zd (Zj 0) Zm))))))))
noncomputable def Zdf:=Zab 2 Zhn
theorem Zr8: SimF false ZjY Zdf:=Zaf (show S [] [] [] false ZjX Zhn from(Zy (Z3 (ZJ (ZC ZbP (ZA Zz (ZK ZoU (Zg (Zc 1) (Zg (ZA Zz (Zc 0) (Zl _)) Zo))) (Zl _)) (Zl _))) (ZV (Z8)) Z6) (Zy (ZY (O':=[]) (ZK ZkD (Zg (ZK ZkD (Zg (Zc 0) (Zg (Zc 1) (Zg (Zl _) Zo)))) (Zg (Zca (Gs.seq (Zc 1)) PutOk.one (by decide) Zay (ZbE ZbF (Zc 100))) (Zg (Zl _) Zo))))) (Zy (Z3 (ZJ (ZC Zbr (Zc 2) (Z8))) (ZV (Z8)) Z6) (ZV (ZK ZtI (Zg (Zc 2) (Zg (Zc 1) (Zg (Zl _) Zo)))))))))
noncomputable def Zk2: Sm:=Zv (ZaM (Zby (Zcb (Zf (Zb 1) (Zf (ZaI (Zby (Zb 1)) (put1 100) Zam (eUn Zbq (Zb 100))) Zn)))) (put1 2) (ZW (ZF (Zh Zbt (Zb 0) (Z0))) (Zv (ZN 3 (Zu Ze6 (Zf (Zb 0) (Zf (Zb 2) Zn)))) (ZW (Zat (ZF (Zh Zbt (Zb 3) (Z0))) (Zat (ZF (Zh oLe (Zb 3) (Zk 0))) Zam)) (ZN 0 (Zu Zf4 (Zf (Zb 0) (Zf (Zb 2) (Zf (eUn Zbq (Zk 1)) Zn))))) Z1)) Z1)) (ZG (Zb 0))
noncomputable def Zk3:=Z9 2 Zk2
noncomputable def Zk4: PS:=(Zs (ZaB (ZaD (Zb6 (Zd (Za 1) (Zd (Zap (ZaD (Za 1)) (Zac 100) Zae (pUn Zbc (Za 100))) Zm)))) (Zac 2) (ZP (ZD (Ze ZaO (Za 0) (ZR))) (Zs (ZI 3 (Zr ZdL (Zd (Za 0) (Zd (Za 2) Zm)))) (ZP (Zai (ZD (Ze ZaO (Za 3) (ZR))) (Zai (ZD (Ze qLe (Za 3) (Zj 0))) Zae)) (ZI 0 (Zr ZcE (Zd (Za 0) (Zd (Za 2) (Zd (pUn Zbc (Zj 1)) Zm))))) ZU)) ZU)) (ZE (Za 0)))
noncomputable def ZdO:=Zab 2 Zk4
theorem ZsZ: SimF false Zk3 ZdO:=Zaf (show S [] [] [] false Zk2 Zk4 from(Zy (Zba (Gs.seq (E.list (Zg (Zc 1) (Zg (Zca (Gs.seq (Zc 1)) PutOk.one (by decide) Zay (ZbE ZbF (Zc 100))) Zo)))) PutOk.one (by decide) (by decide) (Z3 (ZJ (ZC ZbL (Zc 0) (Z8))) (Zy (ZY (O':=[]) (ZK Zhq (Zg (Zc 0) (Zg (Zc 2) Zo)))) (Z3 (ZaA (ZJ (ZC ZbL (Zc 3) (Z8))) (ZaA (ZJ (ZC Zjx (Zc 3) (Zl _))) Zay)) (ZY (O':=[]) (ZK ZkD (Zg (Zc 0) (Zg (Zc 2) (Zg (ZbE ZbF (Zl _)) Zo))))) Z6)) Z6)) (ZV (Zc 0))))
noncomputable def Znw: Sm:=Zv (ZN 1 (Zh Zt (Zcb (Zf (Zk 0) (Zf (Zk 1) (Zf (Zk 2) (Zf (Zk 1) (Zf (Zk 2) (Zf (Zk 1) (Zf (Zk 2) (Zf (Zk 1) (Zf (Zk 3) Zn)))))))))) (Zu Zb2 (Zf (Zb 0) (Zf (Zk 0) (Zf (Zk 9) Zn)))))) (Zv (ZN 2 (ZaI (ZaP (Zf (Zb 1) Zn)) (put1 100) Zam (Zu Zex (Zf (Zb 0) (Zf (Zh Zah (Zk 2) (Zb 100)) Zn))))) (Zv (ZN 3 (Zu ZlX (Zf (Zb 0) (Zf (Zk 14) (Zf (Zb 2) Zn))))) (Zv (ZN 4 (Zu ZmY (Zf (Zb 0) (Zf (Zk 8) (Zf (Zb 1) Zn))))) (Zv (ZW (ZF (Zh oGt (Zu Zb2 (Zf (Zb 0) (Zf (Zk 7) (Zf (Zk 4) Zn)))) (Zk 0))) (ZbI (Zh Zbl (Zh Zah (Zh Zbl (Zh Zt (Zb 4) (Zk 0)) (Zu ZlB (Zf (Zb 4) (Zf (Zb 2) Zn)))) (Zu Zb2 (Zf (Zb 0) (Zf (Zk 6) (Zf (Zk 5) Zn))))) (Zk 2)) (Zb 4) (Zk 0)) Z1) (Zv (ZN 5 (ZaR (Zf (ZeX (Str.ofString "same")) (Zf (Zu Zcu (Zf (Zb 4) Zn)) Zn)))) (Zv (ZN 6 (Zu Zb2 (Zf (Zb 0) (Zf (Zk 1) (Zf (Zk 55) Zn))))) (Zv (ZW (ZF (Zh oEq (Zh oMod (Zb 6) (Zk 5)) (Zk 1))) (ZN 3 (Zu ZkJ (Zf (Zb 0) (Zf (Zk 40) (Zf (Zb 3) Zn))))) Z1) (Zv (ZW (ZF (Zh oEq (Zh oMod (Zb 6) (Zk 11)) (Zk 4))) (ZN 3 (Z0)) Z1) (Zv (ZN 7 (Zu Zh4 (Zf (Zb 3) Zn))) (Zv (ZaM (Zby (Zcb (Zf (Zb5 true) (Zf (Zb5 false) Zn)))) (put1 8) (Zv (ZN 9 (Z0)) (Zv (ZW (Zat (ZF (Zh Zbt (Zb 7) (Z0))) (Zat (ZF (Zb 8)) Zam)) (ZN 9 (Zu ZjY (Zf (Zb 7) (Zf (Zb 4) Zn)))) Z1) (Zv (ZW (Zat (ZF (Zh Zbt (Zb 7) (Z0))) (Zat (Zcp (ZF (Zb 8))) Zam)) (ZN 9 (Zu Zh4 (Zf (Zu Zk3 (Zf (Zb 7) (Zf (Zb 4) Zn))) Zn))) Z1) (Zv (ZN 10 (Zu Zol (Zf (Zb 3) (Zf (Zb 5) (Zf (Zb 8) Zn))))) (Zv (ZW (tOr (ZF (Zh oNe (Zh Zt (Zb 5) (Zk 1)) (Zb 4))) (tOr (Zcp (ZF (Zu Zmc (Zf (Zb 10) (Zf (Zb 9) Zn))))) Zcm)) (ZG (Zb5 false)) Z1) (Zv (ZW (ZF (Zh Zbt (Zb 10) (Z0))) (Zv (ZbI (Zk 7) (Zh Zt (Zh Zt (Zb 10) (Zk 0)) (Zk 0)) (Zk 0)) (Zcz (ZeI (Zh Zt (Zb 10) (Zk 1)) (ZaR (Zf (Zk 7) (Zf (Zk 7) Zn)))))) Z1) (ZW (ZF (Zh oNe (Zb 3) (Zb 7))) (ZG (Zb5 false)) Z1)))))))) (ZG (Zb5 true))))))))))))
noncomputable def Zqk:=Z9 1 Znw
noncomputable def Znx: PS:=(Zs (ZI 1 (Ze Zq (Zb6 (Zd (Zj 0) (Zd (Zj 1) (Zd (Zj 2) (Zd (Zj 1) (Zd (Zj 2) (Zd (Zj 1) (Zd (Zj 2) (Zd (Zj 1) (Zd (Zj 3) Zm)))))))))) (Zr ZbR (Zd (Za 0) (Zd (Zj 0) (Zd (Zj 9) Zm)))))) (Zs (ZI 2 (Zap (ZaE (Zd (Za 1) Zm)) (Zac 100) Zae (Zr Zec (Zd (Za 0) (Zd (Ze Zag (Zj 2) (Za 100)) Zm))))) (Zs (ZI 3 (Zr Zh3 (Zd (Za 0) (Zd (Zj 14) (Zd (Za 2) Zm))))) (Zs (ZI 4 (Zr Zin (Zd (Za 0) (Zd (Zj 8) (Zd (Za 1) Zm))))) (Zs (ZP (ZD (Ze qGt (Zr ZbR (Zd (Za 0) (Zd (Zj 7) (Zd (Zj 4) Zm)))) (Zj 0))) (Za2 4 [] (Ze Za5 (Ze Zag (Ze Za5 (Ze Zq (Za 4) (Zj 0)) (Zr ZhS (Zd (Za 4) (Zd (Za 2) Zm)))) (Zr ZbR (Zd (Za 0) (Zd (Zj 6) (Zd (Zj 5) Zm))))) (Zj 2)) ZaC (Zj 0)) ZU) (Zs (ZI 5 (ZaU (Zd (ZfT (Str.ofString "same")) (Zd (Zr Zcf (Zd (Za 4) Zm)) Zm)))) (Zs (ZI 6 (Zr ZbR (Zd (Za 0) (Zd (Zj 1) (Zd (Zj 55) Zm))))) (Zs (ZP (ZD (Ze qEq (Ze Zbb (Za 6) (Zj 5)) (Zj 1))) (ZI 3 (Zr ZhC (Zd (Za 0) (Zd (Zj 40) (Zd (Za 3) Zm))))) ZU) (Zs (ZP (ZD (Ze qEq (Ze Zbb (Za 6) (Zj 11)) (Zj 4))) (ZI 3 (ZR)) ZU) (Zs (ZI 7 (Zr ZcF (Zd (Za 3) Zm))) (Zs (ZaB (ZaD (Zb6 (Zd (ZbD true) (Zd (ZbD false) Zm)))) (Zac 8) (Zs (ZI 9 (ZR)) (Zs (ZP (Zai (ZD (Ze ZaO (Za 7) (ZR))) (Zai (ZD (Za 8)) Zae)) (ZI 9 (Zr Zdf (Zd (Za 7) (Zd (Za 4) Zm)))) ZU) (Zs (ZP (Zai (ZD (Ze ZaO (Za 7) (ZR))) (Zai (ZbY (ZD (Za 8))) Zae)) (ZI 9 (Zr ZcF (Zd (Zr ZdO (Zd (Za 7) (Zd (Za 4) Zm))) Zm))) ZU) (Zs (ZI 10 (Zr Zd3 (Zd (Za 3) (Zd (Za 5) (Zd (Za 8) Zm))))) (Zs (ZP (bOr (ZD (Ze qNe (Ze Zq (Za 5) (Zj 1)) (Za 4))) (bOr (ZbY (ZD (Zr ZdT (Zd (Za 10) (Zd (Za 9) Zm))))) Zce)) (ZE (ZbD false)) ZU) (Zs (ZP (ZD (Ze ZaO (Za 10) (ZR))) (Zs (Za2 10 [] (Zj 7) (Zbu (Zbu ZaC (Zj 0)) (Zj 0)) (Zj 0)) (Zc0 10 [] (Zbu ZaC (Zj 1)) (ZaU (Zd (Zj 7) (Zd (Zj 7) Zm))))) ZU) (ZP (ZD (Ze qNe (Za 3) (Za 7))) (ZE (ZbD false)) ZU)))))))) (ZE (ZbD true)))))))))))))
noncomputable def Zny:=Zab 1 Znx
theorem Zvd: SimF false Zqk Zny:=Zaf (show S [] [] [] false Znw Znx from(Zy (ZY (O':=[]) (ZA Zz (E.list (Zg (Zl _) (Zg (Zl _) (Zg (Zl _) (Zg (Zl _) (Zg (Zl _) (Zg (Zl _) (Zg (Zl _) (Zg (Zl _) (Zg (Zl _) Zo)))))))))) (ZK Zcd (Zg (Zc 0) (Zg (Zl _) (Zg (Zl _) Zo)))))) (Zy (ZY (O':=[]) (Zca (Gs.range (Zg (Zc 1) Zo)) PutOk.one (by decide) Zay (ZK Zf6 (Zg (Zc 0) (Zg (Zad Zal (Zl _) (Zc 100)) Zo))))) (Zy (ZY (O':=[]) (ZK ZtD (Zg (Zc 0) (Zg (Zl _) (Zg (Zc 2) Zo))))) (Zy (Zcn (O':=[4]) (ZbO Zuo (Zg (Zc 0) (Zg (Zl _) (Zg (Zc 1) Zo))))) (Zy (Z3 (ZJ (ZC Zdy (ZK Zcd (Zg (Zc 0) (Zg (Zl _) (Zg (Zl _) Zo)))) (Zl _))) (S.put (O':=[4]) (by decide) (Za8 (O':=[]) (ZC Zbv (Zad Zal (ZC Zbv (ZA Zz (Zc 4) (Zl _)) (ZK Ztk (Zg (Zc 4) (Zg (Zc 2) Zo)))) (ZK Zcd (Zg (Zc 0) (Zg (Zl _) (Zg (Zl _) Zo))))) (Zl _))) ZbC (Zl _) (by decide) (by decide)) Z6) (Zy (ZY (O':=[]) (E.tup (Zg (E.str _) (Zg (ZiC Zdm (Zg (Zc 4) Zo)) Zo)))) (Zy (ZY (O':=[]) (ZK Zcd (Zg (Zc 0) (Zg (Zl _) (Zg (Zl _) Zo))))) (Zy (Z3 (ZJ (ZC ZaN (ZC Zbp (Zc 6) (Zl _)) (Zl _))) (ZY (O':=[]) (ZK ZsW (Zg (Zc 0) (Zg (Zl _) (Zg (Zc 3) Zo))))) Z6) (Zy (Z3 (ZJ (ZC ZaN (ZC Zbp (Zc 6) (Zl _)) (Zl _))) (ZY (O':=[]) (Z8)) Z6) (Zy (ZY (O':=[]) (ZK ZpA (Zg (Zc 3) Zo))) (Zy (Zba (Gs.seq (E.list (Zg (E.bool _) (Zg (E.bool _) Zo)))) PutOk.one (by decide) (by decide) (Zw3 (O1:=[10]) (Zy (ZY (O':=[]) (Z8)) (Zy (Z3 (ZaA (ZJ (ZC ZbL (Zc 7) (Z8))) (ZaA (ZJ (Zc 8)) Zay)) (ZY (O':=[]) (ZK Zr8 (Zg (Zc 7) (Zg (Zc 4) Zo)))) Z6) (Zy (Z3 (ZaA (ZJ (ZC ZbL (Zc 7) (Z8))) (ZaA (ZcQ (ZJ (Zc 8))) Zay)) (ZY (O':=[]) (ZK ZpA (Zg (ZK ZsZ (Zg (Zc 7) (Zg (Zc 4) Zo))) Zo))) Z6) (Zy (Zcn (O':=[10]) (ZbO ZxA (Zg (Zc 3) (Zg (Zc 5) (Zg (Zc 8) Zo))))) (Zy (Z3 (Zbh (ZJ (ZC ZbP (ZA Zz (Zc 5) (Zl _)) (Zc 4))) (Zbh (ZcQ (ZJ (ZK ZtG (Zg (Zc 10) (Zg (Zc 9) Zo))))) ZcN)) (ZV (E.bool _)) Z6) (Zy (Z3 (ZJ (ZC ZbL (Zc 10) (Z8))) (Zy (S.put (O':=[10]) (by decide) (Za8 (O':=[]) (Zl _)) (Zc5 (Zc5 ZbC (Zl _)) (Zl _)) (Zl _) (by decide) (by decide)) (Zjm (O':=[10]) (by decide) (Zc5 ZbC (Zl _)) (Za8 (O':=[]) (E.tup (ZgE (Zl _) (ZgE (Zl _) Zo (by decide) (by decide)) (by decide) (by decide)))) (by decide) (by decide))) Z6) (Z3 (ZJ (ZC ZbP (Zc 3) (Zc 7))) (ZV (E.bool _)) Z6))))))) (by decide))) (ZV (E.bool _))))))))))))))
end L
end
section
set_option autoImplicit false
open PySem PySem.W PyProof.Rows PM TM My
local macro_rules | `(tactic| walk_at "tkrd") => `(tactic| first | with_reducible assumption | with_reducible exact ZbA | ((with_reducible apply Zv9); decide; walk_at "tkrd") | ((with_reducible apply Zu0); decide; walk_at "tkrd") | exact rfl | assumption)
local macro_rules | `(tactic| walk_at "tkyes") => `(tactic| first | rfl | (with_reducible assumption) | (simp only [Bool.not_eq_true', Bool.not_eq_false', decide_eq_true_eq, decide_eq_false_iff_not, beq_iff_eq, beq_eq_false_iff_ne, ne_eq, Bool.not_true, Bool.not_false, not_false_eq_true, not_true_eq_false, bne_iff_ne, Decidable.not_not, List.length_map] <;> first | done | omega | assumption))
local macro_rules | `(tactic| walk_at "tkflat") => `(tactic| first | rfl | exact ZeJ | exact Ziu | exact Zpx fun i hi => by first | rfl | exact ZeJ | exact Ziu)
local macro_rules | `(tactic| walk_at "tkop") => `(tactic| first | with_reducible refine Zrq ?_ | with_reducible refine Zxj ?_ | with_reducible refine Zxk ?_ | with_reducible refine ZxW ?_ | with_reducible refine ZxX ?_ | with_reducible refine ZxY ?_ | with_reducible refine tk_ge ?_ | with_reducible refine Zxm ?_ | with_reducible refine tk_max ?_ | with_reducible refine Zxn ?_ | with_reducible refine ZxZ ?_ | with_reducible refine Zx0 ?_ | with_reducible refine tk_eqb ?_ | with_reducible refine tk_neb ?_ | with_reducible refine Zxo ?_ | with_reducible refine Zxp ?_ | with_reducible refine Zxq ?_ | with_reducible refine Zxr ?_ | with_reducible refine ZvV ?_ | with_reducible refine ZvW ?_ | with_reducible refine tk_notl ?_ | with_reducible refine ZvX ?_ | with_reducible refine ZvY ?_ | with_reducible refine Zxs ?_ | with_reducible refine ZvZ ?_ | ((with_reducible apply Zv0); (first | assumption | omega)) | ((with_reducible apply Zv1); (first | decide | omega); (first | decide | omega)) | ((with_reducible apply Zv2); (first | decide | omega); rfl) | ((with_reducible apply ZiJ); (first | decide | omega); rfl) | ((with_reducible apply ZqN); omega) | with_reducible refine ZuV ?_ | with_reducible refine tk_list1t ?_ | with_reducible refine Zv3 ?_ | with_reducible refine tk_all ?_ | with_reducible refine Zxt ?_ | ((with_reducible apply Zxl); (first | decide | omega)))
local macro_rules | `(tactic| walk_at "tk1") => `(tactic| first | with_reducible refine Zw9 ?_ | with_reducible refine ZxR ?_ | with_reducible refine ZvO ?_ | with_reducible refine Zxa ?_ | with_reducible refine Zxb ?_ | with_reducible refine ZvP ?_ | with_reducible refine ZvN ?_ | with_reducible refine ZvQ ?_ | with_reducible refine ZxS ?_ | with_reducible refine ZxT ?_ | with_reducible refine Zxc ?_ | with_reducible refine Zxd ?_ | with_reducible refine ZxU ?_ | with_reducible refine ZxV ?_ | with_reducible refine Zxe ?_ | with_reducible refine ZvR ?_ | with_reducible refine ZvS ?_ | with_reducible refine ZuU ?_ | with_reducible refine ZvT ?_ | with_reducible refine Zxf ?_ | with_reducible refine ZtA ?_ | with_reducible refine tk_truth_n ?_ | with_reducible refine ZvU ?_ | with_reducible refine Zxg ?_ | with_reducible refine Zi2 ?_ | with_reducible refine tk_exp ?_ | with_reducible refine ZeN ?_ | with_reducible refine Zoe ?_ | with_reducible refine Zw5 ?_ | with_reducible refine Zw6 ?_ | with_reducible refine ZvM ?_ | with_reducible refine Zw7 ?_ | ((with_reducible apply Zw8); walk_at "tkrd") | ((with_reducible apply Zxh); walk_at "tkyes") | ((with_reducible apply Zxi); walk_at "tkyes") | ((with_reducible apply Zi3); rfl) | (refine And.intro (show T.flat _ = true by walk_at "tkflat") ?_) | (refine And.intro (show T.flatIn _ = true by walk_at "tkflat") ?_) | with_reducible refine ZiK ?_ | with_reducible refine Sq.lst ?_ | with_reducible refine Sq.tup ?_ | with_reducible refine ZuY ?_ | ((with_reducible apply Rn.one); omega) | with_reducible refine Zof ?_ | with_reducible refine Zwc ?_ | with_reducible refine Zwd ?_ | with_reducible refine Zu9 ?_ | with_reducible refine Zi.eq ?_ | with_reducible refine Zi.mn ?_ | with_reducible refine Zxu ?_ | with_reducible refine Zv7 ?_ | with_reducible refine Zxv ?_ | with_reducible refine Zv8 ?_ | ((with_reducible apply Zv5); walk_at "tkrd"; (first | (rw [Zas]; omega) | (simp; done))) | ((with_reducible apply Zv6); walk_at "tkrd"; (first | (rw [Zas]; omega) | (simp; done))) | ((with_reducible apply ZuZ); walk_at "tkrd"; (first | assumption | omega)) | ((with_reducible apply Zqf); walk_at "tkrd"; (first | assumption | omega); (first | assumption | omega)) | walk_at "tkop")
local macro_rules | `(tactic| walk_at "zz") => `(tactic| repeat' walk_at "tk1")
local macro_rules | `(tactic| walk_at "zr") => `(tactic| walk_at "tkrd")
namespace L
open PySem PySem.W PyProof.Rows PM TM My
variable {a v:Option Int} {b i j k k' m n t:Nat} {ns:List Int} {c x:Nat→Int} {K K' M M' d r top y:Int} {A B F G G2 w Γ:Nat→Nat→Option Int} {σ:TL} {f g:PE} {Q:T→Prop} {R R' R2 S:Nat→Int×Int} {p q:Int×Int} {β:Type} {o:Option (Int×Int)} {ts:List T} {D D1 D2 T0:T} {done done':Nat→Nat→Nat→Prop} {N:TL→Prop} {l:List Nat}
section
variable {Q:T→Prop}
theorem Zyc(h:Q (.int T9)): Pk (Zdx (.int 10) (.int 9)) Q:=by
 have:=ZxN []
 simp only[oPow]at this
 split at this
 ·rename_i hc
  refine⟨_,by simp only[Zdx];rw[if_pos hc],?_⟩
  simp only[Option.some.injEq,Prod.mk.injEq,V.int.injEq,and_true]at this
  rw[this];exact h
 ·cases this
theorem Zx3(h:Q (.int T40)): Pk (Zdx (.int 10) (.int 40)) Q:=by
 have:=Zw0 []
 simp only[oPow]at this
 split at this
 ·rename_i hc
  refine⟨_,by simp only[Zdx];rw[if_pos hc],?_⟩
  simp only[Option.some.injEq,Prod.mk.injEq,V.int.injEq,and_true]at this
  rw[this];exact h
 ·cases this
theorem Zx4(h:Q (.int M9)): Pk (Zdx (.int 48271) (.int 9)) Q:=by
 have:=ZwZ []
 simp only[oPow]at this
 split at this
 ·rename_i hc
  refine⟨_,by simp only[Zdx];rw[if_pos hc],?_⟩
  simp only[Option.some.injEq,Prod.mk.injEq,V.int.injEq,and_true]at this
  rw[this];exact h
 ·cases this
theorem ZdY{a b:Int}(h1:-(2 ^ 64)<b)(h2:b<2 ^ 64)(h:Q (.int (a*b))): Pk (ZaF (.int a) (.int b)) Q:=ZbT (Zue h1 h2) h
theorem ZqX{a b:Int}(h1:-(2 ^ 64)<a)(h2:a<2 ^ 64)(h:Q (.int (a*b))): Pk (ZaF (.int a) (.int b)) Q:=ZbT (Ztz h1 h2) h
end
noncomputable def scr(ns:List Int): T:=.lst (ns.map T.int)
noncomputable def Lay(ns:List Int): Prop:=PyData.layable0 (.list (ns.map .int))=true
noncomputable def Zcv(ns:List Int)(k:Int): Int:=k*k*7919+11+(if 0<ns.length then cellAt ns (k.fmod ns.length) 0 else 0)
theorem Zql{k:Int}(h0:0≤k)(h9:k≤10000): Zgd [scr ns,.int k]=some (.int (Zcv ns k)):=by
 apply Pk.eq
 unfold Zgd Zlc Zcv scr
 by_cases hl:0<ns.length
 ·have a:=Int.fmod_nonneg_of_pos k (show(0:Int)<ns.length by omega)
  have b:=Int.fmod_lt_of_pos k (show(0:Int)<ns.length by omega)
  have e:(ns.map T.int).length=ns.length:=by simp
  walk_at "zz"
  refine ZdY (by omega) (by omega) ?_
  walk_at "zz"
  refine ZdY (by omega) (by omega) ?_
  walk_at "zz"
  refine ZiJ (t:=.int (cellAt ns (k.fmod ns.length) 0)) (by rw[e];omega) ?_ ?_
  ·rw[e,List.getElem?_map,List.getElem?_eq_getElem (by omega),cellAt_def]
   simp only[Option.map_some,T.int.injEq,Option.some.injEq]
   rw[List.getD_eq_getElem?_getD,List.getElem?_eq_getElem (by omega)]
   rfl
  walk_at "zz"
  rw[if_pos hl]
 ·walk_at "zz"
  refine ZdY (by omega) (by omega) ?_
  walk_at "zz"
  refine ZdY (by omega) (by omega) ?_
  walk_at "zz"
  rw[if_neg hl]
  simp
theorem ZtJ{k:Int}(hL:Lay ns)(h0:0≤k)(h9:k≤10000): Builtin.Int.intBits (Zcv ns k)≤2 ^ 21:=by
 unfold Zcv
 have h1:0≤k*k:=Int.mul_nonneg h0 h0
 have h2:k*k≤10000*10000:=Int.mul_le_mul h9 h9 h0 (by decide)
 have hb:Builtin.Int.intBits (k*k*7919+11)≤2 ^ 20:=Nat.le_trans (intBits_le_64 (by omega) (by omega)) (by decide)
 have hc:Builtin.Int.intBits (if 0<ns.length then cellAt ns (k.fmod ns.length) 0 else 0)≤2 ^ 20:=by
  split
  ·exact(cell_at hL _).bits
  ·exact bits_zero
 exact Nat.le_trans (PM.ZuR hb hc) (by decide)
noncomputable def Zbx(ns:List Int)(k many:Int): Int:=((Zcv ns k*48271).fmod 2147483647).fmod many
theorem Zck(ns:List Int)(k:Int){many:Int}(h:0<many): 0≤Zbx ns k many∧Zbx ns k many<many:=⟨Int.fmod_nonneg_of_pos _ h,Int.fmod_lt_of_pos _ h⟩
theorem Zcl{k many:Int}(h0:0≤k)(h9:k≤10000)(hm:0<many): ZbR [scr ns,.int k,.int many]=some (.int (Zbx ns k many)):=by
 apply Pk.eq
 unfold ZbR ZlS
 walk_at "zz"
 refine ZH (Zql h0 h9) ?_
 walk_at "zz"
 refine ZdY (by decide) (by decide) ?_
 walk_at "zz"
 rfl
noncomputable def Zd4(ns:List Int)(k:Int): Int:=[3,9,T9,T40].getD (((Zcv ns k*69621).fmod 2147483629).fmod 4).toNat 0
theorem Zqm(ns:List Int)(k:Int): 0<Zd4 ns k∧Zd4 ns k≤T40:=by
 unfold Zd4
 have a:=Int.fmod_nonneg_of_pos ((Zcv ns k*69621).fmod 2147483629) (show(0:Int)<4 by decide)
 have b:=Int.fmod_lt_of_pos ((Zcv ns k*69621).fmod 2147483629) (show(0:Int)<4 by decide)
 generalize ((Zcv ns k*69621).fmod 2147483629).fmod 4=i at a b
 have h9:=T9_eq
 have h40:=Zi0
 have:i=0∨i=1∨i=2∨i=3:=by omega
 obtain rfl | rfl | rfl | rfl:=this
 ·show 0<3∧3≤T40;omega
 ·show 0<9∧9≤T40;omega
 ·show 0<T9∧T9≤T40;omega
 ·show 0<T40∧T40≤T40;omega
noncomputable def Zcr(ns:List Int)(k:Int): Int:=(Zcv ns k*M9).fmod (2*Zd4 ns k+1)-Zd4 ns k
theorem Zrw(ns:List Int)(k:Int): -T40≤Zcr ns k∧Zcr ns k≤T40:=by
 obtain⟨a,b⟩:=Zqm ns k
 have h1:=Int.fmod_nonneg_of_pos (Zcv ns k*M9) (show 0<2*Zd4 ns k+1 by omega)
 have h2:=Int.fmod_lt_of_pos (Zcv ns k*M9) (show 0<2*Zd4 ns k+1 by omega)
 unfold Zcr
 omega
theorem Zgz{k:Int}(hL:Lay ns)(h0:0≤k)(h9:k≤10000): Zec [scr ns,.int k]=some (.int (Zcr ns k)):=by
 apply Pk.eq
 unfold Zec ZkH
 have hb:=Zqb (ZtJ hL h0 h9) ZvK
 obtain⟨r0,r1⟩:=Zqm ns k
 have a:=Int.fmod_nonneg_of_pos ((Zcv ns k*69621).fmod 2147483629) (show(0:Int)<4 by decide)
 have b:=Int.fmod_lt_of_pos ((Zcv ns k*69621).fmod 2147483629) (show(0:Int)<4 by decide)
 walk_at "zz"
 refine ZH (Zql h0 h9) ?_
 walk_at "zz"
 refine Zyc ?_
 walk_at "zz"
 refine Zx3 ?_
 walk_at "zz"
 refine ZdY (by decide) (by decide) ?_
 walk_at "zz"
 refine ZiJ (t:=.int (Zd4 ns k)) (by omega) ?_ ?_
 ·unfold Zd4
  have:(((Zcv ns k*69621).fmod 2147483629).fmod 4).toNat<4:=by omega
  generalize (((Zcv ns k*69621).fmod 2147483629).fmod 4).toNat=i at this
  match i,this with
  | 0,_=>rfl
  | 1,_=>rfl
  | 2,_=>rfl
  | 3,_=>rfl
 walk_at "zz"
 refine Zx4 ?_
 walk_at "zz"
 refine ZbT hb ?_
 walk_at "zz"
 refine ZqX (by decide) (by decide) ?_
 walk_at "zz"
 rfl
noncomputable def Zbd(a:Int): Int:=if a<0 then -a else a
theorem ZdD(a:Int): 0≤Zbd a:=by unfold Zbd;split <;> omega
noncomputable def Zdq(ns:List Int)(k:Int): Option Int:=
 if(Zbx ns k 42).fmod 6<2 then none else if(Zbx ns k 42).fmod 6<4 then some 0 else if(Zbx ns k 42).fmod 6=4 then some ((Zbx ns k 42).fdiv 6)else some (Zbd (Zcr ns k))
theorem Zve(ns:List Int)(k:Int){c:Int}(h:Zdq ns k=some c): 0≤c∧c≤T40:=by
 have h40:=Zi0
 unfold Zdq at h
 split at h
 ·cases h
 ·split at h
  ·cases h;omega
  ·split at h
   ·cases h
    obtain⟨p0,p1⟩:=Zck ns k (show(0:Int)<42 by decide)
    rw[Int.fdiv_eq_ediv_of_nonneg _ (by decide)]
    omega
   ·cases h
    have:=Zrw ns k
    have:=ZdD (Zcr ns k)
    unfold Zbd at *
    split at * <;> omega
theorem ZpV{a b:Int}(h0:0≤b)(h1:b<2 ^ 30): Builtin.divisionGoesByPylong a b=false:=PyProof.noPylong_small (by omega)
theorem Zvf{k:Int}(hL:Lay ns)(h0:0≤k)(h9:k≤10000): ZhM [scr ns,.int k]=some (oT (Zdq ns k)):=by
 apply Pk.eq
 unfold ZhM Zlf Zdq
 obtain⟨p0,p1⟩:=Zck ns k (show(0:Int)<42 by decide)
 walk_at "zz"
 refine ZH (Zcl h0 h9 (by decide)) ?_
 walk_at "zz"
 refine⟨fun c=>?_,fun c=>?_⟩
 ·walk_at "zz"
  rw[if_pos (by simpa using c)];rfl
 rw[if_neg (by simpa using c)]
 walk_at "zz"
 refine⟨fun c=>?_,fun c=>?_⟩
 ·walk_at "zz"
  rw[if_pos (by simpa using c)];rfl
 rw[if_neg (by simpa using c)]
 walk_at "zz"
 refine⟨fun c=>?_,fun c=>?_⟩
 ·walk_at "zz"
  refine Zc6 (by decide) (ZpV (by decide) (by decide)) ?_
  rw[if_pos (by simpa using c)];rfl
 rw[if_neg (by simpa using c)]
 walk_at "zz"
 refine ZH (Zgz hL h0 h9) ?_
 walk_at "zz"
 rfl
noncomputable def RestOk(q:Int×Int): Prop:=q.1=0∨(0<q.1∧0≤q.2∧q.2<q.1)
noncomputable def ZaH(m r:Int): Int×Int:=if m=0 then(0,r)else(m,r.fmod m)
theorem Zcs{m:Int}(h:0≤m)(r:Int): RestOk (ZaH m r):=by
 unfold RestOk ZaH
 split
 ·exact .inl rfl
 ·exact .inr ⟨by show 0<m;omega,Int.fmod_nonneg_of_pos _ (by omega),Int.fmod_lt_of_pos _ (by omega)⟩
theorem ZeE{m:Int}: ZdA [.int m,.int r]=some (Z4 (ZaH m r)):=by
 apply Pk.eq
 unfold ZdA Zkg ZaH
 by_cases c:m=0
 ·walk_at "zz"
  rw[if_pos c];rfl
 ·walk_at "zz"
  rw[if_neg c];rfl
noncomputable def Zep(ns:List Int)(k x:Int): Int×Int:=
 if(Zbx ns k 60).fmod 5<2 then(1,0)else if(Zbx ns k 60).fmod 5=2 then(0,x)else if(Zbx ns k 60).fmod 5=3 then ZaH ((Zbx ns k 60).fdiv 5+1) x else ZaH (Zbd (Zcr ns k)) x
noncomputable def Zau(q:Int×Int)(x:Int): Prop:=(q.1=0→x=q.2)∧(0<q.1→(x-q.2).emod q.1=0)
theorem Zqn(ns:List Int)(k:Int): 0≤(Zbx ns k 60).fdiv 5∧(Zbx ns k 60).fdiv 5<12:=by
 obtain⟨p0,p1⟩:=Zck ns k (show(0:Int)<60 by decide)
 rw[Int.fdiv_eq_ediv_of_nonneg _ (by decide)]
 omega
theorem Zvg(ns:List Int)(k x:Int): RestOk (Zep ns k x):=by
 have:=Zqn ns k
 unfold Zep
 split
 ·exact .inr ⟨by decide,by decide,by decide⟩
 ·split
  ·exact .inl rfl
  ·split
   ·exact Zcs (by omega) x
   ·exact Zcs (ZdD _) x
theorem Zwh{k x:Int}(hL:Lay ns)(h0:0≤k)(h9:k≤10000): Zh2 [scr ns,.int k,.int x]=some (Z4 (Zep ns k x)):=by
 apply Pk.eq
 unfold Zh2 ZlV Zep
 obtain⟨p0,p1⟩:=Zck ns k (show(0:Int)<60 by decide)
 walk_at "zz"
 refine ZH (Zcl h0 h9 (by decide)) ?_
 walk_at "zz"
 refine⟨fun c=>?_,fun c=>?_⟩
 ·walk_at "zz"
  rw[if_pos (by simpa using c)];rfl
 rw[if_neg (by simpa using c)]
 walk_at "zz"
 refine⟨fun c=>?_,fun c=>?_⟩
 ·walk_at "zz"
  rw[if_pos (by simpa using c)];rfl
 rw[if_neg (by simpa using c)]
 walk_at "zz"
 refine⟨fun c=>?_,fun c=>?_⟩
 ·walk_at "zz"
  refine Zc6 (by decide) (ZpV (by decide) (by decide)) ?_
  walk_at "zz"
  refine ZH ZeE ?_
  rw[if_pos (by simpa using c)]
 rw[if_neg (by simpa using c)]
 walk_at "zz"
 refine ZH (Zgz hL h0 h9) ?_
 walk_at "zz"
 exact ZH ZeE rfl
noncomputable def ZaQ(x:Nat→Int): Nat→Int:=cn 0 x
theorem ZxB(x:Nat→Int): cn (T.int 0) (fun i=>T.int (x i))=fun i=>T.int (ZaQ x i):=by
 funext i;cases i <;> rfl
noncomputable def Zcy(ns:List Int)(k:Int)(n:Nat)(x:Nat→Int)(i j:Nat): Option Int:=if j=i then some 0 else(Zdq ns (k+i*(n+1:Nat)+j)).map fun c=>ZaQ x i-ZaQ x j+c
noncomputable def ZfQ(ns:List Int)(k:Int)(n:Nat)(x:Nat→Int)(t:Nat): Int×Int:=Zep ns (k+(n+1:Nat)*(n+1:Nat)+t) (x t)
theorem ZtK(ns:List Int)(k:Int)(n:Nat)(x:Nat→Int)(i:Nat): Zcy ns k n x i i=some 0:=by simp[Zcy]
theorem Zvh(ns:List Int)(k:Int)(n:Nat)(x:Nat→Int)(i:Nat): (fun j=>if j=i then T.int 0 else oT ((Zdq ns (k+i*(n+1:Nat)+j)).map fun c=>ZaQ x i-ZaQ x j+c))=fun j=>oT (Zcy ns k n x i j):=by
 funext j
 unfold Zcy
 split <;> rfl
theorem Zwi{k:Int}(hL:Lay ns)(h0:0≤k)(h9:k≤1000)(hn:n≤9): Zh3 [scr ns,.int k,Zjz n x]=some (ZQ n (Zcy ns k n x) (ZfQ ns k n x)):=by
 apply Pk.eq
 unfold Zh3 ZlY Zjz
 have hq:((n+1:Nat):Int)*((n+1:Nat):Int)≤10*10:=Int.mul_le_mul (by omega) (by omega) (by omega) (by decide)
 have hq0:(0:Int)≤((n+1:Nat):Int)*((n+1:Nat):Int):=Int.mul_nonneg (by omega) (by omega)
 walk_at "zz"
 rw[ZxB]
 refine ZbU (n:=n+1) (a:=fun i=>.int i) (P:=fun i σ=>σ 0=some (scr ns)∧σ 1=some (.int k)∧σ 2=some (.lst (tab n fun i=>.int (x i)))∧σ 3=some (.lst (tab (n+1) fun i=>.int (ZaQ x i)))∧σ 4=some (.int (n+1:Nat))∧σ 5=some (.lst (tab i fun i=>Zax (n+1) (Zcy ns k n x i)))) ?_ ⟨rfl,rfl,rfl,rfl,rfl,rfl⟩ ?_ ?_
 ·walk_at "zz"
  rfl
 ·rintro i σ hi ⟨e0,e1,e2,e3,e4,e5⟩
  walk_at "zz"
  refine ZbU (n:=n+1) (a:=fun i=>.int i) (P:=fun j σ=>σ 0=some (scr ns)∧σ 1=some (.int k)∧σ 2=some (.lst (tab n fun i=>.int (x i)))∧σ 3=some (.lst (tab (n+1) fun i=>.int (ZaQ x i)))∧σ 4=some (.int (n+1:Nat))∧σ 5=some (.lst (tab i fun i=>Zax (n+1) (Zcy ns k n x i)))∧σ 6=some (.int i)∧σ 7=some (.lst (tab j fun j=>oT ((Zdq ns (k+i*(n+1:Nat)+j)).map fun c=>ZaQ x i-ZaQ x j+c)))) ?_ ⟨?_,?_,?_,?_,?_,?_,?_,?_⟩ ?_ ?_
  ·walk_at "zz"
   rfl
  all_goals first | walk_at "zr" | skip
  ·rintro j σ hj ⟨e0,e1,e2,e3,e4,e5,e6,e7⟩
   have hb1:(0:Int)≤i*((n+1:Nat):Int):=Int.mul_nonneg (by omega) (by omega)
   have hb2:(i:Int)*((n+1:Nat):Int)≤10*10:=Int.mul_le_mul (by omega) (by omega) (by omega) (by decide)
   walk_at "zz"
   refine ZdY (by omega) (by omega) ?_
   walk_at "zz"
   refine ZH (Zvf hL (by omega) (by omega)) ?_
   have key:∀w,w=oT ((Zdq ns (k+i*(n+1:Nat)+j)).map fun c=>ZaQ x i-ZaQ x j+c)→tab j (fun j=>oT ((Zdq ns (k+i*(n+1:Nat)+j)).map fun c=>ZaQ x i-ZaQ x j+c))++[w]=tab (j+1) fun j=>oT ((Zdq ns (k+i*(n+1:Nat)+j)).map fun c=>ZaQ x i-ZaQ x j+c):=fun w e=>by
    rw[e];exact ZdW
   cases hs:Zdq ns (k + ↑i * ↑(n+1) + ↑j)with
   | none=>
    simp only[Zbf,Zao]
    walk_at "zz"
    rw[key _ (by rw[hs];rfl)]
    refine⟨?_,?_,?_,?_,?_,?_,?_,?_⟩ <;> walk_at "zr"
   | some c=>
    simp only[Zbf,Zao]
    walk_at "zz"
    rw[key _ (by rw[hs];rfl)]
    refine⟨?_,?_,?_,?_,?_,?_,?_,?_⟩ <;> walk_at "zr"
  ·rintro σ ⟨e0,e1,e2,e3,e4,e5,e6,e7⟩
   walk_at "zz"
   rw[Zvh,show tab i (fun i=>Zax (n+1) (Zcy ns k n x i))++[T.lst (tab (n+1) fun j=>oT (Zcy ns k n x i j))]=tab (i+1) fun i=>Zax (n+1) (Zcy ns k n x i)from ZdW (f:=fun i=>Zax (n+1) (Zcy ns k n x i))]
   refine⟨?_,?_,?_,?_,?_,?_⟩ <;> walk_at "zr"
 ·rintro σ ⟨e0,e1,e2,e3,e4,e5⟩
  walk_at "zz"
  refine Zcj (n:=n) (a:=fun i=>.int i) (b:=fun t=>Z4 (ZfQ ns k n x t)) (by omega) ?_ (fun t ht=>?_) ?_
  ·walk_at "zz"
   refine Zjn n (by omega) (by omega) rfl
  ·walk_at "zz"
   refine ZdY (by omega) (by omega) ?_
   walk_at "zz"
   exact ZH (Zwh hL (by omega) (by omega)) ⟨Ziu,rfl⟩
  walk_at "zz"
  rfl
noncomputable def ZaY(n:Nat)(G:Nat→Nat→Option Int)(R:Nat→Int×Int)(x:Nat→Int): Prop:=(∀i j,i<n+1→j<n+1→∀b,G i j=some b→ZaQ x i-ZaQ x j≤b)∧∀t,t<n→Zau (R t) (x t)
noncomputable def Zyd(n:Nat)(G:Nat→Nat→Option Int)(R:Nat→Int×Int): Prop:=(∀i,i<n+1→G i i=some 0)∧∀t,t<n→RestOk (R t)
theorem Zup(ns:List Int)(k:Int)(n:Nat)(x:Nat→Int): Zyd n (Zcy ns k n x) (ZfQ ns k n x):=⟨fun i _=>ZtK ns k n x i,fun t _=>Zvg ns _ _⟩
theorem Zuq(hn:n<10000)(e:Pk (g σ) fun t=>t=Z7 n G)(h:Q (Z7 n G)): Pk (Zap (ZaD g) (Zac j) Zae (Zr Zcf (Zd (Za j) Zm)) σ) Q:=by
 refine Zcj (n:=n) (a:=fun i=>Zax n (G i)) (b:=fun i=>Zax n (G i)) hn ?_ (fun i hi=>?_) h
 ·refine ZiK (e.mono ?_)
  rintro _ rfl
  exact Sq.lst rfl
 ·unfold Zax
  walk_at "zz"
  rfl
theorem ZqY(hn:n≤100): ZcF [ZQ n G R]=some (ZQ n G R):=by
 apply Pk.eq
 unfold ZcF Zh5 ZQ Za4
 walk_at "zz"
 refine Zuq (n:=n+1) (G:=G) (by omega) ?_ ?_
 ·walk_at "zz"
  rfl
 walk_at "zz"
 rfl
theorem ZpW: ZcF [.none]=some .none:=by
 apply Pk.eq
 unfold ZcF Zh5
 walk_at "zz"
 rfl
noncomputable def leO(a b:Option Int): Prop:=∀y,b=some y→∃x,a=some x∧x≤y
theorem Zdk: leO a none:=fun _ e=>by cases e
theorem leO_some{x:Int}: leO (some x) (some y)↔x≤y:=⟨fun h=>by obtain⟨z,e,q⟩:=h y rfl;cases e;exact q,fun h z e=>by cases e;exact⟨x,rfl,h⟩⟩
theorem ZiO: ¬leO none (some y):=fun h=>by obtain⟨z,e,_⟩:=h y rfl;cases e
theorem Zk5{b:Option Int}: Zge [oT a,oT b]=some (.bool (dec (leO a b))):=by
 apply Pk.eq
 unfold Zge Zlh
 cases b with
 | none=>
  simp only[Zbf]
  walk_at "zz"
  rw[Za0 Zdk]
 | some y=>
  cases a with
  | none=>
   simp only[Zbf,Zao]
   walk_at "zz"
   rw[Zbw ZiO]
  | some x=>
   simp only[Zao]
   walk_at "zz"
   rw[ZmD leO_some,Zh1]
noncomputable def RIn(p q:Int×Int): Prop:=if q.1=0 then p=q else p.1 % q.1=0∧(p.2-q.2) % q.1=0
theorem Zwj(h:0<q.1∧0≤q.2∧q.2<q.1)(x:Int): x.fmod q.1=q.2↔(x-q.2) % q.1=0:=by
 rw[Int.fmod_eq_emod_of_nonneg _ (by omega)]
 constructor
 ·intro e
  rw[←e,Int.sub_emod,Int.emod_emod,Int.sub_self]
  simp
 ·intro e
  have:x % q.1=q.2 % q.1:=Int.emod_eq_emod_iff_emod_sub_eq_zero.mpr e
  rw[this,Int.emod_eq_of_lt h.2.1 h.2.2]
theorem Zwk(h:RestOk q)(x:Int): (if q.1=0 then x=q.2 else x.fmod q.1=q.2)↔Zau q x:=by
 unfold Zau
 rcases h with h | h
 ·rw[if_pos h];simp[h]
 ·rw[if_neg (by omega),Zwj h]
  have h1:¬q.1=0:=by omega
  simp only[h1,false_implies,true_and,h.1,true_implies]
  rfl
theorem ZhX{x:Int}(h:RestOk q): Zee [Z4 q,.int x]=some (.bool (dec (Zau q x))):=by
 apply Pk.eq
 unfold Zee Zl1 Z4
 rw[←ZmD (Zwk h x)]
 by_cases c:q.1=0
 ·walk_at "zz"
  rw[if_pos c,Zh1]
 ·walk_at "zz"
  rw[if_neg c,Zh1]
noncomputable def Zcw(n:Nat)(G:Nat→Nat→Option Int)(R:Nat→Int×Int)(G':Nat→Nat→Option Int)(R':Nat→Int×Int): Prop:=(∀i,i<n+1→∀j,j<n+1→leO (G i j) (G' i j))∧∀t,t<n→RIn (R t) (R' t)
noncomputable def Eu(m:Nat)(a b:Int): Prop:=0≤a∧0≤b∧∃k:Nat,a*b<2 ^ k∧m=2*k+if a<b then 1 else 0
theorem Eu.step{a b:Int}(h:Eu m a b)(hb:b≠0): ∃m',m'<m∧Eu m' b (a % b):=by
 obtain⟨h0,h1,k,h2,h3⟩:=h
 have hb':0<b:=by omega
 have r0:=Int.emod_nonneg a hb
 have r1:=Int.emod_lt_of_pos a hb'
 by_cases q:a<b
 ·rw[if_pos q]at h3
  have e:a % b=a:=Int.emod_eq_of_lt h0 q
  rw[e]
  exact⟨2*k,by omega,h1,h0,k,by rw[Int.mul_comm];exact h2,by rw[if_neg (by omega)];omega⟩
 ·rw[if_neg q]at h3
  have hd:=Int.emod_add_mul_ediv a b
  have hq:1≤a / b:=Int.le_ediv_of_mul_le hb' (by omega)
  have hm:b*1≤b*(a / b):=Int.mul_le_mul_of_nonneg_left hq h1
  have h2r:2*(a % b)<a:=by omega
  have hp:b*(2*(a % b))<b*a:=Int.mul_lt_mul_of_pos_left h2r hb'
  have hk:k≠0:=by
   rintro rfl
   have:0<a*b:=Int.mul_pos (by omega) hb'
   simp at h2
   omega
  obtain⟨k',rfl⟩:∃k',k=k'+1:=⟨k-1,by omega⟩
  refine⟨2*k',by omega,h1,r0,k',?_,by rw[if_neg (by omega)];omega⟩
  have e1:b*(2*(a % b))=2*(b*(a % b)):=by rw[←Int.mul_assoc,Int.mul_comm b 2,Int.mul_assoc]
  have e2:a*b=b*a:=Int.mul_comm _ _
  rw[Int.pow_succ]at h2
  omega
theorem Ziw{a b:Int}(ha:0≤a)(hb:0≤b)(ha2:a<2 ^ 200000)(hb2:b<2 ^ 200000): ∃m,m<1000000∧Eu m a b:=by
 refine⟨_,?_,ha,hb,400000,?_,rfl⟩
 ·split <;> omega
 ·have h1:a*b≤a*2 ^ 200000:=Int.mul_le_mul_of_nonneg_left (by omega) ha
  have h2:a*2 ^ 200000<2 ^ 200000*2 ^ 200000:=Int.mul_lt_mul_of_pos_right ha2 (Int.pow_pos (by decide))
  have h3:(2:Int) ^ 200000*2 ^ 200000=2 ^ 400000:=by rw[←Int.pow_add]
  omega
theorem ZgH{a b:Int}(hb:0<b): Int.gcd b (a % b)=Int.gcd a b:=by
 rw[Int.gcd_comm a b,Int.emod_def,Int.gcd_sub_mul_left_right]
theorem ZqZ{a b:Int}: Int.gcd (Zbd a) (Zbd b)=Int.gcd a b:=by
 unfold Zbd Int.gcd
 split <;> split <;> simp
theorem ZiQ{a:Int}(h:a.natAbs<2 ^ k): Zbd a<2 ^ k:=by
 have:((a.natAbs:Nat):Int)<2 ^ k:=by exact_mod_cast h
 unfold Zbd
 split <;> omega
theorem Zmu{a b:Int}(ha:a.natAbs<2 ^ 200000)(hb:b.natAbs<2 ^ 200000): Zfo [.int a,.int b]=some (.int (Int.gcd a b)):=by
 apply Pk.eq
 unfold Zfo ZmI
 walk_at "zz"
 obtain⟨m,hm,eu⟩:=Ziw (ZdD a) (ZdD b) (ZiQ ha) (ZiQ hb)
 refine Zfv (fun m σ=>∃c d:Int,σ 0=some (.int c)∧σ 1=some (.int d)∧Eu m c d∧Int.gcd c d=Int.gcd a b) _ _ ?_ 1000000 (m:=m) ⟨Zbd a,Zbd b,by walk_at "zr",by walk_at "zr",eu,ZqZ⟩ hm
 rintro m σ ⟨c,d,e0,e1,eu,eg⟩
 walk_at "zz"
 refine⟨fun h=>?_,fun h=>?_⟩
 ·have hd:d≠0:=by simpa using h
  have hd0:0≤d:=eu.2.1
  walk_at "zz"
  rw[Int.fmod_eq_emod_of_nonneg _ hd0]
  obtain⟨m',h1,h2⟩:=eu.step hd
  exact⟨m',h1,d,c % d,by walk_at "zr",by walk_at "zr",h2,by rw[ZgH (by omega)];exact eg⟩
 ·have hd:d=0:=by simpa using h
  subst hd
  walk_at "zz"
  rw[←eg,Int.gcd_zero_right]
  have:=eu.1
  congr 1
  omega
theorem ZiR(ns:List Int)(k:Int): (Zcr ns k).natAbs<2 ^ 134:=by
 have h:=Zrw ns k
 have h2:=Zi0
 have:(2:Nat) ^ 134=21778071482940061661655974875633165533184:=by decide
 omega
theorem ZbS{a:Nat}(h:a<2 ^ i)(hij:i≤j): a<2 ^ j:=Nat.lt_of_lt_of_le h (Nat.pow_le_pow_right (by decide) hij)
noncomputable def SmG(k n:Nat)(G:Nat→Nat→Option Int): Prop:=∀i j,i<n+1→j<n+1→∀b,G i j=some b→b.natAbs<2 ^ k
noncomputable def SmR(k n:Nat)(R:Nat→Int×Int): Prop:=∀t,t<n→(R t).1.natAbs<2 ^ k∧(R t).2.natAbs<2 ^ k
theorem ZhH{m:Int}(h0:0≤m)(hm:m.natAbs<2 ^ k)(hr:r.natAbs<2 ^ k): (ZaH m r).1.natAbs<2 ^ k∧(ZaH m r).2.natAbs<2 ^ k:=by
 unfold ZaH
 split
 ·exact⟨Nat.two_pow_pos k,hr⟩
 ·have h1:=Int.fmod_nonneg_of_pos r (show 0<m by omega)
  have h2:=Int.fmod_lt_of_pos r (show 0<m by omega)
  exact⟨hm,by show(r.fmod m).natAbs<_;omega⟩
theorem Znz(a:Int): (Zbd a).natAbs=a.natAbs:=by unfold Zbd;split <;> omega
theorem Ztm{k x:Int}(hx:x.natAbs<2 ^ 134): (Zep ns k x).1.natAbs<2 ^ 134∧(Zep ns k x).2.natAbs<2 ^ 134:=by
 have h:=Zqn ns k
 have h2:=ZiR ns k
 have e:(2:Nat) ^ 134=21778071482940061661655974875633165533184:=by decide
 unfold Zep
 split
 ·exact⟨by show(1:Nat)<_;omega,by show(0:Nat)<_;omega⟩
 ·split
  ·exact⟨by show(0:Nat)<_;omega,hx⟩
  ·split
   ·exact ZhH (by omega) (by omega) hx
   ·exact ZhH (ZdD _) (by rw[Znz];exact h2) hx
theorem ZpE(hx:∀i,i<n→(x i).natAbs<2 ^ k)(i:Nat)(hi:i<n+1): (ZaQ x i).natAbs<2 ^ k:=by
 cases i with
 | zero=>exact Nat.two_pow_pos k
 | succ i=>exact hx i (by omega)
theorem Zvi{k:Int}(hx:∀i,i<n→(x i).natAbs<2 ^ 134): SmG 136 n (Zcy ns k n x):=by
 intro i j hi hj b h
 have e:(2:Nat) ^ 134=21778071482940061661655974875633165533184:=by decide
 have e2:(2:Nat) ^ 136=4*21778071482940061661655974875633165533184:=by decide
 have h40:=Zi0
 have h1:=ZpE hx i hi
 have h2:=ZpE hx j hj
 unfold Zcy at h
 split at h
 ·cases h;exact Nat.two_pow_pos _
 ·obtain⟨c,h3,h4⟩:=Zz1.mp h
  have:=Zve ns _ h3
  subst h4
  omega
theorem Zqo{k:Int}(hx:∀i,i<n→(x i).natAbs<2 ^ 134): SmR 134 n (ZfQ ns k n x):=fun t ht=>Ztm (hx t ht)
theorem Zvj: RIn q q:=by
 unfold RIn
 split
 ·rfl
 ·simp
theorem Zur{g:PG}{a:Nat→T}(e:β→T)(P:Nat→β→Prop)(hn:n<10000)(hg:Pl (g σ) fun ts=>ts=tab n a)(hf:∀i,i<n→Pk (f (Zaa σ j (a i))) fun t=>∃y,t=e y∧P i y)(d:β)(h:∀y:Nat→β,(∀i,i<n→P i (y i))→Q (.lst (tab n fun i=>e (y i)))): Pk (Zap g (Zac j) Zae f σ) Q:=by
 have hc:∃y:Nat→β,∀i,i<n→Pk (f (Zaa σ j (a i))) (fun t=>t=e (y i))∧P i (y i):=by
  have hx:∀i,∃y:β,i<n→Pk (f (Zaa σ j (a i))) (fun t=>t=e y)∧P i y:=fun i=>by
   by_cases q:i<n
   ·obtain⟨t,e1,y,e2,p⟩:=hf i q
    exact⟨y,fun _=>⟨⟨t,e1,e2⟩,p⟩⟩
   ·exact⟨d,fun h=>absurd h q⟩
  exact⟨fun i=>Classical.choose (hx i),fun i=>Classical.choose_spec (hx i)⟩
 obtain⟨y,hy⟩:=hc
 exact Zcj hn hg (fun i hi=>(hy i hi).1) (h y fun i hi=>(hy i hi).2)
theorem Zie(hn:n<10000)(e:Pk (g σ) fun t=>t=Z7 n G)(h:Q (Z7 n G)): Pk (Zap (ZaD g) (Zac j) Zae (pFl (Zr Zcf (Zd (Za j) Zm))) σ) Q:=by
 refine Zcj (n:=n) (a:=fun i=>Zax n (G i)) (b:=fun i=>Zax n (G i)) hn ?_ (fun i hi=>?_) h
 ·refine ZiK (e.mono ?_)
  rintro _ rfl
  exact Sq.lst rfl
 ·unfold Zax
  walk_at "zz"
  rfl
noncomputable def ZbZ(G:Nat→Nat→Option Int)(i j:Nat)(v:Option Int): Nat→Nat→Option Int:=fun a b=>if a=i∧b=j then v else G a b
theorem Zd5: T.lst (tab n fun a=>T.lst (tab n fun b=>if a=i∧b=j then oT v else oT (G a b)))=Z7 n (ZbZ G i j v):=by
 unfold Z7 Zax ZbZ
 congr 2
 funext a
 congr 2
 funext b
 split <;> rfl
theorem ZiS: ZbZ G i j v i j=v:=by simp[ZbZ]
theorem ZgQ{a:Nat}(h:¬(a=i∧b=j)): ZbZ G i j v a b=G a b:=by simp[ZbZ,h]
theorem ZcH: leO a a:=fun y e=>⟨y,e,Int.le_refl y⟩
theorem Zct{b c:Option Int}(h:leO a b)(k:leO b c): leO a c:=fun y e=>by
 obtain⟨x,e1,l1⟩:=k y e
 obtain⟨w,e2,l2⟩:=h x e1
 exact⟨w,e2,by omega⟩
theorem Zjd{k:Int}(h0:0≤k)(h1:k<n): ∃i:Nat,k=i∧i<n:=⟨k.toNat,by omega,by omega⟩
theorem Zmv{a b:Int}(ha:a.natAbs<2 ^ 200000)(hb:b.natAbs<2 ^ 200000): Zfp [.int a,.int b]=some (.int (Int.gcd a b)):=by
 apply Pk.eq
 unfold Zfp ZmL
 walk_at "zz"
 obtain⟨m,hm,eu⟩:=Ziw (ZdD a) (ZdD b) (ZiQ ha) (ZiQ hb)
 refine Zfv (fun m σ=>∃c d:Int,σ 2=some (.int c)∧σ 3=some (.int d)∧Eu m c d∧Int.gcd c d=Int.gcd a b) _ _ ?_ 1000000 (m:=m) ⟨Zbd a,Zbd b,by walk_at "zr",by walk_at "zr",eu,ZqZ⟩ hm
 rintro m σ ⟨c,d,e0,e1,eu,eg⟩
 walk_at "zz"
 refine⟨fun h=>?_,fun h=>?_⟩
 ·have hd:d≠0:=by simpa using h
  have hd0:0≤d:=eu.2.1
  walk_at "zz"
  rw[Int.fmod_eq_emod_of_nonneg _ hd0]
  obtain⟨m',h1,h2⟩:=eu.step hd
  exact⟨m',h1,d,c % d,by walk_at "zr",by walk_at "zr",h2,by rw[ZgH (by omega)];exact eg⟩
 ·have hd:d=0:=by simpa using h
  subst hd
  walk_at "zz"
  rw[←eg,Int.gcd_zero_right]
  have:=eu.1
  congr 1
  omega
noncomputable def Bd(k:Nat)(x:Int): Prop:=x.natAbs<2 ^ k
theorem Bd.mono{x:Int}(h:Bd i x)(hij:i≤j): Bd j x:=ZbS h hij
theorem Zb3{x:Int}(h:Bd i x)(k:Bd j y)(hi:i≤1000000)(hj:j≤1000000): mulOk x y=true:=Zqb (Nat.le_trans (PyProof.Rows.intBits_le h) (Nat.le_trans hi (by decide))) (Nat.le_trans (PyProof.Rows.intBits_le k) (Nat.le_trans hj (by decide)))
theorem Bd.mul{x:Int}(h:Bd i x)(k:Bd j y): Bd (i+j) (x*y):=by
 unfold Bd at *
 rw[Int.natAbs_mul,Nat.pow_add]
 exact Nat.mul_lt_mul'' h k
theorem Bd.add{x:Int}(h:Bd i x)(k:Bd i y): Bd (i+1) (x+y):=by
 unfold Bd at *
 rw[Nat.pow_succ]
 omega
theorem Bd.sub{x:Int}(h:Bd i x)(k:Bd i y): Bd (i+1) (x-y):=by
 unfold Bd at *
 rw[Nat.pow_succ]
 omega
theorem ZdG{x:Int}(h:Bd i y)(hi:i≤9000): Builtin.divisionGoesByPylong x y=false:=by
 refine PyProof.noPylong_of_log2 ?_
 by_cases h0:y.natAbs=0
 ·rw[h0];decide +kernel
 ·exact Nat.lt_of_lt_of_le ((Nat.log2_lt h0).mpr h) hi
theorem Zda{x:Int}(h:Bd i y)(h0:0≤x)(h1:x≤y): Bd i x:=by unfold Bd at *;omega
theorem Zea(h:1≤i): Bd i 1:=ZbS (i:=1) (by decide) h
theorem ZcK: Bd i 0:=Nat.two_pow_pos i
theorem ZtL{a b:Int}(hb:0<b)(kb:Bd k b)(hk:k≤8000)(ha:0≤a)(hg:Int.gcd a b=1): Pk (Zik [.int a,.int b]) fun t=>∃x:Int,t=.int x∧0≤x∧x<b∧∃q,a*x=1+b*q:=by
 unfold Zik ZmP
 walk_at "zz"
 rw[Int.fmod_eq_emod_of_nonneg _ (by omega)]
 have r0:=Int.emod_nonneg a (show b≠0 by omega)
 have r1:=Int.emod_lt_of_pos a hb
 have hlt:∀x:Int,0≤x→x≤b→x<2 ^ 200000:=fun x h0 h1=>by
  have h2:b.natAbs<2 ^ 200000:=ZbS kb (by omega)
  have h3:((b.natAbs:Nat):Int)<2 ^ 200000:=by exact_mod_cast h2
  omega
 obtain⟨m,hm,eu⟩:=Ziw r0 (show 0≤b by omega) (hlt _ r0 (by omega)) (hlt b (by omega) (by omega))
 have hg0:Int.gcd (a % b) b=1:=by
  rw[Int.gcd_comm,ZgH hb];exact hg
 refine Zfv (fun m σ=>∃l r s t:Int,σ 1=some (.int b)∧σ 2=some (.int l)∧σ 3=some (.int r)∧σ 4=some (.int s)∧σ 5=some (.int t)∧Eu m l r∧Int.gcd l r=1∧l≤b∧r≤b∧(∃q,s*a=l+b*q)∧(∃q,t*a=r+b*q)∧(s.natAbs:Int)*r+(t.natAbs:Int)*l≤b∧(1≤l∨t=0)) _ _ ?_ 1000000 (m:=m) ⟨a % b,b,1,0,by walk_at "zr",by walk_at "zr",by walk_at "zr",by walk_at "zr",by walk_at "zr",eu,hg0,by omega,by omega,⟨a / b,?_⟩,⟨-1,by omega⟩,by simp,.inr rfl⟩ hm
 ·rintro m σ ⟨l,r,s,t,e1,e2,e3,e4,e5,eu,gl,lb,rb,⟨q1,h1⟩,⟨q2,h2⟩,hb1,hl⟩
  walk_at "zz"
  refine⟨fun h=>?_,fun h=>?_⟩
  ·have hr:r≠0:=by simpa using h
   have hr0:0≤r:=eu.2.1
   have hl0:0≤l:=eu.1
   have hrp:0<r:=by omega
   have kr:Bd k r:=Zda kb hr0 rb
   have kl:Bd k l:=Zda kb hl0 lb
   have hdiv0:0≤l / r:=Int.ediv_nonneg hl0 hr0
   have hdiv1:l / r≤l:=Int.ediv_le_self _ hl0
   have ks:(s.natAbs:Int)≤b:=by
    have:(s.natAbs:Int)*1≤(s.natAbs:Int)*r:=Int.mul_le_mul_of_nonneg_left (by omega) (by omega)
    have:0≤(t.natAbs:Int)*l:=Int.mul_nonneg (by omega) hl0
    omega
   have kt:(t.natAbs:Int)≤b:=by
    rcases hl with hl | hl
    ·have:(t.natAbs:Int)*1≤(t.natAbs:Int)*l:=Int.mul_le_mul_of_nonneg_left (by omega) (by omega)
     have:0≤(s.natAbs:Int)*r:=Int.mul_nonneg (by omega) hr0
     omega
    ·rw[hl];simp;omega
   have kt':Bd k t:=by unfold Bd at *;omega
   have kd:Bd k (l / r):=Zda kl hdiv0 hdiv1
   walk_at "zz"
   refine Zc6 hr (ZdG kr (by omega)) ?_
   rw[Int.fdiv_eq_ediv_of_nonneg _ hr0]
   walk_at "zz"
   refine ZbT (Zb3 kd kr (by omega) (by omega)) ?_
   walk_at "zz"
   refine ZbT (Zb3 kd kt' (by omega) (by omega)) ?_
   walk_at "zz"
   have hover:l-l / r*r=l % r:=by
    have:=Int.emod_add_mul_ediv l r
    rw[Int.mul_comm r (l / r)]at this
    omega
   rw[hover]
   obtain⟨m',hm1,hm2⟩:=eu.step hr
   have o0:=Int.emod_nonneg l hr
   have o1:=Int.emod_lt_of_pos l hrp
   refine⟨m',hm1,r,l % r,t,s-l / r*t,by walk_at "zr",by walk_at "zr",by walk_at "zr",by walk_at "zr",by walk_at "zr",hm2,by rw[ZgH hrp];exact gl,rb,by omega,⟨q2,h2⟩,⟨q1-l / r*q2,?_⟩,?_,.inl (by omega)⟩
   ·rw[Int.sub_mul,h1,Int.mul_assoc,h2,Int.mul_add,Int.mul_sub,←hover]
    have e1:b*(l / r*q2)=l / r*(b*q2):=by rw[←Int.mul_assoc,Int.mul_comm b,Int.mul_assoc]
    rw[e1]
    omega
   ·have ht:((s-l / r*t).natAbs:Int)≤(s.natAbs:Int)+l / r*(t.natAbs:Int):=by
     have h3:(s-l / r*t).natAbs≤s.natAbs+(l / r*t).natAbs:=by omega
     have h4:(l / r*t).natAbs=(l / r).natAbs*t.natAbs:=Int.natAbs_mul ..
     have h5:(((l / r).natAbs*t.natAbs:Nat):Int)=l / r*(t.natAbs:Int):=by
      rw[Int.natCast_mul,Int.natAbs_of_nonneg hdiv0]
     rw[h4]at h3
     omega
    have h6:((s-l / r*t).natAbs:Int)*r≤((s.natAbs:Int)+l / r*(t.natAbs:Int))*r:=Int.mul_le_mul_of_nonneg_right ht hr0
    have h7:((s.natAbs:Int)+l / r*(t.natAbs:Int))*r=(s.natAbs:Int)*r+(t.natAbs:Int)*(l / r*r):=by
     rw[Int.add_mul,Int.mul_comm (l / r) (t.natAbs:Int),Int.mul_assoc]
    have h8:(t.natAbs:Int)*(l % r)+(t.natAbs:Int)*(l / r*r)=(t.natAbs:Int)*l:=by
     rw[←Int.mul_add,←hover]
     congr 1
     omega
    omega
  ·have hr:r=0:=by simpa using h
   subst hr
   rw[Int.gcd_zero_right]at gl
   have hl1:l=1:=by have:=eu.1;omega
   subst hl1
   walk_at "zz"
   rw[Int.fmod_eq_emod_of_nonneg _ (by omega)]
   refine⟨s % b,rfl,Int.emod_nonneg _ (by omega),Int.emod_lt_of_pos _ hb,q1-s / b*a,?_⟩
   have h3:=Int.emod_add_mul_ediv s b
   have h4:s % b=s-b*(s / b):=by omega
   rw[h4,Int.mul_sub,Int.mul_comm a s,h1,Int.mul_sub]
   have e1:a*(b*(s / b))=b*(s / b*a):=by rw[Int.mul_comm a,Int.mul_assoc]
   rw[e1]
   omega
 ·have h3:=Int.emod_add_mul_ediv a b
  rw[Int.one_mul]
  omega
theorem ZhI{m:Int}(h:0≤m): ZeO [.int m,.int r]=some (Z4 (ZaH m r)):=by
 apply Pk.eq
 unfold ZeO Zoi ZaH
 by_cases c:m=0
 ·walk_at "zz"
  rw[if_pos c];rfl
 ·walk_at "zz"
  rw[if_neg c];rfl
theorem Zbj(h:0≤q.1)(x:Int): Zau q x↔q.1 ∣ x-q.2:=by
 unfold Zau
 by_cases c:q.1=0
 ·rw[c]
  simp
  omega
 ·have:0<q.1:=by omega
  simp only[c,false_implies,true_and,this,true_implies]
  exact(Int.dvd_iff_emod_eq_zero).symm
theorem Zus{m:Int}(h:0≤m): 0≤(ZaH m r).1:=by unfold ZaH;split <;> simp[h]
theorem Zdh{m:Int}(h:0≤m)(x:Int): Zau (ZaH m r) x↔m ∣ x-r:=by
 rw[Zbj (Zus h)]
 unfold ZaH
 split
 ·rename_i c;subst c;rfl
 ·show m ∣ x-r.fmod m↔_
  rw[Int.fmod_eq_emod_of_nonneg _ h]
  have h1:x-r % m=(x-r)+m*(r / m):=by have:=Int.emod_add_mul_ediv r m;omega
  rw[h1]
  constructor
  ·intro q
   have:=Int.dvd_sub q (Int.dvd_mul_right m (r / m))
   rwa [Int.add_sub_cancel]at this
  ·intro q
   exact Int.dvd_add q (Int.dvd_mul_right m (r / m))
theorem RestOk.nn(h:RestOk q): 0≤q.1:=by rcases h with h | h <;> omega
theorem RestOk.self(h:RestOk q): Zau q q.2:=by rw[Zbj h.nn];simp
theorem ZhY(hp:RestOk p)(hq:RestOk q)(h:∀x,Zau p x↔Zau q x): p=q:=by
 have e1:∀x,p.1 ∣ x-p.2↔q.1 ∣ x-q.2:=fun x=>by rw[←Zbj hp.nn,←Zbj hq.nn];exact h x
 have a1:q.1 ∣ p.2-q.2:=(e1 p.2).mp (by simp)
 have a2:q.1 ∣ p.2+p.1-q.2:=(e1 (p.2+p.1)).mp (by rw[show p.2+p.1-p.2=p.1 by omega];exact Int.dvd_refl _)
 have b1:p.1 ∣ q.2-p.2:=(e1 q.2).mpr (by simp)
 have b2:p.1 ∣ q.2+q.1-p.2:=(e1 (q.2+q.1)).mpr (by rw[show q.2+q.1-q.2=q.1 by omega];exact Int.dvd_refl _)
 have c1:q.1 ∣ p.1:=by have:=Int.dvd_sub a2 a1;rwa [show p.2+p.1-q.2-(p.2-q.2)=p.1 by omega]at this
 have c2:p.1 ∣ q.1:=by have:=Int.dvd_sub b2 b1;rwa [show q.2+q.1-p.2-(q.2-p.2)=q.1 by omega]at this
 have em:p.1=q.1:=Int.dvd_antisymm hp.nn hq.nn c2 c1
 have er:p.2=q.2:=by
  rcases hp with hp | hp
  ·rw[hp]at em
   rw[←em]at a1
   have:=Int.zero_dvd.mp a1
   omega
  ·rcases hq with hq | hq
   ·omega
   ·rw[←em]at a1 hq
    obtain⟨k,hk⟩:=a1
    have:k=0:=by
     rcases Int.lt_trichotomy k 0 with h | h | h
     ·have:p.1*k≤p.1*(-1):=Int.mul_le_mul_of_nonneg_left (by omega) (by omega)
      omega
     ·exact h
     ·have:p.1*1≤p.1*k:=Int.mul_le_mul_of_nonneg_left (by omega) (by omega)
      omega
    subst this
    simp at hk
    omega
 exact Prod.ext em er
noncomputable def RBd(k:Nat)(q:Int×Int): Prop:=Bd k q.1∧Bd k q.2
theorem ZgA{m:Int}(h0:0≤m)(hm:Bd k m)(hr:Bd k r): RBd k (ZaH m r):=ZhH h0 hm hr
noncomputable def ZbG(p q:Int×Int): Int×Int:=ZaH (Int.gcd p.1 q.1) (p.2+q.2)
theorem Zix(p q:Int×Int): RestOk (ZbG p q):=Zcs (by omega) _
theorem Zk6(hk:k≤200000)(hp:Bd k p.1)(hq:Bd k q.1): Zfb [Z4 p,Z4 q]=some (Z4 (ZbG p q)):=by
 apply Pk.eq
 unfold Zfb Zlj Z4 ZbG
 walk_at "zz"
 refine ZH (Zmv (ZbS hp hk) (ZbS hq hk)) ?_
 walk_at "zz"
 exact ZH (ZhI (by omega)) rfl
noncomputable def ZcJ(p:Int×Int)(k:Int): Int×Int:=ZaH (p.1*Zbd k) (p.2*k)
theorem ZkE{c:Int}(hk:k≤200000)(hp0:0≤p.1)(hp:RBd k p)(hc:Bd k c): Ze9 [Z4 p,.int c]=some (Z4 (ZcJ p c)):=by
 apply Pk.eq
 unfold Ze9 ZkM Z4 ZcJ
 have ha:Bd k (Zbd c):=by unfold Bd at *;rw[Znz];exact hc
 walk_at "zz"
 refine ZbT (Zb3 hp.1 ha (by omega) (by omega)) ?_
 walk_at "zz"
 refine ZbT (Zb3 hp.2 hc (by omega) (by omega)) ?_
 walk_at "zz"
 exact ZH (ZhI (Int.mul_nonneg hp0 (ZdD c))) rfl
noncomputable def ZdH(p:Int×Int)(top:Int): Option Int:=if p.1=0 then(if p.2≤top then some p.2 else none)else some (top-(top-p.2) % p.1)
theorem ZsG(hp:0≤p.1): ZhD [Z4 p,.int top]=some (oT (ZdH p top)):=by
 apply Pk.eq
 unfold ZhD ZkQ Z4 ZdH
 by_cases c:p.1=0
 ·rw[if_pos c]
  by_cases d:p.2≤top
  ·walk_at "zz"
   rw[if_pos d];rfl
  ·walk_at "zz"
   rw[if_neg d];rfl
 ·rw[if_neg c]
  walk_at "zz"
  rw[Int.fmod_eq_emod_of_nonneg _ hp]
  rfl
noncomputable def oR: Option (Int×Int)→T
 | none=>.none
 | some q=>Z4 q
noncomputable def Met(p q:Int×Int)(o:Option (Int×Int)): Prop:=match o with
 | none=>∀x,¬(Zau p x∧Zau q x)
 | some r=>RestOk r∧(∀x,Zau r x↔Zau p x∧Zau q x)
theorem ZpF{a b:Option (Int×Int)}(ha:Met p q a)(hb:Met p q b): a=b:=by
 cases a with
 | none=>
  cases b with
  | none=>rfl
  | some r=>exact absurd ((hb.2 r.2).mp hb.1.self) (ha r.2)
 | some s=>
  cases b with
  | none=>exact absurd ((ha.2 s.2).mp ha.1.self) (hb s.2)
  | some r=>rw[ZhY ha.1 hb.1 fun x=>(ha.2 x).trans (hb.2 x).symm]
theorem ZlI(hk:k≤8000)(op:RestOk p)(oq:RestOk q)(bp:RBd k p)(bq:RBd k q): Pk (Zgj [Z4 p,Z4 q]) fun t=>∃o,t=oR o∧Met p q o∧∀r,o=some r→(r=p∨r=q∨(p.1≠0∧q.1≠0∧r.1=Int.lcm p.1 q.1)):=by
 unfold Zgj Zl3
 have ep:Z4 p=.tup [.int p.1,.int p.2]:=rfl
 have eq:Z4 q=.tup [.int q.1,.int q.2]:=rfl
 have np:=op.nn
 have nq:=oq.nn
 by_cases c1:p.1=0
 ·rw[ep]
  walk_at "zz"
  refine ZH (ZhX oq) ?_
  walk_at "zz"
  have hone:∀x,Zau p x↔x=p.2:=fun x=>by rw[Zbj np,c1,Int.zero_dvd];omega
  refine⟨fun e=>?_,fun e=>?_⟩
  ·walk_at "zz"
   refine⟨some p,rfl,⟨op,fun x=>⟨fun h=>⟨h,?_⟩,fun h=>h.1⟩⟩,fun r e=>by cases e;exact .inl rfl⟩
   rw[(hone x).mp h];exact dec_iff.mp e
  ·walk_at "zz"
   refine⟨none,rfl,fun x h=>?_,by simp⟩
   have:=(hone x).mp h.1
   subst this
   have h2:=Za0 h.2
   rw[h2]at e
   cases e
 by_cases c2:q.1=0
 ·have hone:∀x,Zau q x↔x=q.2:=fun x=>by rw[Zbj nq,c2,Int.zero_dvd];omega
  rw[ep,eq]
  walk_at "zz"
  rw[←ep]
  refine ZH (ZhX op) ?_
  walk_at "zz"
  refine⟨fun e=>?_,fun e=>?_⟩
  ·walk_at "zz"
   refine⟨some q,rfl,⟨oq,fun x=>⟨fun h=>⟨?_,h⟩,fun h=>h.2⟩⟩,fun r e=>by cases e;exact .inr (.inl rfl)⟩
   rw[(hone x).mp h];exact dec_iff.mp e
  ·walk_at "zz"
   refine⟨none,rfl,fun x h=>?_,by simp⟩
   have:=(hone x).mp h.2
   subst this
   have h2:=Za0 h.1
   rw[h2]at e
   cases e
 ·have pp:0<p.1:=by omega
  have pq:0<q.1:=by omega
  obtain⟨g,hg⟩:∃g:Nat,Int.gcd p.1 q.1=g:=⟨_,rfl⟩
  have hg0:0<(g:Int):=by
   have:Int.gcd p.1 q.1≠0:=fun h=>c1 (Int.gcd_eq_zero_iff.mp h).1
   omega
  have gp:(g:Int) ∣ p.1:=by rw[←hg];exact Int.gcd_dvd_left ..
  have gq:(g:Int) ∣ q.1:=by rw[←hg];exact Int.gcd_dvd_right ..
  obtain⟨a,ea⟩:=gp
  obtain⟨b,eb⟩:=gq
  have ha:0<a:=by
   rcases Int.lt_trichotomy a 0 with h | h | h
   ·have:=Int.mul_neg_of_pos_of_neg hg0 h;omega
   ·subst h;simp at ea;omega
   ·exact h
  have hb:0<b:=by
   rcases Int.lt_trichotomy b 0 with h | h | h
   ·have:=Int.mul_neg_of_pos_of_neg hg0 h;omega
   ·subst h;simp at eb;omega
   ·exact h
  have da:p.1 / g=a:=by rw[ea];exact Int.mul_ediv_cancel_left _ (by omega)
  have db:q.1 / g=b:=by rw[eb];exact Int.mul_ediv_cancel_left _ (by omega)
  have kg:Bd k (g:Int):=Zda bp.1 (by omega) (by
   rw[ea]
   have:(g:Int)*1≤g*a:=Int.mul_le_mul_of_nonneg_left (by omega) (by omega)
   omega)
  have kb:Bd k b:=Zda bq.1 (by omega) (by
   rw[eb]
   have:1*b≤g*b:=Int.mul_le_mul_of_nonneg_right (by omega) (by omega)
   omega)
  have cop:Int.gcd a b=1:=by
   have h1:=Int.gcd_mul_left (g:Int) a b
   rw[←ea,←eb,hg,Int.natAbs_natCast]at h1
   have h2:g*1=g*Int.gcd a b:=by omega
   exact(Nat.eq_of_mul_eq_mul_left (by omega) h2).symm
  rw[ep,eq]
  walk_at "zz"
  refine ZH (Zmv (ZbS bp.1 (by omega)) (ZbS bq.1 (by omega))) ?_
  rw[hg]
  walk_at "zz"
  rw[Int.fmod_eq_emod_of_nonneg _ (by omega)]
  by_cases c3:(q.2-p.2) % (g:Int)=0
  ·obtain⟨d,ed⟩:=Int.dvd_of_emod_eq_zero c3
   have dd:(q.2-p.2) / g=d:=by rw[ed];exact Int.mul_ediv_cancel_left _ (by omega)
   have kd:Bd (k+1) d:=by
    have h1:Bd (k+1) (q.2-p.2):=Bd.sub bq.2 bp.2
    unfold Bd at *
    rw[ed,Int.natAbs_mul]at h1
    have:1*d.natAbs≤(g:Int).natAbs*d.natAbs:=Nat.mul_le_mul_right _ (by omega)
    omega
   walk_at "zz"
   refine Zc6 (by omega) (ZdG kg (by omega)) ?_
   rw[Int.fdiv_eq_ediv_of_nonneg _ (by omega),db]
   walk_at "zz"
   refine Zc6 (by omega) (ZdG kg (by omega)) ?_
   rw[Int.fdiv_eq_ediv_of_nonneg _ (by omega),dd]
   walk_at "zz"
   refine Zc6 (by omega) (ZdG kg (by omega)) ?_
   rw[Int.fdiv_eq_ediv_of_nonneg _ (by omega),da]
   walk_at "zz"
   refine(ZtL hb kb hk (by omega) cop).mono ?_
   rintro _ ⟨y,rfl,y0,y1,z,hz⟩
   have ky:Bd k y:=Zda kb y0 (by omega)
   walk_at "zz"
   refine ZbT (Zb3 kd ky (by omega) (by omega)) ?_
   walk_at "zz"
   refine ZbT (Zb3 bp.1 kb (by omega) (by omega)) ?_
   walk_at "zz"
   refine ZbT (Zb3 bp.1 (Bd.mul kd ky) (by omega) (by omega)) ?_
   walk_at "zz"
   have hL:(p.1*b).natAbs=Int.lcm p.1 q.1:=by
    have h1:=Int.gcd_mul_lcm p.1 q.1
    rw[hg]at h1
    have h2:p.1.natAbs*q.1.natAbs=g*(p.1*b).natAbs:=by
     rw[Int.natAbs_mul]
     conv=>lhs;rw[show q.1.natAbs=g*b.natAbs by rw[eb,Int.natAbs_mul,Int.natAbs_natCast]]
     rw[←Nat.mul_assoc,Nat.mul_comm p.1.natAbs g,Nat.mul_assoc]
    have h3:g*Int.lcm p.1 q.1=g*(p.1*b).natAbs:=by omega
    exact(Nat.eq_of_mul_eq_mul_left (by omega) h3).symm
   have hpb:0<p.1*b:=Int.mul_pos pp hb
   refine ZH (ZhI (by omega)) ⟨some _,rfl,⟨Zcs (by omega) _,fun x=>?_⟩,fun r e=>?_⟩
   ·rw[Zdh (by omega),Zbj np,Zbj nq]
    have hx0:p.1*(d*y)=(q.2-p.2)+q.1*(d*z):=by
     rw[ed,ea,eb]
     have:(g:Int)*a*(d*y)=g*d*(a*y):=by
      rw[Int.mul_assoc,Int.mul_assoc,Int.mul_left_comm a d y]
     rw[this,hz,Int.mul_add,Int.mul_one]
     congr 1
     rw[Int.mul_assoc,Int.mul_assoc,Int.mul_left_comm d b z]
    constructor
    ·intro h
     have h1:p.1 ∣ x-(p.2+p.1*(d*y)):=Int.dvd_trans (Int.dvd_mul_right _ _) h
     have h2:q.1 ∣ x-(p.2+p.1*(d*y)):=Int.dvd_trans ⟨a,by rw[ea,eb];rw[Int.mul_assoc,Int.mul_assoc,Int.mul_comm a b]⟩ h
     refine⟨?_,?_⟩
     ·have:=Int.dvd_add h1 (Int.dvd_mul_right p.1 (d*y))
      rwa [show x-(p.2+p.1*(d*y))+p.1*(d*y)=x-p.2 by omega]at this
     ·have:=Int.dvd_add h2 (Int.dvd_mul_right q.1 (d*z))
      rwa [show x-(p.2+p.1*(d*y))+q.1*(d*z)=x-q.2 by omega]at this
    ·rintro⟨h1,h2⟩
     have h3:p.1 ∣ x-(p.2+p.1*(d*y)):=by
      have:=Int.dvd_sub h1 (Int.dvd_mul_right p.1 (d*y))
      rwa [show x-p.2-p.1*(d*y)=x-(p.2+p.1*(d*y))by omega]at this
     have h4:q.1 ∣ x-(p.2+p.1*(d*y)):=by
      have:=Int.dvd_sub h2 (Int.dvd_mul_right q.1 (d*z))
      rwa [show x-q.2-q.1*(d*z)=x-(p.2+p.1*(d*y))by omega]at this
     have h5:=Int.lcm_dvd (Int.dvd_natAbs.mpr h3) (Int.dvd_natAbs.mpr h4)
     rw[←hL]at h5
     have h6:(((p.1*b).natAbs:Nat):Int) ∣ (((x-(p.2+p.1*(d*y))).natAbs:Nat):Int):=Int.natCast_dvd_natCast.mpr h5
     exact Int.natAbs_dvd.mp (Int.dvd_natAbs.mp h6)
   ·cases e
    refine .inr (.inr ⟨c1,c2,?_⟩)
    unfold ZaH
    rw[if_neg (by omega)]
    show p.1*b=_
    rw[←hL]
    omega
  ·walk_at "zz"
   refine⟨none,rfl,fun x h=>c3 ?_,by simp⟩
   rw[Zbj np,Zbj nq]at h
   have h1:(g:Int) ∣ x-p.2:=Int.dvd_trans ⟨a,ea⟩ h.1
   have h2:(g:Int) ∣ x-q.2:=Int.dvd_trans ⟨b,eb⟩ h.2
   have h3:=Int.dvd_sub h1 h2
   rw[show x-p.2-(x-q.2)=q.2-p.2 by omega]at h3
   exact Int.emod_eq_zero_of_dvd h3
theorem Zje{a b:Int}(ha:Bd k a)(hb:Bd k b): Bd k ((Int.gcd a b:Nat):Int):=by
 unfold Bd at *
 rw[Int.natAbs_natCast]
 by_cases z:a=0
 ·rw[z,Int.gcd_zero_left];exact hb
 ·exact Nat.lt_of_le_of_lt (Nat.gcd_le_left _ (by omega)) ha
noncomputable def Za1(a b:Option Int): Option Int:=if dec (leO a b)then a else b
noncomputable def Zaj: Option Int→Option Int→Option Int
 | some a,some b=>some (a+b)
 | _,_=>none
theorem addO_some{b:Option Int}{c:Int}: Zaj a b=some c↔∃x y,a=some x∧b=some y∧x+y=c:=by
 cases a <;> cases b <;> simp[Zaj]
theorem leO_total{b:Option Int}(h:¬leO a b): leO b a:=by
 cases a with
 | none=>exact Zdk
 | some x=>
  cases b with
  | none=>exact absurd Zdk h
  | some y=>rw[leO_some]at h ⊢;omega
theorem ZfL{b:Option Int}: leO (Za1 a b) a:=by
 unfold Za1
 split
 ·exact ZcH
 ·rename_i h;exact leO_total fun q=>h (Za0 q)
theorem Zrx{b:Option Int}: leO (Za1 a b) b:=by
 unfold Za1
 split
 ·rename_i h;exact dec_iff.mp h
 ·exact ZcH
theorem ZeK(a b:Option Int): Za1 a b=a∨Za1 a b=b:=by
 unfold Za1;split <;> simp
theorem Zs0{b:Option Int}(h:leO a b)(k:leO b a): a=b:=by
 cases a with
 | none=>
  cases b with
  | none=>rfl
  | some y=>exact absurd h ZiO
 | some x=>
  cases b with
  | none=>exact absurd k ZiO
  | some y=>rw[leO_some]at h k;rw[show x=y by omega]
theorem Zek{b:Option Int}(h:leO a b): Za1 a b=a:=by unfold Za1;rw[Za0 h];rfl
theorem Zft{b c d:Option Int}(h:leO a c)(k:leO b d): leO (Zaj a b) (Zaj c d):=by
 intro y e
 obtain⟨p,q,rfl,rfl,rfl⟩:=addO_some.mp e
 obtain⟨p',rfl,l1⟩:=h p rfl
 obtain⟨q',rfl,l2⟩:=k q rfl
 exact⟨p'+q',rfl,by omega⟩
theorem Zry: Zaj a (some 0)=a:=by cases a <;> simp[Zaj]
theorem Zrz: Zaj (some 0) a=a:=by cases a <;> simp[Zaj]
theorem Zgo{b c:Option Int}: Zaj (Zaj a b) c=Zaj a (Zaj b c):=by cases a <;> cases b <;> cases c <;> simp[Zaj,Int.add_assoc]
theorem Zfe{b:Option Int}: ZdS [oT a,oT b]=some (oT (Zaj a b)):=by
 apply Pk.eq
 unfold ZdS Zl5
 cases a with
 | none=>
  rw[Zbf]
  walk_at "zz"
  rfl
 | some x=>
  cases b with
  | none=>
   rw[Zbf,Zao]
   walk_at "zz"
   rfl
  | some y=>
   rw[Zao,Zao]
   walk_at "zz"
   rfl
theorem ZpX{b:Option Int}: ZgF [oT a,oT b]=some (oT (Za1 a b)):=by
 apply Pk.eq
 unfold ZgF Zns Za1
 walk_at "zz"
 refine ZH Zk5 ?_
 walk_at "zz"
 refine⟨fun e=>?_,fun e=>?_⟩
 ·walk_at "zz"
  rw[e];rfl
 ·walk_at "zz"
  rw[e];rfl
noncomputable def Zb0(G:Nat→Nat→Option Int)(m:Nat): Nat→Nat→Option Int:=fun i j=>Za1 (G i j) (Zaj (G i m) (G m j))
theorem ZrW{a b:Nat→Option Int}{c:Option Int}(hn:n<10000): Zhi [Zax n a,oT c,Zax n b]=some (Zax n fun j=>Za1 (a j) (Zaj c (b j))):=by
 apply Pk.eq
 unfold Zhi ZjG Zax
 walk_at "zz"
 refine Zno (n:=n) (a:=fun j=>oT (a j)) (b:=fun j=>oT (b j)) (c:=fun j=>oT (Za1 (a j) (Zaj c (b j)))) hn ?_ (fun j hj=>?_) ?_
 ·walk_at "zz"
  rfl
 ·walk_at "zz"
  refine ZH Zfe ?_
  walk_at "zz"
  exact ZH ZpX ⟨ZeJ,rfl⟩
 rfl
theorem Zs1(hn:n<10000)(hm:m<n): ZhO [Z7 n G,.int m]=some (Z7 n (Zb0 G m)):=by
 apply Pk.eq
 unfold ZhO Zln Z7
 walk_at "zz"
 refine Zcj (n:=n) (a:=fun i=>Zax n (G i)) (b:=fun i=>Zax n (Zb0 G m i)) hn ?_ (fun i hi=>?_) ?_
 ·walk_at "zz"
  rfl
 ·have h:Zax n (G i)=.lst (tab n fun j=>oT (G i j)):=rfl
  rw[h]
  walk_at "zz"
  rw[←h]
  exact ZH (ZrW hn) rfl
 rfl
noncomputable def Neg(n:Nat)(G:Nat→Nat→Option Int): Prop:=∃i,i<n∧∃b,G i i=some b∧b<0
theorem Zvk(hn:n≤1000)(hd:∀i,i<n→∃b,G i i=some b): Zho [Z7 n G]=some (.bool (dec (Neg n G))):=by
 apply Pk.eq
 unfold Zho Zj1 Z7 Zax
 walk_at "zz"
 refine Zcj (n:=n) (a:=fun i=>.int i) (b:=fun i=>.bool (dec (∃b,G i i=some b∧b<0))) (by omega) ?_ (fun i hi=>?_) ?_
 ·walk_at "zz"
  rfl
 ·walk_at "zz"
  obtain⟨b,e⟩:=hd i hi
  rw[e,Zao]
  walk_at "zz"
  rw[Zh1]
  congr 1
  refine ZmD ⟨fun h=>⟨b,rfl,h⟩,?_⟩
  rintro⟨c,e,h⟩
  cases e
  exact h
 walk_at "zz"
 rfl
noncomputable def clG(G:Nat→Nat→Option Int): Nat→Nat→Nat→Option Int
 | 0=>G
 | m+1=>Zb0 (clG G m) m
theorem Zqp(h:∃b,G i i=some b): ∃b,Zb0 G m i i=some b:=by
 obtain⟨b,e⟩:=h
 have:=ZfL (a:=G i i) (b:=Zaj (G i m) (G m i))
 rw[e]at this
 obtain⟨c,e2,_⟩:=this b rfl
 exact⟨c,by unfold Zb0;rw[e];exact e2⟩
theorem ZnX{n:Nat}{G:Nat→Nat→Option Int}(hd:∀i,i<n→∃b,G i i=some b): ∀m i,i<n→∃b,clG G m i i=some b
 | 0=>hd
 | m+1=>fun i hi=>Zqp (ZnX hd m i hi)
theorem Zut(h0:0<n)(hn:n≤1000)(hd:∀i,i<n→∃b,G i i=some b): Pk (ZgG [Z7 n G]) fun t=>(t=Z7 n (clG G n)∧∀m,m<n→¬Neg n (clG G (m+1)))∨(t=.none∧∃m,m<n∧Neg n (clG G (m+1))):=by
 unfold ZgG Znu
 have hg:Z7 n G=.lst (tab n fun i=>Zax n (G i)):=rfl
 walk_at "zz"
 refine Zwf (n:=n) (a:=fun i=>.int i) h0 ?_ (P:=fun i σ=>σ 1=some (Z7 n (clG G i))∧∀m,m<i→¬Neg n (clG G (m+1))) ⟨rfl,by omega⟩ ?_ ?_
 ·walk_at "zz"
  rw[hg]
  walk_at "zz"
  rfl
 ·rintro i σ hi ⟨e1,e2⟩
  walk_at "zz"
  refine ZH (Zs1 (by omega) hi) ?_
  walk_at "zz"
  refine ZH (Zvk hn fun a ha=>Zqp (ZnX hd i a ha)) ?_
  walk_at "zz"
  refine⟨fun e=>?_,fun e=>?_⟩
  ·walk_at "zz"
   exact .inr ⟨rfl,i,hi,dec_iff.mp e⟩
  ·walk_at "zz"
   refine⟨by walk_at "zr",fun m hm=>?_⟩
   by_cases q:m=i
   ·subst q
    intro h
    have h2:dec (Neg n (Zb0 (clG G m) m))=true:=Za0 h
    rw[h2]at e
    cases e
   ·exact e2 m (by omega)
 ·rintro σ ⟨e1,e2⟩
  walk_at "zz"
  exact .inl ⟨rfl,e2⟩
theorem Zg8{G:Nat→Nat→Option Int}: ∀m i j,leO (clG G m i j) (G i j)
 | 0=>fun _ _=>ZcH
 | m+1=>fun i j=>Zct ZfL (Zg8 m i j)
theorem ZeL(hd:∀i,i<n→G i i=some 0)(hn:∀k,k<m→¬Neg n (clG G (k+1))): ∀i,i<n→clG G m i i=some 0:=by
 intro i hi
 obtain⟨b,e⟩:=ZnX (fun i hi=>⟨0,hd i hi⟩) m i hi
 have h:=Zg8 m i i (G:=G)
 rw[hd i hi,e]at h
 have h1:=leO_some.mp h
 have h2:¬b<0:=fun q=>by
  cases m with
  | zero=>have:=hd i hi;rw[show clG G 0 i i=G i i from rfl,this]at e;cases e;omega
  | succ m=>exact hn m (by omega) ⟨i,hi,b,e,q⟩
 rw[e,show b=0 by omega]
theorem Zom{n:Nat}{G:Nat→Nat→Option Int}(hd:∀i,i<n→G i i=some 0): ∀m,m≤n→(∀k,k<m→¬Neg n (clG G (k+1)))→∀k,k<m→∀i j,i<n→j<n→leO (clG G m i j) (Zaj (clG G m i k) (clG G m k j))
 | 0,_,_,k,hk=>by omega
 | m+1,hm,hn,k,hk=>by
  intro i j hi hj
  have z:=ZeL hd (fun k hk=>hn k (by omega):∀k,k<m→_)
  have ih:=Zom hd m (by omega) (fun k hk=>hn k (by omega))
  generalize hD:clG G m=D at z ih
  have hs:clG G (m+1)=Zb0 D m:=by rw[←hD];rfl
  rw[hs]
  have zm:=z m (by omega)
  have cm:∀a,Zb0 D m a m=D a m:=fun a=>by unfold Zb0;rw[zm,Zry];exact Zek ZcH
  have rm:∀b,Zb0 D m m b=D m b:=fun b=>by unfold Zb0;rw[zm,Zrz];exact Zek ZcH
  by_cases q:k=m
  ·subst q
   rw[cm,rm]
   exact Zrx
  ·have hk':k<m:=by omega
   have t1:=ih k hk' i j hi hj
   have t2:=ih k hk' i m hi (by omega)
   have t3:=ih k hk' m j (by omega) hj
   have t4:=ih k hk' m m (by omega) (by omega)
   rw[zm]at t4
   have dn:leO (Zb0 D m i j) (Zaj (D i m) (D m j)):=Zrx
   have d0:leO (Zb0 D m i j) (D i j):=ZfL
   rcases ZeK (D i k) (Zaj (D i m) (D m k))with e1 | e1 <;> rcases ZeK (D k j) (Zaj (D k m) (D m j))with e2 | e2
   ·rw[show Zb0 D m i k=_ from e1,show Zb0 D m k j=_ from e2]
    exact Zct d0 t1
   ·rw[show Zb0 D m i k=_ from e1,show Zb0 D m k j=_ from e2,←Zgo]
    exact Zct dn (Zft t2 ZcH)
   ·rw[show Zb0 D m i k=_ from e1,show Zb0 D m k j=_ from e2,Zgo]
    exact Zct dn (Zft ZcH t3)
   ·rw[show Zb0 D m i k=_ from e1,show Zb0 D m k j=_ from e2,Zgo,←Zgo (a:=D m k)]
    refine Zct dn (Zft ZcH ?_)
    have:=Zft t4 (ZcH (a:=D m j))
    rwa [Zrz]at this
noncomputable def Zg9(n:Nat)(G:Nat→Nat→Option Int)(y:Nat→Int): Prop:=∀i j,i<n→j<n→∀b,G i j=some b→y i-y j≤b
theorem ZnA{n:Nat}{G:Nat→Nat→Option Int}{y:Nat→Int}(h:Zg9 n G y): ∀m,m≤n→Zg9 n (clG G m) y
 | 0,_=>h
 | m+1,hm=>by
  have ih:=ZnA h m (by omega)
  intro i j hi hj b e
  rcases ZeK (clG G m i j) (Zaj (clG G m i m) (clG G m m j))with e1 | e1
  ·rw[show clG G (m+1) i j=_ from e1]at e;exact ih i j hi hj b e
  ·rw[show clG G (m+1) i j=_ from e1]at e
   obtain⟨p,q,h1,h2,h3⟩:=addO_some.mp e
   have:=ih i m hi (by omega) p h1
   have:=ih m j (by omega) hj q h2
   omega
theorem Zuu{y:Nat→Int}(h:Zg9 n G y): ¬Neg n G:=by
 rintro⟨i,hi,b,e,hb⟩
 have:=h i i hi hi b e
 omega
theorem ZpG(h:ZaY n G R x): Zg9 (n+1) G (ZaQ x):=fun i j hi hj b e=>h.1 i j hi hj b e
theorem Zm3{k:Int}: Zfc [.int k]=some (.bool true):=by
 apply Pk.eq
 unfold Zfc Zlp
 walk_at "zz"
 rfl
theorem Zwl(hn:n≤1000)(hd:∀i,i<n→G i i=some 0): Zh7 [Z7 n G,.int n]=some (.bool true):=by
 apply Pk.eq
 unfold Zh7 Zl8 Z7 Zax
 walk_at "zz"
 refine ZbU (n:=n) (a:=fun i=>.int i) (P:=fun i σ=>σ 0=some (Z7 n G)∧σ 1=some (.int n)) ?_ ⟨rfl,rfl⟩ ?_ ?_
 ·walk_at "zz"
  rfl
 ·rintro i σ hi ⟨e0,e1⟩
  unfold Z7 Zax at e0
  walk_at "zz"
  refine ZbU (n:=n) (a:=fun j=>oT (G i j)) (P:=fun j σ=>σ 0=some (Z7 n G)∧σ 1=some (.int n)∧σ 2=some (.int i)) ?_ ⟨by walk_at "zr",by walk_at "zr",by walk_at "zr"⟩ ?_ ?_
  ·walk_at "zz"
   rfl
  ·rintro j σ hj ⟨f0,f1,f2⟩
   cases G i j with
   | none=>
    rw[Zbf]
    walk_at "zz"
    exact⟨by walk_at "zr",by walk_at "zr",by walk_at "zr"⟩
   | some b=>
    rw[Zao]
    walk_at "zz"
    refine ZH Zm3 ?_
    walk_at "zz"
    exact⟨by walk_at "zr",by walk_at "zr",by walk_at "zr"⟩
  ·rintro σ ⟨f0,f1,f2⟩
   unfold Z7 Zax at f0
   walk_at "zz"
   rw[hd i hi,Zao]
   walk_at "zz"
   exact⟨by walk_at "zr",by walk_at "zr"⟩
 ·rintro σ ⟨e0,e1⟩
  walk_at "zz"
  rfl
section
variable {Q:T→Prop}
theorem Zm4{p:PE}(h:Pk (p σ) fun t=>∃ts,t=.lst ts∧Q (.lst (ts.drop k))): Pk (Zdu p k σ) Q:=by
 obtain⟨_,e,ts,rfl,q⟩:=h
 exact⟨_,by simp only[Zdu,e,Option.bind_some],q⟩
end
noncomputable abbrev Sp:=Option Int×Option Int
noncomputable def spT(s:Sp): T:=.tup [oT s.1,oT s.2]
noncomputable def SBd(k:Nat)(s:Sp): Prop:=(∀x,s.1=some x→Bd k x)∧∀x,s.2=some x→Bd k x
theorem Zq0{x:Int}(h:Bd k x): Bd k (Zbd x):=by unfold Zbd;unfold Bd at *;split <;> omega
noncomputable def InS(s:Sp)(x:Int): Prop:=(∀l,s.1=some l→l≤x)∧∀h,s.2=some h→x≤h
theorem ZhJ{k:Int}(hi:i≤100000)(ha:∀x,a=some x→Bd i x)(hk:Bd i k): Zez [oT a,.int k]=some (oT (a.map fun x=>x*k)):=by
 apply Pk.eq
 unfold Zez Zls
 cases a with
 | none=>
  simp only[Zbf,Option.map_none]
  walk_at "zz"
  rfl
 | some x=>
  simp only[Zao,Option.map_some]
  walk_at "zz"
  refine ZbT (Zb3 (ha x rfl) hk (by omega) (by omega)) ?_
  rfl
noncomputable def ZcR(s:Sp)(k:Int): Sp:=if k=0 then(some 0,some 0)else if k<0 then(s.2.map fun x=>x*k,s.1.map fun x=>x*k)else(s.1.map fun x=>x*k,s.2.map fun x=>x*k)
theorem ZrX{s:Sp}{k:Int}(hi:i≤100000)(hs:SBd i s)(hk:Bd i k): Zhj [spT s,.int k]=some (spT (ZcR s k)):=by
 apply Pk.eq
 unfold Zhj ZjJ ZcR spT
 by_cases c:k=0
 ·walk_at "zz"
  rw[if_pos c]
  rfl
 ·rw[if_neg c]
  walk_at "zz"
  refine ZH (ZhJ hi hs.1 hk) ?_
  walk_at "zz"
  refine ZH (ZhJ hi hs.2 hk) ?_
  by_cases d:k<0
  ·walk_at "zz"
   rw[if_pos d]
  ·walk_at "zz"
   rw[if_neg d]
noncomputable def Zoy(s u:Sp): Sp:=(Zaj s.1 u.1,Zaj s.2 u.2)
theorem Zr9{s u:Sp}: Zhp [spT s,spT u]=some (spT (Zoy s u)):=by
 apply Pk.eq
 unfold Zhp Zj4 spT
 walk_at "zz"
 refine ZH Zfe ?_
 walk_at "zz"
 refine ZH Zfe ?_
 walk_at "zz"
 rfl
noncomputable def ZcD(c:Nat→Int)(S:Nat→Sp): Nat→Sp
 | 0=>(some (c 0),some (c 0))
 | j+1=>Zoy (ZcD c S j) (ZcR (S j) (c (j+1)))
theorem ZnB{f:Nat→T}: (tab (n+1) f).drop 1=tab n fun i=>f (i+1):=by
 apply List.ext_getElem
 ·simp[tab]
 ·intro i h1 h2
  simp[tab]
theorem Zsl{S:Nat→Sp}(hn:n≤100)(hi:i≤100000)(bc:∀j,j<n+1→Bd i (c j))(bS:∀j,j<n→SBd i (S j)): Zhu [.lst (tab (n+1) fun j=>.int (c j)),.lst (tab n fun j=>spT (S j))]=some (spT (ZcD c S n)):=by
 apply Pk.eq
 unfold Zhu Zkl
 walk_at "zz"
 refine ZiL (n:=n) (a:=fun j=>.int (c (j+1))) (c:=fun j=>spT (S j)) (P:=fun j σ=>σ 2=some (spT (ZcD c S j))) ?_ rfl ?_ ?_
 ·refine Zof ?_
  refine Zm4 ?_
  walk_at "zz"
  refine⟨_,rfl,?_⟩
  rw[ZnB]
  walk_at "zz"
  rfl
 ·rintro j σ hj e2
  walk_at "zz"
  refine ZH (ZrX hi (bS j hj) (bc (j+1) (by omega))) ?_
  walk_at "zz"
  refine ZH Zr9 ?_
  walk_at "zz"
  exact ZbA
 ·rintro σ e2
  walk_at "zz"
  rfl
noncomputable def Za3(c:Nat→Int)(R:Nat→Int×Int): Nat→Int×Int
 | 0=>(0,c 0)
 | j+1=>ZbG (Za3 c R j) (ZcJ (R j) (c (j+1)))
noncomputable def ZbQ(c:Nat→Int)(R:Nat→Int×Int): Nat→Int
 | 0=>0
 | j+1=>Int.gcd (ZbQ c R j) (c (j+1)*(R j).1)
noncomputable def Zcc(c:Nat→Int)(R:Nat→Int×Int): Nat→Int
 | 0=>c 0
 | j+1=>Zcc c R j+c (j+1)*(R j).2
theorem ZdZ(c:Nat→Int)(R:Nat→Int×Int): ∀j,0≤ZbQ c R j
 | 0=>by show(0:Int)≤0;decide
 | j+1=>by show(0:Int)≤((Int.gcd _ _:Nat):Int);omega
theorem ZiT{c:Nat→Int}{R:Nat→Int×Int}{n i:Nat}(bc:∀j,j<n+1→Bd i (c j))(bR:∀j,j<n→RBd i (R j)): ∀j,j≤n→Bd (i+i) (ZbQ c R j)
 | 0,_=>ZcK
 | j+1,h=>Zje (ZiT bc bR j (by omega)) ((bc (j+1) (by omega)).mul (bR j (by omega)).1)
theorem Zq1{c:Nat→Int}{R:Nat→Int×Int}{n i:Nat}(bc:∀j,j<n+1→Bd i (c j))(bR:∀j,j<n→RBd i (R j)): ∀j,j≤n→Bd (i+i+j) (Zcc c R j)
 | 0,_=>(bc 0 (by omega)).mono (by omega)
 | j+1,h=>(Zq1 bc bR j (by omega)).add (((bc (j+1) (by omega)).mul (bR j (by omega)).2).mono (by omega))
theorem Zo9{m a b:Int}(h:0≤m)(hd:m ∣ a-b): ZaH m a=ZaH m b:=by
 refine ZhY (Zcs h _) (Zcs h _) fun x=>?_
 rw[Zdh h,Zdh h]
 constructor
 ·intro q
  have:=Int.dvd_add q hd
  rwa [show x-a+(a-b)=x-b by omega]at this
 ·intro q
  have:=Int.dvd_sub q hd
  rwa [show x-b-(a-b)=x-a by omega]at this
theorem Zif{m:Int}(h:0≤m): m ∣ (ZaH m r).2-r:=by
 have:=(Zdh (r:=r) h (ZaH m r).2).mp (Zcs h r).self
 exact this
theorem ZdU{m:Int}: (ZaH m r).1=m:=by
 unfold ZaH
 split
 ·rename_i h;exact h.symm
 ·rfl
theorem Zdo{c:Nat→Int}{R:Nat→Int×Int}{n:Nat}(ok:∀j,j<n→RestOk (R j)): ∀j,j≤n→Za3 c R j=ZaH (ZbQ c R j) (Zcc c R j)
 | 0,_=>rfl
 | j+1,h=>by
  have ih:=Zdo (c:=c) ok j (by omega)
  have h0:=ZdZ c R j
  have hr:=(ok j (by omega)).nn
  show ZbG (Za3 c R j) (ZcJ (R j) (c (j+1)))=_
  rw[ih]
  unfold ZbG ZcJ
  rw[ZdU,ZdU]
  have hab:0≤(R j).1*Zbd (c (j+1)):=Int.mul_nonneg hr (ZdD _)
  have eg:((Int.gcd (ZbQ c R j) ((R j).1*Zbd (c (j+1))):Nat):Int)=ZbQ c R (j+1):=by
   show _=((Int.gcd (ZbQ c R j) (c (j+1)*(R j).1):Nat):Int)
   congr 1
   unfold Int.gcd
   rw[Int.natAbs_mul,Int.natAbs_mul,Znz,Nat.mul_comm]
  rw[eg]
  have h1:ZbQ c R (j+1) ∣ ZbQ c R j:=Int.gcd_dvd_left ..
  have h2:ZbQ c R (j+1) ∣ (R j).1*Zbd (c (j+1)):=by rw[←eg];exact Int.gcd_dvd_right ..
  refine Zo9 (ZdZ _ _ _) ?_
  have a1:=Int.dvd_trans h1 (Zif (r:=Zcc c R j) h0)
  have a2:=Int.dvd_trans h2 (Zif (r:=(R j).2*c (j+1)) hab)
  have:=Int.dvd_add a1 a2
  rw[show Zcc c R (j+1)=Zcc c R j+c (j+1)*(R j).2 from rfl,Int.mul_comm (c (j+1))]
  generalize (ZaH (ZbQ c R j) (Zcc c R j)).2=u at *
  generalize (ZaH ((R j).1*Zbd (c (j+1))) ((R j).2*c (j+1))).2=v at *
  generalize (R j).2*c (j+1)=z at *
  rwa [show u-Zcc c R j+(v-z)=u+v-(Zcc c R j+z)by omega]at this
theorem ZpH{b:Option Int}: Zfq [oT a,oT b]=some (.bool (dec (∃x y,a=some x∧b=some y∧y<x))):=by
 apply Pk.eq
 unfold Zfq ZmS
 cases a with
 | none=>
  rw[Zbf]
  walk_at "zz"
  rw[Zbw (by rintro⟨x,y,h,_⟩;cases h)]
 | some x=>
  cases b with
  | none=>
   rw[Zbf,Zao]
   walk_at "zz"
   rw[Zbw (by rintro⟨x,y,_,h,_⟩;cases h)]
  | some y=>
   rw[Zao,Zao]
   walk_at "zz"
   congr 1
   by_cases h:y<x
   ·rw[Za0 ⟨x,y,rfl,rfl,h⟩];simp[h]
   ·rw[Zbw (by rintro⟨x',y',h1,h2,h3⟩;cases h1;cases h2;exact h h3)];simp[h]
theorem Zuv{s:Sp}{x k:Int}(h:InS s x): InS (ZcR s k) (k*x):=by
 unfold ZcR
 obtain⟨a,b⟩:=s
 by_cases c:k=0
 ·rw[if_pos c,c,Int.zero_mul]
  exact⟨fun l e=>by cases e;omega,fun l e=>by cases e;omega⟩
 ·rw[if_neg c]
  by_cases d:k<0
  ·rw[if_pos d]
   refine⟨fun l e=>?_,fun l e=>?_⟩
   ·cases b with
    | none=>cases e
    | some y=>
     cases e
     have:=h.2 y rfl
     show y*k≤k*x
     rw[Int.mul_comm]
     exact Int.mul_le_mul_of_nonpos_left (a:=k) (by omega) this
   ·cases a with
    | none=>cases e
    | some y=>
     cases e
     have:=h.1 y rfl
     show k*x≤y*k
     rw[Int.mul_comm y]
     exact Int.mul_le_mul_of_nonpos_left (a:=k) (by omega) this
  ·rw[if_neg d]
   refine⟨fun l e=>?_,fun l e=>?_⟩
   ·cases a with
    | none=>cases e
    | some y=>
     cases e
     have:=h.1 y rfl
     show y*k≤k*x
     rw[Int.mul_comm]
     exact Int.mul_le_mul_of_nonneg_left this (show 0≤k by omega)
   ·cases b with
    | none=>cases e
    | some y=>
     cases e
     have:=h.2 y rfl
     show k*x≤y*k
     rw[Int.mul_comm y]
     exact Int.mul_le_mul_of_nonneg_left this (show 0≤k by omega)
theorem Zvl{s u:Sp}{x:Int}(h:InS s x)(k:InS u y): InS (Zoy s u) (x+y):=by
 refine⟨fun l e=>?_,fun l e=>?_⟩
 ·obtain⟨a,b,h1,h2,rfl⟩:=addO_some.mp e
  have:=h.1 a h1
  have:=k.1 b h2
  omega
 ·obtain⟨a,b,h1,h2,rfl⟩:=addO_some.mp e
  have:=h.2 a h1
  have:=k.2 b h2
  omega
noncomputable def ZZ(R:Nat→Int×Int): Nat→Int×Int:=cn (0,0) R
theorem Zoz(R:Nat→Int×Int): cn (T.tup [.int 0,.int 0]) (fun i=>Z4 (R i))=fun i=>Z4 (ZZ R i):=by
 funext i;cases i <;> rfl
theorem ZoV(hn:n<9000): Ze8 [Za4 n R]=some (Za4 (n+1) (ZZ R)):=by
 apply Pk.eq
 unfold Ze8 Zkn Za4
 walk_at "zz"
 rw[Zoz]
noncomputable def RB(M:Int)(k:Nat)(q:Int×Int): Prop:=RestOk q∧(q.1=0∨q.1 ∣ M)∧Bd k q.2
theorem RB.mono(h:RB M i q)(hij:i≤j): RB M j q:=⟨h.1,h.2.1,h.2.2.mono hij⟩
theorem RB.bd(hM:0<M)(bM:Bd k M)(h:RB M k q): RBd k q:=by
 refine⟨?_,h.2.2⟩
 rcases h.2.1 with e | e
 ·rw[e];exact ZcK
 ·exact Zda bM h.1.nn (Int.le_of_dvd hM e)
theorem Zdl(h:∀t,t<n→RB M k (R t)): ∀i,i<n+1→RB M k (ZZ R i)
 | 0,_=>⟨.inl rfl,.inl rfl,ZcK⟩
 | i+1,hi=>h i (by omega)
noncomputable def ZcU(n:Nat)(G:Nat→Nat→Option Int)(R:Nat→Int×Int)(i:Nat)(m:Nat)(x:Int): Prop:=Zau (ZZ R i) x∧∀j,j<m→∀a b,G i j=some a→G j i=some b→a+b=0→Zau (ZZ R j) (x-a)
noncomputable def Zc7(n:Nat)(G:Nat→Nat→Option Int)(R:Nat→Int×Int)(M:Int)(k:Nat)(i m:Nat)(o:Option (Int×Int)): Prop:=match o with
 | none=>∀x,¬ZcU n G R i m x
 | some q=>RB M k q∧∀x,Zau q x↔ZcU n G R i m x
theorem Zpn(h:RestOk q)(a x:Int): Zau (ZbG q (0,a)) x↔Zau q (x-a):=by
 unfold ZbG
 rw[Zdh (by omega),Zbj h.nn]
 simp only[Int.gcd_zero_right]
 rw[Int.natAbs_of_nonneg h.nn,show x-(q.2+a)=x-a-q.2 by omega]
theorem Zsa(hn:n≤100)(hi:i<n+1)(hk:k≤7000)(hM:0<M)(bM:Bd k M)(bG:∀a b c,a<n+1→b<n+1→G a b=some c→Bd k c)(hR:∀t,t<n→RB M k (R t)): Pk (Zeu [Z7 (n+1) G,Za4 (n+1) (ZZ R),.int i]) fun t=>∃o,t=oR o∧Zc7 n G R M (k+1) i (n+1) o:=by
 unfold Zeu Zj6
 have hF:=Zdl hR
 have bM1:Bd (k+1) M:=bM.mono (by omega)
 have hr:Za4 (n+1) (ZZ R)=.lst (tab (n+1) fun i=>Z4 (ZZ R i)):=rfl
 rw[hr]
 walk_at "zz"
 refine ZiL (n:=n+1) (a:=fun j=>.int j) (c:=fun j=>Z4 (ZZ R j)) (P:=fun m σ=>∃o,σ 0=some (Z7 (n+1) G)∧σ 1=some (.lst (tab (n+1) fun i=>Z4 (ZZ R i)))∧σ 2=some (.int i)∧σ 3=some (oR o)∧Zc7 n G R M (k+1) i m o) ?_ ⟨some (ZZ R i),by walk_at "zr",by walk_at "zr",by walk_at "zr",by walk_at "zr",(hF i hi).mono (by omega),fun x=>⟨fun h=>⟨h,by omega⟩,fun h=>h.1⟩⟩ ?_ ?_
 ·walk_at "zz"
  rfl
 ·rintro j σ hj ⟨o,e0,e1,e2,e3,ho⟩
  unfold Z7 Zax at e0
  cases o with
  | none=>
   have e3':σ 3=some .none:=e3
   clear e3
   walk_at "zz"
   refine⟨none,by walk_at "zr",by walk_at "zr",by walk_at "zr",by walk_at "zr",fun x h=>ho x ⟨h.1,fun j' hj'=>h.2 j' (by omega)⟩⟩
  | some q=>
   have e3':σ 3=some (.tup [.int q.1,.int q.2]):=e3
   clear e3
   walk_at "zz"
   refine ZH Zfe ?_
   walk_at "zz"
   refine ZfI (Zg7 (n:=0)) (.int (n:=0)) ?_
   walk_at "zz"
   have stay:(∀a b,G i j=some a→G j i=some b→¬a+b=0)→Zc7 n G R M (k+1) i (j+1) (some q):=fun h=>⟨ho.1,fun x=>(ho.2 x).trans ⟨fun hx=>⟨hx.1,fun j' hj' a b ha hb hab=>by
     by_cases q':j'=j
     ·subst q';exact absurd hab (h a b ha hb)
     ·exact hx.2 j' (by omega) a b ha hb hab⟩,fun hx=>⟨hx.1,fun j' hj'=>hx.2 j' (by omega)⟩⟩⟩
   refine⟨fun e=>?_,fun e=>?_⟩
   ·have e':=dec_iff.mp e
    rw[←Zao,oT_inj]at e'
    obtain⟨a,b,ha,hb,hab⟩:=addO_some.mp e'
    walk_at "zz"
    rw[ha,Zao]
    have hj2:=hF j hj
    have ba:=bG i j a hi hj ha
    refine ZH (Zk6 (p:=ZZ R j) (q:=(0,a)) (k:=k) (by omega) (hj2.bd hM bM).1 ZcK) ?_
    have hpl:RB M (k+1) (ZbG (ZZ R j) (0,a)):=by
     refine⟨Zix _ _,?_,?_⟩
     ·unfold ZbG ZaH
      simp only[Int.gcd_zero_right]
      rw[Int.natAbs_of_nonneg hj2.1.nn]
      split
      ·exact .inl rfl
      ·exact hj2.2.1
     ·have hm:=(hj2.bd hM bM).1
      refine(ZgA (k:=k+1) (by omega) ?_ (Bd.add hj2.2.2 ba)).2
      simp only[Int.gcd_zero_right]
      rw[Int.natAbs_of_nonneg hj2.1.nn]
      exact hm.mono (by omega)
    walk_at "zz"
    refine(ZlI (p:=q) (q:=ZbG (ZZ R j) (0,a)) (k:=k+1) (by omega) ho.1.1 hpl.1 (ho.1.bd hM bM1) (hpl.bd hM bM1)).mono ?_
    rintro _ ⟨o',rfl,mt,wh⟩
    refine⟨o',by walk_at "zr",by walk_at "zr",by walk_at "zr",by walk_at "zr",?_⟩
    have hset:∀x,(Zau q x∧Zau (ZbG (ZZ R j) (0,a)) x)↔ZcU n G R i (j+1) x:=fun x=>by
     rw[ho.2 x,Zpn hj2.1]
     constructor
     ·rintro⟨h1,h2⟩
      refine⟨h1.1,fun j' hj' c d hc hd hcd=>?_⟩
      by_cases q':j'=j
      ·subst q';rw[ha]at hc;cases hc;exact h2
      ·exact h1.2 j' (by omega) c d hc hd hcd
     ·intro h
      exact⟨⟨h.1,fun j' hj'=>h.2 j' (by omega)⟩,h.2 j (by omega) a b ha hb hab⟩
    cases o' with
    | none=>exact fun x hx=>mt x ((hset x).mpr hx)
    | some r=>
     refine⟨⟨mt.1,?_,?_⟩,fun x=>(mt.2 x).trans (hset x)⟩
     ·rcases wh r rfl with h | h | ⟨h1,h2,h3⟩
      ·rw[h];exact ho.1.2.1
      ·rw[h];exact hpl.2.1
      ·right
       rw[h3]
       exact Int.coe_lcm_dvd (ho.1.2.1.resolve_left h1) (hpl.2.1.resolve_left h2)
     ·rcases wh r rfl with h | h | ⟨h1,h2,h3⟩
      ·rw[h];exact ho.1.2.2
      ·rw[h];exact hpl.2.2
      ·rcases mt.1 with z | z
       ·have:(Int.lcm q.1 (ZbG (ZZ R j) (0,a)).1)≠0:=Int.lcm_ne_zero h1 h2
        omega
       ·have hd:r.1 ∣ M:=by
         rw[h3]
         exact Int.coe_lcm_dvd (ho.1.2.1.resolve_left h1) (hpl.2.1.resolve_left h2)
        exact Zda bM1 z.2.1 (by have:=Int.le_of_dvd hM hd;omega)
   ·walk_at "zz"
    refine⟨some q,by walk_at "zr",by walk_at "zr",by walk_at "zr",by walk_at "zr",stay fun a b ha hb hab=>?_⟩
    have:dec (oT (Zaj (G i j) (G j i))=.int 0)=true:=Za0 (by rw[ha,hb];simp[Zaj,oT,hab])
    rw[this]at e
    cases e
 ·rintro σ ⟨o,e0,e1,e2,e3,ho⟩
  walk_at "zz"
  exact⟨o,rfl,ho⟩
theorem ZrA: ZcC 1 1 1=some []:=by
 unfold ZcC
 rw[if_pos (by decide +kernel)]
 rfl
theorem Zjr: Pln 1 (oR o):=by
 cases o with
 | none=>exact .none
 | some q=>exact Zrs
theorem oR_none: oR o=.none↔o=none:=by cases o <;> simp[oR,Z4]
noncomputable def Hand(n:Nat)(G:Nat→Nat→Option Int)(R R':Nat→Int×Int)(M:Int)(k:Nat): Prop:=∀t,t<n→RB M k (R' t)∧∀x,Zau (R' t) x↔ZcU n G R (t+1) (n+1) x
theorem Zsm(hn:n≤100)(hk:k≤7000)(hM:0<M)(bM:Bd k M)(bG:∀a b c,a<n+1→b<n+1→G a b=some c→Bd k c)(hR:∀t,t<n→RB M k (R t)): Pk (ZdN [ZQ n G R]) fun t=>(∃R',t=ZQ n G R'∧Hand n G R R' M (k+1))∨(t=.none∧∃i,i<n∧∀x,¬ZcU n G R (i+1) (n+1) x):=by
 unfold ZdN Zf2
 have ht:ZQ n G R=.tup [Z7 (n+1) G,Za4 n R]:=rfl
 rw[ht]
 walk_at "zz"
 refine ZH (ZoV (by omega)) ?_
 have hr:Za4 (n+1) (ZZ R)=.lst (tab (n+1) fun i=>Z4 (ZZ R i)):=rfl
 walk_at "zz"
 refine Zur oR (fun t o=>Zc7 n G R M (k+1) (t+1) (n+1) o) (n:=n) (a:=fun i=>.int (i+1)) (by omega) ?_ (fun t ht=>?_) none (fun y hy=>?_)
 ·by_cases h0:n=0
  ·subst h0
   exact⟨[],ZgL (a:=1) (b:=1) rfl ZrA,rfl⟩
  ·rw[hr]
   walk_at "zz"
   refine Rn.two 1 n (by decide) (by omega) (by omega) (by omega) ?_
   refine Zbi fun i _=>?_
   congr 1
   omega
 ·walk_at "zz"
  refine(Zsa (i:=t+1) hn (by omega) hk hM bM bG hR).mono ?_
  rintro _ ⟨o,rfl,ho⟩
  exact⟨o,rfl,ho⟩
 ·walk_at "zz"
  refine ZfP (.none (n:=0)) (Zel (n:=1) fun i _=>Zjr) ?_
  by_cases hc:∃i,i<n∧y i=none
  ·obtain⟨i,hi,ei⟩:=hc
   rw[Za0 (show T.none∈tab n fun i=>oR (y i)from List.mem_of_getElem? (i:=i) (by rw[ZbM hi,ei];rfl))]
   walk_at "zz"
   refine .inr ⟨rfl,i,hi,?_⟩
   have:=hy i hi
   rw[ei]at this
   exact this
  ·rw[Zbw (show ¬T.none∈tab n fun i=>oR (y i)from fun h=>by
    obtain⟨i,hi,e⟩:=ZcO h
    exact hc ⟨i,hi,oR_none.mp e.symm⟩)]
   walk_at "zz"
   have hs:∀i,i<n→y i=some ((y i).getD (1,0)):=fun i hi=>by
    cases e:y i with
    | none=>exact absurd ⟨i,hi,e⟩ hc
    | some q=>rfl
   refine .inl ⟨fun i=>(y i).getD (1,0),?_,fun t ht=>?_⟩
   ·unfold ZQ Za4
    congr 4
    refine Zbi fun i hi=>?_
    conv=>lhs;rw[hs i hi]
    rfl
   ·have:=hy t ht
    rw[hs t ht]at this
    exact this
theorem ZoL: ZdN [.none]=some .none:=by
 apply Pk.eq
 unfold ZdN Zf2
 walk_at "zz"
 rfl
noncomputable def ZbJ(R:Nat→Int×Int)(i j:Nat): Int×Int:=ZbG (ZZ R i) (ZcJ (ZZ R j) (-1))
noncomputable def Zb1(b:Option Int)(q:Int×Int): Option Int:=match b with
 | some b=>ZdH q b
 | none=>if q.1=0 then some q.2 else none
noncomputable def ZaS(G:Nat→Nat→Option Int)(R:Nat→Int×Int): Nat→Nat→Option Int:=fun i j=>Zb1 (G i j) (ZbJ R i j)
noncomputable def ZdE(n:Nat)(G:Nat→Nat→Option Int)(R:Nat→Int×Int): Prop:=∃i j,i<n+1∧j<n+1∧∃b,G i j=some b∧ZaS G R i j=none
theorem ZrY{b:Option Int}(hq:0≤q.1): Zhk [oT b,Z4 q]=some (oT (Zb1 b q)):=by
 apply Pk.eq
 unfold Zhk ZjM Zb1
 cases b with
 | none=>
  have ep:Z4 q=.tup [.int q.1,.int q.2]:=rfl
  rw[Zbf,ep]
  by_cases c:q.1=0
  ·walk_at "zz"
   simp[c,oT]
  ·walk_at "zz"
   simp[c,oT]
 | some b=>
  rw[Zao]
  walk_at "zz"
  exact ZH (ZsG hq) rfl
theorem Zsn{b:Nat→Option Int}(hn:n≤100)(hi:i<n+1)(hk:k≤7000)(hM:0<M)(bM:Bd k M)(hR:∀t,t<n→RB M k (R t)): Pk (Zhv [Zax (n+1) b,Z4 (ZZ R i),Za4 (n+1) (ZZ R)]) fun t=>(t=Zax (n+1) (fun j=>Zb1 (b j) (ZbJ R i j))∧∀j,j<n+1→∀c,b j=some c→Zb1 (b j) (ZbJ R i j)≠none)∨(t=.none∧∃j,j<n+1∧∃c,b j=some c∧Zb1 (b j) (ZbJ R i j)=none):=by
 unfold Zhv Zkr
 have hF:=Zdl hR
 have hb:Zax (n+1) b=.lst (tab (n+1) fun j=>oT (b j)):=rfl
 have hr:Za4 (n+1) (ZZ R)=.lst (tab (n+1) fun i=>Z4 (ZZ R i)):=rfl
 rw[hb,hr]
 walk_at "zz"
 refine ZiL (n:=n+1) (a:=fun j=>oT (b j)) (c:=fun j=>Z4 (ZZ R j)) (P:=fun m σ=>σ 1=some (Z4 (ZZ R i))∧σ 3=some (.lst (tab m fun j=>oT (Zb1 (b j) (ZbJ R i j))))∧∀j,j<m→∀c,b j=some c→Zb1 (b j) (ZbJ R i j)≠none) ?_ ⟨by walk_at "zr",by walk_at "zr",by omega⟩ ?_ ?_
 ·walk_at "zz"
  rfl
 ·rintro j σ hj ⟨e1,e3,st⟩
  have h1:=hF i hi
  have h2:=hF j hj
  have b1:=h1.bd hM bM
  have b2:=h2.bd hM bM
  have bt:Bd (k+1) (ZcJ (ZZ R j) (-1)).1:=by
   refine(ZgA (k:=k+1) (Int.mul_nonneg h2.1.nn (ZdD _)) ?_ ?_).1
   ·have:=Bd.mul b2.1 (show Bd 1 (Zbd (-1))by unfold Bd;decide);exact this
   ·have:=Bd.mul b2.2 (show Bd 1 (-1)by unfold Bd;decide);exact this
  walk_at "zz"
  refine ZH (ZkE (p:=ZZ R j) (c:=-1) (k:=k+1) (by omega) h2.1.nn ⟨b2.1.mono (by omega),b2.2.mono (by omega)⟩ (show Bd (k+1) (-1)from(show Bd 1 (-1)by unfold Bd;decide).mono (by omega))) ?_
  walk_at "zz"
  refine ZH (Zk6 (k:=k+1) (by omega) (b1.1.mono (by omega)) bt) ?_
  walk_at "zz"
  refine ZH (ZrY (Zix _ _).nn) ?_
  have hd:ZbG (ZZ R i) (ZcJ (ZZ R j) (-1))=ZbJ R i j:=rfl
  rw[hd]
  walk_at "zz"
  have app:∀w,w=oT (Zb1 (b j) (ZbJ R i j))→tab j (fun j=>oT (Zb1 (b j) (ZbJ R i j)))++[w]=tab (j+1) fun j=>oT (Zb1 (b j) (ZbJ R i j)):=fun w e=>by rw[e];exact ZdW
  cases hl:Zb1 (b j) (ZbJ R i j)with
  | none=>
   rw[Zbf]
   walk_at "zz"
   cases hbj:b j with
   | none=>
    rw[Zbf]
    walk_at "zz"
    rw[app _ (by rw[hl];rfl)]
    refine⟨by walk_at "zr",by walk_at "zr",fun j' hj' c hc=>?_⟩
    by_cases q:j'=j
    ·subst q;rw[hbj]at hc;cases hc
    ·exact st j' (by omega) c hc
   | some c=>
    rw[Zao]
    walk_at "zz"
    exact .inr ⟨rfl,j,hj,c,hbj,hl⟩
  | some v=>
   rw[Zao]
   walk_at "zz"
   rw[app _ (by rw[hl];rfl)]
   refine⟨by walk_at "zr",by walk_at "zr",fun j' hj' c hc=>?_⟩
   by_cases q:j'=j
   ·subst q;rw[hl];simp
   ·exact st j' (by omega) c hc
 ·rintro σ ⟨e1,e3,st⟩
  walk_at "zz"
  exact .inl ⟨rfl,st⟩
noncomputable def ZfW(n:Nat): Option (Nat→Option Int)→T
 | none=>.none
 | some b=>Zax n b
theorem Zwm{o:Option (Nat→Option Int)}: Pln 1 (ZfW n o):=by
 cases o with
 | none=>exact .none
 | some q=>exact ZqQ
theorem ZtM{g:PG}{a b:Nat→T}(e:β→T)(P:Nat→β→Prop)(hn:n<10000)(hg:Pl (g σ) fun ts=>ts=tab n fun i=>.tup [a i,b i])(hf:∀i,i<n→Pk (f (Zaa (Zaa σ j (a i)) k (b i))) fun t=>∃y,t=e y∧P i y)(d:β)(h:∀y:Nat→β,(∀i,i<n→P i (y i))→Q (.lst (tab n fun i=>e (y i)))): Pk (Zap g (ZcX j k) Zae f σ) Q:=by
 have hc:∃y:Nat→β,∀i,i<n→Pk (f (Zaa (Zaa σ j (a i)) k (b i))) (fun t=>t=e (y i))∧P i (y i):=by
  have hx:∀i,∃y:β,i<n→Pk (f (Zaa (Zaa σ j (a i)) k (b i))) (fun t=>t=e y)∧P i y:=fun i=>by
   by_cases q:i<n
   ·obtain⟨t,e1,y,e2,p⟩:=hf i q
    exact⟨y,fun _=>⟨⟨t,e1,e2⟩,p⟩⟩
   ·exact⟨d,fun h=>absurd h q⟩
  exact⟨fun i=>Classical.choose (hx i),fun i=>Classical.choose_spec (hx i)⟩
 obtain⟨y,hy⟩:=hc
 exact Zno hn hg (fun i hi=>(hy i hi).1) (h y fun i hi=>(hy i hi).2)
theorem oRow_none{o:Option (Nat→Option Int)}: ZfW n o=.none↔o=none:=by cases o <;> simp[ZfW,Zax]
theorem ZtN(hn:n≤100)(hk:k≤7000)(hM:0<M)(bM:Bd k M)(hR:∀t,t<n→RB M k (R t)): Pk (Zfr [ZQ n G R]) fun t=>(t=ZQ n (ZaS G R) R∧¬ZdE n G R)∨(t=.none∧ZdE n G R):=by
 unfold Zfr Zil
 have ht:ZQ n G R=.tup [.lst (tab (n+1) fun i=>Zax (n+1) (G i)),Za4 n R]:=rfl
 rw[ht]
 walk_at "zz"
 refine ZH (ZoV (by omega)) ?_
 have hr:Za4 (n+1) (ZZ R)=.lst (tab (n+1) fun i=>Z4 (ZZ R i)):=rfl
 walk_at "zz"
 refine ZtM (ZfW (n+1)) (fun i o=>match o with
  | none=>∃j,j<n+1∧∃c,G i j=some c∧ZaS G R i j=none
  | some b=>b=ZaS G R i∧∀j,j<n+1→∀c,G i j=some c→ZaS G R i j≠none) (n:=n+1) (a:=fun i=>Zax (n+1) (G i)) (b:=fun i=>Z4 (ZZ R i)) (by omega) ?_ (fun i hi=>?_) none (fun y hy=>?_)
 ·rw[hr]
  walk_at "zz"
  rfl
 ·walk_at "zz"
  refine(Zsn hn hi hk hM bM hR).mono ?_
  rintro t (⟨rfl,h⟩ | ⟨rfl,h⟩)
  ·exact⟨some (ZaS G R i),rfl,rfl,h⟩
  ·exact⟨none,rfl,h⟩
 ·walk_at "zz"
  refine ZfP (.none (n:=0)) (Zel (n:=1) fun i _=>Zwm) ?_
  by_cases hc:∃i,i<n+1∧y i=none
  ·obtain⟨i,hi,ei⟩:=hc
   rw[Za0 (show T.none∈tab (n+1) fun i=>ZfW (n+1) (y i)from List.mem_of_getElem? (i:=i) (by rw[ZbM hi,ei];rfl))]
   walk_at "zz"
   have:=hy i hi
   rw[ei]at this
   obtain⟨j,hj,c,h1,h2⟩:=this
   exact .inr ⟨rfl,i,j,hi,hj,c,h1,h2⟩
  ·rw[Zbw (show ¬T.none∈tab (n+1) fun i=>ZfW (n+1) (y i)from fun h=>by
    obtain⟨i,hi,e⟩:=ZcO h
    exact hc ⟨i,hi,oRow_none.mp e.symm⟩)]
   walk_at "zz"
   have hs:∀i,i<n+1→y i=some (ZaS G R i)∧∀j,j<n+1→∀c,G i j=some c→ZaS G R i j≠none:=fun i hi=>by
    have:=hy i hi
    cases e:y i with
    | none=>exact absurd ⟨i,hi,e⟩ hc
    | some b=>rw[e]at this;exact⟨by rw[this.1],this.2⟩
   refine .inl ⟨?_,?_⟩
   ·unfold ZQ Z7
    congr 3
    refine Zbi fun i hi=>?_
    rw[(hs i hi).1]
    rfl
   ·rintro⟨i,j,hi,hj,c,h1,h2⟩
    exact(hs i hi).2 j hj c h1 h2
theorem Zs2: Zfr [.none]=some .none:=by
 apply Pk.eq
 unfold Zfr Zil
 walk_at "zz"
 rfl
theorem Zuw: Zen [.none]=some .none:=by
 apply Pk.eq
 unfold Zen Zja
 walk_at "zz"
 rfl
noncomputable def Zcg(n:Nat)(G:Nat→Nat→Option Int): Prop:=∃m,m<n∧Neg n (clG G (m+1))
theorem Zwn(hn:n≤100)(hd:∀i,i<n+1→G i i=some 0): Pk (Zen [ZQ n G R]) fun t=>(t=ZQ n (clG G (n+1)) R∧¬Zcg (n+1) G)∨(t=.none∧Zcg (n+1) G):=by
 unfold Zen Zja
 have ht:ZQ n G R=.tup [Z7 (n+1) G,Za4 n R]:=rfl
 rw[ht]
 walk_at "zz"
 refine(Zut (n:=n+1) (by omega) (by omega) fun i hi=>⟨0,hd i hi⟩).mono ?_
 rintro t (⟨rfl,h⟩ | ⟨rfl,h⟩)
 ·have hg:Z7 (n+1) (clG G (n+1))=.lst (tab (n+1) fun i=>Zax (n+1) (clG G (n+1) i)):=rfl
  rw[hg]
  walk_at "zz"
  exact .inl ⟨rfl,fun⟨m,hm,q⟩=>h m hm q⟩
 ·walk_at "zz"
  exact .inr ⟨rfl,h⟩
noncomputable def BdG(n k:Nat)(G:Nat→Nat→Option Int): Prop:=∀a b c,a<n→b<n→G a b=some c→Bd k c
theorem Zeq{n k:Nat}{G:Nat→Nat→Option Int}(h:BdG n k G): ∀m,m≤n→BdG n (k+m) (clG G m)
 | 0,_=>h
 | m+1,hm=>fun a b c ha hb e=>by
  have ih:=Zeq h m (by omega)
  rcases ZeK (clG G m a b) (Zaj (clG G m a m) (clG G m m b))with e1 | e1
  ·rw[show clG G (m+1) a b=_ from e1]at e
   exact(ih a b c ha hb e).mono (by omega)
  ·rw[show clG G (m+1) a b=_ from e1]at e
   obtain⟨p,q,h1,h2,rfl⟩:=addO_some.mp e
   exact Bd.add (ih a m p ha (by omega) h1) (ih m b q (by omega) hb h2)
theorem ZpI(h:RestOk q): ZcJ q (-1)=ZaH q.1 (-q.2):=by
 unfold ZcJ
 rw[show Zbd (-1)=1 from rfl,Int.mul_one,Int.mul_neg,Int.mul_one]
theorem Zmw{m:Int}: (ZaH m r).1=m:=by
 unfold ZaH;split
 ·rename_i c;exact c.symm
 ·rfl
theorem ZgI(hi:RestOk (ZZ R i))(hj:RestOk (ZZ R j))(x:Int): Zau (ZbJ R i j) x↔((Int.gcd (ZZ R i).1 (ZZ R j).1:Nat):Int) ∣ x-((ZZ R i).2-(ZZ R j).2):=by
 unfold ZbJ ZbG
 rw[Zdh (by omega),ZpI hj,Zmw]
 have hr:=Zdh hj.nn (r:=-(ZZ R j).2) (ZaH (ZZ R j).1 (-(ZZ R j).2)).2
 have hs:=(hr.mp (Zcs hj.nn _).self)
 generalize (ZaH (ZZ R j).1 (-(ZZ R j).2)).2=s at *
 have hg:((Int.gcd (ZZ R i).1 (ZZ R j).1:Nat):Int) ∣ s - -(ZZ R j).2:=Int.dvd_trans (Int.gcd_dvd_right ..) hs
 constructor
 ·intro h
  have:=Int.dvd_add h hg
  rwa [show x-((ZZ R i).2+s)+(s - -(ZZ R j).2)=x-((ZZ R i).2-(ZZ R j).2)by omega]at this
 ·intro h
  have:=Int.dvd_sub h hg
  rwa [show x-((ZZ R i).2-(ZZ R j).2)-(s - -(ZZ R j).2)=x-((ZZ R i).2+s)by omega]at this
theorem Zm5{b c:Int}(h0:RestOk q)(h:ZdH q b=some c): c≤b∧Zau q c∧(q.1=0∨b-c<q.1):=by
 unfold ZdH at h
 split at h
 ·rename_i z
  split at h
  ·cases h
   exact⟨by assumption,h0.self,.inl z⟩
  ·cases h
 ·rename_i z
  cases h
  have hp:0<q.1:=by have:=h0.nn;omega
  have h1:=Int.emod_nonneg (b-q.2) z
  have h2:=Int.emod_lt_of_pos (b-q.2) hp
  refine⟨by omega,?_,.inr (by omega)⟩
  rw[Zbj h0.nn]
  have h3:=Int.emod_add_mul_ediv (b-q.2) q.1
  exact⟨(b-q.2) / q.1,by omega⟩
theorem Zmx{b x:Int}(h0:RestOk q)(hx:Zau q x)(hb:x≤b): ∃c,ZdH q b=some c∧x≤c:=by
 unfold ZdH
 rw[Zbj h0.nn]at hx
 split
 ·rename_i z
  rw[z,Int.zero_dvd]at hx
  rw[if_pos (by omega)]
  exact⟨_,rfl,by omega⟩
 ·rename_i z
  have hp:0<q.1:=by have:=h0.nn;omega
  refine⟨_,rfl,?_⟩
  obtain⟨t,ht⟩:=hx
  have h3:=Int.emod_add_mul_ediv (b-q.2) q.1
  have h2:=Int.emod_lt_of_pos (b-q.2) hp
  have h4:t≤(b-q.2) / q.1:=Int.le_ediv_of_mul_le hp (by rw[Int.mul_comm];omega)
  have h5:q.1*t≤q.1*((b-q.2) / q.1):=Int.mul_le_mul_of_nonneg_left h4 (by omega)
  omega
theorem Zd0(R:Nat→Int×Int)(i j:Nat): RestOk (ZbJ R i j):=Zix _ _
theorem Zwo(h:∀b,G i j=some b→ZaS G R i j≠none): leO (ZaS G R i j) (G i j):=by
 intro b e
 have hn:=h b e
 unfold ZaS at hn ⊢
 rw[e]at hn ⊢
 cases hc:Zb1 (some b) (ZbJ R i j)with
 | none=>exact absurd hc hn
 | some c=>exact⟨c,rfl,(Zm5 (Zd0 R i j) hc).1⟩
theorem Zon(hM:0<M)(bM:Bd k M)(hG:BdG (n+1) k G)(hR:∀t,t<n→RB M k (R t)): BdG (n+1) (k+1) (ZaS G R):=by
 intro i j c hi hj e
 have h1:=Zdl hR i hi
 have h2:=Zdl hR j hj
 have hd1:(ZbJ R i j).1=((Int.gcd (ZZ R i).1 (ZZ R j).1:Nat):Int):=by
  unfold ZbJ ZbG
  rw[Zmw,ZpI h2.1,Zmw]
 have hb1:=(h1.bd hM bM).1
 have hb2:=(h2.bd hM bM).1
 have hm:Bd k (ZbJ R i j).1:=by
  rw[hd1]
  by_cases z:(ZZ R i).1=0
  ·rw[z,Int.gcd_zero_left]
   unfold Bd at *
   simpa using hb2
  ·have:=Int.gcd_le_natAbs_left (b:=(ZZ R j).1) z
   unfold Bd at *
   simp only[Int.natAbs_natCast]
   omega
 unfold ZaS Zb1 at e
 cases hg:G i j with
 | some b=>
  rw[hg]at e
  obtain⟨u1,u2,u3⟩:=Zm5 (Zd0 R i j) e
  have hbb:=hG i j b hi hj hg
  rcases u3 with z | z
  ·have hx:=(ZgI h1.1 h2.1 c).mp u2
   rw[hd1]at z
   rw[z,Int.zero_dvd]at hx
   have:c=(ZZ R i).2-(ZZ R j).2:=by omega
   rw[this]
   exact Bd.sub h1.2.2 h2.2.2
  ·unfold Bd at *
   rw[Nat.pow_succ]
   omega
 | none=>
  rw[hg]at e
  simp only at e
  split at e
  ·rename_i z
   cases e
   have hx:=(ZgI h1.1 h2.1 (ZbJ R i j).2).mp (Zd0 R i j).self
   rw[hd1]at z
   rw[z,Int.zero_dvd]at hx
   have:(ZbJ R i j).2=(ZZ R i).2-(ZZ R j).2:=by omega
   rw[this]
   exact Bd.sub h1.2.2 h2.2.2
  ·cases e
noncomputable def Zfy(n:Nat)(C:Nat→Nat→Option Int)(R:Nat→Int×Int): Prop:=∃i,i<n∧∀x,¬ZcU n C R (i+1) (n+1) x
theorem Zq2(h:Pk (Zab 1 Zjb ts) fun t=>ZgN t=true∧Q t): Pk (ZeP ts) Q:=by
 obtain⟨t,e,o,q⟩:=h
 exact⟨t,by simp only[ZeP,e,Option.bind_some,o,if_true],q⟩
theorem Zwp: ZgN (ZQ n G R)=true:=ZpR fun _ _=>Ziu
theorem Zq3(hn:n≤100)(hk:k+n+1≤7000)(hM:0<M)(bM:Bd k M)(hd:∀i,i<n+1→G i i=some 0)(bG:BdG (n+1) k G)(hR:∀t,t<n→RB M k (R t)): Pk (ZeP [ZQ n G R]) fun t=>(∃R',t=ZQ n (clG G (n+1)) R'∧¬Zcg (n+1) G∧Hand n (clG G (n+1)) R R' M (k+n+2))∨(t=.none∧(Zcg (n+1) G∨(¬Zcg (n+1) G∧Zfy n (clG G (n+1)) R))):=by
 refine Zq2 ?_
 unfold Zjb
 walk_at "zz"
 refine(Zwn hn hd).mono ?_
 rintro t (⟨rfl,h⟩ | ⟨rfl,h⟩)
 ·walk_at "zz"
  refine(Zsm (k:=k+n+1) hn hk hM (bM.mono (by omega)) (Zeq bG (n+1) (by omega)) (fun t ht=>(hR t ht).mono (by omega))).mono ?_
  rintro t (⟨R',rfl,h2⟩ | ⟨rfl,h2⟩)
  ·exact⟨Zwp,.inl ⟨R',rfl,h,h2⟩⟩
  ·exact⟨rfl,.inr ⟨rfl,.inr ⟨h,h2⟩⟩⟩
 ·walk_at "zz"
  exact ZH ZoL ⟨rfl,.inr ⟨rfl,.inl h⟩⟩
theorem ZpY: ZeP [.none]=some .none:=by
 apply Pk.eq
 refine Zq2 ?_
 unfold Zjb
 walk_at "zz"
 refine ZH Zuw ?_
 walk_at "zz"
 exact ZH ZoL ⟨rfl,rfl⟩
theorem Ziy(hR:∀i,i<n+1→RestOk (ZZ R i))(hd:∀i,i<n+1→G i i=some 0): ∀i,i<n+1→ZaS G R i i=some 0:=by
 intro i hi
 unfold ZaS Zb1
 rw[hd i hi]
 have h0:Zau (ZbJ R i i) 0:=(ZgI (hR i hi) (hR i hi) 0).mpr (by simp)
 obtain⟨c,e,hc⟩:=Zmx (Zd0 R i i) h0 (Int.le_refl 0)
 have:=(Zm5 (Zd0 R i i) e).1
 show ZdH (ZbJ R i i) 0=some 0
 rw[e,show c=0 by omega]
structure Sharp(n:Nat)(G:Nat→Nat→Option Int)(R:Nat→Int×Int)(G2:Nat→Nat→Option Int)(R2:Nat→Int×Int)(M:Int)(k:Nat): Prop where
 go:∃R1,¬Zcg (n+1) G∧Hand n (clG G (n+1)) R R1 M k∧¬ZdE n (clG G (n+1)) R1∧¬Zcg (n+1) (ZaS (clG G (n+1)) R1)∧G2=clG (ZaS (clG G (n+1)) R1) (n+1)∧Hand n G2 R1 R2 M k
noncomputable def Zfu(n:Nat)(G:Nat→Nat→Option Int)(R:Nat→Int×Int)(M:Int)(k:Nat): Prop:=Zcg (n+1) G∨(¬Zcg (n+1) G∧Zfy n (clG G (n+1)) R)∨∃R1,¬Zcg (n+1) G∧Hand n (clG G (n+1)) R R1 M k∧(ZdE n (clG G (n+1)) R1∨(¬ZdE n (clG G (n+1)) R1∧(Zcg (n+1) (ZaS (clG G (n+1)) R1)∨(¬Zcg (n+1) (ZaS (clG G (n+1)) R1)∧Zfy n (clG (ZaS (clG G (n+1)) R1) (n+1)) R1))))
theorem Hand.mono(h:Hand n G R R' M i)(hij:i≤j): Hand n G R R' M j:=fun t ht=>⟨(h t ht).1.mono hij,(h t ht).2⟩
theorem Zvm(hn:n≤100)(hk:k+2*n+4≤7000)(hM:0<M)(bM:Bd k M)(hd:∀i,i<n+1→G i i=some 0)(bG:BdG (n+1) k G)(hR:∀t,t<n→RB M k (R t)): Pk (ZdX [ZQ n G R]) fun t=>(∃G2 R2,t=ZQ n G2 R2∧Sharp n G R G2 R2 M (k+2*n+5))∨(t=.none∧Zfu n G R M (k+n+2)):=by
 unfold ZdX ZnR
 walk_at "zz"
 refine(Zq3 hn (by omega) hM bM hd bG hR).mono ?_
 rintro t (⟨R1,rfl,nr,h1⟩ | ⟨rfl,h⟩)
 ·have hR1:∀t,t<n→RB M (k+n+2) (R1 t):=fun t ht=>(h1 t ht).1
  have hF1:=Zdl hR1
  have z1:=ZeL hd (m:=n+1) fun m hm q=>nr ⟨m,hm,q⟩
  walk_at "zz"
  refine(ZtN hn (by omega) hM (bM.mono (by omega)) hR1).mono ?_
  rintro t (⟨rfl,nl⟩ | ⟨rfl,fl⟩)
  ·walk_at "zz"
   have bG1:BdG (n+1) (k+n+3) (ZaS (clG G (n+1)) R1):=Zon hM (bM.mono (by omega)) (fun a b c ha hb e=>(Zeq bG (n+1) (by omega) a b c ha hb e).mono (by omega)) hR1
   refine(Zq3 (k:=k+n+3) hn (by omega) hM (bM.mono (by omega)) (Ziy (fun i hi=>(hF1 i hi).1) z1) bG1 (fun t ht=>(hR1 t ht).mono (by omega))).mono ?_
   rintro t (⟨R2,rfl,nr2,h2⟩ | ⟨rfl,h2⟩)
   ·exact .inl ⟨_,R2,rfl,⟨R1,nr,h1.mono (by omega),nl,nr2,rfl,h2.mono (by omega)⟩⟩
   ·exact .inr ⟨rfl,.inr (.inr ⟨R1,nr,h1,.inr ⟨nl,h2⟩⟩)⟩
  ·walk_at "zz"
   exact ZH ZpY (.inr ⟨rfl,.inr (.inr ⟨R1,nr,h1,.inl fl⟩)⟩)
 ·walk_at "zz"
  refine ZH Zs2 ?_
  walk_at "zz"
  refine ZH ZpY (.inr ⟨rfl,?_⟩)
  rcases h with h | h
  ·exact .inl h
  ·exact .inr (.inl h)
theorem Zgp(h:ZaY n G R x): ZaY n (clG G (n+1)) R x:=⟨fun i j hi hj b e=>ZnA (ZpG h) (n+1) (by omega) i j hi hj b e,h.2⟩
theorem Zpo(h:ZaY n G R x): ¬Zcg (n+1) G:=fun⟨m,hm,q⟩=>Zuu (ZnA (ZpG h) (m+1) (by omega)) q
theorem Zm6(h:ZaY n G R x): ∀i,i<n+1→Zau (ZZ R i) (ZaQ x i)
 | 0,_=>⟨fun _=>rfl,fun q=>absurd q (show ¬(0:Int)<0 by decide)⟩
 | i+1,hi=>h.2 i (by omega)
theorem ZpZ(h:ZaY n G R x)(ht:t<n): ZcU n G R (t+1) (n+1) (x t):=by
 refine⟨h.2 t ht,fun j hj a b ha hb hab=>?_⟩
 have h1:=h.1 (t+1) j (by omega) hj a ha
 have h2:=h.1 j (t+1) hj (by omega) b hb
 have h3:ZaQ x (t+1)=x t:=rfl
 rw[h3]at h1 h2
 rw[show x t-a=ZaQ x j by omega]
 exact Zm6 h j hj
theorem ZlJ(h:ZaY n G R x)(q:Hand n G R R' M k): ZaY n G R' x:=⟨h.1,fun t ht=>((q t ht).2 _).mpr (ZpZ h ht)⟩
theorem Zqq(hR:∀i,i<n+1→RestOk (ZZ R i))(h:ZaY n G R x)(hi:i<n+1)(hj:j<n+1): Zau (ZbJ R i j) (ZaQ x i-ZaQ x j):=by
 rw[ZgI (hR i hi) (hR j hj)]
 have h1:=(Zbj (hR i hi).nn _).mp (Zm6 h i hi)
 have h2:=(Zbj (hR j hj).nn _).mp (Zm6 h j hj)
 have h3:=Int.dvd_sub (Int.dvd_trans (Int.gcd_dvd_left (b:=(ZZ R j).1) ..) h1) (Int.dvd_trans (Int.gcd_dvd_right (a:=(ZZ R i).1) ..) h2)
 rwa [show ZaQ x i-(ZZ R i).2-(ZaQ x j-(ZZ R j).2)=ZaQ x i-ZaQ x j-((ZZ R i).2-(ZZ R j).2)by omega]at h3
theorem ZtO(hR:∀i,i<n+1→RestOk (ZZ R i))(h:ZaY n G R x): ¬ZdE n G R:=by
 rintro⟨i,j,hi,hj,b,e,hn⟩
 obtain⟨c,e2,_⟩:=Zmx (Zd0 R i j) (Zqq hR h hi hj) (h.1 i j hi hj b e)
 unfold ZaS Zb1 at hn
 rw[e]at hn
 simp only at hn
 rw[e2]at hn
 cases hn
theorem Zqr(hR:∀i,i<n+1→RestOk (ZZ R i))(h:ZaY n G R x): ZaY n (ZaS G R) R x:=by
 refine⟨fun i j hi hj b e=>?_,h.2⟩
 have hd:=Zqq hR h hi hj
 unfold ZaS Zb1 at e
 cases hg:G i j with
 | some c=>
  rw[hg]at e
  simp only at e
  obtain⟨d,e2,hle⟩:=Zmx (Zd0 R i j) hd (h.1 i j hi hj c hg)
  rw[e2]at e
  cases e
  exact hle
 | none=>
  rw[hg]at e
  simp only at e
  split at e
  ·rename_i z
   cases e
   rw[Zbj (Zd0 R i j).nn,z,Int.zero_dvd]at hd
   omega
  ·cases e
theorem ZtP(h:ZaY n G R x)(s:Sharp n G R G2 R2 M k): ZaY n G2 R2 x:=by
 obtain⟨R1,h1,h2,h3,h4,rfl,h6⟩:=s.go
 have l1:=ZlJ (Zgp h) h2
 have hF:=Zdl fun t ht=>(h2 t ht).1
 exact ZlJ (Zgp (Zqr (fun i hi=>(hF i hi).1) l1)) h6
theorem Ztn(h:ZaY n G R x): ¬Zfu n G R M k:=by
 have hf:∀{G:Nat→Nat→Option Int} {R:Nat→Int×Int},ZaY n G R x→¬Zfy n G R:=fun h ⟨i,hi,q⟩=>q _ (ZpZ h hi)
 rintro(q | ⟨_,q⟩ | ⟨R1,_,h2,q⟩)
 ·exact Zpo h q
 ·exact hf (Zgp h) q
 ·have l1:=ZlJ (Zgp h) h2
  have hF:=Zdl fun t ht=>(h2 t ht).1
  have l2:=Zqr (fun i hi=>(hF i hi).1) l1
  rcases q with q | ⟨_,q | ⟨_,q⟩⟩
  ·exact ZtO (fun i hi=>(hF i hi).1) l1 q
  ·exact Zpo l2 q
  ·exact hf (Zgp l2) q
theorem ZpJ(hk:k≤8000)(op:RestOk p)(oq:RestOk q)(bp:RBd k p)(bq:RBd k q): Pk (Zgw [Z4 p,Z4 q]) fun t=>∃o,t=oR o∧Met p q o:=by
 unfold Zgw ZmW
 have ep:Z4 p=.tup [.int p.1,.int p.2]:=rfl
 have eq:Z4 q=.tup [.int q.1,.int q.2]:=rfl
 have np:=op.nn
 have nq:=oq.nn
 rw[ep,eq]
 walk_at "zz"
 have hlt:∀x:Int,0≤x→Bd k x→x<2 ^ 200000:=fun x h0 h1=>by
  have h2:x.natAbs<2 ^ 200000:=ZbS h1 (by omega)
  have h3:((x.natAbs:Nat):Int)<2 ^ 200000:=by exact_mod_cast h2
  omega
 obtain⟨m,hm,eu⟩:=Ziw np nq (hlt _ np bp.1) (hlt _ nq bq.1)
 refine Zfv (fun m σ=>∃l r s t:Int,σ 0=some (.tup [.int p.1,.int p.2])∧σ 1=some (.tup [.int q.1,.int q.2])∧σ 2=some (.int l)∧σ 3=some (.int r)∧σ 4=some (.int s)∧σ 5=some (.int t)∧Eu m l r∧Int.gcd l r=Int.gcd p.1 q.1∧Bd k l∧Bd k r∧(∃z,s*p.1=l+q.1*z)∧(∃z,t*p.1=r+q.1*z)∧Bd (k+1) s∧Bd (k+1) t∧(s.natAbs:Int)*r+(t.natAbs:Int)*l≤q.1∧(1≤l∨t=0)) _ _ ?_ 1000000 (m:=m) ⟨p.1,q.1,1,0,by walk_at "zr",by walk_at "zr",by walk_at "zr",by walk_at "zr",by walk_at "zr",by walk_at "zr",eu,rfl,bp.1,bq.1,⟨0,by omega⟩,⟨-1,by omega⟩,Zea (by omega),ZcK,by simp,.inr rfl⟩ hm
 rintro m σ ⟨l,r,s,t,e0,e1,e2,e3,e4,e5,eu,gl,kl,kr,⟨z1,h1⟩,⟨z2,h2⟩,ks,kt,hb1,hl⟩
 walk_at "zz"
 refine⟨fun h=>?_,fun h=>?_⟩
 ·have hr:r≠0:=by simpa using h
  have hr0:0≤r:=eu.2.1
  have hl0:0≤l:=eu.1
  have hrp:0<r:=by omega
  have hdiv0:0≤l / r:=Int.ediv_nonneg hl0 hr0
  have hdiv1:l / r≤l:=Int.ediv_le_self _ hl0
  have kd:Bd k (l / r):=Zda kl hdiv0 hdiv1
  walk_at "zz"
  refine Zc6 hr (ZdG kr (by omega)) ?_
  rw[Int.fdiv_eq_ediv_of_nonneg _ hr0]
  walk_at "zz"
  refine ZbT (Zb3 kd kr (by omega) (by omega)) ?_
  walk_at "zz"
  refine ZbT (Zb3 kd kt (by omega) (by omega)) ?_
  walk_at "zz"
  have hover:l-l / r*r=l % r:=by
   have:=Int.emod_add_mul_ediv l r
   rw[Int.mul_comm r (l / r)]at this
   omega
  rw[hover]
  obtain⟨m',hm1,hm2⟩:=eu.step hr
  have o0:=Int.emod_nonneg l hr
  have o1:=Int.emod_lt_of_pos l hrp
  have ht:((s-l / r*t).natAbs:Int)≤(s.natAbs:Int)+l / r*(t.natAbs:Int):=by
   have h3:(s-l / r*t).natAbs≤s.natAbs+(l / r*t).natAbs:=by omega
   have h4:(l / r*t).natAbs=(l / r).natAbs*t.natAbs:=Int.natAbs_mul ..
   have h5:(((l / r).natAbs*t.natAbs:Nat):Int)=l / r*(t.natAbs:Int):=by
    rw[Int.natCast_mul,Int.natAbs_of_nonneg hdiv0]
   rw[h4]at h3
   omega
  have h6:((s-l / r*t).natAbs:Int)*r≤((s.natAbs:Int)+l / r*(t.natAbs:Int))*r:=Int.mul_le_mul_of_nonneg_right ht hr0
  have h7:((s.natAbs:Int)+l / r*(t.natAbs:Int))*r=(s.natAbs:Int)*r+(t.natAbs:Int)*(l / r*r):=by
   rw[Int.add_mul,Int.mul_comm (l / r) (t.natAbs:Int),Int.mul_assoc]
  have h8:(t.natAbs:Int)*(l % r)+(t.natAbs:Int)*(l / r*r)=(t.natAbs:Int)*l:=by
   rw[←Int.mul_add,←hover]
   congr 1
   omega
  have h9:(t.natAbs:Int)*(l % r)+((s-l / r*t).natAbs:Int)*r≤q.1:=by omega
  have hpos:0≤(t.natAbs:Int)*(l % r):=Int.mul_nonneg (by omega) o0
  have kn:Bd (k+1) (s-l / r*t):=by
   have h10:((s-l / r*t).natAbs:Int)*1≤((s-l / r*t).natAbs:Int)*r:=Int.mul_le_mul_of_nonneg_left (by omega) (by omega)
   have h11:((s-l / r*t).natAbs:Int)≤q.1:=by omega
   have h12:=bq.1
   unfold Bd at *
   rw[Nat.pow_succ]
   omega
  refine⟨m',hm1,r,l % r,t,s-l / r*t,by walk_at "zr",by walk_at "zr",by walk_at "zr",by walk_at "zr",by walk_at "zr",by walk_at "zr",hm2,by rw[ZgH hrp];exact gl,kr,Zda kr o0 (by omega),⟨z2,h2⟩,⟨z1-l / r*z2,?_⟩,kt,kn,h9,.inl (by omega)⟩
  rw[Int.sub_mul,h1,Int.mul_assoc,h2,Int.mul_add,Int.mul_sub,←hover]
  have e1:q.1*(l / r*z2)=l / r*(q.1*z2):=by rw[←Int.mul_assoc,Int.mul_comm q.1,Int.mul_assoc]
  rw[e1]
  omega
 ·have hr:r=0:=by simpa using h
  subst hr
  rw[Int.gcd_zero_right]at gl
  have hl0:=eu.1
  have hlg:l=(Int.gcd p.1 q.1:Nat):=by omega
  walk_at "zz"
  by_cases c:l=0
  ·have hz:p.1=0∧q.1=0:=Int.gcd_eq_zero_iff.mp (by omega)
   have hp1:∀x,Zau p x↔x=p.2:=fun x=>by rw[Zbj np,hz.1,Int.zero_dvd];omega
   have hq1:∀x,Zau q x↔x=q.2:=fun x=>by rw[Zbj nq,hz.2,Int.zero_dvd];omega
   walk_at "zz"
   by_cases d:q.2-p.2=0
   ·walk_at "zz"
    refine⟨some p,rfl,op,fun x=>?_⟩
    rw[hp1,hq1]
    omega
   ·walk_at "zz"
    refine⟨none,rfl,fun x hx=>?_⟩
    rw[hp1,hq1]at hx
    omega
  ·have hlp:0<l:=by omega
   obtain⟨a,ea⟩:l ∣ p.1:=by rw[hlg];exact Int.gcd_dvd_left ..
   obtain⟨b,eb⟩:l ∣ q.1:=by rw[hlg];exact Int.gcd_dvd_right ..
   walk_at "zz"
   rw[Int.fmod_eq_emod_of_nonneg _ (by omega)]
   by_cases c3:(q.2-p.2) % l=0
   ·obtain⟨d,ed⟩:=Int.dvd_of_emod_eq_zero c3
    have da:p.1 / l=a:=by rw[ea];exact Int.mul_ediv_cancel_left _ (by omega)
    have dd:(q.2-p.2) / l=d:=by rw[ed];exact Int.mul_ediv_cancel_left _ (by omega)
    have ha0:0≤a:=by rw[←da];exact Int.ediv_nonneg np (by omega)
    have ka:Bd k a:=Zda bp.1 ha0 (by rw[←da];exact Int.ediv_le_self _ np)
    have kdd:Bd (k+1) d:=by
     have h1:Bd (k+1) (q.2-p.2):=Bd.sub bq.2 bp.2
     unfold Bd at *
     rw[ed,Int.natAbs_mul]at h1
     have:1*d.natAbs≤l.natAbs*d.natAbs:=Nat.mul_le_mul_right _ (by omega)
     omega
    walk_at "zz"
    refine Zc6 (by omega) (ZdG kl (by omega)) ?_
    rw[Int.fdiv_eq_ediv_of_nonneg _ (by omega),da]
    walk_at "zz"
    refine ZbT (Zb3 ka bq.1 (by omega) (by omega)) ?_
    walk_at "zz"
    refine ZbT (Zb3 bp.1 ks (by omega) (by omega)) ?_
    walk_at "zz"
    refine Zc6 (by omega) (ZdG kl (by omega)) ?_
    rw[Int.fdiv_eq_ediv_of_nonneg _ (by omega),dd]
    walk_at "zz"
    refine ZbT (Zb3 (Bd.mul bp.1 ks) kdd (by omega) (by omega)) ?_
    walk_at "zz"
    have hm0:0≤a*q.1:=Int.mul_nonneg ha0 nq
    refine ZH ZeE ⟨some _,rfl,Zcs hm0 _,fun x=>?_⟩
    rw[Zdh hm0,Zbj np,Zbj nq]
    have hx0:p.1*s*d=(q.2-p.2)+q.1*(z1*d):=by
     rw[Int.mul_comm p.1 s,h1,Int.add_mul,ed,Int.mul_assoc]
    have hpm:p.1 ∣ a*q.1:=⟨b,by rw[ea,eb];rw[Int.mul_left_comm,Int.mul_assoc]⟩
    have hqm:q.1 ∣ a*q.1:=Int.dvd_mul_left _ _
    constructor
    ·intro hx
     have g1:=Int.dvd_trans hpm hx
     have g2:=Int.dvd_trans hqm hx
     refine⟨?_,?_⟩
     ·have:=Int.dvd_add g1 (show p.1 ∣ p.1*s*d from⟨s*d,by rw[Int.mul_assoc]⟩)
      rwa [show x-(p.2+p.1*s*d)+p.1*s*d=x-p.2 by omega]at this
     ·have:=Int.dvd_add g2 (Int.dvd_mul_right q.1 (z1*d))
      rwa [show x-(p.2+p.1*s*d)+q.1*(z1*d)=x-q.2 by omega]at this
    ·rintro⟨g1,g2⟩
     have g3:p.1 ∣ x-(p.2+p.1*s*d):=by
      have:=Int.dvd_sub g1 (show p.1 ∣ p.1*s*d from⟨s*d,by rw[Int.mul_assoc]⟩)
      rwa [show x-p.2-p.1*s*d=x-(p.2+p.1*s*d)by omega]at this
     have g4:q.1 ∣ x-(p.2+p.1*s*d):=by
      have:=Int.dvd_sub g2 (Int.dvd_mul_right q.1 (z1*d))
      rwa [show x-q.2-q.1*(z1*d)=x-(p.2+p.1*s*d)by omega]at this
     have g5:=Int.coe_lcm_dvd g3 g4
     have g6:(a*q.1).natAbs=Int.lcm p.1 q.1:=by
      have k1:=Int.gcd_mul_lcm p.1 q.1
      have k2:(l.natAbs)*(a*q.1).natAbs=p.1.natAbs*q.1.natAbs:=by
       rw[Int.natAbs_mul,←Nat.mul_assoc]
       congr 1
       rw[←Int.natAbs_mul,←ea]
      have k3:Int.gcd p.1 q.1=l.natAbs:=by omega
      rw[k3]at k1
      exact Nat.eq_of_mul_eq_mul_left (show 0<l.natAbs by omega) (by omega)
     rw[←g6]at g5
     exact Int.natAbs_dvd.mp g5
   ·walk_at "zz"
    refine⟨none,rfl,fun x hx=>c3 ?_⟩
    rw[Zbj np,Zbj nq]at hx
    have g1:l ∣ x-p.2:=Int.dvd_trans ⟨a,ea⟩ hx.1
    have g2:l ∣ x-q.2:=Int.dvd_trans ⟨b,eb⟩ hx.2
    have g3:=Int.dvd_sub g1 g2
    rw[show x-p.2-(x-q.2)=q.2-p.2 by omega]at g3
    exact Int.emod_eq_zero_of_dvd g3
theorem ZrB(hk:k≤8000)(op:RestOk p)(oq:RestOk q)(bp:RBd k p)(bq:RBd k q)(h:Met p q o): ∀r,o=some r→(r=p∨r=q∨(p.1≠0∧q.1≠0∧r.1=Int.lcm p.1 q.1)):=by
 obtain⟨t,_,o',rfl,h',wh⟩:=ZlI hk op oq bp bq
 rw[ZpF h h']
 exact wh
theorem Zux(q:Int×Int)(h:0≤q.1)(a:Int): ZaH q.1 (q.2+a)=ZbG q (0,a):=by
 unfold ZbG
 simp only[Int.gcd_zero_right]
 rw[Int.natAbs_of_nonneg h]
theorem Zm7(ho:Zc7 n G R M k i j o)(h:∀a b x,G i j=some a→G j i=some b→a+b=0→ZcU n G R i j x→Zau (ZZ R j) (x-a)): Zc7 n G R M k i (j+1) o:=by
 have hs:∀x,ZcU n G R i j x↔ZcU n G R i (j+1) x:=fun x=>⟨fun hx=>⟨hx.1,fun j' hj' a b ha hb hab=>by
     by_cases q':j'=j
     ·subst q';exact h a b x ha hb hab hx
     ·exact hx.2 j' (by omega) a b ha hb hab⟩,fun hx=>⟨hx.1,fun j' hj'=>hx.2 j' (by omega)⟩⟩
 cases o with
 | none=>exact fun x hx=>ho x ((hs x).mpr hx)
 | some q=>exact⟨ho.1,fun x=>(ho.2 x).trans (hs x)⟩
theorem Zq4{a:Int}(hM:0<M)(bM:Bd k M)(h:RB M k q)(ba:Bd k a): RB M (k+1) (ZbG q (0,a)):=by
 refine⟨Zix _ _,?_,?_⟩
 ·unfold ZbG ZaH
  simp only[Int.gcd_zero_right]
  rw[Int.natAbs_of_nonneg h.1.nn]
  split
  ·exact .inl rfl
  ·exact h.2.1
 ·have hm:=(h.bd hM bM).1
  refine(ZgA (k:=k+1) (by omega) ?_ (Bd.add h.2.2 ba)).2
  simp only[Int.gcd_zero_right]
  rw[Int.natAbs_of_nonneg h.1.nn]
  exact hm.mono (by omega)
theorem Zuy{o':Option (Int×Int)}{a b:Int}(hk:k≤7000)(hM:0<M)(bM:Bd k M)(ha:G i j=some a)(hb:G j i=some b)(hab:a+b=0)(ba:Bd k a)(hj2:RB M k (ZZ R j))(ho:Zc7 n G R M (k+1) i j (some q))(mt:Met q (ZbG (ZZ R j) (0,a)) o'): Zc7 n G R M (k+1) i (j+1) o':=by
 have bM1:Bd (k+1) M:=bM.mono (by omega)
 have hpl:=Zq4 hM bM hj2 ba
 have wh:=ZrB (k:=k+1) (by omega) ho.1.1 hpl.1 (ho.1.bd hM bM1) (hpl.bd hM bM1) mt
 have hset:∀x,(Zau q x∧Zau (ZbG (ZZ R j) (0,a)) x)↔ZcU n G R i (j+1) x:=fun x=>by
  rw[ho.2 x,Zpn hj2.1]
  constructor
  ·rintro⟨h1,h2⟩
   refine⟨h1.1,fun j' hj' c d hc hd hcd=>?_⟩
   by_cases q':j'=j
   ·subst q';rw[ha]at hc;cases hc;exact h2
   ·exact h1.2 j' (by omega) c d hc hd hcd
  ·intro h
   exact⟨⟨h.1,fun j' hj'=>h.2 j' (by omega)⟩,h.2 j (by omega) a b ha hb hab⟩
 cases o' with
 | none=>exact fun x hx=>mt x ((hset x).mpr hx)
 | some r=>
  refine⟨⟨mt.1,?_,?_⟩,fun x=>(mt.2 x).trans (hset x)⟩
  ·rcases wh r rfl with h | h | ⟨h1,h2,h3⟩
   ·rw[h];exact ho.1.2.1
   ·rw[h];exact hpl.2.1
   ·right
    rw[h3]
    exact Int.coe_lcm_dvd (ho.1.2.1.resolve_left h1) (hpl.2.1.resolve_left h2)
  ·rcases wh r rfl with h | h | ⟨h1,h2,h3⟩
   ·rw[h];exact ho.1.2.2
   ·rw[h];exact hpl.2.2
   ·rcases mt.1 with z | z
    ·have:(Int.lcm q.1 (ZbG (ZZ R j) (0,a)).1)≠0:=Int.lcm_ne_zero h1 h2
     omega
    ·have hd:r.1 ∣ M:=by
      rw[h3]
      exact Int.coe_lcm_dvd (ho.1.2.1.resolve_left h1) (hpl.2.1.resolve_left h2)
     exact Zda bM1 z.2.1 (by have:=Int.le_of_dvd hM hd;omega)
theorem Zwq{p:PE}(h:Pk (p σ) fun t=>∃ts,t=.lst ts∧Q (.lst (ts.drop k))): Pk (Zdu p k σ) Q:=by
 obtain⟨t,e,ts,rfl,q⟩:=h
 exact⟨_,by simp only[Zdu,e,Option.bind_some],q⟩
theorem Zuz{f:Nat→T}: (tab (n+1) f).drop 1=tab n fun i=>f (i+1):=by
 apply List.ext_getElem?
 intro i
 rw[List.getElem?_drop]
 by_cases h:i<n
 ·rw[ZbM h,Nat.add_comm 1 i,ZbM (by omega)]
 ·rw[List.getElem?_eq_none (by rw[Zas];omega),List.getElem?_eq_none (by rw[Zas];omega)]
theorem Zo0(hn:n≤100)(hk:k≤7000)(hM:0<M)(bM:Bd k M)(bG:∀a b c,a<n+1→b<n+1→G a b=some c→Bd k c)(hR:∀t,t<n→RB M k (R t)): Pk (Zf8 [Z7 (n+1) G,Za4 n R]) fun t=>(∃R',t=Za4 n R'∧Hand n G R R' M (k+1))∨(t=.none∧Zfy n G R):=by
 unfold Zf8 ZkS
 have hF:=Zdl hR
 have bM1:Bd (k+1) M:=bM.mono (by omega)
 have hr:Za4 n R=.lst (tab n fun i=>Z4 (R i)):=rfl
 rw[hr]
 walk_at "zz"
 rw[Zoz]
 walk_at "zz"
 refine ZbU (n:=n) (a:=fun i=>.int ((i+1:Nat):Int)) (P:=fun m σ=>∃F:Nat→Option (Int×Int),σ 0=some (Z7 (n+1) G)∧σ 2=some (.lst (tab (n+1) fun i=>Z4 (ZZ R i)))∧σ 3=some (.lst (tab (n+1) fun i=>oR (F i)))∧F 0=some (0,0)∧(∀a,a<m→Zc7 n G R M (k+1) (a+1) (n+1) (F (a+1)))∧∀a,m≤a→a<n→F (a+1)=some (R a)) ?_ ⟨fun i=>some (ZZ R i),by walk_at "zr",by walk_at "zr",by walk_at "zr",rfl,by omega,fun _ _ _=>rfl⟩ ?_ ?_
 ·by_cases h0:n=0
  ·subst h0
   exact⟨[],ZgL (a:=1) (b:=1) rfl ZrA,rfl⟩
  ·walk_at "zz"
   refine Rn.two 1 n (by decide) (by omega) (by omega) (by omega) ?_
   refine Zbi fun i _=>?_
   congr 1
   omega
 ·rintro i σ hi ⟨F,e0,e2,e3,z0,h1,h2⟩
  have hself:(fun a=>oR (F a))=fun a=>oR (if a=i+1 then F (i+1)else F a):=funext fun a=>by split <;> simp_all
  rw[hself]at e3
  refine ZbU (n:=n+1) (a:=fun j=>.int j) (P:=fun j σ=>∃o,σ 0=some (Z7 (n+1) G)∧σ 2=some (.lst (tab (n+1) fun i=>Z4 (ZZ R i)))∧σ 3=some (.lst (tab (n+1) fun a=>oR (if a=i+1 then o else F a)))∧σ 4=some (.int ((i+1:Nat):Int))∧Zc7 n G R M (k+1) (i+1) j o) ?_ ⟨F (i+1),by walk_at "zr",by walk_at "zr",by walk_at "zr",by walk_at "zr",?_⟩ ?_ ?_
  ·walk_at "zz"
   rfl
  ·rw[h2 i (by omega) hi]
   exact⟨(hF (i+1) (by omega)).mono (by omega),fun x=>⟨fun h=>⟨h,by omega⟩,fun h=>h.1⟩⟩
  ·rintro j σ hj ⟨o,f0,f2,f3,f4,ho⟩
   unfold Z7 Zax at f0
   walk_at "zz"
   have fin:∀σ':TL,σ' 0=σ 0→σ' 2=σ 2→σ' 3=σ 3→σ' 4=σ 4→Zc7 n G R M (k+1) (i+1) (j+1) o→∃o,σ' 0=some (Z7 (n+1) G)∧σ' 2=some (.lst (tab (n+1) fun i=>Z4 (ZZ R i)))∧σ' 3=some (.lst (tab (n+1) fun a=>oR (if a=i+1 then o else F a)))∧σ' 4=some (.int ((i+1:Nat):Int))∧Zc7 n G R M (k+1) (i+1) (j+1) o:=fun σ' g0 g2 g3 g4 h=>⟨o,g0.trans f0,g2.trans f2,g3.trans f3,g4.trans f4,h⟩
   refine⟨fun c=>?_,fun c=>⟨fun h=>(nomatch h),fun _=>?_⟩⟩
   ·have cne:i+1≠j:=fun q=>of_decide_eq_true c (by omega)
    cases hg:G (i+1) j with
    | none=>
     rw[Zbf]
     walk_at "zz"
     exact fin _ rfl rfl rfl rfl (Zm7 ho fun a b x ha=>by rw[hg]at ha;cases ha)
    | some a=>
     rw[Zao]
     walk_at "zz"
     refine ZfI (Zg7 (n:=0)) (.int (n:=0)) ?_
     walk_at "zz"
     refine⟨fun e=>?_,fun e=>?_⟩
     ·have e':=dec_iff.mp e
      rw[←Zao,oT_inj]at e'
      cases o with
      | none=>
       walk_at "zz"
       rw[if_pos rfl,show oR none=T.none from rfl]
       walk_at "zz"
       exact fin _ rfl rfl rfl rfl fun x hx=>ho x ⟨hx.1,fun j' hj'=>hx.2 j' (by omega)⟩
      | some q=>
       walk_at "zz"
       rw[if_pos rfl,show oR (some q)=T.tup [.int q.1,.int q.2]from rfl]
       walk_at "zz"
       rw[if_pos rfl]
       have hj2:=hF j hj
       have ba:=bG (i+1) j a (by omega) hj hg
       have hpl:=Zq4 hM bM hj2 ba
       have eq:Z4 (ZZ R j)=.tup [.int (ZZ R j).1,.int (ZZ R j).2]:=rfl
       rw[eq]
       walk_at "zz"
       rw[eq]
       walk_at "zz"
       refine ZH ZeE ?_
       rw[Zux _ hj2.1.nn]
       walk_at "zz"
       refine(ZpJ (p:=q) (q:=ZbG (ZZ R j) (0,a)) (k:=k+1) (by omega) ho.1.1 hpl.1 (ho.1.bd hM bM1) (hpl.bd hM bM1)).mono ?_
       rintro _ ⟨o',rfl,mt⟩
       refine⟨by cases o' <;> rfl,?_⟩
       walk_at "zz"
       refine⟨o',by walk_at "zr",by walk_at "zr",?_,by walk_at "zr",Zuy hk hM bM hg e' (by omega) ba hj2 ho mt⟩
       refine(show _=_ from ZbA).trans ?_
       congr 2
       refine Zbi fun a _=>?_
       split <;> rfl
     ·walk_at "zz"
      refine fin _ rfl rfl rfl rfl (Zm7 ho fun a' b x ha hb hab hx=>?_)
      rw[hg]at ha
      cases ha
      have:dec (oT (G j (i+1))=.int (-a))=true:=Za0 (by rw[hb,Zao];congr 1;omega)
      rw[this]at e
      cases e
   ·walk_at "zz"
    refine fin _ rfl rfl rfl rfl (Zm7 ho fun a b x ha hb hab hx=>?_)
    have cj:i+1=j:=by
     have:=of_decide_eq_false c
     omega
    subst cj
    rw[ha]at hb
    cases hb
    rw[show x-a=x by omega]
    exact hx.1
  ·rintro σ ⟨o,f0,f2,f3,f4,ho⟩
   refine⟨fun a=>if a=i+1 then o else F a,f0,f2,f3,by simp[z0],fun a ha=>?_,fun a ha hb=>?_⟩
   ·by_cases q:a=i
    ·subst q;simpa using ho
    ·simpa [q]using h1 a (by omega)
   ·simpa [show a≠i by omega]using h2 a (by omega) hb
 ·rintro σ ⟨F,e0,e2,e3,z0,h1,-⟩
  walk_at "zz"
  refine ZfP (.none (n:=0)) (Zel (n:=1) fun i _=>Zjr) ?_
  by_cases hc:∃i,i<n∧F (i+1)=none
  ·obtain⟨i,hi,ei⟩:=hc
   rw[Za0 (show T.none∈tab (n+1) fun i=>oR (F i)from List.mem_of_getElem? (i:=i+1) (by rw[ZbM (by omega),ei];rfl))]
   walk_at "zz"
   refine .inr ⟨rfl,i,hi,?_⟩
   have:=h1 i hi
   rw[ei]at this
   exact this
  ·rw[Zbw (show ¬T.none∈tab (n+1) fun i=>oR (F i)from fun h=>by
    obtain⟨i,hi,e⟩:=ZcO h
    have e':=oR_none.mp e.symm
    cases i with
    | zero=>rw[z0]at e';cases e'
    | succ i=>exact hc ⟨i,by omega,e'⟩)]
   walk_at "zz"
   refine Zwq ?_
   walk_at "zz"
   refine⟨_,rfl,?_⟩
   rw[Zuz]
   have hs:∀i,i<n→F (i+1)=some ((F (i+1)).getD (1,0)):=fun i hi=>by
    cases e:F (i+1)with
    | none=>exact absurd ⟨i,hi,e⟩ hc
    | some q=>rfl
   refine .inl ⟨fun i=>(F (i+1)).getD (1,0),?_,fun t ht=>?_⟩
   ·unfold Za4
    congr 1
    refine Zbi fun i hi=>?_
    conv=>lhs;rw[hs i hi]
    rfl
   ·have:=h1 t ht
    rw[hs t ht]at this
    exact this
theorem Zwr(hi:RestOk (ZZ R i))(hj:RestOk (ZZ R j)): ZbJ R i j=ZaH (Int.gcd (ZZ R i).1 (ZZ R j).1:Nat) ((ZZ R i).2-(ZZ R j).2):=
 ZhY (Zd0 R i j) (Zcs (by omega) _) fun x=>(ZgI hi hj x).trans (Zdh (by omega) x).symm
theorem Zws(hi:RestOk (ZZ R i))(hj:RestOk (ZZ R j)): ZaS G R i j=if((Int.gcd (ZZ R i).1 (ZZ R j).1:Nat):Int)=0 then(match G i j with | none=>some ((ZZ R i).2-(ZZ R j).2) | some b=>if(ZZ R i).2-(ZZ R j).2≤b then some ((ZZ R i).2-(ZZ R j).2)else none)else(match G i j with | none=>none | some b=>some (b-(b-((ZZ R i).2-(ZZ R j).2)) % (Int.gcd (ZZ R i).1 (ZZ R j).1:Nat))):=by
 unfold ZaS
 rw[Zwr hi hj]
 generalize ((Int.gcd (ZZ R i).1 (ZZ R j).1:Nat):Int)=m at *
 generalize (ZZ R i).2-(ZZ R j).2=r
 unfold ZaH
 by_cases c:m=0
 ·rw[if_pos c,if_pos c]
  cases G i j with
  | none=>simp[Zb1]
  | some b=>simp[Zb1,ZdH]
 ·rw[if_neg c,if_neg c]
  cases G i j with
  | none=>simp[Zb1,c]
  | some b=>
   have:(b-r.fmod m) % m=(b-r) % m:=by
    have h1:m ∣ (b-r.fmod m)-(b-r):=by
     have:=Int.mul_fdiv_add_fmod r m
     exact⟨r.fdiv m,by omega⟩
    exact Int.emod_eq_emod_iff_emod_sub_eq_zero.mpr (Int.emod_eq_zero_of_dvd h1)
   simp[Zb1,ZdH,c,this]
noncomputable def ZfR(n:Nat)(G:Nat→Nat→Option Int)(R:Nat→Int×Int)(F:Nat→Nat→Option Int)(i j:Nat): Prop:=∀a b,a<n+1→b<n+1→((a<i∨(a=i∧b<j))→F a b=ZaS G R a b∧∀c,G a b=some c→ZaS G R a b≠none)∧(¬(a<i∨(a=i∧b<j))→F a b=G a b)
theorem ZpK(h:ZfR n G R F i j)(e:G i j=ZaS G R i j): ZfR n G R F i (j+1):=fun a b ha hb=>by
 obtain⟨h1,h2⟩:=h a b ha hb
 refine⟨fun q=>?_,fun q=>h2 (by omega)⟩
 by_cases q':a=i∧b=j
 ·obtain⟨rfl,rfl⟩:=q'
  rw[h2 (by omega)]
  exact⟨e,fun c hc=>by rw[←e,hc];simp⟩
 ·exact h1 (by omega)
theorem Zm8{v:Int}(h:ZfR n G R F i j)(e:ZaS G R i j=some v): ZfR n G R (ZbZ F i j (some v)) i (j+1):=fun a b ha hb=>by
 obtain⟨h1,h2⟩:=h a b ha hb
 by_cases q':a=i∧b=j
 ·obtain⟨rfl,rfl⟩:=q'
  rw[ZiS]
  exact⟨fun _=>⟨e.symm,fun c _=>by rw[e];simp⟩,fun q=>by omega⟩
 ·rw[ZgQ q']
  exact⟨fun q=>h1 (by omega),fun q=>h2 (by omega)⟩
theorem Zso(hn:n≤100)(hk:k≤7000)(hM:0<M)(bM:Bd k M)(hR:∀t,t<n→RB M k (R t))(hd:∀i,i<n+1→G i i=some 0): Pk (Zhw [Z7 (n+1) G,Za4 n R]) fun t=>(t=Z7 (n+1) (ZaS G R)∧¬ZdE n G R)∨(t=.none∧ZdE n G R):=by
 unfold Zhw Zku
 have hF:=Zdl hR
 have hlz:=Ziy (fun i hi=>(hF i hi).1) hd
 have hr:Za4 n R=.lst (tab n fun i=>Z4 (R i)):=rfl
 rw[hr]
 walk_at "zz"
 rw[Zoz]
 refine Zie (n:=n+1) (G:=G) (by omega) ?_ ?_
 ·walk_at "zz"
  rfl
 walk_at "zz"
 refine ZbU (n:=n+1) (a:=fun i=>.int i) (P:=fun i σ=>∃F,σ 0=some (Z7 (n+1) G)∧σ 2=some (.lst (tab (n+1) fun i=>Z4 (ZZ R i)))∧σ 3=some (Z7 (n+1) F)∧ZfR n G R F i 0) ?_ ⟨G,by walk_at "zr",by walk_at "zr",by walk_at "zr",fun a b _ _=>⟨fun q=>by omega,fun _=>rfl⟩⟩ ?_ ?_
 ·walk_at "zz"
  rfl
 ·rintro i σ hi ⟨F,e0,e2,e3,lt⟩
  refine ZbU (n:=n+1) (a:=fun i=>.int i) (P:=fun j σ=>∃F,σ 0=some (Z7 (n+1) G)∧σ 2=some (.lst (tab (n+1) fun i=>Z4 (ZZ R i)))∧σ 3=some (Z7 (n+1) F)∧σ 4=some (.int i)∧ZfR n G R F i j) ?_ ⟨F,by walk_at "zr",by walk_at "zr",by walk_at "zr",by walk_at "zr",lt⟩ ?_ ?_
  ·walk_at "zz"
   rfl
  ·rintro j σ hj ⟨F,e0,e2,e3,e4,lt⟩
   have hi1:=hF i hi
   have hj1:=hF j hj
   have lw:=Zws (G:=G) hi1.1 hj1.1
   have f0:σ 0=some (.lst (tab (n+1) fun i=>.lst (tab (n+1) fun j=>oT (G i j)))):=e0
   have f3:σ 3=some (.lst (tab (n+1) fun i=>.lst (tab (n+1) fun j=>oT (F i j)))):=e3
   have eqi:Z4 (ZZ R i)=.tup [.int (ZZ R i).1,.int (ZZ R i).2]:=rfl
   have eqj:Z4 (ZZ R j)=.tup [.int (ZZ R j).1,.int (ZZ R j).2]:=rfl
   clear e0 e3
   walk_at "zz"
   rw[eqi]
   walk_at "zz"
   rw[eqj]
   walk_at "zz"
   refine ZH (Zmu (ZbS (hi1.bd hM bM).1 (by omega)) (ZbS (hj1.bd hM bM).1 (by omega))) ?_
   walk_at "zz"
   rw[eqi]
   walk_at "zz"
   rw[eqj]
   walk_at "zz"
   have hm0:(0:Int)≤((Int.gcd (ZZ R i).1 (ZZ R j).1:Nat):Int):=by omega
   generalize ((Int.gcd (ZZ R i).1 (ZZ R j).1:Nat):Int)=m at *
   generalize (ZZ R i).2-(ZZ R j).2=r at *
   refine⟨fun c=>?_,fun c=>⟨fun h=>(nomatch h),fun _=>?_⟩⟩
   ·have cne:(i:Int)≠j:=of_decide_eq_true c
    by_cases cm:m=0
    ·rw[if_pos cm]at lw
     walk_at "zz"
     cases hg:G i j with
     | none=>
      rw[hg]at lw
      rw[Zbf]
      walk_at "zz"
      rw[←Zao (c:=r),Zd5]
      exact⟨_,by walk_at "zr",by walk_at "zr",by walk_at "zr",by walk_at "zr",Zm8 lt lw⟩
     | some b=>
      rw[hg]at lw
      rw[Zao]
      walk_at "zz"
      by_cases cb:b<r
      ·walk_at "zz"
       refine .inr ⟨rfl,i,j,hi,hj,b,hg,?_⟩
       rw[lw]
       exact if_neg (by omega)
      ·walk_at "zz"
       rw[←Zao (c:=r),Zd5]
       exact⟨_,by walk_at "zr",by walk_at "zr",by walk_at "zr",by walk_at "zr",Zm8 lt (by rw[lw];exact if_pos (by omega))⟩
    ·rw[if_neg cm]at lw
     walk_at "zz"
     cases hg:G i j with
     | none=>
      rw[hg]at lw
      rw[Zbf]
      walk_at "zz"
      exact⟨F,by walk_at "zr",by walk_at "zr",by walk_at "zr",by walk_at "zr",ZpK lt (by rw[hg,lw])⟩
     | some b=>
      rw[hg]at lw
      rw[Zao]
      walk_at "zz"
      rw[Int.fmod_eq_emod_of_nonneg _ hm0]
      walk_at "zz"
      rw[←Zao (c:=b-(b-r) % m),Zd5]
      exact⟨_,by walk_at "zr",by walk_at "zr",by walk_at "zr",by walk_at "zr",Zm8 lt lw⟩
   ·have ceq:i=j:=by
     have:=of_decide_eq_false c
     omega
    walk_at "zz"
    subst ceq
    exact⟨F,by walk_at "zr",by walk_at "zr",by walk_at "zr",by walk_at "zr",ZpK lt (by rw[hd _ hi,hlz _ hi])⟩
  ·rintro σ ⟨F,e0,e2,e3,e4,lt⟩
   exact⟨F,e0,e2,e3,fun a b ha hb=>⟨fun q=>(lt a b ha hb).1 (by omega),fun q=>(lt a b ha hb).2 (by omega)⟩⟩
 ·rintro σ ⟨F,e0,e2,e3,lt⟩
  walk_at "zz"
  refine .inl ⟨?_,?_⟩
  ·unfold Z7 Zax
   congr 1
   refine Zbi fun a ha=>?_
   congr 1
   refine Zbi fun b hb=>?_
   rw[((lt a b ha hb).1 (by omega)).1]
  ·rintro⟨a,b,ha,hb,c,hc,e⟩
   exact((lt a b ha hb).1 (by omega)).2 c hc e
noncomputable def Zb9(G:Nat→Nat→Option Int): Nat→List Nat→Nat→Option Int
 | i,[],j=>G i j
 | i,k::l,j=>Zaj (G i k) (Zb9 G k l j)
theorem Zc1(G:Nat→Nat→Option Int): ∀(i:Nat) (l1:List Nat) (k:Nat) (l2:List Nat) (j:Nat),Zb9 G i (l1++k::l2) j=Zaj (Zb9 G i l1 k) (Zb9 G k l2 j)
 | i,[],k,l2,j=>rfl
 | i,a::l1,k,l2,j=>by
  show Zaj (G i a) (Zb9 G a (l1++k::l2) j)=Zaj (Zaj (G i a) (Zb9 G a l1 k)) (Zb9 G k l2 j)
  rw[Zc1 G a l1 k l2 j,Zgo]
theorem Zqs{n:Nat}{G C:Nat→Nat→Option Int}(hle:∀i j,i<n→j<n→leO (C i j) (G i j))(tri:∀k i j,k<n→i<n→j<n→leO (C i j) (Zaj (C i k) (C k j))): ∀(l:List Nat) (i j:Nat),(∀a∈l,a<n)→i<n→j<n→leO (C i j) (Zb9 G i l j)
 | [],i,j,_,hi,hj=>hle i j hi hj
 | k::l,i,j,hl,hi,hj=>by
  have hk:=hl k Zz5
  exact Zct (tri k i j hk hi hj) (Zft (hle i k hi hk) (Zqs hle tri l k j (fun a m=>hl a (Zz2 _ m)) hk hj))
theorem Zg2{n:Nat}{G:Nat→Nat→Option Int}: ∀(m:Nat),m≤n→∀i j c,clG G m i j=some c→∃l:List Nat,(∀a∈l,a<n)∧Zb9 G i l j=some c
 | 0,_,i,j,c,h=>⟨[],by simp,h⟩
 | m+1,hm,i,j,c,h=>by
  rcases ZeK (clG G m i j) (Zaj (clG G m i m) (clG G m m j))with e | e
  ·rw[show clG G (m+1) i j=_ from e]at h
   exact Zg2 (n:=n) m (by omega) i j c h
  ·rw[show clG G (m+1) i j=_ from e]at h
   obtain⟨p,q,h1,h2,h3⟩:=addO_some.mp h
   obtain⟨l1,a1,b1⟩:=Zg2 (n:=n) m (by omega) i m p h1
   obtain⟨l2,a2,b2⟩:=Zg2 (n:=n) m (by omega) m j q h2
   refine⟨l1++m::l2,fun a ha=>?_,by rw[Zc1,b1,b2];simp[Zaj,h3]⟩
   rcases Zz8.mp ha with ha | ha
   ·exact a1 a ha
   ·rcases Zz7.mp ha with rfl | ha
    ·omega
    ·exact a2 a ha
theorem Zm9: ∀(n:Nat) (l:List Nat),l.Nodup→(∀a∈l,a<n)→l.length≤n
 | 0,l,_,h=>by
  cases l with
  | nil=>simp
  | cons a l=>exact absurd (h a Zz5) (by omega)
 | n+1,l,hn,h=>by
  have h1:=Zm9 n (l.erase n) (hn.erase n) fun a ha=>by
   have ha':=List.mem_of_mem_erase ha
   have:=h a ha'
   have hne:a≠n:=fun q=>by
    subst q
    exact(List.Nodup.not_mem_erase hn) ha
   omega
  have h2:=List.length_erase_of_mem (a:=n) (l:=l)
  by_cases q:n∈l
  ·have:=h2 q;have:0<l.length:=List.length_pos_of_mem q;omega
  ·rw[List.erase_of_not_mem q]at h1;omega
theorem Zna: ∀(l:List Nat),¬l.Nodup→∃k l1 l2 l3,l=l1++k::(l2++k::l3)
 | [],h=>absurd List.nodup_nil h
 | a::l,h=>by
  by_cases q:a∈l
  ·obtain⟨l2,l3,e⟩:=List.append_of_mem q
   exact⟨a,[],l2,l3,by rw[e];rfl⟩
  ·have:¬l.Nodup:=fun n=>h (List.nodup_cons.mpr ⟨q,n⟩)
   obtain⟨k,l1,l2,l3,e⟩:=Zna l this
   exact⟨k,a::l1,l2,l3,by rw[e];rfl⟩
theorem Zwt(pos:∀k l s,k<n→(∀a∈l,a<n)→Zb9 G k l k=some s→0≤s)(hi:i<n)(hj:j<n): ∀(L:Nat) (l:List Nat) (s:Int),l.length=L→(∀a∈l,a<n)→Zb9 G i l j=some s→∃l' s',l'.length+1≤n∧(∀a∈l',a<n)∧Zb9 G i l' j=some s'∧s'≤s:=by
 intro L
 induction L using Nat.strongRecOn with
 | _ L ih=>
  intro l s hL hl h
  by_cases q:i∈l
  ·obtain⟨l1,l2,e⟩:=List.append_of_mem q
   subst e
   rw[Zc1]at h
   obtain⟨p,r,h1,h2,h3⟩:=addO_some.mp h
   have hp:=pos i l1 p hi (fun a ha=>hl a (Zz4 _ ha)) h1
   obtain⟨l',s',k1,k2,k3,k4⟩:=ih l2.length (by rw[←hL];simp;omega) l2 r rfl (fun a ha=>hl a (Zz3 _ (Zz2 _ ha))) h2
   exact⟨l',s',k1,k2,k3,by omega⟩
  ·by_cases nd:l.Nodup
   ·have:=Zm9 n (i::l) (List.nodup_cons.mpr ⟨q,nd⟩) (fun a ha=>by
     rcases Zz7.mp ha with rfl | ha
     ·exact hi
     ·exact hl a ha)
    exact⟨l,s,by simpa using this,hl,h,by omega⟩
   ·obtain⟨k,l1,l2,l3,e⟩:=Zna l nd
    subst e
    rw[Zc1]at h
    obtain⟨p,r,h1,h2,h3⟩:=addO_some.mp h
    rw[Zc1]at h2
    obtain⟨p2,r2,h4,h5,h6⟩:=addO_some.mp h2
    have hk:k<n:=hl k (by simp)
    have hp:=pos k l2 p2 hk (fun a ha=>hl a (by simp[ha])) h4
    have h7:Zb9 G i (l1++k::l3) j=some (p+r2):=by rw[Zc1,h1,h5];rfl
    obtain⟨l',s',k1,k2,k3,k4⟩:=ih (l1++k::l3).length (by rw[←hL];simp;omega) (l1++k::l3) (p+r2) rfl (fun a ha=>hl a (by simp at ha ⊢;rcases ha with h | h | h <;> simp[h])) h7
    exact⟨l',s',k1,k2,k3,by omega⟩
theorem ZtQ: ∀(L:Nat) (i:Nat) (l:List Nat) (s:Int),l.length=L→i<n→(∀a∈l,a<n)→Zb9 G i l i=some s→s<0→∃i' l' s',l'.length+1≤n∧i'<n∧(∀a∈l',a<n)∧Zb9 G i' l' i'=some s'∧s'<0:=by
 intro L
 induction L using Nat.strongRecOn with
 | _ L ih=>
  intro i l s hL hi hl h hs
  by_cases q:i∈l
  ·obtain⟨l1,l2,e⟩:=List.append_of_mem q
   subst e
   rw[Zc1]at h
   obtain⟨p,r,h1,h2,h3⟩:=addO_some.mp h
   by_cases hp:p<0
   ·exact ih l1.length (by rw[←hL];simp) i l1 p rfl hi (fun a ha=>hl a (Zz4 _ ha)) h1 hp
   ·exact ih l2.length (by rw[←hL];simp;omega) i l2 r rfl hi (fun a ha=>hl a (Zz3 _ (Zz2 _ ha))) h2 (by omega)
  ·by_cases nd:l.Nodup
   ·have:=Zm9 n (i::l) (List.nodup_cons.mpr ⟨q,nd⟩) (fun a ha=>by
     rcases Zz7.mp ha with rfl | ha
     ·exact hi
     ·exact hl a ha)
    exact⟨i,l,s,by simpa using this,hi,hl,h,hs⟩
   ·obtain⟨k,l1,l2,l3,e⟩:=Zna l nd
    subst e
    rw[Zc1]at h
    obtain⟨p,r,h1,h2,h3⟩:=addO_some.mp h
    rw[Zc1]at h2
    obtain⟨p2,r2,h4,h5,h6⟩:=addO_some.mp h2
    have hk:k<n:=hl k (by simp)
    by_cases hp:p2<0
    ·exact ih l2.length (by rw[←hL];simp;omega) k l2 p2 rfl hk (fun a ha=>hl a (by simp[ha])) h4 hp
    ·have h7:Zb9 G i (l1++k::l3) i=some (p+r2):=by rw[Zc1,h1,h5];rfl
     exact ih (l1++k::l3).length (by rw[←hL];simp;omega) i (l1++k::l3) (p+r2) rfl hi (fun a ha=>hl a (by simp at ha ⊢;rcases ha with h | h | h <;> simp[h])) h7 (by omega)
noncomputable def Ze3(n r:Nat)(G D:Nat→Nat→Option Int): Prop:=(∀i j,i<n→j<n→∀c,D i j=some c→∃l:List Nat,(∀a∈l,a<n)∧Zb9 G i l j=some c)∧∀(l:List Nat) i j,l.length+1≤r→(∀a∈l,a<n)→i<n→j<n→leO (D i j) (Zb9 G i l j)
theorem Zvn: Ze3 n 1 G G:=⟨fun i j _ _ c h=>⟨[],by simp,h⟩,fun l i j h _ _ _=>by
 have:l=[]:=List.length_eq_zero_iff.mp (by omega)
 subst this
 exact ZcH⟩
noncomputable def ZrP(n:Nat)(D D':Nat→Nat→Option Int): Prop:=∀i j,i<n→j<n→leO (D' i j) (D i j)∧(∀k,k<n→leO (D' i j) (Zaj (D i k) (D k j)))∧(D' i j=D i j∨∃k,k<n∧D' i j=Zaj (D i k) (D k j))
theorem ZtR{r:Nat}{D D':Nat→Nat→Option Int}(h:Ze3 n r G D)(t:ZrP n D D'): Ze3 n (2*r) G D':=by
 refine⟨fun i j hi hj c e=>?_,fun l i j hl ha hi hj=>?_⟩
 ·obtain⟨_,_,e1 | ⟨k,hk,e1⟩⟩:=t i j hi hj
  ·rw[e1]at e;exact h.1 i j hi hj c e
  ·rw[e1]at e
   obtain⟨p,q,h1,h2,h3⟩:=addO_some.mp e
   obtain⟨l1,a1,b1⟩:=h.1 i k hi hk p h1
   obtain⟨l2,a2,b2⟩:=h.1 k j hk hj q h2
   refine⟨l1++k::l2,fun a ha=>?_,by rw[Zc1,b1,b2];simp[Zaj,h3]⟩
   rcases Zz8.mp ha with ha | ha
   ·exact a1 a ha
   ·rcases Zz7.mp ha with rfl | ha
    ·exact hk
    ·exact a2 a ha
 ·obtain⟨t1,t2,_⟩:=t i j hi hj
  by_cases q:l.length+1≤r
  ·exact Zct t1 (h.2 l i j q ha hi hj)
  ·have hr:1≤r:=by omega
   have hlt:r-1<l.length:=by omega
   obtain⟨k,l1,l2,e,hl1⟩:∃k l1 l2,l=l1++k::l2∧l1.length=r-1:=⟨l[r-1],l.take (r-1),l.drop r,by
    have e1:=(List.take_append_drop (r-1) l).symm
    rw[List.drop_eq_getElem_cons hlt,show r-1+1=r by omega]at e1
    exact e1,by simp;omega⟩
   subst e
   have hk:k<n:=ha k (by simp)
   rw[Zc1]
   refine Zct (t2 k hk) (Zft (h.2 l1 i k (by omega) (fun a m=>ha a (Zz4 _ m)) hi hk) (h.2 l2 k j ?_ (fun a m=>ha a (Zz3 _ (Zz2 _ m))) hk hj))
   simp at hl
   omega
theorem ZtS{r:Nat}{D:Nat→Nat→Option Int}(hd:∀i,i<n→G i i=some 0)(hr:n≤r)(b:Ze3 n r G D)(nn:∀m,m<n→¬Neg n (clG G (m+1))): ∀i j,i<n→j<n→D i j=clG G n i j:=by
 intro i j hi hj
 have low:=Zqs (n:=n) (G:=G) (C:=clG G n) (fun i j _ _=>Zg8 n i j) (fun k i j hk hi hj=>Zom hd n (by omega) nn k hk i j hi hj)
 have zero:=ZeL hd (m:=n) nn
 have pos:∀k l s,k<n→(∀a∈l,a<n)→Zb9 G k l k=some s→0≤s:=fun k l s hk hl e=>by
  have:=low l k k hl hk hk
  rw[zero k hk,e]at this
  exact leO_some.mp this
 refine Zs0 ?_ ?_
 ·intro c e
  obtain⟨l,h1,h2⟩:=Zg2 n (Zz10 n) i j c e
  obtain⟨l',s',k1,k2,k3,k4⟩:=Zwt pos hi hj _ l c rfl h1 h2
  have:=b.2 l' i j (by omega) k2 hi hj
  rw[k3]at this
  obtain⟨x,e1,e2⟩:=this s' rfl
  exact⟨x,e1,by omega⟩
 ·intro c e
  obtain⟨l,h1,h2⟩:=b.1 i j hi hj c e
  have:=low l i j h1 hi hj
  rw[h2]at this
  exact this c rfl
theorem ZuA{r:Nat}{D:Nat→Nat→Option Int}(hr:n≤r)(b:Ze3 n r G D)(hm:m<n)(ng:Neg n (clG G (m+1))): Neg n D:=by
 obtain⟨i,hi,c,e,hc⟩:=ng
 obtain⟨l,h1,h2⟩:=Zg2 (n:=n) (m+1) (by omega) i i c e
 obtain⟨i',l',s',k1,k2,k3,k4,k5⟩:=ZtQ _ i l c rfl hi h1 h2 hc
 have:=b.2 l' i' i' (by omega) k3 k2 k2
 rw[k4]at this
 obtain⟨x,e1,e2⟩:=this s' rfl
 exact⟨i',k2,x,e1,by omega⟩
noncomputable def ZdK(n:Nat)(D F:Nat→Nat→Option Int)(done:Nat→Nat→Nat→Prop): Prop:=∀a b,a<n→b<n→leO (F a b) (D a b)∧(F a b=D a b∨∃k,k<n∧F a b=Zaj (D a k) (D k b))∧∀k,k<n→done a b k→leO (F a b) (Zaj (D a k) (D k b))
theorem Znb{D:Nat→Nat→Option Int}(h:ZdK n D F done)(hd:∀a b c,c<n→done' a b c→done a b c∨(a=i∧b=j∧c=k))(hl:leO (F i j) (Zaj (D i k) (D k j))): ZdK n D F done':=fun a b ha hb=>by
 obtain⟨h1,h2,h3⟩:=h a b ha hb
 refine⟨h1,h2,fun c hc q=>?_⟩
 rcases hd a b c hc q with q | ⟨rfl,rfl,rfl⟩
 ·exact h3 c hc q
 ·exact hl
theorem Zvo{D:Nat→Nat→Option Int}(h:ZdK n D F done)(hi:i<n)(hj:j<n)(hk:k<n)(hd:∀a b c,c<n→done' a b c→done a b c∨(a=i∧b=j∧c=k))(hl:leO (Zaj (D i k) (D k j)) (F i j)): ZdK n D (ZbZ F i j (Zaj (D i k) (D k j))) done':=fun a b ha hb=>by
 by_cases q:a=i∧b=j
 ·obtain⟨rfl,rfl⟩:=q
  obtain⟨h1,h2,h3⟩:=h a b ha hb
  rw[ZiS]
  refine⟨Zct hl h1,.inr ⟨k,hk,rfl⟩,fun c hc q=>?_⟩
  rcases hd a b c hc q with q | ⟨_,_,rfl⟩
  ·exact Zct hl (h3 c hc q)
  ·exact ZcH
 ·rw[ZgQ q]
  obtain⟨h1,h2,h3⟩:=h a b ha hb
  refine⟨h1,h2,fun c hc q'=>?_⟩
  rcases hd a b c hc q' with q' | ⟨rfl,rfl,_⟩
  ·exact h3 c hc q'
  ·exact absurd ⟨rfl,rfl⟩ q
theorem ZgB{D:Nat→Nat→Option Int}(h:ZdK n D F done)(hd:∀a b c,a<n→b<n→c<n→done' a b c→done a b c): ZdK n D F done':=fun a b ha hb=>by
 obtain⟨h1,h2,h3⟩:=h a b ha hb
 exact⟨h1,h2,fun c hc q=>h3 c hc (hd a b c ha hb hc q)⟩
theorem ZtT{D:Nat→Nat→Option Int}(h:ZdK n D F fun _ _ _=>True): ZrP n D F:=fun a b ha hb=>by
 obtain⟨h1,h2,h3⟩:=h a b ha hb
 exact⟨h1,fun k hk=>h3 k hk trivial,h2⟩
theorem ZsH(h0:0<n)(hn:n≤100)(hd:∀i,i<n→G i i=some 0): Pk (Ze4 [Z7 n G]) fun t=>∃r D,n≤r∧Ze3 n r G D∧((t=Z7 n D∧¬Neg n D)∨(t=.none∧Neg n D)):=by
 unfold Ze4 ZjC
 have hg:Z7 n G=.lst (tab n fun i=>Zax n (G i)):=rfl
 walk_at "zz"
 rw[hg]
 walk_at "zz"
 refine Zie (n:=n) (G:=G) (by omega) ?_ ?_
 ·walk_at "zz"
  rfl
 walk_at "zz"
 refine Zfv (fun m σ=>∃(r:Nat) (D:Nat→Nat→Option Int),σ 1=some (.int n)∧σ 2=some (Z7 n D)∧σ 3=some (.int r)∧Ze3 n r G D∧1≤r∧r≤2*n∧m=2*n-r) _ _ ?_ 1000000 (m:=2*n-1) ⟨1,G,by walk_at "zr",by walk_at "zr",by walk_at "zr",Zvn,by omega,by omega,rfl⟩ (by omega)
 rintro m σ ⟨r,D,e1,e2,e3,bs,r1,r2,rfl⟩
 have hdD:∀i,i<n→∃b,D i i=some b:=fun i hi=>by
  have:=bs.2 [] i i (by simpa using r1) (by simp) hi hi
  rw[show Zb9 G i [] i=some 0 from hd i hi]at this
  obtain⟨x,e,_⟩:=this 0 rfl
  exact⟨x,e⟩
 walk_at "zz"
 refine⟨fun c=>?_,fun c=>?_⟩
 ·have hrn:r<n:=by simpa using c
  walk_at "zz"
  refine Zie (n:=n) (G:=D) (by omega) ?_ ?_
  ·walk_at "zz"
   rfl
  walk_at "zz"
  refine ZbU (n:=n) (a:=fun i=>.int i) (P:=fun i σ=>∃F,σ 1=some (.int n)∧σ 2=some (Z7 n F)∧σ 3=some (.int r)∧σ 4=some (Z7 n D)∧ZdK n D F fun a _ _=>a<i) ?_ ⟨D,by walk_at "zr",by walk_at "zr",by walk_at "zr",by walk_at "zr",fun a b _ _=>⟨ZcH,.inl rfl,fun k _ q=>by omega⟩⟩ ?_ ?_
  ·walk_at "zz"
   rfl
  ·rintro i σ hi ⟨F0,f1,f2,f3,f4,pt⟩
   refine ZbU (n:=n) (a:=fun i=>.int i) (P:=fun j σ=>∃F,σ 1=some (.int n)∧σ 2=some (Z7 n F)∧σ 3=some (.int r)∧σ 4=some (Z7 n D)∧σ 5=some (.int i)∧ZdK n D F fun a b _=>a<i∨(a=i∧b<j)) ?_ ⟨F0,by walk_at "zr",by walk_at "zr",by walk_at "zr",by walk_at "zr",by walk_at "zr",ZgB pt fun a b c _ _ _ q=>by omega⟩ ?_ ?_
   ·walk_at "zz"
    rfl
   ·rintro j σ hj ⟨F1,f1,f2,f3,f4,f5,pt⟩
    refine ZbU (n:=n) (a:=fun i=>.int i) (P:=fun k σ=>∃F,σ 1=some (.int n)∧σ 2=some (Z7 n F)∧σ 3=some (.int r)∧σ 4=some (Z7 n D)∧σ 5=some (.int i)∧σ 6=some (.int j)∧ZdK n D F fun a b c=>a<i∨(a=i∧(b<j∨(b=j∧c<k)))) ?_ ⟨F1,by walk_at "zr",by walk_at "zr",by walk_at "zr",by walk_at "zr",by walk_at "zr",by walk_at "zr",ZgB pt fun a b c _ _ _ q=>by omega⟩ ?_ ?_
    ·walk_at "zz"
     rfl
    ·rintro k σ hk ⟨F,f1,f2,f3,f4,f5,f6,pt⟩
     have hdn:∀a b c,c<n→(a<i∨(a=i∧(b<j∨(b=j∧c<k+1))))→(a<i∨(a=i∧(b<j∨(b=j∧c<k))))∨(a=i∧b=j∧c=k):=fun a b c _ q=>by omega
     have f2':=f2
     unfold Z7 Zax at f2 f4
     walk_at "zz"
     cases hik:D i k with
     | none=>
      rw[Zbf]
      walk_at "zz"
      exact⟨F,by walk_at "zr",by walk_at "zr",by walk_at "zr",by walk_at "zr",by walk_at "zr",by walk_at "zr",Znb pt hdn (by rw[hik];exact Zdk)⟩
     | some p=>
      rw[Zao]
      walk_at "zz"
      cases hkj:D k j with
      | none=>
       rw[Zbf]
       walk_at "zz"
       exact⟨F,by walk_at "zr",by walk_at "zr",by walk_at "zr",by walk_at "zr",by walk_at "zr",by walk_at "zr",Znb pt hdn (by rw[hik,hkj];exact Zdk)⟩
      | some q=>
       rw[Zao]
       walk_at "zz"
       rw[hik,hkj,Zao,Zao]
       have hs:Zaj (D i k) (D k j)=some (p+q):=by rw[hik,hkj];rfl
       have hset:=Zvo pt hi hj hk hdn
       have hkeep:=Znb pt hdn
       rw[hs]at hset hkeep
       clear f2'
       walk_at "zz"
       cases hij:F i j with
       | none=>
        rw[Zbf]
        walk_at "zz"
        rw[←Zao (c:=p+q),Zd5]
        exact⟨_,by walk_at "zr",by walk_at "zr",by walk_at "zr",by walk_at "zr",by walk_at "zr",by walk_at "zr",hset (by rw[hij];exact Zdk)⟩
       | some g=>
        rw[Zao]
        walk_at "zz"
        rw[hij,Zao]
        walk_at "zz"
        by_cases hlt:p+q<g
        ·walk_at "zz"
         rw[←Zao (c:=p+q),Zd5]
         exact⟨_,by walk_at "zr",by walk_at "zr",by walk_at "zr",by walk_at "zr",by walk_at "zr",by walk_at "zr",hset (by rw[hij];exact leO_some.mpr (by omega))⟩
        ·walk_at "zz"
         exact⟨F,by walk_at "zr",by walk_at "zr",by walk_at "zr",by walk_at "zr",by walk_at "zr",by walk_at "zr",hkeep (by rw[hij];exact leO_some.mpr (by omega))⟩
    ·rintro σ ⟨F,f1,f2,f3,f4,f5,f6,pt⟩
     exact⟨F,f1,f2,f3,f4,f5,ZgB pt fun a b c _ _ hc q=>by omega⟩
   ·rintro σ ⟨F,f1,f2,f3,f4,f5,pt⟩
    exact⟨F,f1,f2,f3,f4,ZgB pt fun a b c _ hb _ q=>by omega⟩
  ·rintro σ ⟨F,f1,f2,f3,f4,pt⟩
   walk_at "zz"
   refine ZqX (by decide) (by decide) ?_
   walk_at "zz"
   exact⟨2*n-2*r,by omega,2*r,F,by walk_at "zr",by walk_at "zr",by rw[show((2*r:Nat):Int)=2*(r:Int)by omega];walk_at "zr",ZtR bs (ZtT (ZgB pt fun a b c ha _ _ _=>ha)),by omega,by omega,rfl⟩
 ·have hrn:n≤r:=by simp at c;omega
  refine ZeN ?_
  refine ZbU (n:=n) (a:=fun i=>.int i) (P:=fun i σ=>σ 2=some (Z7 n D)∧∀a,a<i→∀b,D a a=some b→0≤b) ?_ ⟨e2,by omega⟩ ?_ ?_
  ·walk_at "zz"
   rfl
  ·rintro i σ hi ⟨f2,f3⟩
   unfold Z7 Zax at f2
   obtain⟨b,eb⟩:=hdD i hi
   walk_at "zz"
   rw[eb,Zao]
   walk_at "zz"
   by_cases hb:b<0
   ·walk_at "zz"
    exact⟨r,D,hrn,bs,.inr ⟨rfl,i,hi,b,eb,hb⟩⟩
   ·walk_at "zz"
    refine⟨by walk_at "zr",fun a ha c hc=>?_⟩
    by_cases q:a=i
    ·subst q;rw[eb]at hc;cases hc;omega
    ·exact f3 a (by omega) c hc
  ·rintro σ ⟨f2,f3⟩
   walk_at "zz"
   refine⟨r,D,hrn,bs,.inl ⟨rfl,?_⟩⟩
   rintro⟨i,hi,b,eb,hb⟩
   have:=f3 i hi b eb
   omega
theorem Zq5(hn:n≤99)(hd:∀i,i<n+1→G i i=some 0): Pk (Ze4 [Z7 (n+1) G]) fun t=>(t=Z7 (n+1) (clG G (n+1))∧¬Zcg (n+1) G)∨(t=.none∧Zcg (n+1) G):=by
 refine(ZsH (by omega) (by omega) hd).mono ?_
 rintro t ⟨r,D,hr,bs,h⟩
 by_cases hc:Zcg (n+1) G
 ·obtain⟨m,hm,ng⟩:=hc
  have ng2:=ZuA hr bs hm ng
  rcases h with⟨_,h⟩ | ⟨h,_⟩
  ·exact absurd ng2 h
  ·exact .inr ⟨h,m,hm,ng⟩
 ·have nn:∀m,m<n+1→¬Neg (n+1) (clG G (m+1)):=fun m hm q=>hc ⟨m,hm,q⟩
  have same:=ZtS hd hr bs nn
  have hz:=ZeL hd nn
  rcases h with⟨h,_⟩ | ⟨_,i,hi,b,e,hb⟩
  ·refine .inl ⟨?_,hc⟩
   rw[h]
   unfold Z7 Zax
   congr 1
   refine Zbi fun i hi=>?_
   congr 1
   refine Zbi fun j hj=>?_
   rw[same i j hi hj]
  ·rw[same i i hi hi,hz i hi]at e
   cases e
   omega
theorem Zs3(hn:n≤99)(hk:k+2*n+4≤7000)(hM:0<M)(bM:Bd k M)(hd:∀i,i<n+1→G i i=some 0)(bG:BdG (n+1) k G)(hR:∀t,t<n→RB M k (R t)): Pk (ZdP [ZQ n G R]) fun t=>(∃G2 R2,t=ZQ n G2 R2∧Sharp n G R G2 R2 M (k+2*n+5))∨(t=.none∧Zfu n G R M (k+n+2)):=by
 unfold ZdP Zlu
 have ht:ZQ n G R=.tup [Z7 (n+1) G,Za4 n R]:=rfl
 have hg:∀G,Z7 (n+1) G=.lst (tab (n+1) fun i=>Zax (n+1) (G i)):=fun _=>rfl
 have hr:∀R,Za4 n R=.lst (tab n fun i=>Z4 (R i)):=fun _=>rfl
 rw[ht]
 walk_at "zz"
 refine(Zq5 hn hd).mono ?_
 rintro t (⟨rfl,nr⟩ | ⟨rfl,h⟩)
 ·rw[hg (clG G (n+1))]
  walk_at "zz"
  rw[←hg (clG G (n+1))]
  refine(Zo0 (k:=k+n+1) (by omega) (by omega) hM (bM.mono (by omega)) (Zeq bG (n+1) (by omega)) (fun t ht=>(hR t ht).mono (by omega))).mono ?_
  rintro t (⟨R1,rfl,h1⟩ | ⟨rfl,h⟩)
  ·have hR1:∀t,t<n→RB M (k+n+2) (R1 t):=fun t ht=>(h1 t ht).1
   have hF1:=Zdl hR1
   have z1:=ZeL hd (m:=n+1) fun m hm q=>nr ⟨m,hm,q⟩
   rw[hr R1]
   walk_at "zz"
   rw[←hr R1]
   refine(Zso (k:=k+n+2) (by omega) (by omega) hM (bM.mono (by omega)) hR1 z1).mono ?_
   rintro t (⟨rfl,nl⟩ | ⟨rfl,fl⟩)
   ·have bG1:BdG (n+1) (k+n+3) (ZaS (clG G (n+1)) R1):=Zon hM (bM.mono (by omega)) (fun a b c ha hb e=>(Zeq bG (n+1) (by omega) a b c ha hb e).mono (by omega)) hR1
    have z2:=Ziy (fun i hi=>(hF1 i hi).1) z1
    rw[hg (ZaS (clG G (n+1)) R1)]
    walk_at "zz"
    rw[←hg (ZaS (clG G (n+1)) R1)]
    refine(Zq5 hn z2).mono ?_
    rintro t (⟨rfl,nr2⟩ | ⟨rfl,h2⟩)
    ·rw[hg (clG (ZaS (clG G (n+1)) R1) (n+1))]
     walk_at "zz"
     rw[←hg (clG (ZaS (clG G (n+1)) R1) (n+1))]
     refine(Zo0 (k:=k+n+3+n+1) (by omega) (by omega) hM (bM.mono (by omega)) (fun a b c ha hb e=>Zeq bG1 (n+1) (by omega) a b c ha hb e) (fun t ht=>(hR1 t ht).mono (by omega))).mono ?_
     rintro t (⟨R2,rfl,h2⟩ | ⟨rfl,h2⟩)
     ·rw[hr R2]
      walk_at "zz"
      exact .inl ⟨_,R2,rfl,⟨R1,nr,h1.mono (by omega),nl,nr2,rfl,h2.mono (by omega)⟩⟩
     ·walk_at "zz"
      exact .inr ⟨rfl,.inr (.inr ⟨R1,nr,h1,.inr ⟨nl,.inr ⟨nr2,h2⟩⟩⟩)⟩
    ·walk_at "zz"
     exact .inr ⟨rfl,.inr (.inr ⟨R1,nr,h1,.inr ⟨nl,.inl h2⟩⟩)⟩
   ·walk_at "zz"
    exact .inr ⟨rfl,.inr (.inr ⟨R1,nr,h1,.inl fl⟩)⟩
  ·walk_at "zz"
   exact .inr ⟨rfl,.inr (.inl ⟨nr,h⟩)⟩
 ·walk_at "zz"
  exact .inr ⟨rfl,.inl h⟩
noncomputable def SameG(n:Nat)(A B:Nat→Nat→Option Int): Prop:=∀i j,i<n→j<n→A i j=B i j
theorem ZiU{n:Nat}{A B:Nat→Nat→Option Int}(h:SameG n A B): ∀m,m≤n→SameG n (clG A m) (clG B m)
 | 0,_=>h
 | m+1,hm=>fun i j hi hj=>by
  have ih:=ZiU h m (by omega)
  show Za1 (clG A m i j) (Zaj (clG A m i m) (clG A m m j))=Za1 (clG B m i j) (Zaj (clG B m i m) (clG B m m j))
  rw[ih i j hi hj,ih i m hi (by omega),ih m j (by omega) hj]
theorem ZuB(h:SameG n A B)(r:Zcg n A): Zcg n B:=by
 obtain⟨m,hm,i,hi,b,e,hb⟩:=r
 exact⟨m,hm,i,hi,b,by rw[←ZiU h (m+1) (by omega) i i hi hi];exact e,hb⟩
noncomputable def SameR(n:Nat)(R S:Nat→Int×Int): Prop:=∀t,t<n→R t=S t
theorem Zip(h:SameR n R S): ∀i,i<n+1→ZZ R i=ZZ S i
 | 0,_=>rfl
 | i+1,hi=>h i (by omega)
theorem ZnC(h:SameG (n+1) A B)(hr:SameR n R S): SameG (n+1) (ZaS A R) (ZaS B S):=fun i j hi hj=>by
 unfold ZaS ZbJ
 rw[h i j hi hj,Zip hr i hi,Zip hr j hj]
theorem Zs4(h:SameG (n+1) A B)(hr:SameR n R S)(q:ZdE n A R): ZdE n B S:=by
 obtain⟨i,j,hi,hj,b,e,l⟩:=q
 exact⟨i,j,hi,hj,b,by rw[←h i j hi hj];exact e,by rw[←ZnC h hr i j hi hj];exact l⟩
theorem Zk7(h:SameG (n+1) A B)(hr:SameR n R S)(hi:i<n+1){x:Int}(q:ZcU n A R i (n+1) x): ZcU n B S i (n+1) x:=by
 refine⟨by rw[←Zip hr i hi];exact q.1,fun j hj a b ha hb hab=>?_⟩
 rw[←Zip hr j hj]
 exact q.2 j hj a b (by rw[h i j hi hj];exact ha) (by rw[h j i hj hi];exact hb) hab
theorem SameG.symm(h:SameG n A B): SameG n B A:=fun i j hi hj=>(h i j hi hj).symm
theorem SameR.symm{A B:Nat→Int×Int}(h:SameR n A B): SameR n B A:=fun i hi=>(h i hi).symm
theorem Znc{S':Nat→Int×Int}(h:SameG (n+1) A B)(hr:SameR n R S)(a:Hand n A R R' M k)(b:Hand n B S S' M' k'): SameR n R' S':=fun t ht=>
 ZhY (a t ht).1.1 (b t ht).1.1 fun x=>((a t ht).2 x).trans (Iff.trans ⟨Zk7 h hr (by omega),Zk7 h.symm hr.symm (by omega)⟩ ((b t ht).2 x).symm)
theorem Zp0(h:SameG (n+1) A B)(hr:SameR n R S)(a:Hand n A R R' M k): ¬Zfy n B S:=by
 rintro⟨i,hi,q⟩
 exact q _ (Zk7 h hr (by omega) (((a i hi).2 _).mp (a i hi).1.1.self))
theorem Zfl: SameG n A A:=fun _ _ _ _=>rfl
theorem Zmy{A:Nat→Int×Int}: SameR n A A:=fun _ _=>rfl
theorem ZuC(h:SameG (n+1) A B)(hr:SameR n R S): ZQ n A R=ZQ n B S:=by
 unfold ZQ Z7 Za4 Zax
 have e1:(tab (n+1) fun i=>T.lst (tab (n+1) fun j=>oT (A i j)))=tab (n+1) fun i=>T.lst (tab (n+1) fun j=>oT (B i j)):=Zbi fun i hi=>by
  congr 1
  exact Zbi fun j hj=>by rw[h i j hi hj]
 have e2:(tab n fun i=>Z4 (R i))=tab n fun i=>Z4 (S i):=Zbi fun i hi=>by rw[hr i hi]
 rw[e1,e2]
theorem ZtU{G2':Nat→Nat→Option Int}{R2':Nat→Int×Int}(a:Sharp n G R G2 R2 M k)(b:Sharp n G R G2' R2' M' k'): ZQ n G2 R2=ZQ n G2' R2':=by
 obtain⟨R1,a1,a2,a3,a4,rfl,a6⟩:=a.go
 obtain⟨S1,b1,b2,b3,b4,rfl,b6⟩:=b.go
 have r1:=Znc Zfl Zmy a2 b2
 have g2:=ZiU (ZnC (A:=clG G (n+1)) Zfl r1) (n+1) (by omega)
 exact ZuC g2 (Znc g2 r1 a6 b6)
theorem Zp1(a:Sharp n G R G2 R2 M k)(b:Zfu n G R M' k'): False:=by
 obtain⟨R1,a1,a2,a3,a4,rfl,a6⟩:=a.go
 rcases b with b | ⟨_,b⟩ | ⟨S1,b1,b2,b⟩
 ·exact a1 b
 ·exact Zp0 Zfl Zmy a2 b
 ·have r1:=Znc Zfl Zmy a2 b2
  have g1:=ZnC (A:=clG G (n+1)) Zfl r1
  rcases b with b | ⟨_,b | ⟨_,b⟩⟩
  ·exact a3 (Zs4 Zfl r1.symm b)
  ·exact a4 (ZuB g1.symm b)
  ·exact Zp0 (ZiU g1 (n+1) (by omega)) r1 a6 b
theorem ZtV{t u:T}(h:(∃G2 R2,t=ZQ n G2 R2∧Sharp n G R G2 R2 M (k+2*n+5))∨(t=.none∧Zfu n G R M (k+n+2)))(h':(∃G2 R2,u=ZQ n G2 R2∧Sharp n G R G2 R2 M (k+2*n+5))∨(u=.none∧Zfu n G R M (k+n+2))): t=u:=by
 rcases h with⟨A,B,rfl,h⟩ | ⟨rfl,h⟩
 ·rcases h' with⟨C,D,rfl,h'⟩ | ⟨rfl,h'⟩
  ·exact ZtU h h'
  ·exact absurd h' fun q=>Zp1 h q
 ·rcases h' with⟨C,D,rfl,h'⟩ | ⟨rfl,h'⟩
  ·exact absurd h fun q=>Zp1 h' q
  ·rfl
theorem ZtW(hn:n≤100)(hd:∀i,i<n+1→G i i=some 0)(ok:∀t,t<n→RestOk (R t)): ZhR [ZQ n G R,.int n]=some (.bool true):=by
 apply Pk.eq
 unfold ZhR Zlx ZQ Za4
 walk_at "zz"
 rw[show(n:Int)+1=((n+1:Nat):Int)by omega]
 refine ZH (Zwl (by omega) hd) ?_
 walk_at "zz"
 refine ZbU (n:=n) (a:=fun i=>Z4 (R i)) (P:=fun _ _=>True) ?_ trivial ?_ ?_
 ·walk_at "zz"
  rfl
 ·rintro t σ ht _
  have ho:=ok t ht
  unfold Z4
  walk_at "zz"
  refine ZH Zm3 ?_
  walk_at "zz"
  refine ZH Zm3 ?_
  walk_at "zz"
  have h0:=ho.nn
  walk_at "zz"
  rcases ho with h | h
  ·walk_at "zz"
   trivial
  ·walk_at "zz"
   trivial
 ·rintro σ _
  walk_at "zz"
  rfl
theorem ZtX(hd:∀i,i<n+1→G i i=some 0)(s:Sharp n G R G2 R2 M k): (∀i,i<n+1→G2 i i=some 0)∧∀k,k<n+1→∀i j,i<n+1→j<n+1→leO (G2 i j) (Zaj (G2 i k) (G2 k j)):=by
 obtain⟨R1,h1,h2,h3,h4,rfl,h6⟩:=s.go
 have hF:=Zdl fun t ht=>(h2 t ht).1
 have z1:=ZeL hd (m:=n+1) fun m hm q=>h1 ⟨m,hm,q⟩
 have z2:=Ziy (fun i hi=>(hF i hi).1) z1
 exact⟨ZeL z2 fun m hm q=>h4 ⟨m,hm,q⟩,Zom z2 (n+1) (by omega) fun m hm q=>h4 ⟨m,hm,q⟩⟩
noncomputable def Zdb(R:Nat→Int×Int): Nat→Int
 | 0=>1
 | t+1=>Zdb R t*(if(R t).1=0 then 1 else(R t).1)
theorem Ziq{n:Nat}{R:Nat→Int×Int}(h:∀t,t<n→RestOk (R t)): ∀m,m≤n→0<Zdb R m
 | 0,_=>by show(0:Int)<1;decide
 | m+1,hm=>by
  have ih:=Ziq h m (by omega)
  have:=(h m (by omega)).nn
  unfold Zdb
  refine Int.mul_pos ih ?_
  split
  ·decide
  ·omega
theorem Zir{R:Nat→Int×Int}: ∀m t,t<m→(R t).1=0∨(R t).1 ∣ Zdb R m
 | m+1,t,ht=>by
  by_cases z:(R t).1=0
  ·exact .inl z
  ·right
   unfold Zdb
   by_cases q:t=m
   ·subst q
    rw[if_neg z]
    exact Int.dvd_mul_left _ _
   ·exact Int.dvd_trans ((Zir m t (by omega)).resolve_left z) (Int.dvd_mul_right _ _)
theorem Ziz{n k:Nat}{R:Nat→Int×Int}(hk:1≤k)(h:∀t,t<n→Bd k (R t).1): ∀m,m≤n→Bd (k*m+1) (Zdb R m)
 | 0,_=>by rw[Nat.mul_zero];exact Zea (by omega)
 | m+1,hm=>by
  have ih:=Ziz hk h m (by omega)
  unfold Zdb
  have h2:Bd k (if(R m).1=0 then 1 else(R m).1):=by
   split
   ·exact Zea hk
   ·exact h m (by omega)
  have:=Bd.mul ih h2
  rw[Nat.mul_succ]
  exact this.mono (by omega)
theorem ZuD{k:Int}{B:Nat}(hL:Lay ns)(h0:0≤k)(h9:k≤1000)(hn:n≤9)(hB2:134≤B)(hR:∀t,t<n→RestOk (R t))(sR:SmR B n R)(sG:SmG B n G): Pk (ZhC [scr ns,.int k,ZQ n G R]) fun t=>∃G' R',t=ZQ n G' R'∧(∀i,i<n+1→G' i i=G i i)∧(∀t,t<n→RestOk (R' t))∧SmG (B+1) n G'∧SmR (B+1) n R':=by
 unfold ZhC ZkK
 have ht:ZQ n G R=.tup [.lst (tab (n+1) fun i=>Zax (n+1) (G i)),.lst (tab n fun i=>Z4 (R i))]:=rfl
 have e134:(2:Nat) ^ 134=21778071482940061661655974875633165533184:=by decide
 have hpB:(2:Nat) ^ 134≤2 ^ B:=Nat.pow_le_pow_right (by decide) hB2
 have hpB1:(2:Nat) ^ (B+1)=2 ^ B*2:=Nat.pow_succ ..
 have sG1:SmG (B+1) n G:=fun i j hi hj b h=>ZbS (sG i j hi hj b h) (by omega)
 have sR1:SmR (B+1) n R:=fun t ht=>⟨ZbS (sR t ht).1 (by omega),ZbS (sR t ht).2 (by omega)⟩
 rw[ht]
 walk_at "zz"
 refine Zie (n:=n+1) (G:=G) (by omega) ?_ ?_
 ·walk_at "zz"
  rfl
 unfold Z7 Zax
 walk_at "zz"
 obtain⟨p0,p1⟩:=Zck ns k (show(0:Int)<((n+1:Nat):Int)by omega)
 obtain⟨i,ei,hi⟩:=Zjd p0 p1
 obtain⟨p2,p3⟩:=Zck ns (k+1) (show(0:Int)<((n+1:Nat):Int)by omega)
 obtain⟨j,ej,hj⟩:=Zjd p2 p3
 obtain⟨w0,w1⟩:=Zck ns (k+2) (show(0:Int)<5 by decide)
 obtain⟨u0,u1⟩:=Zck ns (k+3) (show(0:Int)<4 by decide)
 obtain⟨u2,u3⟩:=Zck ns (k+3) (show(0:Int)<3 by decide)
 refine ZH (Zcl h0 (by omega) (by omega)) ?_
 rw[ei]
 walk_at "zz"
 refine ZH (Zcl (by omega) (by omega) (by omega)) ?_
 rw[ej]
 walk_at "zz"
 refine ZH (Zcl (by omega) (by omega) (by omega)) ?_
 walk_at "zz"
 generalize Zbx ns (k+2) 5=w at w0 w1
 by_cases hw:w<3∧i≠j
 ·have hij:(i:Int)≠(j:Int):=by omega
  have hw3:=hw.1
  have fin:∀v,(∀b,v=some b→b.natAbs<2 ^ (B+1))→(∀a,a<n+1→ZbZ G i j v a a=G a a)∧SmG (B+1) n (ZbZ G i j v):=fun v hv=>by
   refine⟨fun a ha=>by rw[ZgQ (by omega)],fun a b ha hb c hc=>?_⟩
   by_cases q:a=i∧b=j
   ·obtain⟨rfl,rfl⟩:=q;rw[ZiS]at hc;exact hv c hc
   ·rw[ZgQ q]at hc;exact sG1 a b ha hb c hc
  cases hg:G i j with
  | none=>
   walk_at "zz"
   rw[hg,Zbf]
   walk_at "zz"
   refine ZH (Zgz hL (by omega) (by omega)) ?_
   walk_at "zz"
   rw[←Zao (c:=Zcr ns (k+3)),Zd5]
   walk_at "zz"
   have:=ZiR ns (k+3)
   obtain⟨f1,f2⟩:=fin (some (Zcr ns (k+3))) (fun b e=>by cases e;omega)
   exact⟨ZbZ G i j (some (Zcr ns (k+3))),R,rfl,f1,hR,f2,sR1⟩
  | some g=>
   walk_at "zz"
   rw[hg,Zao]
   walk_at "zz"
   rw[hg,Zao]
   walk_at "zz"
   refine ZH (Zcl (by omega) (by omega) (by omega)) ?_
   walk_at "zz"
   rw[←Zao (c:=g-1-Zbx ns (k+3) 4),Zd5]
   walk_at "zz"
   have:=sG i j (by omega) (by omega) g hg
   obtain⟨f1,f2⟩:=fin (some (g-1-Zbx ns (k+3) 4)) (fun b e=>by cases e;omega)
   exact⟨ZbZ G i j _,R,rfl,f1,hR,f2,sR1⟩
 ·have hcase:(¬w<3)∨(w<3∧(i:Int)=(j:Int)):=by
   by_cases q:w<3
   ·exact .inr ⟨q,by
     have:i=j:=Classical.byContradiction fun h=>hw ⟨q,h⟩
     rw[this]⟩
   ·exact .inl q
  clear hw
  rcases hcase with hw | ⟨hw,hij⟩
  all_goals
   by_cases hn0:n=0
   ·subst hn0
    walk_at "zz"
    exact⟨G,R,rfl,fun _ _=>rfl,hR,sG1,sR1⟩
   ·have hnp:(0:Int)<(n:Int):=by omega
    walk_at "zz"
    obtain⟨q0,q1⟩:=Zck ns k hnp
    obtain⟨t,et,ht⟩:=Zjd q0 q1
    refine ZH (Zcl h0 (by omega) hnp) ?_
    rw[et]
    walk_at "zz"
    have hp:Z4 (R t)=.tup [.int (R t).1,.int (R t).2]:=rfl
    rw[hp]
    walk_at "zz"
    obtain⟨m0,m1⟩:0≤w.fmod 2∧w.fmod 2<2:=⟨Int.fmod_nonneg_of_pos _ (by decide),Int.fmod_lt_of_pos _ (by decide)⟩
    refine ZdY (by omega) (by omega) ?_
    walk_at "zz"
    refine ZH (Zcl (by omega) (by omega) (by omega)) ?_
    walk_at "zz"
    refine ZH ZeE ?_
    walk_at "zz"
    have hRt:=hR t ht
    have hm0:0≤(R t).1:=by rcases hRt with h | h <;> omega
    have sRt:=sR t ht
    obtain⟨c,hc,hc1⟩:∃c,(R t).1*(1+w.fmod 2)=c∧0≤c∧c≤(R t).1*2:=⟨_,rfl,Int.mul_nonneg hm0 (by omega),Int.mul_le_mul_of_nonneg_left (by omega) hm0⟩
    rw[hc]
    generalize hpp:ZaH c ((R t).2+Zbx ns (k+3) 3)=pp
    have p1:RestOk pp:=by rw[←hpp];exact Zcs hc1.1 _
    have p2:pp.1.natAbs<2 ^ (B+1)∧pp.2.natAbs<2 ^ (B+1):=by rw[←hpp];exact ZhH hc1.1 (by omega) (by omega)
    refine⟨G,fun s=>if s=t then pp else R s,?_,fun _ _=>rfl,fun s hs=>?_,sG1,fun s hs=>?_⟩
    ·unfold ZQ Z7 Zax Za4
     congr 5
     funext s
     show(if s=t then Z4 pp else Z4 (R s))=Z4 (if s=t then pp else R s)
     split <;> rfl
    ·show RestOk (if s=t then pp else R s)
     split
     ·exact p1
     ·exact hR s hs
    ·show(if s=t then pp else R s).1.natAbs<_∧(if s=t then pp else R s).2.natAbs<_
     split
     ·exact p2
     ·exact sR1 s hs
theorem ZsI: ZdT [.none,.none]=some (.bool true):=by
 apply Pk.eq
 unfold ZdT Zh9
 walk_at "zz"
 rfl
theorem ZsJ(hn:n≤100)(hd:∀i,i<n+1→G i i=some 0)(ok:∀t,t<n→RestOk (R t)): ZdT [ZQ n G R,ZQ n G R]=some (.bool true):=by
 apply Pk.eq
 unfold ZdT Zh9
 have ht:ZQ n G R=.tup [Z7 (n+1) G,.lst (tab n fun i=>Z4 (R i))]:=rfl
 rw[ht]
 walk_at "zz"
 rw[←ht]
 refine ZH (ZtW hn hd ok) ?_
 walk_at "zz"
 refine ZfI Znq Znq ?_
 rw[Za0 rfl]
theorem Zye: ∃g,ZcY (ZfV 0 (.int 7)) [0,0] (ZQ n G R)=some (.tup [g,Za4 n R]):=by
 refine⟨.lst ((tab (n+1) fun i=>T.lst (tab (n+1) fun j=>oT (G i j))).set 0 (.lst ((tab (n+1) fun j=>oT (G 0 j)).set 0 (.int 7)))),?_⟩
 unfold ZQ Z7 Zax
 simp only[ZcY,List.length_cons,List.length_nil,Zas,Zeo (show(0:Int)≤0 by decide) (show(0:Int)<((0+1+1:Nat):Int)by decide),Zeo (show(0:Int)≤0 by decide) (show(0:Int)<((n+1:Nat):Int)by omega),Option.bind_some,Int.toNat_zero,List.getElem?_cons_zero,ZbM (show 0<n+1 by omega),ZfV]
 rw[if_pos ⟨by omega,by omega⟩]
 rfl
theorem Zyf{g w:T}(hn:n≤100): ∃u,ZcY (ZfU w) [1] (.tup [g,Za4 n R])=some u:=by
 refine⟨.tup [g,.lst ((tab n fun i=>Z4 (R i))++[w])],?_⟩
 unfold Za4
 simp only[ZcY,List.length_cons,List.length_nil,Zeo (show(0:Int)≤1 by decide) (show(1:Int)<((0+1+1:Nat):Int)by decide),Option.bind_some,ZfU,Zas,show(1:Int).toNat=1 from rfl,List.getElem?_cons_succ,List.getElem?_cons_zero]
 rw[if_pos (by rw[Zbm];omega)]
 rfl
theorem Zwu{x:Nat}{P:T→Prop}(e:σ x=some (ZQ n G R))(h:∀g,N (Zaa σ x (.tup [g,Za4 n R]))): Psk (Za2 x [] (Zj 7) (Zbu (Zbu ZaC (Zj 0)) (Zj 0)) (Zj 0) σ) P N:=by
 obtain⟨g,hg⟩:=Zye (n:=n) (G:=G) (R:=R)
 refine⟨none,_,?_,by simp,fun _=>h g⟩
 simp only[Za2,ZaC,Zbu,Zj,Option.bind_some,e,List.nil_append,List.cons_append,hg,Option.map_some,Zgt]
theorem Zwv{x:Nat}{P:T→Prop}{g:T}{w:T}(hn:n≤100)(ef:f σ=some w)(e:σ x=some (.tup [g,Za4 n R]))(h:∀u,N (Zaa σ x u)): Psk (Zc0 x [] (Zbu ZaC (Zj 1)) f σ) P N:=by
 obtain⟨u,hu⟩:=Zyf (n:=n) (g:=g) (w:=w) (R:=R) hn
 refine⟨none,_,?_,by simp,fun _=>h u⟩
 simp only[Zc0,ZaC,Zbu,Zj,Option.bind_some,e,ef,List.nil_append,hu,Option.map_some,Zgt]
inductive Dp: Nat→T→Prop where
 | none {n:Nat}:Dp n .none
 | int {n:Nat} {i:Int}:Dp n (.int i)
 | tup {n:Nat} {ts:List T}:(∀t∈ts,Dp n t)→ts.length≤10000→Dp (n+1) (.tup ts)
 | lst {n:Nat} {ts:List T}:(∀t∈ts,Dp n t)→ts.length≤10000→Dp (n+1) (.lst ts)
theorem Dp.mono{t:T}(h:Dp n t): ∀{m:Nat},n≤m→Dp m t:=by
 induction h with
 | none=>intro m _;exact .none
 | int=>intro m _;exact .int
 | tup hs hl ih=>
  intro m hm
  cases m with
  | zero=>omega
  | succ m=>exact .tup (fun t a=>ih t a (by omega)) hl
 | lst hs hl ih=>
  intro m hm
  cases m with
  | zero=>omega
  | succ m=>exact .lst (fun t a=>ih t a (by omega)) hl
theorem Zq6{F:List T→Option T}(hg:ZaD g σ=some ts)(hl:ts.length≤10000)(h:∀t∈ts,F [t]=some t)(q:Q (.lst ts)): Pk (Zap (ZaD g) (Zac j) Zae (Zr F (Zd (Za j) Zm)) σ) Q:=by
 refine⟨.lst ts,?_,q⟩
 have:=ZpQ (σ:=σ) (j:=j) (f:=Zr F (Zd (Za j) Zm)) (h:=fun t=>t) (ts:=ts) fun t m=>by
  simp only[Zr,Zd,Za,Zm,ZbA,Option.bind_some,Option.map_some]
  exact h t m
 simp only[Zap,hg,Option.bind_some,this]
 rw[if_pos (by rw[Zbm];omega)]
 simp
theorem Zvp{t:T}(h:Dp n t): ZeH (n+1) [t]=some t:=by
 induction h with
 | none=>rfl
 | int=>rfl
 | @tup n ts hs hl ih=>
  apply Pk.eq
  show Pk (Zab 1 (ZfE (ZeH (n+1))) [.tup ts]) _
  unfold ZfE
  walk_at "zz"
  refine Zq6 (ts:=ts) rfl hl ih ?_
  walk_at "zz"
  rfl
 | @lst n ts hs hl ih=>
  apply Pk.eq
  show Pk (Zab 1 (ZfE (ZeH (n+1))) [.lst ts]) _
  unfold ZfE
  walk_at "zz"
  exact Zq6 (ts:=ts) rfl hl ih rfl
theorem ZnD{t:T}(h:Dp 8 t): ZfF [t]=some t:=Zvp h
theorem ZrQ: Dp n (oT a):=by cases a;exact .none;exact .int
theorem Zww(hn:n≤100): Dp 3 (ZQ n G R):=by
 refine .tup (fun t m=>?_) (by simp)
 simp at m
 rcases m with rfl | rfl
 ·refine .lst (fun t m=>?_) (by rw[Zas];omega)
  obtain⟨i,hi,rfl⟩:=ZcO m
  refine .lst (fun t m=>?_) (by rw[Zas];omega)
  obtain⟨j,hj,rfl⟩:=ZcO m
  exact ZrQ
 ·refine .lst (fun t m=>?_) (by rw[Zas];omega)
  obtain⟨i,hi,rfl⟩:=ZcO m
  refine .tup (fun t m=>?_) (by simp)
  simp at m
  rcases m with rfl | rfl <;> exact .int
section
variable {σ:TL} {Q:T→Prop}
theorem Zwx{a b:List T}(hl:a.length+b.length≤10000)(h:Q (.lst (a++b))): Pk (Zag (.lst a) (.lst b)) Q:=by
 refine⟨_,?_,h⟩
 simp only[Zag]
 rw[if_pos (by rw[Zbm,List.length_append];omega)]
theorem Zwy{a:T}(hn:n≤1000)(h:Q (.lst (tab n fun _=>a))): Pk (ZaF (.lst [a]) (.int n)) Q:=by
 have e:∀n,Zhf [a] n=tab n fun _=>a:=fun n=>by
  induction n with
  | zero=>rfl
  | succ n ih=>show Zhf [a] n++[a]=_;rw[ih];exact ZdW (f:=fun _=>a)
 refine⟨_,?_,h⟩
 simp only[ZaF,List.length_cons,List.length_nil,Int.toNat_natCast,e]
 rw[if_pos ⟨by rw[Zbm];omega,by omega,by omega⟩]
end
theorem Zq7{x:Nat}{k l:Int}{w:T}{f:Nat→Nat→T}(e:σ x=some (.lst (tab n fun a=>.lst (tab m (f a)))))(hk:k=i)(hl:l=j)(hi:i<n)(hj:j<m)(h:N (Zaa σ x (.lst (tab n fun a=>.lst (tab m fun b=>if a=i∧b=j then w else f a b))))): Put2 σ x w (.int k) (.int l) N:=by
 subst hk hl
 exact Zqf e hi hj h
theorem Znd{w:T}(hw:w=oT v): T.lst (tab n fun a=>T.lst (tab n fun b=>if a=i∧b=j then w else oT (G a b)))=T.lst (tab n fun a=>T.lst (tab n fun b=>oT (ZbZ G i j v a b))):=by
 subst hw
 exact Zd5
theorem Zci{a b:PS}{R:T→Prop}(M:TL→Prop)(h1:Psk (a σ) R M)(h2:∀σ,M σ→Psk (b σ) R N): Psk (Zs a b σ) R N:=by
 obtain⟨o,s,e,p,q⟩:=h1
 exact ZeN ⟨o,s,e,p,fun h=>h2 s (q h)⟩
theorem Zwz{a:Nat}(h:a≤4): ZcC a a 1=some []:=by
 have:a=0∨a=1∨a=2∨a=3∨a=4:=by omega
 obtain rfl | rfl | rfl | rfl | rfl:=this <;> (unfold ZcC;rw[if_pos (by decide +kernel)];rfl)
theorem Zfz{g:PEs}{a:Nat}{L:List T→Prop}(ha:a≤4)(hm:m≤100)(e:g σ=some [.int a,.int (a+m)])(h:L (tab m fun i=>.int ((a+i:Nat):Int))): Pl (ZaE g σ) L:=by
 cases m with
 | zero=>
  have e2:ZcC (a:Int) ((a:Int)+((0:Nat):Int)) 1=some []:=by simpa using Zwz ha
  exact⟨[],ZgL e e2,h⟩
 | succ m=>
  refine⟨_,ZgL e (by have:=ZqO (a:=a) (n:=m+1) (by omega) (by omega);simpa using this),?_⟩
  rw[show(tab (m+1) fun i=>T.int ((a:Int)+i))=tab (m+1) fun i=>.int ((a+i:Nat):Int)from Zbi fun i _=>by congr 1]
  exact h
theorem ZlK{N a:Nat}(ha:a<N)(hb:b<N): Zfh [Z7 N Γ,.int a,.int b,oT v]=some (Z7 N (ZbZ Γ a b (Za1 (Γ a b) v))):=by
 apply Pk.eq
 unfold Zfh Zmd
 refine ZnO rfl ?_
 unfold Z7 Zax
 walk_at "zz"
 refine ZH ZpX ?_
 refine⟨ZeJ,?_⟩
 walk_at "zz"
 refine⟨_,ZbA,?_⟩
 exact Zd5
noncomputable def ZX(n:Nat)(c:Nat→Int): T:=.lst (tab (n+1) fun i=>.int (c i))
theorem Zfa{k:Int}(hn:n≤1000)(hb:b≤100000)(bc:∀i,i<n+1→Bd b (c i))(bk:Bd b k): ZdB [ZX n c,.int k]=some (ZX n fun i=>c i*k):=by
 apply Pk.eq
 unfold ZdB Zlz ZX
 walk_at "zz"
 refine Zcj (n:=n+1) (a:=fun i=>.int (c i)) (b:=fun i=>.int (c i*k)) (by omega) ?_ (fun i hi=>?_) rfl
 ·walk_at "zz"
  rfl
 ·walk_at "zz"
  exact ZbT (Zb3 (bc i hi) bk (by omega) (by omega)) rfl
noncomputable def S40(G:Nat→Nat→Option Int)(i:Nat): Sp:=((G 0 (i+1)).map fun y=>y*(-1),G (i+1) 0)
theorem Zsb(hn:n≤90)(hb:b≤100000)(hb1:1≤b)(bG:∀i j,i<n+1→j<n+1→∀y,G i j=some y→Bd b y): Zhr [ZQ n G R]=some (.lst (tab n fun i=>spT (S40 G i))):=by
 apply Pk.eq
 unfold Zhr Zkb
 have ht:ZQ n G R=.tup [.lst (tab (n+1) fun i=>.lst (tab (n+1) fun j=>oT (G i j))),.lst (tab n fun i=>Z4 (R i))]:=rfl
 rw[ht]
 walk_at "zz"
 refine Zcj (n:=n) (a:=fun i=>.int ((1+i:Nat):Int)) (b:=fun i=>spT (S40 G i)) (by omega) ?_ (fun i hi=>?_) rfl
 ·refine Zfz (a:=1) (m:=n) (by omega) (by omega) ?_ rfl
  simp only[Zd,Zj,Zm,Zr,Za,Zaa,Option.bind_some,if_true,Zar,Zas]
  congr 3
  congr 1
  omega
 ·have h1:1+i<n+1:=by omega
  have h0:0<n+1:=by omega
  walk_at "zz"
  refine ZH (ZhJ hb (fun y e=>bG 0 (1+i) h0 h1 y e) (show Bd b (-1)by unfold Bd;have:=Zea hb1;unfold Bd at this;simpa using this)) ?_
  walk_at "zz"
  unfold spT S40
  rw[show 1+i=i+1 by omega]
  rfl
theorem Zpp{σ:TL}{j:Nat}{cnd:PB}{P:T→Bool}: ∀{ts:List T},(∀t∈ts,cnd (Zaa σ j t)=some (P t))→Zcx (Zac j) cnd (Za j) σ ts=some (ts.filter P)
 | [],_=>rfl
 | t::ts,h=>by
  have ih:=Zpp fun t m=>h t (Zz2 _ m)
  have h0:=h t Zz5
  simp only[Zcx,Zac,Option.bind_some,h0,Za,ZbA,ih,Option.map_some,List.filter_cons]
  cases P t <;> rfl
theorem Zne{g:PG}{cnd:PB}{P:T→Bool}(hl:ts.length≤10000)(hg:Pl (g σ) fun us=>us=ts)(hc:∀t∈ts,Pb (cnd (Zaa σ j t)) fun b=>b=P t)(h:Q (.lst (ts.filter P))): Pk (Zap g (Zac j) cnd (Za j) σ) Q:=by
 obtain⟨us,e,rfl⟩:=hg
 refine⟨_,?_,h⟩
 have:=Zpp (σ:=σ) (j:=j) (cnd:=cnd) (P:=P) (ts:=us) fun t m=>by
  obtain⟨b,e1,rfl⟩:=hc t m
  exact e1
 simp only[Zap,e,Option.bind_some,this,Option.map_some]
 rw[if_pos (by rw[Zbm];omega)]
noncomputable def xsI(n:Nat)(c:Nat→Int): List Int:=tab n fun i=>c (i+1)
noncomputable def nzI(n:Nat)(c:Nat→Int): List Int:=(xsI n c).filter fun x=>decide (x≠0)
noncomputable def Df(n:Nat)(c:Nat→Int): Prop:=PM.Zdv (nzI n c)=[-1,1]
theorem ZiA(ks:List Int): Zdt (ks.map T.int)=some ks:=by
 induction ks with
 | nil=>rfl
 | cons k ks ih=>simp[Zdt,ih]
theorem Zto{a b:List Int}(h:a.map T.int=b.map T.int): a=b:=by
 have:=congrArg Zdt h
 rw[ZiA,ZiA]at this
 simpa using this
theorem ZnY(ks:List Int): Pln 1 (.lst (ks.map T.int)):=.lst fun t m=>by
 obtain⟨k,_,rfl⟩:=Zz11.mp m
 exact .int
theorem tab_map{α:Type}{f:Nat→α}{g:α→β}: (tab n f).map g=tab n fun i=>g (f i):=by simp[tab]
theorem ZrZ(hn:n≤60): Zhl [ZX n c]=some (.bool (dec (Df n c))):=by
 apply Pk.eq
 unfold Zhl ZjP ZX
 walk_at "zz"
 refine Zne (ts:=(xsI n c).map T.int) (P:=fun t=>match t with | .int x=>decide (x≠0) | _=>false) (by simp[xsI,Zas];omega) ?_ (fun t m=>?_) ?_
 ·refine ZiK ?_
  refine Zm4 ?_
  walk_at "zz"
  refine⟨_,rfl,?_⟩
  rw[ZnB]
  refine Sq.lst ?_
  unfold xsI
  rw[tab_map]
 ·obtain⟨x,_,rfl⟩:=Zz11.mp m
  walk_at "zz"
  rfl
 have ef:((xsI n c).map T.int).filter (fun t=>match t with | .int x=>decide (x≠0) | _=>false)=(nzI n c).map T.int:=by
  unfold nzI
  rw[List.filter_map]
  rfl
 rw[ef]
 have hl:(nzI n c).length≤n:=by
  unfold nzI
  refine Nat.le_trans (List.length_filter_le _ _) ?_
  simp[xsI,Zas]
 walk_at "zz"
 refine⟨.lst ((PM.Zdv (nzI n c)).map T.int),?_,?_⟩
 ·simp only[ZiM,ZiA,Option.bind_some,List.length_map]
  rw[if_pos (by omega)]
 walk_at "zz"
 refine ZfI (n:=1) (m:=1) (ZnY _) (ZnY [-1,1]) ?_
 by_cases h:Df n c
 ·rw[Za0 h,Za0]
  show T.lst ((PM.Zdv (nzI n c)).map T.int)=_
  rw[show PM.Zdv (nzI n c)=[-1,1]from h]
  rfl
 ·rw[Zbw h,Zbw]
  intro q
  refine h (Zto ?_)
  simpa using q
noncomputable def ZaG(c:Nat→Int): Nat→List Nat
 | 0=>[]
 | n+1=>ZaG c n++(if 0<c (n+1)then [n+1]else [])
noncomputable def ZaK(c:Nat→Int): Nat→List Nat
 | 0=>[]
 | n+1=>ZaK c n++(if c (n+1)<0 then [n+1]else [])
theorem ups_mem{c:Nat→Int}: ∀{n i:Nat},i∈ZaG c n↔1≤i∧i≤n∧0<c i
 | 0,i=>by simp[ZaG];omega
 | n+1,i=>by
  simp only[ZaG,List.mem_append,ups_mem (n:=n)]
  by_cases h:0<c (n+1)
  ·simp only[h,if_true,List.mem_singleton]
   constructor
   ·rintro(⟨a,b,d⟩ | rfl)
    ·exact⟨a,by omega,d⟩
    ·exact⟨by omega,by omega,h⟩
   ·rintro⟨a,b,d⟩
    by_cases q:i=n+1
    ·exact .inr q
    ·exact .inl ⟨a,by omega,d⟩
  ·simp only[h,if_false,List.not_mem_nil,or_false]
   constructor
   ·rintro⟨a,b,d⟩;exact⟨a,by omega,d⟩
   ·rintro⟨a,b,d⟩
    have:i≠n+1:=fun q=>h (q▸d)
    exact⟨a,by omega,d⟩
theorem dns_mem{c:Nat→Int}: ∀{n i:Nat},i∈ZaK c n↔1≤i∧i≤n∧c i<0
 | 0,i=>by simp[ZaK];omega
 | n+1,i=>by
  simp only[ZaK,List.mem_append,dns_mem (n:=n)]
  by_cases h:c (n+1)<0
  ·simp only[h,if_true,List.mem_singleton]
   constructor
   ·rintro(⟨a,b,d⟩ | rfl)
    ·exact⟨a,by omega,d⟩
    ·exact⟨by omega,by omega,h⟩
   ·rintro⟨a,b,d⟩
    by_cases q:i=n+1
    ·exact .inr q
    ·exact .inl ⟨a,by omega,d⟩
  ·simp only[h,if_false,List.not_mem_nil,or_false]
   constructor
   ·rintro⟨a,b,d⟩;exact⟨a,by omega,d⟩
   ·rintro⟨a,b,d⟩
    have:i≠n+1:=fun q=>h (q▸d)
    exact⟨a,by omega,d⟩
theorem Zq8{c:Nat→Int}: ∀n,(ZaG c n).length≤n
 | 0=>Nat.le_refl 0
 | n+1=>by
  have:=Zq8 (c:=c) n
  simp only[ZaG,List.length_append]
  split <;> simp <;> omega
theorem Zq9{c:Nat→Int}: ∀n,(ZaK c n).length≤n
 | 0=>Nat.le_refl 0
 | n+1=>by
  have:=Zq9 (c:=c) n
  simp only[ZaK,List.length_append]
  split <;> simp <;> omega
theorem Zqt{c:Nat→Int}: ∀n,(ZaG c n).map c=(xsI n c).filter fun x=>decide (0<x)
 | 0=>rfl
 | n+1=>by
  have e:xsI (n+1) c=xsI n c++[c (n+1)]:=(ZdW (n:=n) (f:=fun i=>c (i+1))).symm
  rw[e,List.filter_append,←Zqt n]
  simp only[ZaG,List.map_append]
  by_cases h:0<c (n+1) <;> simp[h]
theorem Zqu{c:Nat→Int}: ∀n,(ZaK c n).map c=(xsI n c).filter fun x=>decide (x<0)
 | 0=>rfl
 | n+1=>by
  have e:xsI (n+1) c=xsI n c++[c (n+1)]:=(ZdW (n:=n) (f:=fun i=>c (i+1))).symm
  rw[e,List.filter_append,←Zqu n]
  simp only[ZaK,List.map_append]
  by_cases h:c (n+1)<0 <;> simp[h]
theorem df_iff: Df n c↔(ZaG c n).map c=[1]∧(ZaK c n).map c=[-1]:=by
 rw[Zqt,Zqu]
 have hp:(nzI n c).Perm ((xsI n c).filter (fun x=>decide (0<x))++(xsI n c).filter (fun x=>decide (x<0))):=by
  unfold nzI
  generalize xsI n c=xs
  induction xs with
  | nil=>exact List.Perm.refl _
  | cons x xs ih=>
   by_cases h1:0<x
   ·have:x≠0:=by omega
    have h2:¬x<0:=by omega
    simp only[List.filter_cons,h1,h2,this,decide_true,decide_false,ne_eq,not_false_eq_true,if_true,Bool.false_eq_true,if_false,List.cons_append]
    exact List.Perm.cons _ ih
   ·by_cases h2:x<0
    ·have:x≠0:=by omega
     simp only[List.filter_cons,h1,h2,this,decide_true,decide_false,ne_eq,not_false_eq_true,if_true,Bool.false_eq_true,if_false]
     exact(List.Perm.cons _ ih).trans List.perm_middle.symm
    ·have:x=0:=by omega
     subst this
     simpa using ih
 constructor
 ·intro h
  have hq:(nzI n c).Perm [-1,1]:=by
   have:=List.mergeSort_perm (nzI n c) fun a b=>decide (a≤b)
   rw[show(nzI n c).mergeSort (fun a b=>decide (a≤b))=[-1,1]from h]at this
   exact this.symm
  have hf:∀q:Int→Bool,(∀x,q x=true→x≠0)→(xsI n c).filter q=(nzI n c).filter q:=fun q hq=>by
   unfold nzI
   rw[List.filter_filter]
   refine List.filter_congr fun x _=>?_
   cases e:q x with
   | false=>simp
   | true=>simp[hq x e]
  rw[hf _ (fun x h=>by simp at h;omega),hf _ (fun x h=>by simp at h;omega)]
  have p1:=hq.filter fun x=>decide (0<x)
  have p2:=hq.filter fun x=>decide (x<0)
  exact⟨List.perm_singleton.mp (by simpa using p1),List.perm_singleton.mp (by simpa using p2)⟩
 ·rintro⟨h1,h2⟩
  rw[h1,h2]at hp
  unfold Df
  refine(PM.Zqh ?_ ?_).symm
  ·exact(hp.trans (List.Perm.swap (-1) 1 [])).symm
  ·simp
theorem Zqv{p q r:PE}(h:Pk (p σ) fun t=>∃ks:List Int,t=.lst (ks.map T.int)∧Pk (q σ) fun u=>∃k,u=.int k∧Pk (r σ) fun v=>v=.int 1∧k∈ks.drop 1∧Q (.int ((1+(ks.drop 1).idxOf k:Nat):Int))): Pk (Zg1 p q r σ) Q:=by
 obtain⟨_,e1,ks,rfl,_,e2,k,rfl,_,e3,rfl,hm,h⟩:=h
 refine⟨_,?_,h⟩
 simp only[Zg1,e1,e2,e3,Option.bind_some,ZiA]
 rw[if_pos ⟨trivial,hm⟩]
theorem ZiV: (tab (n+1) c).drop 1=xsI n c:=by
 unfold xsI
 apply List.ext_getElem
 ·simp[tab]
 ·intro i h1 h2
  simp[tab]
theorem ZrC{k:Int}(h:l.map c=[k]): ∃u,l=[u]∧c u=k:=by
 cases l with
 | nil=>simp at h
 | cons a l=>
  cases l with
  | nil=>exact⟨a,rfl,by simpa using h⟩
  | cons b l=>simp at h
theorem ZrR(hi:i<n): (xsI n c)[i]?=some (c (i+1)):=ZbM (f:=fun i=>c (i+1)) hi
theorem ZrD{u:Nat}{k:Int}(h1:1≤u)(h2:u≤n)(hu:c u=k)(ho:∀i,1≤i→i≤n→c i=k→i=u): 1+(xsI n c).idxOf k=u∧k∈xsI n c:=by
 have hm:k∈xsI n c:=List.mem_of_getElem? (i:=u-1) (by rw[ZrR (by omega),show u-1+1=u by omega,hu])
 have hl:(xsI n c).idxOf k<(xsI n c).length:=List.idxOf_lt_length_iff.mpr hm
 have hn:(xsI n c).length=n:=Zas
 have hk:=List.getElem_idxOf hl
 have hx:(xsI n c)[(xsI n c).idxOf k]?=some k:=by rw[List.getElem?_eq_getElem hl,hk]
 rw[ZrR (by omega)]at hx
 have:=ho ((xsI n c).idxOf k+1) (by omega) (by omega) (by simpa using hx)
 exact⟨by omega,hm⟩
theorem Zis(h:Df n c): ∃u d,ZaG c n=[u]∧ZaK c n=[d]∧c u=1∧c d = -1∧u<n+1∧d<n+1∧1≤u∧1≤d∧1+(xsI n c).idxOf 1=u∧1+(xsI n c).idxOf (-1)=d∧1∈xsI n c∧-1∈xsI n c:=by
 obtain⟨h1,h2⟩:=df_iff.mp h
 obtain⟨u,eu,hu⟩:=ZrC h1
 obtain⟨d,ed,hd⟩:=ZrC h2
 have mu:=ups_mem.mp (show u∈ZaG c n by rw[eu];simp)
 have md:=dns_mem.mp (show d∈ZaK c n by rw[ed];simp)
 have a1:=ZrD mu.1 mu.2.1 hu fun i q1 q2 q3=>by
  have:i∈ZaG c n:=ups_mem.mpr ⟨q1,q2,by omega⟩
  rw[eu]at this
  simpa using this
 have a2:=ZrD md.1 md.2.1 hd fun i q1 q2 q3=>by
  have:i∈ZaK c n:=dns_mem.mpr ⟨q1,q2,by omega⟩
  rw[ed]at this
  simpa using this
 exact⟨u,d,eu,ed,hu,hd,by omega,by omega,mu.1,md.1,a1.1,a2.1,a1.2,a2.2⟩
noncomputable def grt(n:Nat)(G:Nat→Nat→Option Int)(c:Nat→Int): Option Int:=if dec (Df n c)then Zaj (G (1+(xsI n c).idxOf 1) (1+(xsI n c).idxOf (-1))) (some (c 0))else(ZcD c (S40 G) n).2
noncomputable def GB(b n:Nat)(G:Nat→Nat→Option Int): Prop:=∀i j,i<n+1→j<n+1→∀y,G i j=some y→Bd b y
theorem ZrE(hG:GB b n G): ∀i,i<n→SBd b (S40 G i):=fun i hi=>⟨fun x e=>by
 obtain⟨y,e1,e2⟩:=Zz1.mp e
 have:=hG 0 (i+1) (by omega) (by omega) y e1
 subst e2
 unfold Bd at *
 omega,fun x e=>hG (i+1) 0 (by omega) (by omega) x e⟩
theorem ZlL(hn:n≤60)(hb:b≤100000)(hb1:1≤b)(hG:GB b n G)(bc:∀i,i<n+1→Bd b (c i)): Zfi [ZQ n G R,ZX n c]=some (oT (grt n G c)):=by
 apply Pk.eq
 unfold Zfi Zmg grt
 have ht:ZQ n G R=.tup [.lst (tab (n+1) fun i=>.lst (tab (n+1) fun j=>oT (G i j))),.lst (tab n fun i=>Z4 (R i))]:=rfl
 have hs:ZX n c=.lst ((tab (n+1) c).map T.int):=by unfold ZX;rw[tab_map]
 walk_at "zz"
 refine ZH (ZrZ hn) ?_
 by_cases h:Df n c
 ·obtain⟨u,d,_,_,_,_,hu,hd,_,_,eu,ed,mu,md⟩:=Zis h
  rw[Za0 h]
  rw[ht]
  walk_at "zz"
  refine Zqv ?_
  walk_at "zz"
  refine⟨tab (n+1) c,hs,?_⟩
  walk_at "zz"
  refine⟨1,rfl,?_⟩
  walk_at "zz"
  refine⟨rfl,by rw[ZiV];exact mu,?_⟩
  rw[ZiV,eu]
  walk_at "zz"
  refine Zqv ?_
  walk_at "zz"
  refine⟨tab (n+1) c,hs,?_⟩
  walk_at "zz"
  refine⟨-1,rfl,?_⟩
  walk_at "zz"
  refine⟨rfl,by rw[ZiV];exact md,?_⟩
  rw[ZiV,ed]
  unfold ZX
  walk_at "zz"
  exact ZH (Zfe (b:=some (c (Int.toNat 0)))) rfl
 ·rw[Zbw h]
  walk_at "zz"
  refine ZH (Zsb (by omega) hb hb1 hG) ?_
  walk_at "zz"
  refine ZH (Zsl (by omega) hb bc (ZrE hG)) ?_
  unfold spT
  walk_at "zz"
  rfl
theorem ZwA: ZX n (fun i=>c i * -1)=ZX n fun i=>-(c i):=by
 unfold ZX
 congr 1
 exact Zbi fun i _=>by show T.int (c i * -1)=T.int (-(c i));congr 1;omega
theorem Zvq(hn:n≤60)(hb:b≤1000)(hb1:1≤b)(hG:GB b n G)(bc:∀i,i<n+1→Bd b (c i))(bg:∀y,grt n G (fun i=>-(c i))=some y→Bd 100000 y): ZgP [ZQ n G R,ZX n c]=some (oT ((grt n G fun i=>-(c i)).map fun y=>y * -1)):=by
 apply Pk.eq
 unfold ZgP ZnW
 have b1:Bd b (-1):=by have:=Zea hb1;unfold Bd at *;simpa using this
 walk_at "zz"
 refine ZH (Zfa (by omega) (by omega) bc b1) ?_
 rw[ZwA]
 walk_at "zz"
 refine ZH (ZlL hn (by omega) hb1 hG fun i hi=>by have:=bc i hi;show Bd b (-(c i));unfold Bd at *;omega) ?_
 walk_at "zz"
 exact ZH (ZhJ (i:=100000) (by decide) bg (b1.mono (by omega))) rfl
noncomputable def ZoI(c:Nat→Int): T→Bool
 | .int i=>decide (0<c i.toNat)
 | _=>false
noncomputable def ZoJ(c:Nat→Int): T→Bool
 | .int i=>decide (c i.toNat<0)
 | _=>false
theorem Zqw{c:Nat→Int}: ∀n,((tab n fun i=>T.int ((1+i:Nat):Int)).filter (ZoI c))=(ZaG c n).map fun i=>T.int (i:Nat)
 | 0=>rfl
 | n+1=>by
  rw[←ZdW (n:=n) (f:=fun i=>T.int ((1+i:Nat):Int)),List.filter_append,Zqw n]
  simp only[ZaG,List.map_append]
  congr 1
  rw[show 1+n=n+1 by omega]
  by_cases h:0<c (n+1) <;> simp[ZoI,h]
theorem Zqx{c:Nat→Int}: ∀n,((tab n fun i=>T.int ((1+i:Nat):Int)).filter (ZoJ c))=(ZaK c n).map fun i=>T.int (i:Nat)
 | 0=>rfl
 | n+1=>by
  rw[←ZdW (n:=n) (f:=fun i=>T.int ((1+i:Nat):Int)),List.filter_append,Zqx n]
  simp only[ZaK,List.map_append]
  congr 1
  rw[show 1+n=n+1 by omega]
  by_cases h:c (n+1)<0 <;> simp[ZoJ,h]
theorem Zqy{us:List Nat}{h:Nat→T}(hl:us.length≤1000)(hg:Pk (g σ) fun t=>t=.lst (us.map fun i=>T.int (i:Nat)))(hf:∀i∈us,Pk (f (Zaa σ j (.int (i:Nat)))) fun t=>t=h i)(q:Q (.lst (us.map h))): Pk (Zap (ZaD g) (Zac j) Zae f σ) Q:=by
 obtain⟨_,e,rfl⟩:=hg
 refine⟨_,?_,q⟩
 have hc:Zcx (Zac j) Zae f σ (us.map fun i=>T.int (i:Nat))=some (us.map h):=by
  have key:∀l:List Nat,(∀i∈l,i∈us)→Zcx (Zac j) Zae f σ (l.map fun i=>T.int (i:Nat))=some (l.map h):=by
   intro l
   induction l with
   | nil=>intro _;rfl
   | cons a l ih=>
    intro hm
    obtain⟨_,e1,rfl⟩:=hf a (hm a Zz5)
    simp only[List.map_cons,Zcx,Zac,Option.bind_some,Zae,if_true,e1,ih fun i m=>hm i (Zz2 _ m),Option.map_some]
  exact key us fun i m=>m
 simp only[Zap,ZaD,e,Option.bind_some,hc,Option.map_some,List.length_map]
 rw[if_pos (by rw[Zbm];omega)]
theorem Zra{b:PS}{us:List Nat}{R:T→Prop}(hg:Pk (g σ) fun t=>t=.lst (us.map fun i=>T.int (i:Nat)))(P:List Nat→TL→Prop)(h0:P [] σ)(h1:∀pre i σ,i∈us→P pre σ→Psk (b (Zaa σ j (.int (i:Nat)))) R (P (pre++[i])))(h2:∀σ,P us σ→N σ): Psk (ZaB (ZaD g) (Zac j) b σ) R N:=by
 refine ZnJ (ts:=us.map fun i=>T.int (i:Nat)) (P:=fun k σ=>P (us.take k) σ) ?_ (by simpa using h0) (fun k t σ hk hP=>?_) (fun σ h=>h2 σ (by simpa using h))
 ·obtain⟨_,e,rfl⟩:=hg
  exact⟨_,by simp only[ZaD,e,Option.bind_some],rfl⟩
 ·rw[List.getElem?_map]at hk
  obtain⟨i,ei,rfl⟩:=Zz1.mp hk
  rw[List.take_add_one,ei]
  exact h1 _ i σ (List.mem_of_getElem? ei) hP
noncomputable def sU(G:Nat→Nat→Option Int)(c:Nat→Int)(l:List Nat): Int:=(l.map fun i=>c i*(G i 0).getD 0).sum
noncomputable def sD(G:Nat→Nat→Option Int)(c:Nat→Int)(l:List Nat): Int:=(l.map fun i=>c i*(G 0 i).getD 0).sum
noncomputable def Zde(G:Nat→Nat→Option Int)(c:Nat→Int)(n:Nat): Prop:=(∃i∈ZaG c n,G i 0=none)∨∃i∈ZaK c n,G 0 i=none
theorem Zrb: sU G c (l++[i])=sU G c l+c i*(G i 0).getD 0:=by simp[sU]
theorem Zrc: sD G c (l++[i])=sD G c l+c i*(G 0 i).getD 0:=by simp[sD]
theorem tot{G:Nat→Nat→Option Int}{c:Nat→Int}: ∀n,(Zde G c n→(ZcD c (S40 G) n).2=none)∧(¬Zde G c n→(ZcD c (S40 G) n).2=some (c 0+sU G c (ZaG c n)-sD G c (ZaK c n)))
 | 0=>⟨fun h=>(by rcases h with⟨i,m,_⟩ | ⟨i,m,_⟩ <;> cases m),fun _=>by simp[ZcD,sU,sD,ZaG,ZaK]⟩
 | n+1=>by
  obtain⟨ih1,ih2⟩:=tot (G:=G) (c:=c) n
  have step:(ZcD c (S40 G) (n+1)).2=Zaj (ZcD c (S40 G) n).2 (ZcR (S40 G n) (c (n+1))).2:=rfl
  rw[step]
  have mono:Zde G c n→Zde G c (n+1):=fun h=>h.imp (fun⟨i,m,e⟩=>⟨i,by simp only[ZaG,List.mem_append];exact .inl m,e⟩) fun⟨i,m,e⟩=>⟨i,by simp only[ZaK,List.mem_append];exact .inl m,e⟩
  rcases Int.lt_trichotomy (c (n+1)) 0 with h | h | h
  ·have h0:¬0<c (n+1):=by omega
   have hz:¬c (n+1)=0:=by omega
   have eu:ZaG c (n+1)=ZaG c n:=by simp[ZaG,h0]
   have ed:ZaK c (n+1)=ZaK c n++[n+1]:=by simp[ZaK,h]
   have et:(ZcR (S40 G n) (c (n+1))).2=(G 0 (n+1)).map fun y=>y*(-1)*c (n+1):=by
    unfold ZcR S40
    rw[if_neg hz,if_pos h]
    cases G 0 (n+1) <;> rfl
   rw[et]
   cases hg:G 0 (n+1)with
   | none=>
    refine⟨fun _=>?_,fun q=>absurd (.inr ⟨n+1,by rw[ed];simp,hg⟩) q⟩
    cases (ZcD c (S40 G) n).2 <;> rfl
   | some y=>
    have hl:Zde G c (n+1)→Zde G c n:=by
     rintro(⟨i,m,e⟩ | ⟨i,m,e⟩)
     ·rw[eu]at m;exact .inl ⟨i,m,e⟩
     ·rw[ed]at m
      rcases Zz8.mp m with m | m
      ·exact .inr ⟨i,m,e⟩
      ·rw[List.mem_singleton.mp m,hg]at e;cases e
    refine⟨fun q=>by rw[ih1 (hl q)];rfl,fun q=>?_⟩
    rw[ih2 fun r=>q (mono r),eu,ed,Zrc,hg]
    simp only[Zaj,Option.map_some,Option.getD_some]
    congr 1
    have:y*(-1)*c (n+1) = -(c (n+1)*y):=by rw[Int.mul_neg,Int.mul_one,Int.neg_mul,Int.mul_comm]
    omega
  ·have h0:¬0<c (n+1):=by omega
   have h1:¬c (n+1)<0:=by omega
   have eu:ZaG c (n+1)=ZaG c n:=by simp[ZaG,h0]
   have ed:ZaK c (n+1)=ZaK c n:=by simp[ZaK,h1]
   have et:(ZcR (S40 G n) (c (n+1))).2=some 0:=by unfold ZcR;rw[if_pos h]
   have el:Zde G c (n+1)↔Zde G c n:=by unfold Zde;rw[eu,ed]
   rw[et,Zry,el,eu,ed]
   exact⟨ih1,ih2⟩
  ·have h1:¬c (n+1)<0:=by omega
   have hz:¬c (n+1)=0:=by omega
   have eu:ZaG c (n+1)=ZaG c n++[n+1]:=by simp[ZaG,h]
   have ed:ZaK c (n+1)=ZaK c n:=by simp[ZaK,h1]
   have et:(ZcR (S40 G n) (c (n+1))).2=(G (n+1) 0).map fun y=>y*c (n+1):=by
    unfold ZcR S40
    rw[if_neg hz,if_neg h1]
   rw[et]
   cases hg:G (n+1) 0 with
   | none=>
    refine⟨fun _=>?_,fun q=>absurd (.inl ⟨n+1,by rw[eu];simp,hg⟩) q⟩
    cases (ZcD c (S40 G) n).2 <;> rfl
   | some y=>
    have hl:Zde G c (n+1)→Zde G c n:=by
     rintro(⟨i,m,e⟩ | ⟨i,m,e⟩)
     ·rw[eu]at m
      rcases Zz8.mp m with m | m
      ·exact .inl ⟨i,m,e⟩
      ·rw[List.mem_singleton.mp m,hg]at e;cases e
     ·rw[ed]at m;exact .inr ⟨i,m,e⟩
    refine⟨fun q=>by rw[ih1 (hl q)];rfl,fun q=>?_⟩
    rw[ih2 fun r=>q (mono r),eu,ed,Zrb,hg]
    simp only[Zaj,Option.map_some,Option.getD_some]
    congr 1
    have:y*c (n+1)=c (n+1)*y:=Int.mul_comm _ _
    omega
theorem Zsp(hn:n≤60)(hb:b≤100000)(hG:GB b n G)(bc:∀i,i<n+1→Bd b (c i))(e0:σ 0=some (.tup [.lst (tab (n+1) fun i=>.lst (tab (n+1) fun j=>oT (G i j))),.lst (tab n fun i=>Z4 (R i))]))(e1:σ 1=some (.lst (tab (n+1) fun i=>.int (c i))))(e2:σ 2=some (.lst ((ZaG c n).map fun i=>T.int (i:Nat))))(e3:σ 3=some (.lst ((ZaK c n).map fun i=>T.int (i:Nat)))): Psk ((Zs (ZI 4 (Ze Zag (Zap (ZaD (Za 2)) (Zac 104) Zae (Ze Zq (Ze Zq (Ze Zq (Za 0) (Zj 0)) (Za 104)) (Zj 0))) (Zap (ZaD (Za 3)) (Zac 106) Zae (Ze Zq (Ze Zq (Ze Zq (Za 0) (Zj 0)) (Zj 0)) (Za 106))))) (Zs (ZP (ZD (Ze qIn (ZR) (Za 4))) (ZE (ZR)) ZU) (Zs (ZI 5 (Ze Zq (Za 1) (Zj 0))) (Zs (ZaB (ZaD (Za 2)) (Zac 6) (ZI 5 (Ze Zag (Za 5) (Ze ZaF (Ze Zq (Za 1) (Za 6)) (Ze Zq (Ze Zq (Ze Zq (Za 0) (Zj 0)) (Za 6)) (Zj 0)))))) (Zs (ZaB (ZaD (Za 3)) (Zac 6) (ZI 5 (Ze Za5 (Za 5) (Ze ZaF (Ze Zq (Za 1) (Za 6)) (Ze Zq (Ze Zq (Ze Zq (Za 0) (Zj 0)) (Zj 0)) (Za 6)))))) (ZE (Za 5))))))) σ) (fun t=>t=oT (ZcD c (S40 G) n).2) N:=by
 have lu:=Zq8 (c:=c) n
 have ld:=Zq9 (c:=c) n
 have hu:∀i∈ZaG c n,i<n+1:=fun i m=>by have:=ups_mem.mp m;omega
 have hd:∀i∈ZaK c n,i<n+1:=fun i m=>by have:=dns_mem.mp m;omega
 have h0:0<n+1:=by omega
 walk_at "zz"
 refine Zqy (us:=ZaG c n) (h:=fun i=>oT (G i 0)) (by omega) ?_ (fun i m=>?_) ?_
 ·walk_at "zz"
  rfl
 ·have:=hu i m
  walk_at "zz"
  rfl
 refine Zqy (us:=ZaK c n) (h:=fun i=>oT (G 0 i)) (by omega) ?_ (fun i m=>?_) ?_
 ·walk_at "zz"
  rfl
 ·have:=hd i m
  walk_at "zz"
  rfl
 refine Zwx (by simp;omega) ?_
 walk_at "zz"
 refine ZfP (n:=0) (m:=1) .none (.lst fun t m=>?_) ?_
 ·rcases Zz8.mp m with m | m
  ·obtain⟨i,_,rfl⟩:=Zz11.mp m;exact Zg7
  ·obtain⟨i,_,rfl⟩:=Zz11.mp m;exact Zg7
 by_cases hl:Zde G c n
 ·have hm:T.none∈(ZaG c n).map (fun i=>oT (G i 0))++(ZaK c n).map fun i=>oT (G 0 i):=by
   rcases hl with⟨i,m,e⟩ | ⟨i,m,e⟩
   ·exact Zz4 _ (Zz11.mpr ⟨i,m,by rw[e];rfl⟩)
   ·exact Zz3 _ (Zz11.mpr ⟨i,m,by rw[e];rfl⟩)
  rw[Za0 hm]
  walk_at "zz"
  rw[(tot n).1 hl]
  rfl
 ·have hm:¬T.none∈(ZaG c n).map (fun i=>oT (G i 0))++(ZaK c n).map fun i=>oT (G 0 i):=fun m=>hl (by
   rcases Zz8.mp m with m | m
   ·obtain⟨i,m,e⟩:=Zz11.mp m
    exact .inl ⟨i,m,oT_inj.mp (by rw[e];rfl)⟩
   ·obtain⟨i,m,e⟩:=Zz11.mp m
    exact .inr ⟨i,m,oT_inj.mp (by rw[e];rfl)⟩)
  have gu:∀i∈ZaG c n,∃y,G i 0=some y:=fun i m=>by
   cases e:G i 0 with
   | none=>exact absurd (.inl ⟨i,m,e⟩) hl
   | some y=>exact⟨y,rfl⟩
  have gd:∀i∈ZaK c n,∃y,G 0 i=some y:=fun i m=>by
   cases e:G 0 i with
   | none=>exact absurd (.inr ⟨i,m,e⟩) hl
   | some y=>exact⟨y,rfl⟩
  rw[Zbw hm]
  walk_at "zz"
  refine Zra (us:=ZaG c n) (P:=fun pre σ'=>σ' 0=some (.tup [.lst (tab (n+1) fun i=>.lst (tab (n+1) fun j=>oT (G i j))),.lst (tab n fun i=>Z4 (R i))])∧σ' 1=some (.lst (tab (n+1) fun i=>.int (c i)))∧σ' 3=some (.lst ((ZaK c n).map fun i=>T.int (i:Nat)))∧σ' 5=some (.int (c 0+sU G c pre))) ?_ ⟨by walk_at "zr",by walk_at "zr",by walk_at "zr",by simp[sU,Zaa]⟩ ?_ ?_
  ·walk_at "zz"
   rfl
  ·rintro pre i σ' m ⟨f0,f1,f3,f5⟩
   have hi:=hu i m
   obtain⟨y,ey⟩:=gu i m
   have by_:Bd b y:=hG i 0 hi h0 y ey
   walk_at "zz"
   rw[show(Int.toNat 0)=0 from rfl,ey,Zao]
   refine ZbT (Zb3 (bc i hi) by_ (by omega) (by omega)) ?_
   walk_at "zz"
   refine⟨by walk_at "zr",by walk_at "zr",by walk_at "zr",?_⟩
   rw[ZbA,Zrb,ey]
   simp only[Option.getD_some]
   congr 2
   omega
  rintro σ1 ⟨f0,f1,f3,f5⟩
  walk_at "zz"
  refine Zra (us:=ZaK c n) (P:=fun pre σ'=>σ' 0=some (.tup [.lst (tab (n+1) fun i=>.lst (tab (n+1) fun j=>oT (G i j))),.lst (tab n fun i=>Z4 (R i))])∧σ' 1=some (.lst (tab (n+1) fun i=>.int (c i)))∧σ' 5=some (.int (c 0+sU G c (ZaG c n)-sD G c pre))) ?_ ⟨by walk_at "zr",by walk_at "zr",by simpa [sD]using f5⟩ ?_ ?_
  ·walk_at "zz"
   rfl
  ·rintro pre i σ' m ⟨g0,g1,g5⟩
   have hi:=hd i m
   obtain⟨y,ey⟩:=gd i m
   have by_:Bd b y:=hG 0 i h0 hi y ey
   walk_at "zz"
   rw[show(Int.toNat 0)=0 from rfl,ey,Zao]
   refine ZbT (Zb3 (bc i hi) by_ (by omega) (by omega)) ?_
   walk_at "zz"
   refine⟨by walk_at "zr",by walk_at "zr",?_⟩
   rw[ZbA,Zrc,ey]
   simp only[Option.getD_some]
   congr 2
   omega
  rintro σ2 ⟨g0,g1,g5⟩
  walk_at "zz"
  rw[(tot n).2 hl]
  rfl
theorem Zs5(hn:n≤60)(hb:b≤100000)(hG:GB b n G)(bc:∀i,i<n+1→Bd b (c i))(e0:σ 0=some (.tup [.lst (tab (n+1) fun i=>.lst (tab (n+1) fun j=>oT (G i j))),.lst (tab n fun i=>Z4 (R i))]))(e1:σ 1=some (.lst (tab (n+1) fun i=>.int (c i))))(e2:σ 2=some (.lst ((ZaG c n).map fun i=>T.int (i:Nat))))(e3:σ 3=some (.lst ((ZaK c n).map fun i=>T.int (i:Nat)))): Psk ((Zs (ZP (Zai (ZD (Ze qEq (Zr Zar (Zd (Za 2) Zm)) (Zj 1))) (Zai (ZD (Ze qEq (Zr Zar (Zd (Za 3) Zm)) (Zj 1))) (Zai (ZD (Ze qEq (Ze Zq (Za 1) (Ze Zq (Za 2) (Zj 0))) (Zj 1))) (Zai (ZD (Ze qEq (Ze Zq (Za 1) (Ze Zq (Za 3) (Zj 0))) (pUn Zbc (Zj 1)))) Zae)))) (Zs (ZP (ZD (Ze qIs (Ze Zq (Ze Zq (Ze Zq (Za 0) (Zj 0)) (Ze Zq (Za 2) (Zj 0))) (Ze Zq (Za 3) (Zj 0))) (ZR))) (ZE (ZR)) ZU) (ZE (Ze Zag (Ze Zq (Ze Zq (Ze Zq (Za 0) (Zj 0)) (Ze Zq (Za 2) (Zj 0))) (Ze Zq (Za 3) (Zj 0))) (Ze Zq (Za 1) (Zj 0))))) ZU) (Zs (ZI 4 (Ze Zag (Zap (ZaD (Za 2)) (Zac 104) Zae (Ze Zq (Ze Zq (Ze Zq (Za 0) (Zj 0)) (Za 104)) (Zj 0))) (Zap (ZaD (Za 3)) (Zac 106) Zae (Ze Zq (Ze Zq (Ze Zq (Za 0) (Zj 0)) (Zj 0)) (Za 106))))) (Zs (ZP (ZD (Ze qIn (ZR) (Za 4))) (ZE (ZR)) ZU) (Zs (ZI 5 (Ze Zq (Za 1) (Zj 0))) (Zs (ZaB (ZaD (Za 2)) (Zac 6) (ZI 5 (Ze Zag (Za 5) (Ze ZaF (Ze Zq (Za 1) (Za 6)) (Ze Zq (Ze Zq (Ze Zq (Za 0) (Zj 0)) (Za 6)) (Zj 0)))))) (Zs (ZaB (ZaD (Za 3)) (Zac 6) (ZI 5 (Ze Za5 (Za 5) (Ze ZaF (Ze Zq (Za 1) (Za 6)) (Ze Zq (Ze Zq (Ze Zq (Za 0) (Zj 0)) (Zj 0)) (Za 6)))))) (ZE (Za 5)))))))) σ) (fun t=>t=oT (grt n G c)) N:=by
 by_cases h:Df n c
 ·obtain⟨u,d,eu,ed,hcu,hcd,hu,hd,_,_,iu,id_,_,_⟩:=Zis h
  have hg:grt n G c=Zaj (G u d) (some (c 0)):=by unfold grt;rw[Za0 h,iu,id_];rfl
  rw[hg]
  rw[eu]at e2
  rw[ed]at e3
  simp only[List.map_cons,List.map_nil]at e2 e3
  walk_at "zz"
  cases hx:G u d with
  | none=>
   rw[Zbf]
   walk_at "zz"
   rfl
  | some y=>
   rw[Zao]
   walk_at "zz"
   rw[hx,Zao]
   walk_at "zz"
   rfl
 ·have hg:grt n G c=(ZcD c (S40 G) n).2:=by unfold grt;rw[Zbw h];rfl
  rw[hg]
  refine Zci (fun σ'=>σ'=σ) ?_ ?_
  ·by_cases l1:(ZaG c n).length=1
   ·obtain⟨u,eu⟩:=List.length_eq_one_iff.mp l1
    have hu:u<n+1:=by have:=ups_mem.mp (show u∈ZaG c n by rw[eu];simp);omega
    by_cases l2:(ZaK c n).length=1
    ·obtain⟨d,ed⟩:=List.length_eq_one_iff.mp l2
     have hd:d<n+1:=by have:=dns_mem.mp (show d∈ZaK c n by rw[ed];simp);omega
     have hno:¬(c u=1∧c d = -1):=fun q=>h (df_iff.mpr ⟨by rw[eu];simp[q.1],by rw[ed];simp[q.2]⟩)
     rw[eu]at e2
     rw[ed]at e3
     simp only[List.map_cons,List.map_nil]at e2 e3
     by_cases q1:c u=1
     ·have q2:c d≠-1:=fun q=>hno ⟨q1,q⟩
      walk_at "zz"
      rfl
     ·walk_at "zz"
      rfl
    ·rw[eu]at e2
     simp only[List.map_cons,List.map_nil]at e2
     have l3:((((ZaK c n).map fun i=>T.int (i:Nat)).length:Nat):Int)≠1:=by rw[List.length_map];omega
     walk_at "zz"
     rfl
   ·have l3:((((ZaG c n).map fun i=>T.int (i:Nat)).length:Nat):Int)≠1:=by rw[List.length_map];omega
    walk_at "zz"
    rfl
  ·rintro _ rfl
   exact Zsp hn hb hG bc e0 e1 e2 e3
theorem ZfY(hn:n≤60)(hb:b≤100000)(hG:GB b n G)(bc:∀i,i<n+1→Bd b (c i)): ZdL [ZQ n G R,ZX n c]=some (oT (grt n G c)):=by
 apply Pk.eq
 unfold ZdL Zj8
 have ht:ZQ n G R=.tup [.lst (tab (n+1) fun i=>.lst (tab (n+1) fun j=>oT (G i j))),.lst (tab n fun i=>Z4 (R i))]:=rfl
 rw[ht]
 unfold ZX
 refine Zi3 rfl ?_
 have rg:∀{σ:TL} {j:Nat},σ 1=some (.lst (tab (n+1) fun i=>.int (c i)))→Pl (ZaE (Zd (Zj 1) (Zd (Zr Zar (Zd (Za 1) Zm)) Zm)) σ) fun us=>us=tab n fun i=>T.int ((1+i:Nat):Int):=fun {σ} {j} e=>by
  refine Zfz (a:=1) (m:=n) (by omega) (by omega) ?_ rfl
  simp only[Zd,Zj,Zm,Zr,Za,e,Option.bind_some,Zar,Zas]
  congr 3
  congr 1
  omega
 refine Zci (fun σ'=>σ' 0=some (.tup [.lst (tab (n+1) fun i=>.lst (tab (n+1) fun j=>oT (G i j))),.lst (tab n fun i=>Z4 (R i))])∧σ' 1=some (.lst (tab (n+1) fun i=>.int (c i)))∧σ' 2=some (.lst ((ZaG c n).map fun i=>T.int (i:Nat)))) ?_ ?_
 ·refine Zi2 ?_
  refine Zne (ts:=tab n fun i=>T.int ((1+i:Nat):Int)) (P:=ZoI c) (by rw[Zas];omega) (rg (j:=0) rfl) (fun t m=>?_) ?_
  ·obtain⟨i,hi,rfl⟩:=ZcO m
   have h1:1+i<n+1:=by omega
   walk_at "zz"
   show decide (0<c (1+i))=decide (0<c ((1+i:Nat):Int).toNat)
   rw[Int.toNat_natCast]
  ·rw[Zqw]
   exact⟨rfl,rfl,ZbA⟩
 rintro σ1 ⟨f0,f1,f2⟩
 refine Zci (fun σ'=>σ' 0=some (.tup [.lst (tab (n+1) fun i=>.lst (tab (n+1) fun j=>oT (G i j))),.lst (tab n fun i=>Z4 (R i))])∧σ' 1=some (.lst (tab (n+1) fun i=>.int (c i)))∧σ' 2=some (.lst ((ZaG c n).map fun i=>T.int (i:Nat)))∧σ' 3=some (.lst ((ZaK c n).map fun i=>T.int (i:Nat)))) ?_ ?_
 ·refine Zi2 ?_
  refine Zne (ts:=tab n fun i=>T.int ((1+i:Nat):Int)) (P:=ZoJ c) (by rw[Zas];omega) (rg (j:=0) f1) (fun t m=>?_) ?_
  ·obtain⟨i,hi,rfl⟩:=ZcO m
   have h1:1+i<n+1:=by omega
   walk_at "zz"
   show decide (c (1+i)<0)=decide (c ((1+i:Nat):Int).toNat<0)
   rw[Int.toNat_natCast]
  ·rw[Zqx]
   exact⟨by walk_at "zr",by walk_at "zr",by walk_at "zr",ZbA⟩
 rintro σ2 ⟨g0,g1,g2,g3⟩
 exact Zs5 hn hb hG bc g0 g1 g2 g3
theorem Zrd{b n:Nat}{c:Nat→Int}{S:Nat→Sp}(bc:∀i,i<n+1→Bd b (c i))(bS:∀i,i<n→SBd b (S i)): ∀j,j≤n→∀y,(ZcD c S j).2=some y→Bd (b+b+j+1) y
 | 0,_,y,e=>by cases e;exact(bc 0 (by omega)).mono (by omega)
 | j+1,h,y,e=>by
  obtain⟨p,q,h1,h2,rfl⟩:=addO_some.mp (show Zaj (ZcD c S j).2 (ZcR (S j) (c (j+1))).2=some y from e)
  have ih:=Zrd bc bS j (by omega) p h1
  have hq:Bd (b+b) q:=by
   unfold ZcR at h2
   split at h2
   ·cases h2;exact ZcK
   ·split at h2
    ·obtain⟨z,e1,rfl⟩:=Zz1.mp h2
     exact((bS j (by omega)).1 z e1).mul (bc (j+1) (by omega))
    ·obtain⟨z,e1,rfl⟩:=Zz1.mp h2
     exact((bS j (by omega)).2 z e1).mul (bc (j+1) (by omega))
  exact(ih.add (hq.mono (by omega))).mono (by omega)
theorem ZgR(bc:∀i,i<n+1→Bd b (c i)): ∀i,i<n+1→Bd b (-(c i)):=fun i hi=>by
 have:=bc i hi
 unfold Bd at *
 omega
noncomputable def Zaq(c:Nat→Int)(x:Nat→Int): Nat→Int
 | 0=>c 0
 | j+1=>Zaq c x j+c (j+1)*x j
theorem Zre{c x:Nat→Int}: ∀n,c 0+(tab n fun i=>c (i+1)*x i).sum=Zaq c x n
 | 0=>by simp[tab,Zaq]
 | n+1=>by
  rw[←ZdW (n:=n) (f:=fun i=>c (i+1)*x i),List.sum_append]
  have:=Zre (c:=c) (x:=x) n
  simp only[List.sum_cons,List.sum_nil,Zaq]
  omega
theorem ZrF{c x:Nat→Int}{S:Nat→Sp}{n:Nat}(h:∀i,i<n→InS (S i) (x i)): ∀j,j≤n→InS (ZcD c S j) (Zaq c x j)
 | 0,_=>⟨fun l e=>by cases e;exact Int.le_refl _,fun l e=>by cases e;exact Int.le_refl _⟩
 | j+1,hj=>Zvl (ZrF h j (by omega)) (Zuv (h j (by omega)))
theorem ZeM{c x:Nat→Int}: ∀n,Zaq (fun i=>-(c i)) x n = -(Zaq c x n)
 | 0=>rfl
 | n+1=>by
  simp only[Zaq,ZeM n,Int.neg_mul]
  omega
noncomputable def sV(c x:Nat→Int)(l:List Nat): Int:=(l.map fun i=>c i*x (i-1)).sum
theorem Zp2{c x:Nat→Int}: ∀n,Zaq c x n=c 0+sV c x (ZaG c n)+sV c x (ZaK c n)
 | 0=>by simp[Zaq,sV,ZaG,ZaK]
 | n+1=>by
  have ih:=Zp2 (c:=c) (x:=x) n
  have sn:∀l,sV c x (l++[n+1])=sV c x l+c (n+1)*x n:=fun l=>by simp[sV]
  simp only[Zaq,ZaG,ZaK,ih]
  rcases Int.lt_trichotomy (c (n+1)) 0 with h | h | h
  ·rw[if_neg (by omega),if_pos h,List.append_nil,sn]
   omega
  ·rw[if_neg (by omega),if_neg (by omega),List.append_nil,List.append_nil,h]
   omega
  ·rw[if_pos h,if_neg (by omega),List.append_nil,sn]
   omega
theorem Zjf(h:ZaY n G R x)(e:grt n G c=some y): Zaq c x n≤y:=by
 unfold grt at e
 by_cases hd:Df n c
 ·rw[Za0 hd]at e
  obtain⟨u,d,eu,ed,hcu,hcd,hu,hdn,hu1,hd1,iu,id_,_,_⟩:=Zis hd
  rw[iu,id_]at e
  obtain⟨p,q,h1,h2,rfl⟩:=addO_some.mp (show Zaj (G u d) (some (c 0))=some y from e)
  cases h2
  have hb:=h.1 u d hu hdn p h1
  rw[Zp2,eu,ed]
  have f:∀i,1≤i→ZaQ x i=x (i-1):=fun i hi=>by
   cases i with
   | zero=>omega
   | succ i=>rfl
  rw[f u hu1,f d hd1]at hb
  simp only[sV,List.map_cons,List.map_nil,List.sum_cons,List.sum_nil,hcu,hcd]
  omega
 ·rw[Zbw hd]at e
  refine(ZrF (S:=S40 G) (n:=n) (fun i hi=>⟨fun l el=>?_,fun r er=>?_⟩) n (Zz10 n)).2 y e
  ·obtain⟨z,e1,rfl⟩:=Zz1.mp el
   have:=h.1 0 (i+1) (by omega) (by omega) z e1
   have f0:ZaQ x 0=0:=rfl
   have f1:ZaQ x (i+1)=x i:=rfl
   show z*(-1)≤x i
   omega
  ·have:=h.1 (i+1) 0 (by omega) (by omega) r er
   have f0:ZaQ x 0=0:=rfl
   have f1:ZaQ x (i+1)=x i:=rfl
   omega
theorem Zvr(hn:n≤60)(hb:b≤100000)(bc:∀i,i<n+1→Bd b (c i))(bx:∀i,i<n→Bd b (x i)): ZhS [ZX n c,Zjz n x]=some (.int (Zaq c x n)):=by
 apply Pk.eq
 unfold ZhS ZlC ZX Zjz
 have h0:0<n+1:=by omega
 walk_at "zz"
 refine Zcj (n:=n) (a:=fun i=>.int i) (b:=fun i=>.int (c (i+1)*x i)) (by omega) ?_ (fun i hi=>?_) ?_
 ·walk_at "zz"
  rfl
 ·walk_at "zz"
  rw[show((i:Int)+1).toNat=i+1 by omega]
  exact ZbT (Zb3 (bc (i+1) (by omega)) (bx i hi) (by omega) (by omega)) rfl
 walk_at "zz"
 refine⟨.int (tab n fun i=>c (i+1)*x i).sum,by simp only[Zjy,ZuW,Option.map_some],?_⟩
 walk_at "zz"
 rw[show(Int.toNat 0)=0 from rfl,Zre]
noncomputable def SumB(n:Nat)(c:Nat→Int)(K:Int): Prop:=Bd 140 (c 0)∧∀i,1≤i→i<n+1→-K≤c i∧c i≤K
theorem SumB.bd(h:SumB n c K)(hK:K≤4000000000): ∀i,i<n+1→Bd 140 (c i):=fun i hi=>by
 by_cases q:i=0
 ·subst q;exact h.1
 ·have:=h.2 i (by omega) hi
  exact ZbS (i:=33) (by omega) (by decide)
theorem SumB.mono(h:SumB n c K)(hK:K≤K'): SumB n c K':=⟨h.1,fun i h1 h2=>by have:=h.2 i h1 h2;omega⟩
theorem ZiW{x:Nat}{v k:Int}(e:σ x=some (.lst (tab (n+1) fun i=>.int (c i))))(h0:1≤k)(h1:k<(n+1:Nat))(bc:SumB n c K)(hK:K≤K')(v0:-K'≤v)(v1:v≤K')(h:∀c',SumB n c' K'→N (Zaa σ x (.lst (tab (n+1) fun i=>.int (c' i))))): PutP σ x (.int v) (.int k) N:=by
 refine ZmE (n:=n+1) (f:=fun i=>.int (c i)) e (by omega) h1 ?_
 have:=h (fun i=>if i=k.toNat then v else c i) ⟨by show Bd 140 (if 0=k.toNat then v else c 0);rw[if_neg (by omega)];exact bc.1,fun i hi1 hi2=>by
  by_cases q:i=k.toNat
  ·simp only[q,if_true];exact⟨v0,v1⟩
  ·simp only[q,if_false];have:=bc.2 i hi1 hi2;omega⟩
 rw[show(tab (n+1) fun i=>if i=k.toNat then T.int v else T.int (c i))=tab (n+1) fun i=>T.int (if i=k.toNat then v else c i)from Zbi fun i _=>by split <;> rfl]
 exact this
noncomputable def unC(i:Nat): Nat→Int:=fun k=>if 0<i∧k=i then 1 else 0
theorem Zig(hn:n≤900): ZeF [.int i,.int n]=some (ZX n (unC i)):=by
 apply Pk.eq
 unfold ZeF Zm1 ZX
 walk_at "zz"
 refine Zcj (n:=n+1) (a:=fun k=>.int (k:Nat)) (b:=fun k=>.int (unC i k)) (by omega) ?_ (fun k hk=>?_) rfl
 ·walk_at "zz"
  exact Zjn (n+1) (by omega) (by omega) rfl
 ·walk_at "zz"
  by_cases h:0<i
  ·refine⟨fun _=>?_,fun c=>absurd c (by simp;omega)⟩
   walk_at "zz"
   by_cases q:k=i
   ·refine⟨fun _=>?_,fun c=>absurd c (by simp[q])⟩
    walk_at "zz"
    show _=T.int (unC i k)
    unfold unC
    rw[if_pos ⟨h,q⟩]
   ·refine⟨fun c=>absurd c (by simp;omega),fun _=>?_⟩
    walk_at "zz"
    show _=T.int (unC i k)
    unfold unC
    rw[if_neg (fun c=>q c.2)]
  ·refine⟨fun c=>absurd c (by simp;omega),fun _=>⟨fun c=>absurd c (by decide),fun _=>?_⟩⟩
   walk_at "zz"
   show _=T.int (unC i k)
   unfold unC
   rw[if_neg (fun c=>h c.1)]
theorem Ztp{d:Nat→Int}(hn:n≤900): Zib [ZX n c,ZX n d]=some (ZX n fun k=>c k+d k):=by
 apply Pk.eq
 unfold Zib Zmk ZX
 walk_at "zz"
 refine Zno (n:=n+1) (a:=fun i=>.int (c i)) (b:=fun i=>.int (d i)) (c:=fun i=>.int (c i+d i)) (by omega) ?_ (fun i hi=>?_) rfl
 ·walk_at "zz"
  rfl
 ·walk_at "zz"
  rfl
theorem ZlM{d:Nat→Int}(hn:n≤900)(hb1:1≤b)(hb:b≤100000)(bd:∀i,i<n+1→Bd b (d i)): Zfj [ZX n c,ZX n d]=some (ZX n fun k=>c k-d k):=by
 apply Pk.eq
 unfold Zfj Zmm
 walk_at "zz"
 refine ZH (Zfa (by omega) hb bd (show Bd b (-1)by unfold Bd;have:=Zea hb1;unfold Bd at this;simpa using this)) ?_
 walk_at "zz"
 refine ZH (Ztp hn) ?_
 walk_at "zz"
 have:(fun k=>c k+d k * -1)=fun k=>c k-d k:=by funext k;omega
 rw[this]
theorem ZrS: unC 0=fun _=>0:=by funext k;unfold unC;rw[if_neg (by omega)]
theorem Zrf(hG:GB b n G)(bc:∀i,i<n+1→Bd b (c i)): ∀y,grt n G c=some y→Bd (b+b+n+1) y:=fun y e=>by
 unfold grt at e
 by_cases h:Df n c
 ·rw[Za0 h]at e
  obtain⟨u,d,_,_,_,_,hu,hd,_,_,iu,id_,_,_⟩:=Zis h
  rw[iu,id_]at e
  obtain⟨p,q,h1,h2,rfl⟩:=addO_some.mp (show Zaj (G u d) (some (c 0))=some y from e)
  cases h2
  exact((hG u d hu hd p h1).add (bc 0 (by omega))).mono (by omega)
 ·rw[Zbw h]at e
  exact(Zrd bc (ZrE hG) n (Zz10 n) y e).mono (by omega)
theorem ZgS{c d x:Nat→Int}: ∀n,Zaq (fun k=>c k-d k) x n=Zaq c x n-Zaq d x n
 | 0=>rfl
 | n+1=>by
  simp only[Zaq,ZgS n,Int.sub_mul]
  omega
theorem Zqz{x:Nat→Int}: ∀n,Zaq (fun _=>0) x n=0
 | 0=>rfl
 | n+1=>by simp only[Zaq,Zqz n,Int.zero_mul];omega
theorem ZnZ{c:Nat→Int}{R:Nat→Int×Int}{x:Nat→Int}{n:Nat}(ok:∀t,t<n→RestOk (R t))(h:∀t,t<n→Zau (R t) (x t)): ∀j,j≤n→ZbQ c R j ∣ Zaq c x j-Zcc c R j
 | 0,_=>by show(0:Int) ∣ c 0-c 0;rw[Int.sub_self];exact Int.dvd_zero _
 | j+1,hj=>by
  have h1:ZbQ c R (j+1) ∣ ZbQ c R j:=Int.gcd_dvd_left ..
  have h2:ZbQ c R (j+1) ∣ c (j+1)*(R j).1:=Int.gcd_dvd_right ..
  obtain⟨z,hz⟩:=(Zbj (ok j (by omega)).nn (x j)).mp (h j (by omega))
  have h3:=Int.dvd_add (Int.dvd_trans h1 (ZnZ ok h j (by omega))) (Int.dvd_trans h2 (Int.dvd_mul_right _ z))
  rw[show Zaq c x (j+1)=Zaq c x j+c (j+1)*x j from rfl,show Zcc c R (j+1)=Zcc c R j+c (j+1)*(R j).2 from rfl,show x j=(R j).2+(R j).1*z by omega,Int.mul_add,←Int.mul_assoc]
  generalize c (j+1)*(R j).1*z=u at *
  generalize c (j+1)*(R j).2=v at *
  rwa [show Zaq c x j+(v+u)-(Zcc c R j+v)=Zaq c x j-Zcc c R j+u by omega]
theorem Zp3{kk:Int}{w at_ m lo:Int}(hk0:0≤kk)(hk9:kk≤1000)(hm:0<m)(hn:n≤9)(hK:K≤K')(hlo:-K'≤-lo)(hhi:m-1-lo≤K')(e0:σ 0=some (scr ns))(e1:σ 1=some (.int kk))(e2:σ 2=some (.int n))(e4:σ 4=some (.int w))(e5:σ 5=some (.int (1+at_)))(e3:σ 3=some (.lst (tab (n+1) fun i=>.int (c i))))(bc:SumB n c K)(h:∀σ' c',σ' 0=some (scr ns)→σ' 1=some (.int kk)→σ' 2=some (.int n)→σ' 4=some (.int w)→σ' 5=some (.int (1+at_))→σ' 3=some (.lst (tab (n+1) fun i=>.int (c' i)))→SumB n c' K'→N σ')(pm plo:PE)(epm:∀σ,pm σ=some (.int m))(eplo:∀σ,plo σ=some (.int lo)): Psk (ZaB (ZaE (Zd (Za 2) Zm)) (Zac 7) (Za2 3 [] (Ze Za5 (Zr ZbR (Zd (Za 0) (Zd (Ze Zag (Ze Zag (Za 1) (Zj 1)) (Za 7)) (Zd pm Zm)))) plo) ZaC (Ze Zag (Za 7) (Zj 1))) σ) Q N:=by
 refine ZbU (n:=n) (a:=fun i=>.int i) (P:=fun _ σ'=>σ' 0=some (scr ns)∧σ' 1=some (.int kk)∧σ' 2=some (.int n)∧σ' 4=some (.int w)∧σ' 5=some (.int (1+at_))∧∃c',σ' 3=some (.lst (tab (n+1) fun i=>.int (c' i)))∧SumB n c' K') ?_ ⟨e0,e1,e2,e4,e5,c,e3,bc.mono hK⟩ ?_ ?_
 ·walk_at "zz"
  rfl
 ·rintro i σ' hi ⟨f0,f1,f2,f4,f5,c',f3,bc'⟩
  obtain⟨k0,k1⟩:=Zck ns (kk+1+(i:Int)) hm
  walk_at "zz"
  refine⟨_,epm _,?_⟩
  walk_at "zz"
  refine ZH (Zcl (by omega) (by omega) hm) ?_
  refine⟨_,eplo _,?_⟩
  walk_at "zz"
  refine ZiW (n:=n) (c:=c') (K:=K') (K':=K') (by walk_at "zr") (by omega) (by omega) bc' (Int.le_refl _) (by omega) (by omega) fun c2 bc2=>?_
  exact⟨by walk_at "zr",by walk_at "zr",by walk_at "zr",by walk_at "zr",by walk_at "zr",c2,ZbA,bc2⟩
 ·rintro σ' ⟨f0,f1,f2,f4,f5,c',f3,bc'⟩
  exact h σ' c' f0 f1 f2 f4 f5 f3 bc'
theorem Zx5{kk:Int}(hk0:0≤kk)(hk9:kk≤1000)(hL:Lay ns)(hn:n≤9): Pk (Zin [scr ns,.int kk,.int n]) fun t=>∃c,t=ZX n c∧SumB n c 1000000000:=by
 unfold Zin ZmZ
 have bn:Bd 140 (Zcr ns kk):=ZbS (ZiR ns kk) (by decide)
 obtain⟨p0,p1⟩:=Zck ns kk (show(0:Int)<6 by decide)
 refine Zi3 rfl ?_
 refine Zci (fun σ'=>σ' 0=some (scr ns)∧σ' 1=some (.int kk)∧σ' 2=some (.int n)∧∃c,σ' 3=some (.lst (tab (n+1) fun i=>.int (c i)))∧SumB n c 0) ?_ ?_
 ·walk_at "zz"
  refine ZH (Zgz hL (by omega) (by omega)) ?_
  walk_at "zz"
  refine Zwy (by omega) ?_
  refine ZqN (by omega) ?_
  rw[show cn (T.int (Zcr ns kk)) (fun _=>T.int 0)=fun i=>T.int (cn (Zcr ns kk) (fun _=>0) i)from by funext i;cases i <;> rfl]
  refine⟨Zpx fun _ _=>rfl,?_⟩
  refine⟨rfl,rfl,rfl,_,ZbA,bn,fun i h1 h2=>?_⟩
  cases i with
  | zero=>omega
  | succ i=>exact⟨Int.le_refl 0,Int.le_refl 0⟩
 rintro σ1 ⟨e0,e1,e2,c,e3,bc⟩
 walk_at "zz"
 refine ZH (Zcl (by omega) (by omega) (by decide)) ?_
 by_cases hz:Zbx ns kk 6=0∨n=0
 ·rcases hz with hz | hz
  ·walk_at "zz"
   exact⟨c,rfl,bc.mono (by decide)⟩
  ·by_cases q:Zbx ns kk 6=0
   ·walk_at "zz"
    exact⟨c,rfl,bc.mono (by decide)⟩
   ·have:(n:Int)=0:=by omega
    walk_at "zz"
    exact⟨c,rfl,bc.mono (by decide)⟩
 have hz1:Zbx ns kk 6≠0:=fun q=>hz (.inl q)
 have hn0:(n:Int)≠0:=fun q=>hz (.inr (by omega))
 obtain⟨a0,a1⟩:=Zck ns (kk+1) (show(0:Int)<n by omega)
 walk_at "zz"
 refine ZH (Zcl (by omega) (by omega) (by omega)) ?_
 refine Zrq ?_
 generalize Zbx ns kk 6=w at *
 generalize Zbx ns (kk+1) n=at_ at *
 let M:Int→TL→Prop:=fun K σ'=>σ' 0=some (scr ns)∧σ' 1=some (.int kk)∧σ' 2=some (.int n)∧σ' 4=some (.int w)∧σ' 5=some (.int (1+at_))∧∃c,σ' 3=some (.lst (tab (n+1) fun i=>.int (c i)))∧SumB n c K
 refine Zci (M 6) ?_ ?_
 ·walk_at "zz"
  refine⟨fun q=>?_,fun q=>?_⟩
  ·obtain⟨k0,k1⟩:=Zck ns (kk+2) (show(0:Int)<13 by decide)
   walk_at "zz"
   refine ZH (Zcl (by omega) (by omega) (by decide)) ?_
   walk_at "zz"
   refine ZiW (n:=n) (c:=c) (K:=0) (K':=6) (by walk_at "zr") (by omega) (by omega) bc (by decide) (by omega) (by omega) fun c' bc'=>?_
   exact⟨by walk_at "zr",by walk_at "zr",by walk_at "zr",by walk_at "zr",by walk_at "zr",c',ZbA,bc'⟩
  ·walk_at "zz"
   exact⟨by walk_at "zr",by walk_at "zr",by walk_at "zr",by walk_at "zr",by walk_at "zr",c,by walk_at "zr",bc.mono (by decide)⟩
 clear bc e3 c
 rintro σ2 ⟨f0,f1,f2,f4,f5,c1,f3,bc1⟩
 refine Zci (M 7) ?_ ?_
 ·have go:Psk ((Zs (ZI 6 (Ze Zag (Zj 1) (Zr ZbR (Zd (Za 0) (Zd (Ze Zag (Za 1) (Zj 2)) (Zd (Za 2) Zm)))))) (Zs (Za2 3 [] (Zj 1) ZaC (Za 5)) (Za2 3 [] (Ze Za5 (Ze Zq (Za 3) (Za 6)) (Zj 1)) ZaC (Za 6)))) σ2) (fun t=>∃c,t=ZX n c∧SumB n c 1000000000) (M 7):=by
   obtain⟨k0,k1⟩:=Zck ns (kk+2) (show(0:Int)<n by omega)
   walk_at "zz"
   refine ZH (Zcl (by omega) (by omega) (by omega)) ?_
   generalize Zbx ns (kk+2) n=to_ at *
   walk_at "zz"
   refine ZiW (n:=n) (c:=c1) (K:=6) (K':=6) (by walk_at "zr") (by omega) (by omega) bc1 (by decide) (by decide) (by decide) fun c' bc'=>?_
   have hto:=bc'.2 (1+to_).toNat (by omega) (by omega)
   walk_at "zz"
   refine ZiW (n:=n) (c:=c') (K:=6) (K':=7) (by walk_at "zr") (by omega) (by omega) bc' (by decide) (by omega) (by omega) fun c2 bc2=>?_
   exact⟨by walk_at "zr",by walk_at "zr",by walk_at "zr",by walk_at "zr",by walk_at "zr",c2,ZbA,bc2⟩
  have no:M 7 σ2:=⟨f0,f1,f2,f4,f5,c1,f3,bc1.mono (by decide)⟩
  by_cases q2:w=2
  ·refine Zoe ?_
   refine⟨true,?_,fun _=>go,fun e=>by cases e⟩
   simp[bOr,ZD,Ze,Za,f4,Zj,qEq,ZiI,Zb4,q2]
  ·by_cases q3:w=3
   ·refine Zoe ?_
    refine⟨true,?_,fun _=>go,fun e=>by cases e⟩
    simp[bOr,ZD,Ze,Za,f4,Zj,qEq,ZiI,Zb4,q3]
   ·walk_at "zz"
    exact no
 clear bc1 f3 c1
 clear f0 f1 f2 f4 f5
 rintro σ3 ⟨f0,f1,f2,f4,f5,c1,f3,bc1⟩
 refine Zci (M 7) ?_ ?_
 ·walk_at "zz"
  refine⟨fun q=>?_,fun q=>?_⟩
  ·exact Zp3 hk0 hk9 (m:=7) (lo:=3) (K:=7) (K':=7) (by decide) hn (by decide) (by decide) (by decide) f0 f1 f2 f4 f5 f3 bc1 (fun σ' c' g0 g1 g2 g4 g5 g3 bc'=>⟨g0,g1,g2,g4,g5,c',g3,bc'⟩) _ _ (fun _=>rfl) (fun _=>rfl)
  ·walk_at "zz"
   exact⟨f0,f1,f2,f4,f5,c1,f3,bc1⟩
 clear bc1 f3 c1
 clear f0 f1 f2 f4 f5
 rintro σ4 ⟨f0,f1,f2,f4,f5,c1,f3,bc1⟩
 refine Zci (M 1000000000) ?_ ?_
 ·walk_at "zz"
  refine⟨fun q=>?_,fun q=>?_⟩
  ·exact Zp3 hk0 hk9 (m:=2000000001) (lo:=1000000000) (K:=7) (K':=1000000000) (by decide) hn (by decide) (by decide) (by decide) f0 f1 f2 f4 f5 f3 bc1 (fun σ' c' g0 g1 g2 g4 g5 g3 bc'=>⟨g0,g1,g2,g4,g5,c',g3,bc'⟩) _ _ (fun _=>rfl) (fun _=>rfl)
  ·walk_at "zz"
   exact⟨f0,f1,f2,f4,f5,c1,f3,bc1.mono (by decide)⟩
 rintro σ5 ⟨g0,g1,g2,g4,g5,c2,g3,bc2⟩
 walk_at "zz"
 exact⟨c2,rfl,bc2⟩
theorem ZrG{a:Nat}(h:1≤a): unC a a=1:=by unfold unC;rw[if_pos ⟨by omega,rfl⟩]
theorem Zoo{a:Nat}(h:k≠a): unC a k=0:=by unfold unC;rw[if_neg (fun q=>h q.2)]
theorem Zop(hp:RestOk p)(hq:RestOk q)(h:∀x,Zau p x→Zau q x): RIn p q:=by
 have e:∀x,p.1 ∣ x-p.2→q.1 ∣ x-q.2:=fun x hx=>(Zbj hq.nn x).mp (h x ((Zbj hp.nn x).mpr hx))
 have a1:q.1 ∣ p.2-q.2:=e p.2 (by simp)
 have a2:q.1 ∣ p.2+p.1-q.2:=e (p.2+p.1) (by rw[show p.2+p.1-p.2=p.1 by omega];exact Int.dvd_refl _)
 have c1:q.1 ∣ p.1:=by have:=Int.dvd_sub a2 a1;rwa [show p.2+p.1-q.2-(p.2-q.2)=p.1 by omega]at this
 unfold RIn
 split
 ·rename_i z
  rw[z,Int.zero_dvd]at a1 c1
  exact Prod.ext (by rw[c1,z]) (by omega)
 ·exact⟨Int.emod_eq_zero_of_dvd c1,Int.emod_eq_zero_of_dvd a1⟩
theorem Zs6(hR:∀t,t<n→RestOk (R t))(s:Sharp n G R G2 R2 M k): Zcw n G2 R2 G R:=by
 obtain⟨R1,h1,h2,h3,h4,rfl,h6⟩:=s.go
 refine⟨fun i hi j hj=>?_,fun t ht=>?_⟩
 ·refine Zct (Zg8 (n+1) i j) (Zct (Zwo fun b e q=>h3 ⟨i,j,hi,hj,b,e,q⟩) (Zg8 (n+1) i j))
 ·refine Zop (h6 t ht).1.1 (hR t ht) fun x hx=>?_
  have a:=((h6 t ht).2 x).mp hx
  have b:=((h2 t ht).2 x).mp a.1
  exact b.1
theorem ZrH{a:Nat}{x:Nat→Int}(h1:1≤a): ∀n,Zaq (unC a) x n=if a≤n then x (a-1)else 0
 | 0=>by rw[if_neg (by omega)];exact Zoo (by omega)
 | n+1=>by
  show Zaq (unC a) x n+unC a (n+1)*x n=_
  rw[ZrH h1 n]
  by_cases q:n+1=a
  ·subst q
   rw[ZrG h1,if_neg (by omega),if_pos (by omega),Nat.add_sub_cancel];omega
  ·rw[Zoo q,Int.zero_mul]
   by_cases g:a≤n
   ·rw[if_pos g,if_pos (by omega)];omega
   ·rw[if_neg g,if_neg (by omega)];rfl
noncomputable def DueOk(m:Nat)(D:T): Prop:=D=.none∨∃G R,D=ZQ m G R∧(∀i,i<m+1→G i i=some 0)∧∀t,t<m→RestOk (R t)
theorem DueOk.same(hm:m≤100)(h:DueOk m D): ZdT [D,D]=some (.bool true):=by
 rcases h with rfl | ⟨G,R,rfl,hd,ok⟩
 ·exact ZsI
 ·exact ZsJ hm hd ok
theorem ZtY{K:Nat}(hM:0<M)(bM:Bd K M)(bG:BdG (n+1) k G)(hk:k+n+1≤K)(s:Sharp n G R G2 R2 M K): BdG (n+1) (K+n+2) G2∧∀t,t<n→RBd K (R2 t):=by
 obtain⟨R1,_,h1,_,_,rfl,h2⟩:=s.go
 refine⟨?_,fun t ht=>(h2 t ht).1.bd hM bM⟩
 have b1:BdG (n+1) K (clG G (n+1)):=fun a b c ha hb e=>(Zeq bG (n+1) (Zz10 _) a b c ha hb e).mono (by omega)
 have b2:=Zon hM bM b1 fun t ht=>(h1 t ht).1
 exact fun a b c ha hb e=>(Zeq b2 (n+1) (Zz10 _) a b c ha hb e).mono (by omega)
theorem ZwB: (oR o).flat=true:=by cases o <;> rfl
theorem ZxC{N:Nat}{ρ:Nat→Option (Int×Int)}: (tab N fun t=>if t=k then oR o else oR (ρ t))=tab N fun t=>oR (if t=k then o else ρ t):=Zbi fun t _=>by
 by_cases c:t=k
 ·rw[if_pos c,if_pos c]
 ·rw[if_neg c,if_neg c]
theorem Znf{a:Nat}(h:v=Γ a b): ZbZ Γ a b v=Γ:=by
 funext i j
 by_cases c:i=a∧j=b
 ·obtain⟨rfl,rfl⟩:=c
  rw[ZiS,h]
 ·rw[ZgQ c]
theorem ZxD{b:Option Int}: Za1 none b=b:=by
 unfold Za1
 by_cases c:leO none b
 ·rw[Za0 c]
  cases b with
  | none=>rfl
  | some y=>exact absurd c ZiO
 ·rw[Zbw c];rfl
theorem ZwC{x:Int}(h:y<x): Za1 (some x) (some y)=some y:=by
 unfold Za1
 rw[Zbw (by rw[leO_some];omega)]
 rfl
noncomputable def apC(c:Nat→Int)(i j:Nat): Nat→Int:=fun k=>unC i k-unC j k-c k
noncomputable def alC(c:Nat→Int)(i:Nat): Nat→Int:=fun k=>unC i k*c i-c k
theorem ZeQ: unC i k=0∨unC i k=1:=by unfold unC;split;exact .inr rfl;exact .inl rfl
theorem ZoA(hb:1≤b)(bc:∀i,i<n+1→Bd b (c i))(i j:Nat): ∀k,k<n+1→Bd (b+2) (apC c i j k):=fun k hk=>by
 have h:=bc k hk
 have h1:=ZeQ (i:=i) (k:=k)
 have h2:=ZeQ (i:=j) (k:=k)
 have h3:2≤2 ^ b:=by
  have:2 ^ 1≤2 ^ b:=Nat.pow_le_pow_right (by decide) hb
  exact this
 unfold Bd apC at *
 rw[Nat.pow_add]
 omega
theorem ZoB(bc:∀i,i<n+1→Bd b (c i))(i:Nat)(hi:i<n+1): ∀k,k<n+1→Bd (b+2) (alC c i k):=fun k hk=>by
 have h:=bc k hk
 have g:=bc i hi
 unfold alC
 rcases ZeQ (i:=i) (k:=k)with e | e
 ·rw[e,Int.zero_mul];unfold Bd at *;rw[Nat.pow_add];omega
 ·rw[e,Int.one_mul];unfold Bd at *;rw[Nat.pow_add];omega
theorem Zo1{d:Nat→Int}(hn:n≤60)(hb:b≤1000)(hb1:1≤b)(hG:GB b n G)(bc:∀i,i<n+1→Bd b (c i))(bd:∀i,i<n+1→Bd b (d i-c i)): Zf9 [ZQ n G R,ZX n d,ZX n c,.int top]=some (oT (Zaj (grt n G fun k=>d k-c k) (some top))):=by
 apply Pk.eq
 unfold Zf9 ZkU
 walk_at "zz"
 refine ZH (ZlM (by omega) hb1 (by omega) bc) ?_
 walk_at "zz"
 refine ZH (ZlL hn (by omega) hb1 hG bd) ?_
 walk_at "zz"
 exact ZH (Zfe (b:=some top)) rfl
theorem ZpL{N:Nat}{G':Nat→Nat→Option Int}(h:∀i j,i<N→j<N→G i j=G' i j): Z7 N G=Z7 N G':=by
 unfold Z7 Zax
 rw[show(tab N fun i=>T.lst (tab N fun j=>oT (G i j)))=tab N fun i=>T.lst (tab N fun j=>oT (G' i j))from Zbi fun i hi=>by rw[Zbi fun j hj=>by rw[h i j hi hj]]]
noncomputable def Wv(w G:Nat→Nat→Option Int)(i j:Nat): Nat→Nat→Option Int:=fun a b=>if a<i∨(a=i∧b<j)then w a b else G a b
theorem Zoq: ZbZ (Wv w G i j) i j (w i j)=Wv w G i (j+1):=by
 funext a b
 unfold ZbZ Wv
 by_cases h:a=i∧b=j
 ·rw[if_pos h,if_pos (by omega),h.1,h.2]
 ·rw[if_neg h]
  by_cases q:a<i∨(a=i∧b<j)
  ·rw[if_pos q,if_pos (by omega)]
  ·rw[if_neg q,if_neg (by omega)]
theorem ZoC: Wv w G i j i j=G i j:=by unfold Wv;rw[if_neg (by omega)]
theorem Wv_row{N:Nat}: Z7 N (Wv w G i N)=Z7 N (Wv w G (i+1) 0):=ZpL fun a b ha hb=>by
 unfold Wv
 by_cases q:a<i∨(a=i∧b<N)
 ·rw[if_pos q,if_pos (by omega)]
 ·rw[if_neg q,if_neg (by omega)]
theorem ZrV: Wv w G 0 0=G:=by funext a b;unfold Wv;rw[if_neg (by omega)]
theorem Wv_all{N:Nat}: Z7 N (Wv w G N 0)=Z7 N w:=ZpL fun a b ha hb=>by unfold Wv;rw[if_pos (.inl ha)]
noncomputable def apW(n:Nat)(G:Nat→Nat→Option Int)(c:Nat→Int)(top:Int)(a b:Nat): Option Int:=if a=b then G a b else Za1 (G a b) (Zaj (grt n G (apC c a b)) (some top))
theorem Zsq(hn:n≤60)(hb:b≤900)(hb1:1≤b)(hG:GB b n G)(bc:∀i,i<n+1→Bd b (c i))(hd:∀i,i<n+1→G i i=some 0)(hc:∀y,grt n G (fun k=>-(c k))=some y→-y≤top): Zhy [Z7 (n+1) G,ZQ n G R,ZX n c,.int top]=some (Z7 (n+1) (apW n G c top)):=by
 apply Pk.eq
 unfold Zhy Zkw
 refine ZnO rfl ?_
 have ht:ZQ n G R=.tup [Z7 (n+1) G,.lst (tab n fun i=>Z4 (R i))]:=rfl
 have bu:∀i k,k<n+1→Bd b (unC i k):=fun i k _=>by
  rcases ZeQ (i:=i) (k:=k)with e | e <;> rw[e]
  ·exact ZcK
  ·exact Zea hb1
 have hw:∀i j,i<n+1→Za1 (G i j) (Zaj (grt n G (apC c i j)) (some top))=apW n G c top i j:=fun i j hi=>by
  unfold apW
  split
  ·rename_i e
   subst e
   rw[hd i hi]
   refine Zek ?_
   have:apC c i i=fun k=>-(c k):=by funext k;unfold apC;omega
   rw[this]
   cases e:grt n G fun k=>-(c k)with
   | none=>exact Zdk
   | some y=>exact leO_some.mpr (by have:=hc y e;omega)
  ·rfl
 rw[ht]
 walk_at "zz"
 rw[←ht]
 refine ZbU (n:=n+1) (a:=fun i=>.int i) (P:=fun i σ=>σ 0=some (Z7 (n+1) (Wv (apW n G c top) G i 0))∧σ 1=some (ZQ n G R)∧σ 2=some (ZX n c)∧σ 3=some (.int top)∧σ 4=some (.int n)) ?_ ⟨by rw[ZrV];rfl,rfl,rfl,rfl,rfl⟩ ?_ ?_
 ·walk_at "zz"
  exact Zjn (n+1) (by omega) (by omega) rfl
 ·rintro i σ hi ⟨e0,e1,e2,e3,e4⟩
  refine ZbU (n:=n+1) (a:=fun j=>.int j) (P:=fun j σ=>σ 0=some (Z7 (n+1) (Wv (apW n G c top) G i j))∧σ 1=some (ZQ n G R)∧σ 2=some (ZX n c)∧σ 3=some (.int top)∧σ 4=some (.int n)∧σ 5=some (.int i)) ?_ ⟨by walk_at "zr",by walk_at "zr",by walk_at "zr",by walk_at "zr",by walk_at "zr",by walk_at "zr"⟩ ?_ ?_
  ·walk_at "zz"
   exact Zjn (n+1) (by omega) (by omega) rfl
  ·rintro j σ hj ⟨e0,e1,e2,e3,e4,e5⟩
   walk_at "zz"
   refine ZH (Zig (by omega)) ?_
   walk_at "zz"
   refine ZH (Zig (by omega)) ?_
   walk_at "zz"
   refine ZH (ZlM (b:=b) (by omega) hb1 (by omega) (bu j)) ?_
   refine ZgZ (t:=Z7 (n+1) (Wv (apW n G c top) G i j)) (by walk_at "zr") ?_
   walk_at "zz"
   refine ZH (Zo1 (b:=b+2) (d:=fun k=>unC i k-unC j k) hn (by omega) (by omega) (fun a b ha hb y e=>(hG a b ha hb y e).mono (by omega)) (fun k hk=>(bc k hk).mono (by omega)) (ZoA hb1 bc i j)) ?_
   walk_at "zz"
   refine ZH (ZlK hi hj) ?_
   rw[ZoC,show(fun k=>unC i k-unC j k-c k)=apC c i j from rfl,hw i j hi,Zoq]
   exact⟨ZbA,by walk_at "zr",by walk_at "zr",by walk_at "zr",by walk_at "zr",by walk_at "zr"⟩
  ·rintro σ ⟨e0,e1,e2,e3,e4,e5⟩
   exact⟨by rw[←Wv_row];exact e0,e1,e2,e3,e4⟩
 ·rintro σ ⟨e0,e1,e2,e3,e4⟩
  exact⟨_,e0,Wv_all⟩
theorem Zo2{k:Int}(hi:i≤9000)(hk0:k≠0)(hk:Bd i k): Zga [oT a,.int k]=some (oT (a.map fun x=>x.fdiv k)):=by
 apply Pk.eq
 unfold Zga ZkW
 cases a with
 | none=>
  simp only[Zbf]
  walk_at "zz"
  rfl
 | some x=>
  rw[Zao]
  walk_at "zz"
  refine Zc6 hk0 (ZdG hk hi) ?_
  rfl
noncomputable def prt(n:Nat)(G:Nat→Nat→Option Int)(c:Nat→Int)(top:Int)(i:Nat): Option Int:=(Zaj (grt n G (alC c i)) (some top)).map fun y=>y.fdiv (if c i<0 then -(c i)else c i)
noncomputable def alW(n:Nat)(G:Nat→Nat→Option Int)(c:Nat→Int)(top:Int)(Γ:Nat→Nat→Option Int)(m:Nat): Nat→Nat→Option Int:=fun a b=>if b=0∧1≤a∧a≤m∧0<c a then Za1 (Γ a 0) (prt n G c top a)else if a=0∧1≤b∧b≤m∧c b<0 then Za1 (Γ 0 b) (prt n G c top b)else Γ a b
theorem ZrT: alW n G c top Γ 0=Γ:=by
 funext a b
 unfold alW
 rw[if_neg (by omega),if_neg (by omega)]
theorem Zn0(h:0<c (m+1)): ZbZ (alW n G c top Γ m) (m+1) 0 (Za1 (alW n G c top Γ m (m+1) 0) (prt n G c top (m+1)))=alW n G c top Γ (m+1):=by
 have e:alW n G c top Γ m (m+1) 0=Γ (m+1) 0:=by unfold alW;rw[if_neg (by omega),if_neg (by omega)]
 rw[e]
 funext a b
 unfold ZbZ alW
 by_cases q:a=m+1∧b=0
 ·obtain⟨rfl,rfl⟩:=q
  rw[if_pos ⟨rfl,rfl⟩,if_pos ⟨rfl,by omega,by omega,h⟩]
 ·have i1:(b=0∧1≤a∧a≤m+1∧0<c a)↔(b=0∧1≤a∧a≤m∧0<c a):=by omega
  have i2:(a=0∧1≤b∧b≤m+1∧c b<0)↔(a=0∧1≤b∧b≤m∧c b<0):=by
   by_cases g:b=m+1
   ·subst g;omega
   ·omega
  rw[if_neg q]
  simp only[i1,i2]
theorem Zn1(h:c (m+1)<0): ZbZ (alW n G c top Γ m) 0 (m+1) (Za1 (alW n G c top Γ m 0 (m+1)) (prt n G c top (m+1)))=alW n G c top Γ (m+1):=by
 have e:alW n G c top Γ m 0 (m+1)=Γ 0 (m+1):=by unfold alW;rw[if_neg (by omega),if_neg (by omega)]
 rw[e]
 funext a b
 unfold ZbZ alW
 by_cases q:a=0∧b=m+1
 ·obtain⟨rfl,rfl⟩:=q
  rw[if_pos ⟨rfl,rfl⟩,if_neg (by omega),if_pos ⟨rfl,by omega,by omega,h⟩]
 ·have i1:(b=0∧1≤a∧a≤m+1∧0<c a)↔(b=0∧1≤a∧a≤m∧0<c a):=by
   by_cases g:a=m+1
   ·subst g;omega
   ·omega
  have i2:(a=0∧1≤b∧b≤m+1∧c b<0)↔(a=0∧1≤b∧b≤m∧c b<0):=by omega
  rw[if_neg q]
  simp only[i1,i2]
theorem ZqA(h:c (m+1)=0): alW n G c top Γ m=alW n G c top Γ (m+1):=by
 funext a b
 unfold alW
 have i1:(b=0∧1≤a∧a≤m+1∧0<c a)↔(b=0∧1≤a∧a≤m∧0<c a):=by
  by_cases g:a=m+1
  ·subst g;omega
  ·omega
 have i2:(a=0∧1≤b∧b≤m+1∧c b<0)↔(a=0∧1≤b∧b≤m∧c b<0):=by
  by_cases g:b=m+1
  ·subst g;omega
  ·omega
 simp only[i1,i2]
theorem Zsr(hn:n≤60)(hb:b≤900)(hb1:1≤b)(hG:GB b n G)(bc:∀i,i<n+1→Bd b (c i)): ZhA [Z7 (n+1) Γ,ZQ n G R,ZX n c,.int top]=some (Z7 (n+1) (alW n G c top Γ n)):=by
 apply Pk.eq
 unfold ZhA Zky
 refine ZnO rfl ?_
 have ht:ZQ n G R=.tup [Z7 (n+1) G,.lst (tab n fun i=>Z4 (R i))]:=rfl
 have bu:∀i k,k<n+1→Bd b (unC i k):=fun i k _=>by
  rcases ZeQ (i:=i) (k:=k)with e | e <;> rw[e]
  ·exact ZcK
  ·exact Zea hb1
 rw[ht]
 walk_at "zz"
 rw[←ht]
 refine ZbU (n:=n) (a:=fun i=>.int ((1+i:Nat):Int)) (P:=fun i σ=>σ 0=some (Z7 (n+1) (alW n G c top Γ i))∧σ 1=some (ZQ n G R)∧σ 2=some (ZX n c)∧σ 3=some (.int top)∧σ 4=some (.int n)) ?_ ⟨by rw[ZrT];rfl,rfl,rfl,rfl,rfl⟩ ?_ ?_
 ·refine Zfz (a:=1) (m:=n) (by omega) (by omega) ?_ rfl
  simp only[Zd,Zj,Zm,Ze,Za,Zaa,Option.bind_some,if_true,Zag]
  congr 3
  congr 1
  omega
 ·rintro i σ hi ⟨e0,e1,e2,e3,e4⟩
  have h1:1+i<n+1:=by omega
  have hs:ZX n c=.lst (tab (n+1) fun k=>.int (c k)):=rfl
  rw[hs]at e2
  walk_at "zz"
  rw[←hs]at e2
  have ci:=bc (1+i) h1
  have hG2:GB (b+2) n G:=fun a b ha hb y e=>(hG a b ha hb y e).mono (by omega)
  have bc2:∀k,k<n+1→Bd (b+2) (c k):=fun k hk=>(bc k hk).mono (by omega)
  refine ZH (Zig (by omega)) ?_
  walk_at "zz"
  refine ZH (Zfa (b:=b) (by omega) (by omega) (bu (1+i)) ci) ?_
  walk_at "zz"
  refine ZH (Zo1 (b:=b+2) (d:=fun k=>unC (1+i) k*c (1+i)) hn (by omega) (by omega) hG2 bc2 (ZoB bc (1+i) h1)) ?_
  rw[show(fun k=>unC (1+i) k*c (1+i)-c k)=alC c (1+i)from rfl]
  have hp:∀k,k=(if c (1+i)<0 then -(c (1+i))else c (1+i))→(Zaj (grt n G (alC c (1+i))) (some top)).map (fun y=>y.fdiv k)=prt n G c top (1+i):=fun k e=>by unfold prt;rw[e]
  rw[Nat.add_comm 1 i]at *
  rcases Int.lt_trichotomy (c (i+1)) 0 with q | q | q
  ·have q':¬0<c (i+1):=by omega
   walk_at "zz"
   refine ZgZ (t:=Z7 (n+1) (alW n G c top Γ i)) (by walk_at "zr") ?_
   walk_at "zz"
   refine ZH (Zo2 (i:=b) (by omega) (by omega) (show Bd b (-(c (i+1)))by unfold Bd at *;omega)) ?_
   walk_at "zz"
   refine ZH (ZlK (a:=0) (by omega) h1) ?_
   rw[hp _ (by rw[if_pos q]),Zn1 q]
   exact⟨ZbA,by walk_at "zr",by walk_at "zr",by walk_at "zr",by walk_at "zr"⟩
  ·have q':¬0<c (i+1):=by omega
   have q'':¬c (i+1)<0:=by omega
   walk_at "zz"
   rw[←ZqA q]
   exact⟨by walk_at "zr",by walk_at "zr",by walk_at "zr",by walk_at "zr",by walk_at "zr"⟩
  ·have q':¬c (i+1)<0:=by omega
   walk_at "zz"
   refine ZgZ (t:=Z7 (n+1) (alW n G c top Γ i)) (by walk_at "zr") ?_
   walk_at "zz"
   refine ZH (Zo2 (i:=b) (by omega) (by omega) ci) ?_
   walk_at "zz"
   refine ZH (ZlK (b:=0) h1 (by omega)) ?_
   rw[hp _ (by rw[if_neg q']),Zn0 q]
   walk_at "zz"
   exact⟨by walk_at "zr",by walk_at "zr",by walk_at "zr",by walk_at "zr",by walk_at "zr"⟩
 ·rintro σ ⟨e0,e1,e2,e3,e4⟩
  exact⟨_,e0,rfl⟩
theorem ZhZ{k:Int}(hn:n≤60)(hi:i<n+1): Zeg [ZX n c,.int i,.int k]=some (ZX n fun a=>c a+unC i a*k):=by
 apply Pk.eq
 unfold Zeg Zmq ZX
 by_cases h:(0:Int)<(i:Int)
 ·walk_at "zz"
  show T.lst _=T.lst _
  congr 1
  refine Zbi fun a _=>?_
  show _=T.int (c a+unC i a*k)
  by_cases q:a=i
  ·rw[if_pos q,q,ZrG (by omega),Int.one_mul]
  ·rw[if_neg q,Zoo q,Int.zero_mul,Int.add_zero]
 ·walk_at "zz"
  show T.lst _=T.lst _
  congr 1
  refine Zbi fun a _=>?_
  have:i=0:=by omega
  show T.int (c a)=T.int (c a+unC i a*k)
  rw[this,ZrS,Int.zero_mul,Int.add_zero]
theorem ZhB{b:Option Int}: Zey [oT a,oT b]=some (oT (Za1 a b)):=by
 apply Pk.eq
 unfold Zey Zk0
 cases a with
 | none=>
  simp only[Zbf]
  walk_at "zz"
  rw[ZxD]
 | some x=>
  rw[Zao]
  cases b with
  | none=>
   rw[Zbf]
   walk_at "zz"
   rw[Zek Zdk,Zao]
  | some y=>
   rw[Zao]
   walk_at "zz"
   by_cases h:y<x
   ·rw[if_pos h,ZwC h,Zao]
   ·rw[if_neg h,Zek (leO_some.mpr (by omega)),Zao]
noncomputable def amG(n:Nat)(G:Nat→Nat→Option Int)(c:Nat→Int)(top:Int): Nat→Nat→Option Int:=alW n G c top (apW n G c top) n
noncomputable def gT(N:Nat)(Γ:Nat→Nat→Option Int): T:=.lst (tab N fun a=>.lst (tab N fun b=>oT (Γ a b)))
theorem Zss(hn:n≤60)(hb:b≤900)(hb1:1≤b)(hG:GB b n G)(bc:∀i,i<n+1→Bd b (c i))(hc:∀y,grt n G (fun k=>-(c k))=some y→-y≤top)(h:ZdP [ZQ n (amG n G c top) R]=some D): ZcE [ZQ n G R,ZX n c,.int top]=some D:=by
 apply Pk.eq
 unfold ZcE Zf5
 have ht:ZQ n G R=.tup [gT (n+1) G,.lst (tab n fun i=>Z4 (R i))]:=rfl
 have hs:ZX n c=.lst (tab (n+1) fun k=>.int (c k)):=rfl
 have hG2:GB (b+2) n G:=fun a b ha hb y e=>(hG a b ha hb y e).mono (by omega)
 have cp:∀{σ:TL} {N:TL→Prop},σ 0=some (ZQ n G R)→(∀t,t=gT (n+1) G→N (Zaa σ 5 t))→Psk (ZI 5 (Zap (ZaD (Ze Zq (Za 0) (Zj 0))) (Zac 102) Zae (pFl (Zr Zcf (Zd (Za 102) Zm)))) σ) (fun t=>t=D) N:=fun e k=>by
  rw[ht]at e
  unfold gT at e
  walk_at "zz"
  refine Zcj (n:=n+1) (a:=fun a=>.lst (tab (n+1) fun b=>oT (G a b))) (b:=fun a=>.lst (tab (n+1) fun b=>oT (G a b))) (by omega) ?_ (fun a ha=>?_) ?_
  ·walk_at "zz"
   rfl
  ·walk_at "zz"
   rfl
  ·exact k _ rfl
 have hne:∀{Q:T→Prop},Q (.bool false)→Pk (qIs (ZQ n G R) .none) Q:=fun h=>⟨_,by rw[ht];rfl,h⟩
 rw[hs]
 walk_at "zz"
 refine hne ?_
 walk_at "zz"
 refine Zcj (n:=n+1) (a:=fun k=>.int (c k)) (b:=fun k=>.int (-(c k))) (by omega) ?_ (fun k hk=>?_) ?_
 ·walk_at "zz"
  rfl
 ·walk_at "zz"
  rfl
 rw[show(T.lst (tab (n+1) fun k=>T.int (-(c k))))=ZX n (fun k=>-(c k))from rfl]
 walk_at "zz"
 refine ZH (ZfY (b:=b) hn (by omega) hG (ZgR bc)) ?_
 refine Zci (fun σ'=>σ' 0=some (ZQ n G R)∧σ' 1=some (.lst (tab (n+1) fun k=>.int (c k)))∧σ' 2=some (.int top)∧σ' 3=some (ZX n (fun k=>-(c k)))) ?_ ?_
 ·cases e:grt n G (fun k=>-(c k))with
  | none=>
   rw[Zbf]
   walk_at "zz"
   exact⟨by walk_at "zr",by walk_at "zr",by walk_at "zr",by walk_at "zr"⟩
  | some y=>
   have hy:=hc y e
   have hy':¬-y>top:=by omega
   rw[Zao]
   walk_at "zz"
   exact⟨by walk_at "zr",by walk_at "zr",by walk_at "zr",by walk_at "zr"⟩
 rintro σ1 ⟨e0,e1,e2,e3⟩
 have hli:∀{a b:Option Int},Pk (Zey [oT a,oT b]) fun t=>t=oT (Za1 a b):=ZH ZhB rfl
 refine ZeN ?_
 refine cp e0 fun t et=>?_
 subst et
 refine Zci (fun σ'=>σ' 0=some (ZQ n G R)∧σ' 1=some (.lst (tab (n+1) fun k=>.int (c k)))∧σ' 2=some (.int top)∧σ' 3=some (ZX n (fun k=>-(c k)))∧σ' 5=some (gT (n+1) (apW n G c top))) ?_ ?_
 ·refine ZbU (n:=n+1) (a:=fun i=>.int i) (P:=fun i σ'=>σ' 0=some (ZQ n G R)∧σ' 1=some (.lst (tab (n+1) fun k=>.int (c k)))∧σ' 2=some (.int top)∧σ' 3=some (ZX n (fun k=>-(c k)))∧σ' 5=some (gT (n+1) (Wv (apW n G c top) G i 0))) ?_ ⟨by walk_at "zr",by walk_at "zr",by walk_at "zr",by walk_at "zr",by rw[ZrV];exact ZbA⟩ ?_ ?_
  ·unfold gT
   walk_at "zz"
   rfl
  ·rintro i σ hi ⟨f0,f1,f2,f3,f5⟩
   refine ZbU (n:=n+1) (a:=fun j=>.int j) (P:=fun j σ'=>σ' 0=some (ZQ n G R)∧σ' 1=some (.lst (tab (n+1) fun k=>.int (c k)))∧σ' 2=some (.int top)∧σ' 3=some (ZX n (fun k=>-(c k)))∧σ' 5=some (gT (n+1) (Wv (apW n G c top) G i j))∧σ' 6=some (.int i)) ?_ ⟨by walk_at "zr",by walk_at "zr",by walk_at "zr",by walk_at "zr",by walk_at "zr",by walk_at "zr"⟩ ?_ ?_
   ·unfold gT at f5
    walk_at "zz"
    rfl
   ·rintro j σ hj ⟨g0,g1,g2,g3,g5,g6⟩
    have ea:(fun a=>-(c a)+unC i a*1+unC j a * -1)=apC c i j:=by funext a;unfold apC;omega
    have same:apW n G c top i j=G i j→Wv (apW n G c top) G i (j+1)=Wv (apW n G c top) G i j:=fun e=>by rw[←Zoq,Znf (by rw[ZoC,e])]
    walk_at "zz"
    refine ZH (ZhZ hn hi) ?_
    walk_at "zz"
    refine ZH (ZhZ hn hj) ?_
    rw[ea]
    walk_at "zz"
    refine ZH (ZfY (b:=b+2) hn (by omega) hG2 (ZoA hb1 bc i j)) ?_
    by_cases q:(i:Int)=j
    ·have q2:i=j:=by omega
     walk_at "zz"
     rw[same (by unfold apW;rw[if_pos q2])]
     exact⟨by walk_at "zr",by walk_at "zr",by walk_at "zr",by walk_at "zr",by walk_at "zr",by walk_at "zr"⟩
    ·have q2:¬i=j:=by omega
     cases e:grt n G (apC c i j)with
     | none=>
      rw[Zbf]
      walk_at "zz"
      rw[same (by unfold apW;rw[if_neg q2,e];exact Zek Zdk)]
      exact⟨by walk_at "zr",by walk_at "zr",by walk_at "zr",by walk_at "zr",by walk_at "zr",by walk_at "zr"⟩
     | some y=>
      rw[Zao]
      unfold gT at g5
      walk_at "zz"
      refine ZH (ZhB (b:=some (y+top))) ?_
      refine⟨ZeJ,?_⟩
      walk_at "zz"
      rw[Znd (w:=oT (Za1 (Wv (apW n G c top) G i j i j) (some (y+top)))) (v:=apW n G c top i j) (by rw[ZoC];unfold apW;rw[if_neg q2,e];rfl),Zoq]
      exact⟨by walk_at "zr",by walk_at "zr",by walk_at "zr",by walk_at "zr",ZbA,by walk_at "zr"⟩
   ·rintro σ ⟨g0,g1,g2,g3,g5,g6⟩
    exact⟨g0,g1,g2,g3,by rw[show gT (n+1) (Wv (apW n G c top) G (i+1) 0)=gT (n+1) (Wv (apW n G c top) G i (n+1))from Wv_row.symm];exact g5⟩
  ·rintro σ ⟨g0,g1,g2,g3,g5⟩
   exact⟨g0,g1,g2,g3,by rw[show gT (n+1) (apW n G c top)=gT (n+1) (Wv (apW n G c top) G (n+1) 0)from Wv_all.symm];exact g5⟩
 clear e0 e1 e2 e3
 rintro σ2 ⟨e0,e1,e2,e3,e5⟩
 refine Zci (fun σ'=>σ' 0=some (ZQ n G R)∧σ' 5=some (gT (n+1) (amG n G c top))) ?_ ?_
 ·refine ZbU (n:=n) (a:=fun i=>.int ((1+i:Nat):Int)) (P:=fun i σ'=>σ' 0=some (ZQ n G R)∧σ' 1=some (.lst (tab (n+1) fun k=>.int (c k)))∧σ' 2=some (.int top)∧σ' 3=some (ZX n (fun k=>-(c k)))∧σ' 5=some (gT (n+1) (alW n G c top (apW n G c top) i))) ?_ ⟨by walk_at "zr",by walk_at "zr",by walk_at "zr",by walk_at "zr",by rw[ZrT];exact e5⟩ ?_ ?_
  ·refine Zfz (a:=1) (m:=n) (by omega) (by omega) ?_ rfl
   simp only[Zd,Zj,Zm,Za,Zr,e5,gT,Zar,Zas,Option.bind_some]
   congr 3
   congr 1
   omega
  ·rintro i σ hi ⟨g0,g1,g2,g3,g5⟩
   have h1:1+i<n+1:=by omega
   have ci:=bc (1+i) h1
   have ea:(fun a=>-(c a)+unC (1+i) a*c (1+i))=alC c (1+i):=by funext a;unfold alC;omega
   walk_at "zz"
   refine ZH (ZhZ hn h1) ?_
   rw[ea]
   walk_at "zz"
   refine ZH (ZfY (b:=b+2) hn (by omega) hG2 (ZoB bc (1+i) h1)) ?_
   rw[Nat.add_comm 1 i]at *
   have no:grt n G (alC c (i+1))=none→c (i+1)≠0→alW n G c top (apW n G c top) (i+1)=alW n G c top (apW n G c top) i:=fun e q=>by
    have ep:prt n G c top (i+1)=none:=by unfold prt;rw[e];rfl
    rcases Int.lt_trichotomy (c (i+1)) 0 with w | w | w
    ·rw[←Zn1 w,ep,Znf (Zek Zdk)]
    ·exact absurd w q
    ·rw[←Zn0 w,ep,Znf (Zek Zdk)]
   rcases Int.lt_trichotomy (c (i+1)) 0 with q | q | q
   ·have q':¬0<c (i+1):=by omega
    cases e:grt n G (alC c (i+1))with
    | none=>
     rw[Zbf]
     walk_at "zz"
     rw[no e (by omega)]
     exact⟨by walk_at "zr",by walk_at "zr",by walk_at "zr",by walk_at "zr",by walk_at "zr"⟩
    | some y=>
     rw[Zao]
     unfold gT at g5
     walk_at "zz"
     refine Zc6 (by omega) (ZdG (i:=b) (show Bd b _ by unfold Bd at *;omega) (by omega)) ?_
     walk_at "zz"
     have ep:prt n G c top (i+1)=some ((y+top).fdiv (if c (i+1)<0 then -(c (i+1))else c (i+1))):=by unfold prt;rw[e];rfl
     refine ZH (ZhB (b:=some _)) ?_
     refine⟨ZeJ,?_⟩
     walk_at "zz"
     rw[←ep,show Int.toNat 0=0 from rfl]
     refine Zq7 (n:=n+1) (m:=n+1) (i:=0) (j:=i+1) (f:=fun a b=>oT (alW n G c top (apW n G c top) i a b)) (by walk_at "zr") rfl (by omega) (by omega) (by omega) ?_
     rw[Znd (v:=Za1 (alW n G c top (apW n G c top) i 0 (i+1)) (prt n G c top (i+1))) rfl,Zn1 q]
     exact⟨by walk_at "zr",by walk_at "zr",by walk_at "zr",by walk_at "zr",ZbA⟩
   ·have q':¬0<c (i+1):=by omega
    have q'':¬c (i+1)<0:=by omega
    walk_at "zz"
    rw[←ZqA q]
    exact⟨by walk_at "zr",by walk_at "zr",by walk_at "zr",by walk_at "zr",by walk_at "zr"⟩
   ·have q':¬c (i+1)<0:=by omega
    cases e:grt n G (alC c (i+1))with
    | none=>
     rw[Zbf]
     walk_at "zz"
     rw[no e (by omega)]
     exact⟨by walk_at "zr",by walk_at "zr",by walk_at "zr",by walk_at "zr",by walk_at "zr"⟩
    | some y=>
     rw[Zao]
     unfold gT at g5
     walk_at "zz"
     refine Zc6 (by omega) (ZdG (i:=b) ci (by omega)) ?_
     walk_at "zz"
     have ep:prt n G c top (i+1)=some ((y+top).fdiv (c (i+1))):=by unfold prt;rw[e,if_neg q'];rfl
     refine ZH (ZhB (b:=some _)) ?_
     refine⟨ZeJ,?_⟩
     walk_at "zz"
     rw[←ep,show Int.toNat 0=0 from rfl]
     refine Zq7 (n:=n+1) (m:=n+1) (i:=i+1) (j:=0) (f:=fun a b=>oT (alW n G c top (apW n G c top) i a b)) (by walk_at "zr") (by omega) rfl (by omega) (by omega) ?_
     rw[Znd (v:=Za1 (alW n G c top (apW n G c top) i (i+1) 0) (prt n G c top (i+1))) rfl,Zn0 q]
     rw[show(T.lst (tab (n+1) fun a=>T.lst (tab (n+1) fun b=>oT (alW n G c top (apW n G c top) (i+1) a b))))=gT (n+1) (alW n G c top (apW n G c top) (i+1))from rfl]
     walk_at "zz"
     exact⟨by walk_at "zr",by walk_at "zr",by walk_at "zr",by walk_at "zr",by walk_at "zr"⟩
  ·rintro σ ⟨g0,g1,g2,g3,g5⟩
   exact⟨g0,g5⟩
 rintro σ3 ⟨f0,f5⟩
 rw[ht]at f0
 walk_at "zz"
 exact ZH h rfl
theorem Zn2{b:Option Int}(ha:∀y,a=some y→Bd k y)(hb:∀y,b=some y→Bd k y): ∀y,Za1 a b=some y→Bd k y:=fun y e=>by
 rcases ZeK a b with q | q
 ·exact ha y (q▸e)
 ·exact hb y (q▸e)
theorem Zvs{x k:Int}(hk:0<k): (x.fdiv k).natAbs≤x.natAbs:=by
 rw[Int.fdiv_eq_ediv_of_nonneg x (by omega)]
 have e1:x / k*k≤x:=Int.ediv_mul_le x (by omega)
 have e2:x<(x / k+1)*k:=Int.lt_ediv_add_one_mul_self x hk
 generalize x / k=q at *
 rcases Int.lt_trichotomy q 0 with h | h | h
 ·-- q≤-1,x<(q+1) k≤q+1
  have:(q+1)*k≤q+1:=by
   have:=Int.mul_le_mul_of_nonpos_left (a:=q+1) (b:=k) (c:=1) (by omega) (by omega)
   simpa using this
  omega
 ·omega
 ·have:q*1≤q*k:=Int.mul_le_mul_of_nonneg_left (by omega) (by omega)
  omega
theorem ZwD{x k:Int}(h:Bd i x)(hk:0<k): Bd i (x.fdiv k):=Nat.lt_of_le_of_lt (Zvs hk) h
theorem Zx6{B:Nat}(hb1:1≤b)(hG:GB b n G)(bc:∀i,i<n+1→Bd b (c i))(bt:Bd b top)(hB:b+b+n+6≤B): SmG B n (amG n G c top):=by
 have hG2:GB (b+2) n G:=fun a b ha hb y e=>(hG a b ha hb y e).mono (by omega)
 have s1:∀{d:Nat→Int},(∀k,k<n+1→Bd (b+2) (d k))→∀y,Zaj (grt n G d) (some top)=some y→Bd B y:=fun bd y e=>by
  obtain⟨p,q,h1,h2,rfl⟩:=addO_some.mp e
  cases h2
  exact((Zrf hG2 bd p h1).add (bt.mono (by omega))).mono (by omega)
 have sG:∀i j,i<n+1→j<n+1→∀y,G i j=some y→Bd B y:=fun i j hi hj y e=>(hG i j hi hj y e).mono (by omega)
 have sA:∀i j,i<n+1→j<n+1→∀y,apW n G c top i j=some y→Bd B y:=fun i j hi hj y e=>by
  unfold apW at e
  split at e
  ·exact sG i j hi hj y e
  ·exact Zn2 (sG i j hi hj) (s1 (ZoA hb1 bc i j)) y e
 have sP:∀i,i<n+1→c i≠0→∀y,prt n G c top i=some y→Bd B y:=fun i hi h0 y e=>by
  unfold prt at e
  obtain⟨z,h1,rfl⟩:=Zz1.mp e
  exact ZwD (s1 (ZoB bc i hi) z h1) (by split <;> omega)
 intro i j hi hj y e
 show Bd B y
 unfold amG alW at e
 split at e
 ·rename_i q
  exact Zn2 (sA i 0 hi (by omega)) (sP i hi (by omega)) y e
 ·split at e
  ·rename_i q
   exact Zn2 (sA 0 j (by omega) hj) (sP j hj (by omega)) y e
  ·exact sA i j hi hj y e
theorem Zyg(hd:∀i,i<n+1→G i i=some 0): ∀i,i<n+1→amG n G c top i i=some 0:=fun i hi=>by
 unfold amG alW
 rw[if_neg (by omega),if_neg (by omega)]
 unfold apW
 rw[if_pos rfl,hd i hi]
theorem ZoD(i j:Nat): leO (apW n G c top i j) (G i j):=by
 unfold apW
 split
 ·exact ZcH
 ·exact ZfL
theorem Zx7(i j:Nat): leO (amG n G c top i j) (G i j):=by
 unfold amG alW
 split
 ·rename_i q
  rw[q.1]
  exact Zct ZfL (ZoD i 0)
 ·split
  ·rename_i q
   rw[q.1]
   exact Zct ZfL (ZoD 0 j)
  ·exact ZoD i j
theorem ZiX: ∀i,i<n+1→Zaq (unC i) x n=ZaQ x i
 | 0,_=>by rw[ZrS,Zqz];rfl
 | i+1,hi=>by rw[ZrH (by omega),if_pos (by omega)];rfl
theorem Zng{u x:Nat→Int}{k:Int}: ∀n,Zaq (fun a=>u a*k) x n=Zaq u x n*k
 | 0=>rfl
 | n+1=>by
  show Zaq (fun a=>u a*k) x n+u (n+1)*k*x n=(Zaq u x n+u (n+1)*x n)*k
  rw[Zng n,Int.add_mul,Int.mul_assoc,Int.mul_comm k,←Int.mul_assoc]
theorem Znh{b:Option Int}{x:Int}(h:Za1 a b=some y)(ha:∀z,a=some z→x≤z)(hb:∀z,b=some z→x≤z): x≤y:=by
 rcases ZeK a b with q | q
 ·exact ha y (q▸h)
 ·exact hb y (q▸h)
theorem Zrg(h:ZaY n G R x)(ht:Zaq c x n≤top): ZaY n (amG n G c top) R x:=by
 have f1:∀i j,i<n+1→j<n+1→∀y,apW n G c top i j=some y→ZaQ x i-ZaQ x j≤y:=fun i j hi hj y e=>by
  unfold apW at e
  split at e
  ·exact h.1 i j hi hj y e
  ·refine Znh e (h.1 i j hi hj) fun z ez=>?_
   obtain⟨p,q,h1,h2,rfl⟩:=addO_some.mp ez
   cases h2
   have:=Zjf h h1
   rw[show apC c i j=fun k=>(fun a=>unC i a-unC j a) k-c k from rfl,ZgS,ZgS,ZiX i hi,ZiX j hj]at this
   omega
 have f2:∀i,i<n+1→∀z,Zaj (grt n G (alC c i)) (some top)=some z→ZaQ x i*c i≤z:=fun i hi z ez=>by
  obtain⟨p,q,h1,h2,rfl⟩:=addO_some.mp ez
  cases h2
  have:=Zjf h h1
  rw[show alC c i=fun k=>(fun a=>unC i a*c i) k-c k from rfl,ZgS,Zng,ZiX i hi]at this
  omega
 refine⟨fun i j hi hj y e=>?_,h.2⟩
 unfold amG alW at e
 split at e
 ·rename_i q
  obtain⟨rfl,q1,q2,q3⟩:=q
  refine Znh e (f1 i 0 hi hj) fun z ez=>?_
  unfold prt at ez
  obtain⟨p,h1,rfl⟩:=Zz1.mp ez
  have:=f2 i hi p h1
  rw[if_neg (by omega),show ZaQ x 0=0 from rfl,Int.sub_zero]
  exact by rw[Int.fdiv_eq_ediv_of_nonneg _ (by omega)];exact(Int.le_ediv_iff_mul_le q3).mpr this
 ·split at e
  ·rename_i q
   obtain⟨rfl,q1,q2,q3⟩:=q
   refine Znh e (f1 0 j hi hj) fun z ez=>?_
   unfold prt at ez
   obtain⟨p,h1,rfl⟩:=Zz1.mp ez
   have:=f2 j hj p h1
   rw[if_pos q3,show ZaQ x 0=0 from rfl,Int.zero_sub]
   rw[Int.fdiv_eq_ediv_of_nonneg _ (by omega)];refine(Int.le_ediv_iff_mul_le (by omega)).mpr ?_
   rw[Int.neg_mul_neg]
   exact this
  ·exact f1 i j hi hj y e
theorem ZwE(hn:n≤100): Dp 8 (Z7 (n+1) G):=by
 refine .lst (fun t m=>?_) (by rw[Zas];omega)
 obtain⟨i,hi,rfl⟩:=ZcO m
 refine .lst (fun t m=>?_) (by rw[Zas];omega)
 obtain⟨j,hj,rfl⟩:=ZcO m
 exact ZrQ
theorem Zs7{c t:T}: ZcG [.none,c,t]=some .none:=by
 apply Pk.eq
 unfold ZcG Zgx
 walk_at "zz"
 rfl
theorem Zr0{c t:T}: ZcE [.none,c,t]=some .none:=by
 apply Pk.eq
 unfold ZcE Zf5
 walk_at "zz"
 rfl
theorem ZqB(hn:n≤60)(hb:b≤900)(hb1:1≤b)(hG:GB b n G)(bc:∀i,i<n+1→Bd b (c i)): ZgP [ZQ n G R,ZX n c]=some (oT ((grt n G fun i=>-(c i)).map fun y=>y * -1)):=Zvq hn (by omega) hb1 hG bc fun y e=>(Zrf hG (ZgR bc) y e).mono (by omega)
theorem ZtZ(hn:n≤60)(hb:b≤900)(hb1:1≤b)(hG:GB b n G)(bc:∀i,i<n+1→Bd b (c i))(hd:∀i,i<n+1→G i i=some 0)(hc:∀y,grt n G (fun k=>-(c k))=some y→-y≤top)(h:ZdX [ZQ n (amG n G c top) R]=some D): ZcG [ZQ n G R,ZX n c,.int top]=some D:=by
 apply Pk.eq
 unfold ZcG Zgx
 have ht:ZQ n G R=.tup [Z7 (n+1) G,.lst (tab n fun i=>Z4 (R i))]:=rfl
 have hne:∀{Q:T→Prop},Q (.bool false)→Pk (qIs (ZQ n G R) .none) Q:=fun h=>⟨_,by rw[ht];rfl,h⟩
 have hx:Zfq [oT ((grt n G fun i=>-(c i)).map fun y=>y * -1),.int top]=some (.bool false):=by
  rw[show T.int top=oT (some top)from rfl,ZpH,Zbw]
  rintro⟨x,y,h1,h2,h3⟩
  cases h2
  obtain⟨z,e1,rfl⟩:=Zz1.mp h1
  have:=hc z e1
  omega
 have hg:∀{Q:T→Prop},Q (Z7 (n+1) G)→Pk (Zq (ZQ n G R) (.int 0)) Q:=fun h=>⟨_,by rw[ht];rfl,h⟩
 walk_at "zz"
 refine hne ?_
 walk_at "zz"
 refine ZH (ZqB hn hb hb1 hG bc) ?_
 walk_at "zz"
 refine ZH hx ?_
 walk_at "zz"
 refine hg ?_
 walk_at "zz"
 refine ZH (ZnD (ZwE (by omega))) ?_
 walk_at "zz"
 refine ZgZ (t:=Z7 (n+1) G) (by walk_at "zr") ?_
 walk_at "zz"
 refine ZH (Zsq hn hb hb1 hG bc hd hc) ?_
 walk_at "zz"
 refine ZgZ (t:=Z7 (n+1) (apW n G c top)) (by walk_at "zr") ?_
 walk_at "zz"
 refine ZH (Zsr hn hb hb1 hG bc) ?_
 rw[ht]
 walk_at "zz"
 exact ZH h rfl
theorem Ztq(hn:n≤60)(hb:b≤900)(hb1:1≤b)(hG:GB b n G)(bc:∀i,i<n+1→Bd b (c i))(e:grt n G (fun k=>-(c k))=some y)(hy:top < -y): ZcG [ZQ n G R,ZX n c,.int top]=some .none∧ZcE [ZQ n G R,ZX n c,.int top]=some .none:=by
 have ht:ZQ n G R=.tup [Z7 (n+1) G,.lst (tab n fun i=>Z4 (R i))]:=rfl
 have hne:∀{Q:T→Prop},Q (.bool false)→Pk (qIs (ZQ n G R) .none) Q:=fun h=>⟨_,by rw[ht];rfl,h⟩
 have hx:Zfq [oT ((grt n G fun i=>-(c i)).map fun y=>y * -1),.int top]=some (.bool true):=by
  rw[show T.int top=oT (some top)from rfl,ZpH,Za0]
  exact⟨y * -1,top,by rw[e];rfl,rfl,by omega⟩
 constructor
 ·apply Pk.eq
  unfold ZcG Zgx
  walk_at "zz"
  refine hne ?_
  walk_at "zz"
  refine ZH (ZqB hn hb hb1 hG bc) ?_
  walk_at "zz"
  refine ZH hx ?_
  walk_at "zz"
  rfl
 ·apply Pk.eq
  unfold ZcE Zf5
  have hs:ZX n c=.lst (tab (n+1) fun k=>.int (c k)):=rfl
  rw[hs]
  walk_at "zz"
  refine hne ?_
  walk_at "zz"
  refine Zcj (n:=n+1) (a:=fun k=>.int (c k)) (b:=fun k=>.int (-(c k))) (by omega) ?_ (fun k hk=>?_) ?_
  ·walk_at "zz"
   rfl
  ·walk_at "zz"
   rfl
  rw[show(T.lst (tab (n+1) fun k=>T.int (-(c k))))=ZX n (fun k=>-(c k))from rfl]
  walk_at "zz"
  refine ZH (ZfY (b:=b) hn (by omega) hG (ZgR bc)) ?_
  have hy':-y>top:=hy
  rw[e,Zao]
  walk_at "zz"
  rfl
theorem ZrI{n b:Nat}{c x:Nat→Int}(bc:∀i,i<n+1→Bd b (c i))(bx:∀i,i<n→Bd b (x i)): ∀j,j≤n→Bd (b+b+j) (Zaq c x j)
 | 0,_=>(bc 0 (by omega)).mono (by omega)
 | j+1,hj=>by
  have h1:=ZrI bc bx j (by omega)
  have h2:=((bc (j+1) (by omega)).mul (bx j (by omega))).mono (show b+b≤b+b+j by omega)
  exact h1.add h2
theorem su: PyData.strOk (Str.ofString "under")=true:=by decide +kernel
theorem Zp4: (fun k=>c k * -1)=fun k=>-(c k):=by funext k;omega
theorem ZuE{a b:T}: Zd3 [.none,a,b]=some .none:=by
 apply Pk.eq
 unfold Zd3 Zjc
 walk_at "zz"
 rfl
noncomputable def Tm(n K:Nat)(M:Int)(P:(Nat→Int)→Prop)(I:(Nat→Nat→Option Int)→(Nat→Int×Int)→Prop)(D:T): Prop:=(D=.none∧∀x,¬P x)∨∃G R,D=ZQ n G R∧(∀i,i<n+1→G i i=some 0)∧(∀t,t<n→RB M K (R t))∧GB K n G∧(∀x,P x→ZaY n G R x)∧I G R
theorem Zrh(hn:n≤20)(hk:k+2*n+4≤7000)(hM:0<M)(bM:Bd k M)(hd:∀i,i<n+1→G i i=some 0)(bG:GB k n G)(hR:∀t,t<n→RB M k (R t)): ∃D,ZdX [ZQ n G R]=some D∧ZdP [ZQ n G R]=some D∧Tm n (k+3*n+7) M (ZaY n G R) (fun G2 R2=>Zcw n G2 R2 G R) D:=by
 have bG2:BdG (n+1) k G:=fun a b c ha hb e=>bG a b ha hb c e
 obtain⟨D,et,hD⟩:=Zvm (k:=k) (by omega) (by omega) hM bM hd bG2 hR
 obtain⟨u,eu,hu⟩:=Zs3 (k:=k) (by omega) (by omega) hM bM hd bG2 hR
 have:=ZtV hD hu
 subst this
 refine⟨D,et,eu,?_⟩
 rcases hD with⟨G2,R2,rfl,s⟩ | ⟨rfl,f⟩
 ·obtain⟨z1,z2⟩:=ZtY hM (bM.mono (by omega)) bG2 (by omega) s
  obtain⟨_,_,_,_,_,_,h6⟩:=s.go
  exact .inr ⟨G2,R2,rfl,(ZtX hd s).1,fun t ht=>(h6 t ht).1.mono (by omega),fun i j hi hj b e=>(z1 i j b hi hj e).mono (by omega),fun x li=>ZtP li s,Zs6 (fun t ht=>(hR t ht).1) s⟩
 ·exact .inl ⟨rfl,fun x li=>absurd f (Ztn li)⟩
theorem Zni(hn:n≤20)(hb1:1≤b)(hb:b≤900)(hB:b+b+n+6≤k)(hk:k+2*n+4≤7000)(hM:0<M)(bM:Bd k M)(hd:∀i,i<n+1→G i i=some 0)(bG:GB b n G)(hR:∀t,t<n→RB M k (R t))(bc:∀i,i<n+1→Bd b (c i))(bt:Bd b top): ∃D,ZcG [ZQ n G R,ZX n c,.int top]=some D∧ZcE [ZQ n G R,ZX n c,.int top]=some D∧Tm n (k+3*n+7) M (fun x=>ZaY n G R x∧Zaq c x n≤top) (fun G2 R2=>Zcw n G2 R2 (amG n G c top) R∧∀y,grt n G (fun k=>-(c k))=some y→-y≤top) D:=by
 by_cases hc:∀y,grt n G (fun k=>-(c k))=some y→-y≤top
 ·obtain⟨D,e1,e2,hD⟩:=Zrh (k:=k) hn hk hM bM (Zyg (c:=c) (top:=top) hd) (Zx6 hb1 bG bc bt hB) hR
  refine⟨D,ZtZ (by omega) hb hb1 bG bc hd hc e1,Zss (by omega) hb hb1 bG bc hc e2,?_⟩
  rcases hD with⟨rfl,no⟩ | ⟨G2,R2,rfl,h1,h2,h3,h4,h5⟩
  ·exact .inl ⟨rfl,fun x h=>no x (Zrg h.1 h.2)⟩
  ·exact .inr ⟨G2,R2,rfl,h1,h2,h3,fun x h=>h4 x (Zrg h.1 h.2),h5,hc⟩
 ·have:∃y,grt n G (fun k=>-(c k))=some y∧top < -y:=by
   refine Classical.byContradiction fun q=>hc fun y e=>?_
   refine Classical.byContradiction fun z=>q ⟨y,e,by omega⟩
  obtain⟨y,e,hy⟩:=this
  obtain⟨a1,a2⟩:=Ztq (R:=R) (b:=b) (by omega) hb hb1 bG bc e hy
  refine⟨.none,a1,a2,.inl ⟨rfl,fun x h=>?_⟩⟩
  have:=Zjf h.1 e
  rw[ZeM]at this
  omega
theorem Zk8(hn:n≤100)(hi:1≤i)(hi2:i≤9000)(bc:∀j,j<n+1→Bd i (c j))(bR:∀j,j<n→RBd i (R j))(ok:∀j,j<n→RestOk (R j)): ZeD [ZX n c,.lst (tab n fun j=>Z4 (R j))]=some (Z4 (Za3 c R n)):=by
 apply Pk.eq
 unfold ZeD Zma ZX
 walk_at "zz"
 refine ZiL (n:=n) (a:=fun j=>.int (c (j+1))) (c:=fun j=>Z4 (R j)) (P:=fun j σ=>σ 2=some (Z4 (Za3 c R j))) ?_ rfl ?_ ?_
 ·refine Zof ?_
  refine Zm4 ?_
  walk_at "zz"
  refine⟨_,rfl,?_⟩
  rw[ZnB]
  walk_at "zz"
  rfl
 ·rintro j σ hj e2
  have hr:=(ok j hj).nn
  have bt:Bd (i+i) (ZcJ (R j) (c (j+1))).1:=by
   unfold ZcJ
   rw[ZdU]
   exact(bR j hj).1.mul (Zq0 (bc (j+1) (by omega)))
  have bv:Bd (i+i) (Za3 c R j).1:=by
   rw[Zdo ok j (by omega),ZdU]
   exact ZiT bc bR j (by omega)
  walk_at "zz"
  refine ZH (ZkE (k:=i) (by omega) hr (bR j hj) (bc (j+1) (by omega))) ?_
  walk_at "zz"
  refine ZH (Zk6 (k:=i+i) (by omega) bv bt) ?_
  walk_at "zz"
  exact ZbA
 ·rintro σ e2
  walk_at "zz"
  rfl
theorem ZjD(hn:n≤100)(hb:b≤9000)(bc:∀j,j<n+1→Bd b (c j))(bR:∀j,j<n→RBd b (R j))(ok:∀j,j<n→RestOk (R j)): Zf0 [ZX n c,.lst (tab n fun j=>Z4 (R j))]=some (Z4 (Za3 c R n)):=by
 apply Pk.eq
 unfold Zf0 Zkd ZX
 rw[Zdo ok n (Zz10 n)]
 walk_at "zz"
 refine ZbU (n:=n) (a:=fun i=>.int i) (P:=fun j σ=>σ 0=some (.lst (tab (n+1) fun i=>.int (c i)))∧σ 1=some (.lst (tab n fun j=>Z4 (R j)))∧σ 2=some (.int (ZbQ c R j))∧σ 3=some (.int (Zcc c R j))) ?_ ⟨by walk_at "zr",by walk_at "zr",by walk_at "zr",by walk_at "zr"⟩ ?_ ?_
 ·walk_at "zz"
  rfl
 ·rintro j σ hj ⟨e0,e1,e2,e3⟩
  have bj:=bR j hj
  have cj:=bc (j+1) (by omega)
  have h1:j+1<n+1:=by omega
  have e1':Zaa (Zaa (Zaa σ 4 (.int (j:Nat))) 2 (.int (ZbQ c R (j+1)))) 3 (.int (Zcc c R (j+1))) 1=some (.lst (tab n fun j=>Z4 (R j))):=e1
  unfold Z4 at e1
  have e':((j:Int)+1).toNat=j+1:=by omega
  walk_at "zz"
  rw[e']
  refine ZbT (Zb3 cj bj.1 (by omega) (by omega)) ?_
  walk_at "zz"
  refine ZH (Zmu ((ZiT bc bR j (by omega)).mono (by omega)) ((cj.mul bj.1).mono (by omega))) ?_
  walk_at "zz"
  rw[e']
  refine ZbT (Zb3 cj bj.2 (by omega) (by omega)) ?_
  walk_at "zz"
  exact⟨by walk_at "zr",e1',by walk_at "zr",by walk_at "zr"⟩
 ·rintro σ ⟨e0,e1,e2,e3⟩
  walk_at "zz"
  exact ZH ZeE rfl
noncomputable def ZaT(c:Nat→Int)(i:Nat): Nat→Int:=fun k=>c k-unC i k*c i
theorem ZxE(bc:∀i,i<n+1→Bd b (c i))(i:Nat)(hi:i<n+1): ∀k,k<n+1→Bd (b+1) (ZaT c i k):=fun k hk=>by
 have h1:=bc k hk
 have h2:=bc i hi
 have h3:Bd b (unC i k*c i):=by
  rcases ZeQ (i:=i) (k:=k)with e | e <;> rw[e]
  ·rw[Int.zero_mul];exact ZcK
  ·rw[Int.one_mul];exact h2
 exact h1.sub h3
noncomputable def ZjA(p:Int×Int)(d:Int): Int×Int:=ZaH (Int.gcd p.1 d) p.2
theorem Zr1(hk:k≤200000)(hp:Bd k p.1)(hd:Bd k d): ZfX [Z4 p,.int d]=some (Z4 (ZjA p d)):=by
 apply Pk.eq
 unfold ZfX ZjR Z4 ZjA
 walk_at "zz"
 refine ZH (Zmv (ZbS hp hk) (ZbS hd hk)) ?_
 walk_at "zz"
 exact ZH (ZhI (by omega)) rfl
noncomputable def Zdz(n:Nat)(R:Nat→Int×Int)(c:Nat→Int)(d:Int)(i:Nat): Int×Int:=ZaH (Int.gcd (Za3 (ZaT c i) R n).1 d) (-(c i)*(Za3 (ZaT c i) R n).2)
theorem ZxF(ok:∀t,t<n→RestOk (R t))(h1:c i=1∨c i = -1): ZjA (ZcJ (Za3 (ZaT c i) R n) (-(c i))) d=Zdz n R c d i:=by
 have hr:RestOk (Za3 (ZaT c i) R n):=by rw[Zdo ok n (Zz10 n)];exact Zcs (ZdZ _ _ _) _
 generalize hp:Za3 (ZaT c i) R n=p at *
 unfold ZjA Zdz ZcJ
 rw[hp,ZdU]
 have ha:Zbd (-(c i))=1:=by rcases h1 with e | e <;> rw[e] <;> rfl
 rw[ha,Int.mul_one]
 refine Zo9 (by omega) ?_
 have h2:((Int.gcd p.1 d:Nat):Int) ∣ p.1:=Int.gcd_dvd_left ..
 have:=Int.dvd_trans h2 (Zif (m:=p.1) (r:=p.2 * -(c i)) hr.nn)
 rwa [Int.mul_comm (-(c i))]
theorem Zor: RestOk (Zdz n R c d i):=Zcs (by omega) _
noncomputable def ZcL(n:Nat)(R:Nat→Int×Int)(c:Nat→Int)(d:Int)(t:Nat)(o:Option (Int×Int)): Prop:=if c (t+1)=1∨c (t+1) = -1 then Met (R t) (Zdz n R c d (t+1)) o else o=some (R t)
theorem Zn3(ok:∀t,t<n→RestOk (R t))(bm:∀t,t<n→Bd m (R t).1)(bR:∀t,t<n→RBd k (R t))(bc:∀i,i<n+1→Bd k (c i)): RBd (k+k+n) (Za3 c R n):=by
 rw[Zdo ok n (Zz10 n)]
 exact ZgA (ZdZ _ _ _) ((ZiT bc bR n (Zz10 n)).mono (by omega)) (Zq1 bc bR n (Zz10 n))
theorem Zos(ok:∀t,t<n→RestOk (R t))(bR:∀t,t<n→RBd k (R t))(bc:∀j,j<n+1→Bd k (ZaT c i j))(bd:Bd k d)(h1:c i=1∨c i = -1): RBd (k+k+n) (Zdz n R c d i):=by
 have h:=Zn3 (m:=k) ok (fun t ht=>(bR t ht).1) bR bc
 generalize hp:Za3 (ZaT c i) R n=p at *
 unfold Zdz
 rw[hp]
 refine ZgA (by omega) (Zje h.1 (bd.mono (by omega))) ?_
 rcases h1 with e | e <;> rw[e]
 ·have:=h.2;unfold Bd at *;omega
 ·have:=h.2;unfold Bd at *;omega
theorem Zst(hn:n≤60)(hk1:1≤k)(hk:k+k+n≤8000)(ht:t<n)(ok:∀t,t<n→RestOk (R t))(bR:∀t,t<n→RBd k (R t))(bc:∀j,j<n+1→Bd k (c j))(bo:∀j,j<n+1→Bd k (ZaT c (t+1) j))(bd:Bd k d): Pk (Zf3 [.lst (tab n fun j=>Z4 (R j)),ZX n c,.int d,.int ((t+1:Nat):Int)]) fun u=>∃o,u=oR o∧ZcL n R c d t o:=by
 unfold Zf3 ZkB
 have hs:ZX n c=.lst (tab (n+1) fun k=>.int (c k)):=rfl
 have h1:t+1<n+1:=by omega
 have e1:(((t+1:Nat):Int)).toNat=t+1:=by omega
 have e2:(((t+1:Nat):Int)-1).toNat=t:=by omega
 have ab:Zbd (c (t+1))=1↔(c (t+1)=1∨c (t+1) = -1):=by unfold Zbd;split <;> omega
 have bu:∀j,j<n+1→Bd k (unC (t+1) j):=fun j _=>by
  rcases ZeQ (i:=t+1) (k:=j)with e | e <;> rw[e]
  ·exact ZcK
  ·exact Zea hk1
 rw[hs]
 walk_at "zz"
 rw[←hs]
 rw[e2]
 by_cases q:c (t+1)=1∨c (t+1) = -1
 ·have qa:=ab.mpr q
  have bp:=Zn3 (m:=k) ok (fun t ht=>(bR t ht).1) bR bo
  have op:RestOk (Za3 (ZaT c (t+1)) R n):=by rw[Zdo ok n (Zz10 n)];exact Zcs (ZdZ _ _ _) _
  have bs:=Zos ok bR bo bd q
  have bk:=bc (t+1) h1
  have be:=ZxF (d:=d) ok q
  walk_at "zz"
  refine ZH (Zig (i:=t+1) (n:=n) (by omega)) ?_
  walk_at "zz"
  refine ZH (Zfa (b:=k) (by omega) (by omega) bu bk) ?_
  walk_at "zz"
  refine ZH (ZlM (b:=k+k) (by omega) (by omega) (by omega) (fun j hj=>(bu j hj).mul bk)) ?_
  rw[show(fun k=>c k-unC (t+1) k*c (t+1))=ZaT c (t+1)from rfl]
  walk_at "zz"
  refine ZH (Zk8 (i:=k) (by omega) hk1 (by omega) bo bR ok) ?_
  walk_at "zz"
  refine ZH (ZkE (k:=k+k+n) (by omega) op.nn bp (show Bd (k+k+n) (-(c (t+1)))by have:=bk.mono (show k≤k+k+n by omega);unfold Bd at *;omega)) ?_
  walk_at "zz"
  refine ZH (Zr1 (k:=k+k+n+k) (by omega) (by unfold ZcJ;rw[ZdU];exact bp.1.mul (Zq0 (show Bd k (-(c (t+1)))by unfold Bd at *;omega))) (bd.mono (by omega))) ?_
  rw[be]
  walk_at "zz"
  refine(ZlI (k:=k+k+n) hk (ok t ht) Zor ⟨(bR t ht).1.mono (by omega),(bR t ht).2.mono (by omega)⟩ bs).mono ?_
  rintro _ ⟨o,rfl,hm,_⟩
  exact⟨o,rfl,by unfold ZcL;rw[if_pos q];exact hm⟩
 ·have qa:¬Zbd (c (t+1))=1:=fun h=>q (ab.mp h)
  walk_at "zz"
  exact⟨some (R t),rfl,by unfold ZcL;rw[if_neg q]⟩
theorem Zs8(hn:n≤60)(hk1:1≤k)(hk:k+k+n≤8000)(ok:∀t,t<n→RestOk (R t))(bR:∀t,t<n→RBd k (R t))(bc:∀j,j<n+1→Bd k (c j))(bo:∀t,t<n→∀j,j<n+1→Bd k (ZaT c (t+1) j))(bd:Bd k d): ∃o:Nat→Option (Int×Int),(∀t,t<n→ZcL n R c d t (o t))∧((∃t,t<n∧o t=none)→Zdg [ZQ n G R,ZX n c,.int d]=some .none)∧∀R' D,(∀t,t<n→o t=some (R' t))→ZdX [ZQ n G R']=some D→Zdg [ZQ n G R,ZX n c,.int d]=some D:=by
 have ex:∀t,∃o,t<n→Zf3 [.lst (tab n fun j=>Z4 (R j)),ZX n c,.int d,.int ((t+1:Nat):Int)]=some (oR o)∧ZcL n R c d t o:=fun t=>by
  by_cases ht:t<n
  ·obtain⟨u,e,o,rfl,h⟩:=Zst hn hk1 hk ht ok bR bc (bo t ht) bd
   exact⟨o,fun _=>⟨e,h⟩⟩
  ·exact⟨none,fun h=>absurd h ht⟩
 obtain⟨o,ho⟩:=Classical.axiomOfChoice ex
 refine⟨o,fun t ht=>(ho t ht).2,?_⟩
 have ht:ZQ n G R=.tup [Z7 (n+1) G,.lst (tab n fun i=>Z4 (R i))]:=rfl
 have hs:ZX n c=.lst (tab (n+1) fun k=>.int (c k)):=rfl
 have key:∀{D:T},((∃t,t<n∧o t=none)∧D=.none∨(¬(∃t,t<n∧o t=none))∧ZdX [.tup [Z7 (n+1) G,.lst (tab n fun t=>oR (o t))]]=some D)→Zdg [ZQ n G R,ZX n c,.int d]=some D:=fun {D} hD=>by
  apply Pk.eq
  unfold Zdg ZhU
  rw[ht,hs]
  walk_at "zz"
  rw[←hs]
  refine Zcj (n:=n) (a:=fun i=>.int ((1+i:Nat):Int)) (b:=fun t=>oR (o t)) (by omega) ?_ (fun t ht'=>?_) ?_
  ·refine Zfz (a:=1) (m:=n) (by omega) (by omega) ?_ rfl
   simp only[Zd,Zj,Zm,Za,Zr,hs,Zar,Zas,Option.bind_some]
   show some [T.int 1,T.int (((tab (n+1) fun k=>T.int (c k)).length:Nat):Int)]=_
   rw[Zas]
   congr 3
   congr 1
   omega
  ·rw[Nat.add_comm 1 t]
   walk_at "zz"
   exact ZH (ho t ht').1 rfl
  walk_at "zz"
  refine ZfP (.none (n:=0)) (Zel (n:=1) fun i _=>Zjr) ?_
  rcases hD with⟨⟨t,h1,h2⟩,rfl⟩ | ⟨hc,hD⟩
  ·rw[Za0 (show T.none∈tab n fun i=>oR (o i)from List.mem_of_getElem? (i:=t) (by rw[ZbM h1,h2];rfl))]
   walk_at "zz"
   rfl
  ·rw[Zbw (show ¬T.none∈tab n fun i=>oR (o i)from fun h=>by
    obtain⟨i,hi,e⟩:=ZcO h
    exact hc ⟨i,hi,oR_none.mp e.symm⟩)]
   walk_at "zz"
   exact ZH hD rfl
 refine⟨fun h=>key (.inl ⟨h,rfl⟩),fun R' D h hD=>key (.inr ⟨fun⟨t,h1,h2⟩=>(by rw[h t h1]at h2;cases h2),?_⟩)⟩
 have e:T.tup [Z7 (n+1) G,.lst (tab n fun t=>oR (o t))]=ZQ n G R':=by
  show T.tup [Z7 (n+1) G,.lst (tab n fun t=>oR (o t))]=.tup [Z7 (n+1) G,.lst (tab n fun i=>Z4 (R' i))]
  rw[Zbi fun i hi=>(show oR (o i)=Z4 (R' i)by rw[h i hi];rfl)]
 rw[e]
 exact hD
theorem Ztr{o:Nat→Option (Int×Int)}(hn:n≤60)(hk1:1≤k)(hk:k+k+n≤8000)(ok:∀t,t<n→RestOk (R t))(bR:∀t,t<n→RBd k (R t))(bc:∀j,j<n+1→Bd k (c j))(bo:∀t,t<n→∀j,j<n+1→Bd k (ZaT c (t+1) j))(bd:Bd k d)(ho:∀t,t<n→ZcL n R c d t (o t)): ((∃t,t<n∧o t=none)→Zeh [ZQ n G R,ZX n c,.int d]=some .none)∧∀R' D,(∀t,t<n→o t=some (R' t))→ZdP [ZQ n G R']=some D→Zeh [ZQ n G R,ZX n c,.int d]=some D:=by
 have ht:ZQ n G R=.tup [Z7 (n+1) G,.lst (tab n fun i=>Z4 (R i))]:=rfl
 have hs:ZX n c=.lst (tab (n+1) fun k=>.int (c k)):=rfl
 have key:∀{D:T},((∃t,t<n∧o t=none)∧D=.none∨(¬(∃t,t<n∧o t=none))∧ZdP [.tup [Z7 (n+1) G,.lst (tab n fun t=>oR (o t))]]=some D)→Zeh [ZQ n G R,ZX n c,.int d]=some D:=fun {D} hD=>by
  apply Pk.eq
  unfold Zeh Zmt
  let ρ:Nat→Nat→Option (Int×Int):=fun m t=>if t<m then o t else some (R t)
  have hw:∀{t:Nat} {Q:T→Prop},t<n→Q (ZX n (ZaT c (t+1)))→Pk (Zeg [ZX n c,.int ((t+1:Nat):Int),.int (-(c (t+1)))]) Q:=fun {t Q} h q=>ZH (ZhZ (by omega) (by omega)) (by rw[show(fun a=>c a+unC (t+1) a * -(c (t+1)))=ZaT c (t+1)by funext a;unfold ZaT;rw[Int.mul_neg];omega];exact q)
  rw[ht,hs]
  walk_at "zz"
  refine ZbU (n:=n) (a:=fun i=>.int ((1+i:Nat):Int)) (P:=fun m σ=>σ 0=some (.tup [Z7 (n+1) G,.lst (tab n fun i=>Z4 (R i))])∧σ 1=some (.lst (tab (n+1) fun k=>.int (c k)))∧σ 2=some (.int d)∧σ 3=some (.lst (tab n fun t=>oR (ρ m t)))) ?_ ⟨by walk_at "zr",by walk_at "zr",by walk_at "zr",?_⟩ ?_ ?_
  ·refine Zfz (a:=1) (m:=n) (by omega) (by omega) ?_ rfl
   show some [T.int 1,T.int (((tab (n+1) fun k=>T.int (c k)).length:Nat):Int)]=_
   rw[Zas]
   congr 3
   congr 1
   omega
  ·walk_at "zz"
   rfl
  ·rintro t σ ht' ⟨e0,e1,e2,e3⟩
   have h1:t+1<n+1:=by omega
   have i1:(((t+1:Nat):Int)).toNat=t+1:=by omega
   have i2:(((t+1:Nat):Int)-1).toNat=t:=by omega
   have hr:ρ t t=some (R t):=by show(if t<t then _ else _)=_;rw[if_neg (by omega)]
   have hne:∀a,a≠t→ρ (t+1) a=ρ t a:=fun a ha=>by
    show(if a<t+1 then _ else _)=(if a<t then _ else _)
    by_cases q:a<t
    ·rw[if_pos q,if_pos (by omega)]
    ·rw[if_neg q,if_neg (by omega)]
   have hat:ρ (t+1) t=o t:=by show(if t<t+1 then _ else _)=_;rw[if_pos (by omega)]
   have hb:=ho t ht'
   rw[Nat.add_comm 1 t]
   by_cases q:c (t+1)=1∨c (t+1) = -1
   ·unfold ZcL at hb
    rw[if_pos q]at hb
    have bp:=Zn3 (m:=k) ok (fun t ht=>(bR t ht).1) bR (bo t ht')
    have op:RestOk (Za3 (ZaT c (t+1)) R n):=by rw[Zdo ok n (Zz10 n)];exact Zcs (ZdZ _ _ _) _
    have bs:=Zos ok bR (bo t ht') bd q
    have bn:Bd (k+k+n) (-(c (t+1))):=by have:=(bc (t+1) h1).mono (show k≤k+k+n by omega);unfold Bd at *;omega
    have em:Z4 (Zdz n R c d (t+1))=Z4 (ZaH (Int.gcd (Za3 (ZaT c (t+1)) R n).1 d) (-(c (t+1))*(Za3 (ZaT c (t+1)) R n).2)):=rfl
    have q':c (t+1)=1∨(¬c (t+1)=1∧c (t+1) = -1):=by omega
    have ep:Z4 (Za3 (ZaT c (t+1)) R n)=.tup [.int (Za3 (ZaT c (t+1)) R n).1,.int (Za3 (ZaT c (t+1)) R n).2]:=rfl
    rcases q' with q1 | ⟨q1,q2⟩
    all_goals
     walk_at "zz"
     refine hw ht' ?_
     walk_at "zz"
     refine ZH (ZjD (b:=k) (by omega) (by omega) (bo t ht') bR ok) ?_
     rw[ep]
     walk_at "zz"
     refine ZH (Zmu (bp.1.mono (by omega)) (bd.mono (by omega))) ?_
     walk_at "zz"
     refine ZbT (Zb3 bn bp.2 (by omega) (by omega)) ?_
     walk_at "zz"
     refine ZH ZeE ?_
     rw[←em]
     walk_at "zz"
     rw[i2,hr]
     refine(ZpJ (k:=k+k+n) hk (ok t ht') Zor ⟨(bR t ht').1.mono (by omega),(bR t ht').2.mono (by omega)⟩ bs).mono ?_
     rintro _ ⟨o',rfl,hm⟩
     refine⟨ZwB,?_⟩
     walk_at "zz"
     refine ZmE (n:=n) (f:=fun a=>oR (ρ t a)) (by walk_at "zr") (by omega) (by omega) ?_
     rw[i2,ZxC,ZpF hm hb]
     refine⟨by walk_at "zr",by walk_at "zr",by walk_at "zr",?_⟩
     rw[show(tab n fun a=>oR (ρ (t+1) a))=tab n fun a=>oR (if a=t then o t else ρ t a)from Zbi fun a _=>by
      by_cases z:a=t
      ·rw[z,hat,if_pos rfl]
      ·rw[hne a z,if_neg z]]
     walk_at "zr"
   ·have q1:¬c (t+1)=1:=fun h=>q (.inl h)
    have q2:¬c (t+1) = -1:=fun h=>q (.inr h)
    unfold ZcL at hb
    rw[if_neg q]at hb
    walk_at "zz"
    refine⟨by walk_at "zr",by walk_at "zr",by walk_at "zr",?_⟩
    rw[show(tab n fun a=>oR (ρ (t+1) a))=tab n fun a=>oR (ρ t a)from Zbi fun a _=>by
     by_cases z:a=t
     ·rw[z,hat,hr,hb]
     ·rw[hne a z]]
    walk_at "zr"
  ·rintro σ ⟨e0,e1,e2,e3⟩
   rw[show(tab n fun a=>oR (ρ n a))=tab n fun a=>oR (o a)from Zbi fun a ha=>by show oR (if a<n then _ else _)=_;rw[if_pos ha]]at e3
   walk_at "zz"
   refine ZfP (.none (n:=0)) (Zel (n:=1) fun i _=>Zjr) ?_
   rcases hD with⟨⟨t,h1,h2⟩,rfl⟩ | ⟨hc,hD⟩
   ·rw[Za0 (show T.none∈tab n fun i=>oR (o i)from List.mem_of_getElem? (i:=t) (by rw[ZbM h1,h2];rfl))]
    walk_at "zz"
    rfl
   ·rw[Zbw (show ¬T.none∈tab n fun i=>oR (o i)from fun h=>by
     obtain⟨i,hi,e⟩:=ZcO h
     exact hc ⟨i,hi,oR_none.mp e.symm⟩)]
    walk_at "zz"
    exact ZH hD rfl
 refine⟨fun h=>key (.inl ⟨h,rfl⟩),fun R' D h hD=>key (.inr ⟨fun⟨t,h1,h2⟩=>(by rw[h t h1]at h2;cases h2),?_⟩)⟩
 have e:T.tup [Z7 (n+1) G,.lst (tab n fun t=>oR (o t))]=ZQ n G R':=by
  show T.tup [Z7 (n+1) G,.lst (tab n fun t=>oR (o t))]=.tup [Z7 (n+1) G,.lst (tab n fun i=>Z4 (R' i))]
  rw[Zbi fun i hi=>(show oR (o i)=Z4 (R' i)by rw[h i hi];rfl)]
 rw[e]
 exact hD
theorem ZqC{c:Nat→Int}{R:Nat→Int×Int}{n i m:Nat}(bc:∀j,j<n+1→Bd i (c j))(bm:∀j,j<n→Bd m (R j).1): ∀j,j≤n→Bd (i+m) (ZbQ c R j)
 | 0,_=>ZcK
 | j+1,h=>Zje (ZqC bc bm j (by omega)) ((bc (j+1) (by omega)).mul (bm j (by omega)))
theorem ZrJ{a b:Int}(ha:Bd i a)(hb:Bd j b): Bd (i+j) ((Int.lcm a b:Nat):Int):=by
 unfold Bd at *
 by_cases h:a=0∨b=0
 ·rcases h with e | e <;> subst e
  ·rw[Int.lcm_zero_left];exact Nat.pow_pos (by decide)
  ·rw[Int.lcm_zero_right];exact Nat.pow_pos (by decide)
 ·have:Int.lcm a b≤a.natAbs*b.natAbs:=Nat.le_of_dvd (Nat.mul_pos (by omega) (by omega)) (Nat.lcm_dvd_mul _ _)
  rw[Int.natAbs_natCast,Nat.pow_add]
  exact Nat.lt_of_le_of_lt this (Nat.mul_lt_mul'' ha hb)
theorem ZwF(ok:∀t,t<n→RestOk (R t))(bm:∀t,t<n→Bd m (R t).1)(bo:∀j,j<n+1→Bd b (ZaT c (t+1) j))(bd:Bd (b+m) d): Bd (b+m) (Zdz n R c d (t+1)).1:=by
 unfold Zdz
 rw[ZdU,Zdo ok n (Zz10 n),ZdU]
 exact Zje (ZqC bo bm n (Zz10 n)) bd
theorem ZwG{r:Int×Int}(hk:k+k+n≤8000)(ht:t<n)(ok:∀t,t<n→RestOk (R t))(bm:∀t,t<n→Bd m (R t).1)(bR:∀t,t<n→RBd k (R t))(bo:∀j,j<n+1→Bd b (ZaT c (t+1) j))(hbk:b+m≤k)(bd:Bd (b+m) d)(h:ZcL n R c d t (some r)): RestOk r∧Bd (b+m+m) r.1∧Bd (k+k+n) r.2:=by
 have g1:Bd (k+k+n) (R t).2:=(bR t ht).2.mono (by omega)
 unfold ZcL at h
 split at h
 ·rename_i q
  have bs:=Zos ok bR (fun j hj=>(bo j hj).mono (by omega)) (bd.mono (by omega)) q
  have hm:=ZwF ok bm bo bd
  have wh:=ZrB (k:=k+k+n) hk (ok t ht) Zor ⟨(bR t ht).1.mono (by omega),g1⟩ bs h r rfl
  refine⟨h.1,?_,?_⟩
  ·rcases wh with rfl | rfl | ⟨_,_,e⟩
   ·exact(bm t ht).mono (by omega)
   ·exact hm.mono (by omega)
   ·rw[e]
    exact(ZrJ (bm t ht) hm).mono (by omega)
  ·rcases wh with rfl | rfl | ⟨z1,z2,e⟩
   ·exact g1
   ·exact bs.2
   ·have b1:Bd (k+k+n) r.1:=by rw[e];exact(ZrJ (bm t ht) hm).mono (by omega)
    have n0:r.1≠0:=by rw[e];intro h;exact(Int.lcm_ne_zero z1 z2) (by omega)
    rcases h.1 with q | ⟨_,q2,q3⟩
    ·exact absurd q n0
    ·unfold Bd at *;omega
 ·cases h
  exact⟨ok t ht,(bm t ht).mono (by omega),g1⟩
noncomputable def Tf(n:Nat)(P:(Nat→Int)→Prop)(I:(Nat→Nat→Option Int)→(Nat→Int×Int)→Prop)(D:T): Prop:=(D=.none∧∀x,¬P x)∨∃G R,D=ZQ n G R∧(∀i,i<n+1→G i i=some 0)∧(∀t,t<n→RestOk (R t))∧(∀x,P x→ZaY n G R x)∧I G R
theorem Tm.tf{K:Nat}{P:(Nat→Int)→Prop}{I:(Nat→Nat→Option Int)→(Nat→Int×Int)→Prop}(h:Tm n K M P I D): Tf n P I D:=by
 rcases h with h | ⟨G,R,rfl,h1,h2,h3,h4,h5⟩
 ·exact .inl h
 ·exact .inr ⟨G,R,rfl,h1,fun t ht=>(h2 t ht).1,h4,h5⟩
theorem Tf.due{P:(Nat→Int)→Prop}{I:(Nat→Nat→Option Int)→(Nat→Int×Int)→Prop}(h:Tf n P I D): DueOk n D:=by
 rcases h with⟨rfl,_⟩ | ⟨G,R,rfl,h1,h2,h3,h4⟩
 ·exact .inl rfl
 ·exact .inr ⟨G,R,rfl,h1,h2⟩
theorem ZwH(ht:t<n)(ok:∀t,t<n→RestOk (R t))(hx:∀t,t<n→Zau (R t) (x t))(hd:d ∣ Zaq c x n)(q:c (t+1)=1∨c (t+1) = -1): Zau (Zdz n R c d (t+1)) (x t):=by
 unfold Zdz
 refine(Zdh (by omega) _).mpr ?_
 have hv:Zaq (ZaT c (t+1)) x n=Zaq c x n-x t*c (t+1):=by
  rw[show ZaT c (t+1)=fun k=>c k-(fun a=>unC (t+1) a*c (t+1)) k from rfl,ZgS,Zng,ZiX (t+1) (by omega)]
  rfl
 have h1:=ZnZ (c:=ZaT c (t+1)) ok hx n (Zz10 n)
 rw[Zdo ok n (Zz10 n),ZdU]
 have h2:=Zif (m:=ZbQ (ZaT c (t+1)) R n) (r:=Zcc (ZaT c (t+1)) R n) (ZdZ _ _ _)
 have g1:((Int.gcd (ZbQ (ZaT c (t+1)) R n) d:Nat):Int) ∣ ZbQ (ZaT c (t+1)) R n:=Int.gcd_dvd_left ..
 have g2:((Int.gcd (ZbQ (ZaT c (t+1)) R n) d:Nat):Int) ∣ d:=Int.gcd_dvd_right ..
 have h3:=Int.dvd_trans g1 (Int.dvd_sub h1 h2)
 have h4:=Int.dvd_trans g2 hd
 rw[hv]at h3
 generalize ((Int.gcd (ZbQ (ZaT c (t+1)) R n) d:Nat):Int)=g at *
 generalize (ZaH (ZbQ (ZaT c (t+1)) R n) (Zcc (ZaT c (t+1)) R n)).2=s at *
 generalize Zcc (ZaT c (t+1)) R n=r at *
 have h5:=Int.dvd_sub h4 h3
 rcases q with e | e <;> rw[e]at h5 ⊢
 ·rwa [show Zaq c x n-(Zaq c x n-x t*1-r-(s-r))=x t - -1*s by omega]at h5
 ·have:=(Int.dvd_neg).mpr h5
  rwa [show -(Zaq c x n-(Zaq c x n-x t * -1-r-(s-r)))=x t - -(-1)*s by omega]at this
theorem ZqD(ht:t<n)(ok:∀t,t<n→RestOk (R t))(hx:∀t,t<n→Zau (R t) (x t))(hd:d ∣ Zaq c x n)(h:ZcL n R c d t o): ∃r,o=some r∧Zau r (x t):=by
 unfold ZcL at h
 split at h
 ·rename_i q
  have hb:=ZwH ht ok hx hd q
  cases o with
  | none=>exact absurd ⟨hx t ht,hb⟩ (h (x t))
  | some r=>exact⟨r,rfl,(h.2 (x t)).mpr ⟨hx t ht,hb⟩⟩
 ·exact⟨R t,h,hx t ht⟩
theorem ZwI{K:Nat}(hn:n≤20)(hk1:1≤k)(hk:k+k+n≤K)(hbk:b+m≤k)(hb1:1≤b)(hK:(b+m+m)*n+1≤K)(hK2:K+2*n+4≤7000)(hd0:∀i,i<n+1→G i i=some 0)(bG:GB K n G)(ok:∀t,t<n→RestOk (R t))(bm:∀t,t<n→Bd m (R t).1)(bR:∀t,t<n→RBd k (R t))(bc:∀j,j<n+1→Bd k (c j))(bo:∀t,t<n→∀j,j<n+1→Bd b (ZaT c (t+1) j))(bd:Bd (b+m) d): ∃D,Zdg [ZQ n G R,ZX n c,.int d]=some D∧Zeh [ZQ n G R,ZX n c,.int d]=some D∧Tf n (fun x=>ZaY n G R x∧d ∣ Zaq c x n) (fun G2 R2=>∃R',(∀t,t<n→RestOk (R' t))∧(∀t,t<n→ZcL n R c d t (some (R' t)))∧Zcw n G2 R2 G R') D:=by
 have bo2:∀t,t<n→∀j,j<n+1→Bd k (ZaT c (t+1) j):=fun t ht j hj=>(bo t ht j hj).mono (by omega)
 obtain⟨o,ho,a1,a2⟩:=Zs8 (G:=G) (c:=c) (d:=d) (by omega) hk1 (by omega) ok bR bc bo2 (bd.mono (by omega))
 obtain⟨l1,l2⟩:=Ztr (G:=G) (c:=c) (d:=d) (by omega) hk1 (by omega) ok bR bc bo2 (bd.mono (by omega)) ho
 by_cases hc:∃t,t<n∧o t=none
 ·refine⟨.none,a1 hc,l1 hc,.inl ⟨rfl,fun x h=>?_⟩⟩
  obtain⟨t,h1,h2⟩:=hc
  obtain⟨r,e,_⟩:=ZqD h1 ok h.1.2 h.2 (ho t h1)
  rw[h2]at e
  cases e
 ·have hs:∀t,t<n→o t=some ((o t).getD (1,0)):=fun t ht=>by
   cases e:o t with
   | none=>exact absurd ⟨t,ht,e⟩ hc
   | some q=>rfl
  generalize hR':(fun t=>(o t).getD (1,0))=R'
  have hs2:∀t,t<n→o t=some (R' t):=fun t ht=>by rw[←hR'];exact hs t ht
  have hB:∀t,t<n→ZcL n R c d t (some (R' t)):=fun t ht=>by rw[←hs2 t ht];exact ho t ht
  have hr:=fun t (ht:t<n)=>ZwG (k:=k) (by omega) ht ok bm bR (bo t ht) hbk bd (hB t ht)
  have bM:Bd K (Zdb R' n):=(Ziz (k:=b+m+m) (by omega) (fun t ht=>(hr t ht).2.1) n (Zz10 n)).mono (by omega)
  obtain⟨D,e1,e2,hD⟩:=Zrh (k:=K) (R:=R') hn hK2 (Ziq (fun t ht=>(hr t ht).1) n (Zz10 n)) bM hd0 bG (fun t ht=>⟨(hr t ht).1,Zir n t ht,(hr t ht).2.2.mono (by omega)⟩)
  refine⟨D,a2 R' D hs2 e1,l2 R' D hs2 e2,?_⟩
  have lies:∀x,ZaY n G R x∧d ∣ Zaq c x n→ZaY n G R' x:=fun x h=>⟨h.1.1,fun t ht=>by
   obtain⟨r,e,q⟩:=ZqD ht ok h.1.2 h.2 (hB t ht)
   cases e
   exact q⟩
  rcases hD.tf with⟨rfl,no⟩ | ⟨G2,R2,rfl,h1,h2,h3,h4⟩
  ·exact .inl ⟨rfl,fun x h=>no x (lies x h)⟩
  ·exact .inr ⟨G2,R2,rfl,h1,h2,fun x h=>h3 x (lies x h),R',fun t ht=>(hr t ht).1,hB,h4⟩
theorem Zn4{x:Int}(op:RestOk p)(oq:RestOk q)(h:RIn p q)(hx:Zau p x): Zau q x:=by
 unfold RIn at h
 split at h
 ·rw[←h];exact hx
 ·refine(Zbj oq.nn x).mpr ?_
  have a:=(Zbj op.nn x).mp hx
  have b:=Int.dvd_trans (Int.dvd_of_emod_eq_zero h.1) a
  have:=Int.dvd_add b (Int.dvd_of_emod_eq_zero h.2)
  rwa [show x-p.2+(p.2-q.2)=x-q.2 by omega]at this
theorem ZiY(o2:∀t,t<n→RestOk (R2 t))(o:∀t,t<n→RestOk (R t))(h:Zcw n G2 R2 G R)(l:ZaY n G2 R2 x): ZaY n G R x:=by
 refine⟨fun i j hi hj b e=>?_,fun t ht=>Zn4 (o2 t ht) (o t ht) (h.2 t ht) (l.2 t ht)⟩
 obtain⟨y,h1,h2⟩:=h.1 i hi j hj b e
 have:=l.1 i j hi hj y h1
 omega
theorem ZhK{G1 G3:Nat→Nat→Option Int}{R1 R3:Nat→Int×Int}(o1:∀t,t<n→RestOk (R1 t))(o2:∀t,t<n→RestOk (R2 t))(o3:∀t,t<n→RestOk (R3 t))(h:Zcw n G1 R1 G2 R2)(k:Zcw n G2 R2 G3 R3): Zcw n G1 R1 G3 R3:=⟨fun i hi j hj=>Zct (h.1 i hi j hj) (k.1 i hi j hj),fun t ht=>Zop (o1 t ht) (o3 t ht) fun x hx=>Zn4 (o2 t ht) (o3 t ht) (k.2 t ht) (Zn4 (o1 t ht) (o2 t ht) (h.2 t ht) hx)⟩
theorem Znj(o:∀t,t<n→RestOk (R t))(h:Zcw n G2 R2 (amG n G c top) R): Zcw n G2 R2 G R:=⟨fun i hi j hj=>Zct (h.1 i hi j hj) (Zx7 i j),h.2⟩
noncomputable def AM(n:Nat)(c:Nat→Int)(top:Int)(x:Nat→Int): Prop:=∃G R,(∀y,grt n G (fun k=>-(c k))=some y→-y≤top)∧ZaY n (amG n G c top) R x
theorem ZoW{a b:T}: Zdg [.none,a,b]=some .none:=by
 apply Pk.eq
 unfold Zdg ZhU
 walk_at "zz"
 rfl
theorem ZxG(hM:0<M)(bM:Bd m M)(h:RB M k q): Bd m q.1:=by
 rcases h.2.1 with e | e
 ·rw[e];exact ZcK
 ·have:=Nat.le_of_dvd (by omega) (Int.natAbs_dvd_natAbs.mpr e)
  unfold Bd at *
  omega
theorem Zp5(h:RestOk q): Zau q 0↔q.2=0:=by
 rw[Zbj h.nn]
 constructor
 ·intro d
  rcases h with z | ⟨z1,z2,z3⟩
  ·rw[z]at d
   have:=Int.zero_dvd.mp d
   omega
  ·refine Classical.byContradiction fun q=>?_
   have:=Int.le_of_dvd (by omega) ((Int.dvd_neg).mpr d)
   omega
 ·intro e
  rw[e]
  exact Int.dvd_zero _
theorem Zvt(ok:∀t,t<n→RestOk (R t))(h:∀t,t<n→Zau (R t) (x t)): Zau (Za3 c R n) (Zaq c x n):=by
 rw[Zdo ok n (Zz10 n)]
 exact(Zdh (ZdZ _ _ _) _).mpr (ZnZ ok h n (Zz10 n))
theorem ZiZ(ok:∀t,t<n→RestOk (R t)): RestOk (Za3 c R n):=by
 rw[Zdo ok n (Zz10 n)]
 exact Zcs (ZdZ _ _ _) _
theorem Zn5(hn:n≤20)(ok:∀t,t<n→RestOk (R t))(bR:∀t,t<n→RBd 300 (R t))(bc:∀i,i<n+1→Bd 300 (c i))(hr:Zau (Za3 c R n) 0)(h1:ZcG [ZQ n G R,ZX n c,.int 0]=some D1∧ZcE [ZQ n G R,ZX n c,.int 0]=some D1)(h2:ZcG [D1,ZX n fun k=>-(c k),.int 0]=some D2∧ZcE [D1,ZX n fun k=>-(c k),.int 0]=some D2)(h3:Zdg [D2,ZX n c,.int 0]=some D)(h4:(D2=.none∧D=.none)∨((∃G R,D2=ZQ n G R)∧Zeh [D2,ZX n c,.int 0]=some D)): Zed [ZQ n G R,ZX n c]=some D∧Zdf [ZQ n G R,ZX n c]=some D:=by
 have ht:ZQ n G R=.tup [Z7 (n+1) G,.lst (tab n fun i=>Z4 (R i))]:=rfl
 have hs:ZX n c=.lst (tab (n+1) fun k=>.int (c k)):=rfl
 have hg:∀{Q:T→Prop},Q (.lst (tab n fun i=>Z4 (R i)))→Pk (Zq (ZQ n G R) (.int 1)) Q:=fun h=>⟨_,by rw[ht];rfl,h⟩
 have bn:Bd 300 (-1):=(show Bd 1 (-1)by unfold Bd;decide).mono (by decide)
 have ep:Z4 (Za3 c R n)=.tup [.int (Za3 c R n).1,.int (Za3 c R n).2]:=rfl
 have hz:=(Zp5 (ZiZ (c:=c) ok)).mp hr
 constructor
 ·apply Pk.eq
  unfold Zed ZhW
  walk_at "zz"
  refine hg ?_
  walk_at "zz"
  refine ZH (Zk8 (i:=300) (by omega) (by decide) (by decide) bc bR ok) ?_
  walk_at "zz"
  refine ZH (ZhX (ZiZ ok)) ?_
  rw[Za0 hr]
  walk_at "zz"
  refine ZH h1.1 ?_
  walk_at "zz"
  refine ZH (Zfa (b:=300) (by omega) (by decide) bc bn) ?_
  rw[Zp4]
  walk_at "zz"
  refine ZH h2.1 ?_
  walk_at "zz"
  exact ZH h3 rfl
 ·apply Pk.eq
  unfold Zdf Zhn
  have hcp:∀{σ:TL},σ 1=some (ZX n c)→Pk (Zap (ZaD (Za 1)) (Zac 100) Zae (pUn Zbc (Za 100)) σ) fun t=>t=ZX n fun k=>-(c k):=fun e=>by
   unfold ZX at e
   refine Zcj (n:=n+1) (a:=fun k=>.int (c k)) (b:=fun k=>.int (-(c k))) (by omega) ?_ (fun k hk=>?_) rfl
   ·walk_at "zz"
    rfl
   ·walk_at "zz"
    rfl
  walk_at "zz"
  refine hg ?_
  walk_at "zz"
  refine ZH (ZjD (b:=300) (by omega) (by decide) bc bR ok) ?_
  rw[ep,hz]
  walk_at "zz"
  refine ZH h1.2 ?_
  walk_at "zz"
  refine(hcp (by walk_at "zr")).mono ?_
  rintro _ rfl
  walk_at "zz"
  refine ZH h2.2 ?_
  rcases h4 with⟨rfl,rfl⟩ | ⟨⟨G3,R3,rfl⟩,h4⟩
  ·walk_at "zz"
   rfl
  ·have hne:∀{Q:T→Prop},Q (.bool false)→Pk (qIs (ZQ n G3 R3) .none) Q:=fun h=>⟨_,rfl,h⟩
   walk_at "zz"
   refine hne ?_
   walk_at "zz"
   exact ZH h4 rfl
theorem Zvu(hn:n≤20)(ok:∀t,t<n→RestOk (R t))(bR:∀t,t<n→RBd 300 (R t))(bc:∀i,i<n+1→Bd 300 (c i))(hr:¬Zau (Za3 c R n) 0): Zed [ZQ n G R,ZX n c]=some .none∧Zdf [ZQ n G R,ZX n c]=some .none:=by
 have ht:ZQ n G R=.tup [Z7 (n+1) G,.lst (tab n fun i=>Z4 (R i))]:=rfl
 have hg:∀{Q:T→Prop},Q (.lst (tab n fun i=>Z4 (R i)))→Pk (Zq (ZQ n G R) (.int 1)) Q:=fun h=>⟨_,by rw[ht];rfl,h⟩
 have ep:Z4 (Za3 c R n)=.tup [.int (Za3 c R n).1,.int (Za3 c R n).2]:=rfl
 have hz:¬(Za3 c R n).2=0:=fun h=>hr ((Zp5 (ZiZ (c:=c) ok)).mpr h)
 constructor
 ·apply Pk.eq
  unfold Zed ZhW
  walk_at "zz"
  refine hg ?_
  walk_at "zz"
  refine ZH (Zk8 (i:=300) (by omega) (by decide) (by decide) bc bR ok) ?_
  walk_at "zz"
  refine ZH (ZhX (ZiZ ok)) ?_
  rw[Zbw hr]
  walk_at "zz"
  rfl
 ·apply Pk.eq
  unfold Zdf Zhn
  walk_at "zz"
  refine hg ?_
  walk_at "zz"
  refine ZH (ZjD (b:=300) (by omega) (by decide) bc bR ok) ?_
  rw[ep]
  walk_at "zz"
  rfl
theorem ZwJ(bc:∀i,i<n+1→Bd b (c i)): ∀t,t<n→∀j,j<n+1→Bd (b+1) (ZaT c (t+1) j):=fun t ht=>ZxE bc (t+1) (by omega)
theorem ZxH(hn:n≤4)(hd:∀i,i<n+1→G i i=some 0)(ok:∀t,t<n→RestOk (R t))(sG:SmG 137 n G)(sR:SmR 137 n R)(bc:∀i,i<n+1→Bd 300 (c i)): ∃D,Zed [ZQ n G R,ZX n c]=some D∧Zdf [ZQ n G R,ZX n c]=some D∧Tf n (fun x=>ZaY n G R x∧Zaq c x n=0) (fun G2 R2=>Zcw n G2 R2 G R∧∀x,ZaY n G2 R2 x→AM n c 0 x∧AM n (fun k=>-(c k)) 0 x) D:=by
 have bR:∀t,t<n→RBd 300 (R t):=fun t ht=>⟨(show Bd 137 _ from(sR t ht).1).mono (by decide),(show Bd 137 _ from(sR t ht).2).mono (by decide)⟩
 have bM:Bd 549 (Zdb R n):=(Ziz (k:=137) (by decide) (fun t ht=>(sR t ht).1) n (Zz10 n)).mono (by omega)
 have hM:=Ziq ok n (Zz10 n)
 have hR:∀t,t<n→RB (Zdb R n) 610 (R t):=fun t ht=>⟨ok t ht,Zir n t ht,(show Bd 137 _ from(sR t ht).2).mono (by decide)⟩
 by_cases hr:Zau (Za3 c R n) 0
 ·obtain⟨D1,a1,b1,t1⟩:=Zni (b:=300) (k:=610) (c:=c) (top:=0) (by omega) (by decide) (by decide) (by omega) (by omega) hM (bM.mono (by decide)) hd (fun i j hi hj y e=>(show Bd 137 y from sG i j hi hj y e).mono (by decide)) hR bc ZcK
  rcases t1 with⟨rfl,no⟩ | ⟨G1,R1,rfl,hd1,hR1,bG1,li1,in1,hc1⟩
  ·obtain⟨e1,e2⟩:=Zn5 (D:=.none) (by omega) ok bR bc hr ⟨a1,b1⟩ ⟨Zs7,Zr0⟩ ZoW (.inl ⟨rfl,rfl⟩)
   exact⟨.none,e1,e2,.inl ⟨rfl,fun x h=>no x ⟨h.1,by omega⟩⟩⟩
  ·obtain⟨D2,a2,b2,t2⟩:=Zni (b:=629) (k:=1268) (c:=fun k=>-(c k)) (top:=0) (by omega) (by decide) (by decide) (by omega) (by omega) hM (bM.mono (by decide)) hd1 (fun i j hi hj y e=>(bG1 i j hi hj y e).mono (by omega)) (fun t ht=>(hR1 t ht).mono (by omega)) (fun i hi=>(ZgR bc i hi).mono (by decide)) ZcK
   rcases t2 with⟨rfl,no⟩ | ⟨G2,R2,rfl,hd2,hR2,bG2,li2,in2,hc2⟩
   ·obtain⟨e1,e2⟩:=Zn5 (D:=.none) (by omega) ok bR bc hr ⟨a1,b1⟩ ⟨a2,b2⟩ ZoW (.inl ⟨rfl,rfl⟩)
    exact⟨.none,e1,e2,.inl ⟨rfl,fun x h=>no x ⟨li1 x ⟨h.1,by omega⟩,by rw[ZeM];omega⟩⟩⟩
   ·obtain⟨D,a3,b3,t3⟩:=ZwI (k:=1287) (b:=301) (m:=549) (K:=5600) (G:=G2) (R:=R2) (c:=c) (d:=0) (by omega) (by decide) (by omega) (by decide) (by decide) (by omega) (by omega) hd2 (fun i j hi hj y e=>(bG2 i j hi hj y e).mono (by omega)) (fun t ht=>(hR2 t ht).1) (fun t ht=>ZxG hM bM (hR2 t ht)) (fun t ht=>((hR2 t ht).mono (show 1268+3*n+7≤1287 by omega)).bd hM (bM.mono (by decide))) (fun i hi=>(bc i hi).mono (by decide)) (ZwJ bc) ZcK
    obtain⟨e1,e2⟩:=Zn5 (by omega) ok bR bc hr ⟨a1,b1⟩ ⟨a2,b2⟩ a3 (.inr ⟨⟨G2,R2,rfl⟩,b3⟩)
    refine⟨D,e1,e2,?_⟩
    rcases t3 with⟨rfl,no⟩ | ⟨G3,R3,rfl,hd3,ok3,li3,R',ok',bes,in3⟩
    ·exact .inl ⟨rfl,fun x h=>no x ⟨li2 x ⟨li1 x ⟨h.1,by omega⟩,by rw[ZeM];omega⟩,by rw[h.2];exact Int.dvd_zero _⟩⟩
    ·have ok1:∀t,t<n→RestOk (R1 t):=fun t ht=>(hR1 t ht).1
     have ok2:∀t,t<n→RestOk (R2 t):=fun t ht=>(hR2 t ht).1
     have i32:Zcw n G3 R3 G2 R2:=ZhK ok3 ok' ok2 in3 ⟨fun i hi j hj=>ZcH,fun t ht=>by
      refine Zop (ok' t ht) (ok2 t ht) fun x hx=>?_
      have b:=bes t ht
      unfold ZcL at b
      split at b
      ·exact((b.2 x).mp hx).1
      ·rw[Option.some.inj b]at hx;exact hx⟩
     have i31:Zcw n G3 R3 (amG n G1 (fun k=>-(c k)) 0) R1:=ZhK ok3 ok2 ok1 i32 in2
     have i30:Zcw n G3 R3 (amG n G c 0) R:=ZhK ok3 ok1 ok (Znj ok1 i31) in1
     refine .inr ⟨G3,R3,rfl,hd3,ok3,fun x h=>li3 x ⟨li2 x ⟨li1 x ⟨h.1,by omega⟩,by rw[ZeM];omega⟩,by rw[h.2];exact Int.dvd_zero _⟩,Znj ok i30,fun x l=>⟨⟨G,R,hc1,ZiY ok3 ok i30 l⟩,⟨G1,R1,hc2,ZiY ok3 ok1 i31 l⟩⟩⟩
 ·obtain⟨e1,e2⟩:=Zvu (G:=G) (by omega) ok bR bc hr
  exact⟨.none,e1,e2,.inl ⟨rfl,fun x h=>hr (by rw[←h.2];exact Zvt ok h.1.2)⟩⟩
noncomputable def Off(n:Nat)(c:Nat→Int)(D D':T): Prop:=(D=.none∧D'=.none)∨∃G R,D=ZQ n G R∧ZdL [D,ZX n c]=some (oT (grt n G c))∧(((∃y,grt n G c=some y∧y≤0)∧ZcE [D,ZX n c,.int (-1)]=some D')∨((¬∃y,grt n G c=some y∧y≤0)∧D'=D))
theorem ZsK{a:T}: ZdC [.none,a]=some .none:=by
 apply Pk.eq
 unfold ZdC Zgn
 walk_at "zz"
 rfl
theorem leO_0: leO a (some 0)↔∃y,a=some y∧y≤0:=⟨fun h=>h 0 rfl,fun h z e=>by cases e;exact h⟩
theorem ZrK(hn:n≤20)(hb1:1≤b)(hb:b≤900)(hB:b+b+n+6≤k)(hk:k+2*n+4≤7000)(hM:0<M)(bM:Bd k M)(hd:∀i,i<n+1→G i i=some 0)(bG:GB b n G)(hR:∀t,t<n→RB M k (R t))(bc:∀i,i<n+1→Bd b (c i)): ∃D,ZdC [ZQ n G R,ZX n c]=some D∧Off n c (ZQ n G R) D∧Tm n (k+3*n+7) M (fun x=>ZaY n G R x∧Zaq c x n≠0) (fun G2 R2=>Zcw n G2 R2 G R∧∀x,ZaY n G2 R2 x→(∃y,grt n G c=some y∧y≤0)→AM n c (-1) x) D:=by
 have ht:ZQ n G R=.tup [Z7 (n+1) G,.lst (tab n fun i=>Z4 (R i))]:=rfl
 have hne:∀{Q:T→Prop},Q (.bool true)→Pk (ZaO (ZQ n G R) .none) Q:=fun h=>⟨_,by rw[ht];rfl,h⟩
 have hg:=ZlL (R:=R) (c:=c) (b:=b) (by omega) (by omega) hb1 bG bc
 have hlg:=ZfY (R:=R) (c:=c) (b:=b) (by omega) (by omega) bG bc
 have ok:∀t,t<n→RestOk (R t):=fun t ht=>(hR t ht).1
 by_cases h:∃y,grt n G c=some y∧y≤0
 ·obtain⟨D,e1,e2,hD⟩:=Zni (top:=-1) hn hb1 hb hB hk hM bM hd bG hR bc ((show Bd 1 (-1)by unfold Bd;decide).mono hb1)
  refine⟨D,?_,.inr ⟨G,R,rfl,hlg,.inl ⟨h,e2⟩⟩,?_⟩
  ·apply Pk.eq
   unfold ZdC Zgn
   walk_at "zz"
   refine hne ?_
   walk_at "zz"
   refine ZH hg ?_
   walk_at "zz"
   refine ZH (Zk5 (b:=some 0)) ?_
   rw[Za0 (leO_0.mpr h)]
   walk_at "zz"
   exact ZH e1 rfl
  ·have lt:∀x,ZaY n G R x∧Zaq c x n≠0→Zaq c x n≤-1:=fun x q=>by
    obtain⟨y,h1,h2⟩:=h
    have:=Zjf q.1 h1
    omega
   rcases hD with⟨rfl,no⟩ | ⟨G2,R2,rfl,h1,h2,h3,h4,h5,hc⟩
   ·exact .inl ⟨rfl,fun x q=>no x ⟨q.1,lt x q⟩⟩
   ·exact .inr ⟨G2,R2,rfl,h1,h2,h3,fun x q=>h4 x ⟨q.1,lt x q⟩,Znj ok h5,fun x l _=>⟨G,R,hc,ZiY (fun t ht=>(h2 t ht).1) ok h5 l⟩⟩
 ·refine⟨_,?_,.inr ⟨G,R,rfl,hlg,.inr ⟨h,rfl⟩⟩,.inr ⟨G,R,rfl,hd,fun t ht=>(hR t ht).mono (by omega),fun i j hi hj y e=>(bG i j hi hj y e).mono (by omega),fun x q=>q.1,⟨fun i hi j hj=>ZcH,fun t ht=>Zvj⟩,fun x _ q=>absurd q h⟩⟩
  apply Pk.eq
  unfold ZdC Zgn
  walk_at "zz"
  refine hne ?_
  walk_at "zz"
  refine ZH hg ?_
  walk_at "zz"
  refine ZH (Zk5 (b:=some 0)) ?_
  rw[Zbw (fun q=>h (leO_0.mp q))]
  walk_at "zz"
  rfl
theorem Zp6(hn:n≤20)(h1:Off n c D D1)(h2:Off n (fun k=>-(c k)) D1 D2): ZdO [D,ZX n c]=some D2:=by
 apply Pk.eq
 unfold ZdO Zk4
 have hs:ZX n c=.lst (tab (n+1) fun k=>.int (c k)):=rfl
 have step:∀{c:Nat→Int} {D D':T} {σ:TL} {P:T→Prop} {N:TL→Prop},Off n c D D'→σ 0=some D→(∀σ',σ' 0=some D'→N σ')→Psk (ZP (ZD (Ze ZaO (Za 0) (ZR))) (Zs (ZI 3 (Zr ZdL (Zd (Za 0) (Zd (Za 2) Zm)))) (ZP (Zai (ZD (Ze ZaO (Za 3) (ZR))) (Zai (ZD (Ze qLe (Za 3) (Zj 0))) Zae)) (ZI 0 (Zr ZcE (Zd (Za 0) (Zd (Za 2) (Zd (pUn Zbc (Zj 1)) Zm))))) ZU)) ZU (Zaa σ 2 (ZX n c))) P N:=fun {c D D' σ P N} h e0 hN=>by
  rcases h with⟨rfl,rfl⟩ | ⟨G,R,rfl,hg,h⟩
  ·walk_at "zz"
   exact hN _ (by walk_at "zr")
  ·have hne:∀{Q:T→Prop},Q (.bool true)→Pk (ZaO (ZQ n G R) .none) Q:=fun h=>⟨_,rfl,h⟩
   generalize ZQ n G R=T0 at *
   walk_at "zz"
   refine hne ?_
   walk_at "zz"
   refine ZH hg ?_
   walk_at "zz"
   rcases h with⟨⟨y,ey,hy⟩,ha⟩ | ⟨h,rfl⟩
   ·rw[ey,Zao]
    walk_at "zz"
    refine ZH ha ?_
    exact hN _ ZbA
   ·cases e:grt n G c with
    | none=>
     rw[Zbf]
     walk_at "zz"
     exact hN _ (by walk_at "zr")
    | some y=>
     have hy:¬y≤0:=fun q=>h ⟨y,e,q⟩
     rw[Zao]
     walk_at "zz"
     exact hN _ (by walk_at "zr")
 have hcp:∀{σ:TL},σ 1=some (ZX n c)→Pk (Zap (ZaD (Za 1)) (Zac 100) Zae (pUn Zbc (Za 100)) σ) fun t=>t=ZX n fun k=>-(c k):=fun e=>by
  unfold ZX at e
  refine Zcj (n:=n+1) (a:=fun k=>.int (c k)) (b:=fun k=>.int (-(c k))) (by omega) ?_ (fun k hk=>?_) rfl
  ·walk_at "zz"
   rfl
  ·walk_at "zz"
   rfl
 refine Zi3 rfl ?_
 refine ZeN ?_
 refine ZnJ (ts:=[ZX n c,ZX n fun k=>-(c k)]) (P:=fun m σ=>σ 0=some (if m=0 then D else if m=1 then D1 else D2)) ?_ rfl ?_ ?_
 ·walk_at "zz"
  refine(hcp (by walk_at "zr")).mono ?_
  rintro _ rfl
  walk_at "zz"
  rfl
 ·rintro i t σ ei e0
  match i,ei with
  | 0,ei=>cases ei;exact step h1 e0 fun σ' h=>h
  | 1,ei=>cases ei;exact step h2 e0 fun σ' h=>h
 ·rintro σ e0
  have e0:σ 0=some D2:=e0
  walk_at "zz"
  rfl
theorem ZoM(hn:n≤20)(bc:∀i,i<n+1→Bd 300 (c i))(h1:ZdC [T0,ZX n c]=some D1)(h2:ZdC [D1,ZX n fun k=>-(c k)]=some D2)(h3:DueOk n D2): Ze5 [T0,ZX n c]=some D2:=by
 apply Pk.eq
 unfold Ze5 ZjW
 have bn:Bd 300 (-1):=(show Bd 1 (-1)by unfold Bd;decide).mono (by decide)
 have hf:ZfF [D2]=some D2:=by
  rcases h3 with rfl | ⟨G,R,rfl,_⟩
  ·exact ZnD .none
  ·exact ZnD ((Zww (by omega)).mono (by decide))
 walk_at "zz"
 refine ZH h1 ?_
 walk_at "zz"
 refine ZH (Zfa (b:=300) (by omega) (by decide) bc bn) ?_
 rw[Zp4]
 walk_at "zz"
 refine ZH h2 ?_
 walk_at "zz"
 exact ZH hf rfl
theorem Zvv(hn:n≤4)(hd:∀i,i<n+1→G i i=some 0)(ok:∀t,t<n→RestOk (R t))(sG:SmG 137 n G)(sR:SmR 137 n R)(bc:∀i,i<n+1→Bd 300 (c i)): ∃D,Ze5 [ZQ n G R,ZX n c]=some D∧ZdO [ZQ n G R,ZX n c]=some D∧Tf n (fun x=>ZaY n G R x∧Zaq c x n≠0) (fun G2 R2=>Zcw n G2 R2 G R∧∀x,ZaY n G2 R2 x→(∃y,grt n G c=some y∧y≤0)→AM n c (-1) x) D:=by
 have bM:Bd 549 (Zdb R n):=(Ziz (k:=137) (by decide) (fun t ht=>(sR t ht).1) n (Zz10 n)).mono (by omega)
 have hM:=Ziq ok n (Zz10 n)
 have hR:∀t,t<n→RB (Zdb R n) 610 (R t):=fun t ht=>⟨ok t ht,Zir n t ht,(show Bd 137 _ from(sR t ht).2).mono (by decide)⟩
 obtain⟨D1,a1,o1,t1⟩:=ZrK (b:=300) (k:=610) (c:=c) (by omega) (by decide) (by decide) (by omega) (by omega) hM (bM.mono (by decide)) hd (fun i j hi hj y e=>(show Bd 137 y from sG i j hi hj y e).mono (by decide)) hR bc
 rcases t1 with⟨rfl,no⟩ | ⟨G1,R1,rfl,hd1,hR1,bG1,li1,in1,am1⟩
 ·exact⟨.none,ZoM (by omega) bc a1 ZsK (.inl rfl),Zp6 (by omega) o1 (.inl ⟨rfl,rfl⟩),.inl ⟨rfl,no⟩⟩
 ·obtain⟨D2,a2,o2,t2⟩:=ZrK (b:=629) (k:=1268) (c:=fun k=>-(c k)) (by omega) (by decide) (by decide) (by omega) (by omega) hM (bM.mono (by decide)) hd1 (fun i j hi hj y e=>(bG1 i j hi hj y e).mono (by omega)) (fun t ht=>(hR1 t ht).mono (by omega)) (fun i hi=>(ZgR bc i hi).mono (by decide))
  have t3:=t2.tf
  refine⟨D2,ZoM (by omega) bc a1 a2 t3.due,Zp6 (by omega) o1 o2,?_⟩
  rcases t3 with⟨rfl,no⟩ | ⟨G2,R2,rfl,hd2,ok2,li2,in2,am2⟩
  ·exact .inl ⟨rfl,fun x h=>no x ⟨li1 x h,by rw[ZeM];omega⟩⟩
  ·exact .inr ⟨G2,R2,rfl,hd2,ok2,fun x h=>li2 x ⟨li1 x h,by rw[ZeM];omega⟩,ZhK ok2 (fun t ht=>(hR1 t ht).1) ok in2 in1,fun x l=>am1 x (ZiY ok2 (fun t ht=>(hR1 t ht).1) in2 l)⟩
theorem ZwK: Pln 1 (ZX n c):=by
 have:=ZnY (tab (n+1) c)
 rw[tab_map]at this
 exact this
theorem ss_: PyData.strOk (Str.ofString "same")=true:=by decide +kernel
theorem ZxI: ¬(T.str (Str.ofString "same")=T.str (Str.ofString "under")):=by
 intro h
 have:=T.str.inj h
 revert this
 decide +kernel
noncomputable def smT(n:Nat)(c:Nat→Int): T:=.tup [.str (Str.ofString "same"),ZX n c]
theorem Zri{b:Bool}(h:(if b then Zed [ZQ n G R,ZX n c]else Ze5 [ZQ n G R,ZX n c])=some D): Zd3 [ZQ n G R,smT n c,.bool b]=some D:=by
 apply Pk.eq
 unfold Zd3 Zjc
 have ht:ZQ n G R=.tup [Z7 (n+1) G,.lst (tab n fun i=>Z4 (R i))]:=rfl
 have hne:∀{Q:T→Prop},Q (.bool false)→Pk (qIs (ZQ n G R) .none) Q:=fun h=>⟨_,by rw[ht];rfl,h⟩
 unfold smT
 walk_at "zz"
 refine hne ?_
 walk_at "zz"
 refine ZfI (n:=1) (m:=1) (.str ss_) (.str su) ?_
 rw[Zbw ZxI]
 walk_at "zz"
 refine ZfI (n:=1) (m:=1) (.str ss_) (.str ss_) ?_
 rw[Za0 rfl]
 cases b with
 | true=>
  rw[if_pos rfl]at h
  walk_at "zz"
  exact ZH h rfl
 | false=>
  rw[if_neg (by decide)]at h
  walk_at "zz"
  exact ZH h rfl
structure F45(n:Nat)(T0:T)(c:Nat→Int)(D:Bool→T): Prop where
 w:∀b,Zd3 [T0,smT n c,.bool b]=some (D b)
 d:∀b,DueOk n (D b)
 p:Pln 3 T0
 k:ZcF [T0]=some T0
 l:(T0=.none∧∀b,D b=.none)∨((∃G R,T0=ZQ n G R)∧Zdf [T0,ZX n c]=some (D true)∧ZdO [T0,ZX n c]=some (D false)∧ZcF [D false]=some (D false))
theorem Zvw(hn:n≤4)(bc:∀i,i<n+1→Bd 300 (c i))(hT:T0=.none∨∃(G:Nat→Nat→Option Int) (R:Nat→Int×Int),T0=ZQ n G R∧(∀i,i<n+1→G i i=some 0)∧(∀t,t<n→RestOk (R t))∧SmG 137 n G∧SmR 137 n R): ∃D,F45 n T0 c D:=by
 rcases hT with rfl | ⟨G,R,rfl,hd,ok,sG,sR⟩
 ·exact⟨fun _=>.none,fun _=>ZuE,fun _=>.inl rfl,.none,ZpW,.inl ⟨rfl,fun _=>rfl⟩⟩
 ·obtain⟨D1,a1,b1,t1⟩:=ZxH hn hd ok sG sR bc
  obtain⟨D2,a2,b2,t2⟩:=Zvv hn hd ok sG sR bc
  refine⟨fun b=>if b then D1 else D2,fun b=>?_,fun b=>?_,Znq,ZqY (by omega),.inr ⟨⟨G,R,rfl⟩,b1,b2,?_⟩⟩
  ·cases b
   ·exact Zri a2
   ·exact Zri a1
  ·cases b
   ·exact t2.due
   ·exact t1.due
  ·rcases t2.due with h | ⟨G2,R2,h,_⟩
   ·show ZcF [D2]=some D2
    rw[h];exact ZpW
   ·show ZcF [D2]=some D2
    rw[h];exact ZqY (by omega)
theorem ZwL{D:Bool→T}{b:Bool}(hn:n≤20)(e3:σ 3=some T0)(e4:σ 4=some (ZX n c))(e5:σ 5=some (smT n c))(e7:σ 7=some T0)(e8:σ 8=some (.bool b))(F:F45 n T0 c D)(hN:∀σ',σ' 3=some T0→σ' 4=some (ZX n c)→σ' 5=some (smT n c)→σ' 7=some T0→N σ'): Psk ((Zs (ZI 9 (ZR)) (Zs (ZP (Zai (ZD (Ze ZaO (Za 7) (ZR))) (Zai (ZD (Za 8)) Zae)) (ZI 9 (Zr Zdf (Zd (Za 7) (Zd (Za 4) Zm)))) ZU) (Zs (ZP (Zai (ZD (Ze ZaO (Za 7) (ZR))) (Zai (ZbY (ZD (Za 8))) Zae)) (ZI 9 (Zr ZcF (Zd (Zr ZdO (Zd (Za 7) (Zd (Za 4) Zm))) Zm))) ZU) (Zs (ZI 10 (Zr Zd3 (Zd (Za 3) (Zd (Za 5) (Zd (Za 8) Zm))))) (Zs (ZP (bOr (ZD (Ze qNe (Ze Zq (Za 5) (Zj 1)) (Za 4))) (bOr (ZbY (ZD (Zr ZdT (Zd (Za 10) (Zd (Za 9) Zm))))) Zce)) (ZE (ZbD false)) ZU) (Zs (ZP (ZD (Ze ZaO (Za 10) (ZR))) (Zs (Za2 10 [] (Zj 7) (Zbu (Zbu ZaC (Zj 0)) (Zj 0)) (Zj 0)) (Zc0 10 [] (Zbu ZaC (Zj 1)) (ZaU (Zd (Zj 7) (Zd (Zj 7) Zm))))) ZU) (ZP (ZD (Ze qNe (Za 3) (Za 7))) (ZE (ZbD false)) ZU))))))) σ) (fun t=>t=.bool true) N:=by
 obtain⟨w,d,p,k,l⟩:=F
 have hs:=(d b).same (by omega)
 have ps:Pln 1 (ZX n c):=ZwK
 have h51:∀{Q:T→Prop},Q (ZX n c)→Pk (Zq (smT n c) (.int 1)) Q:=fun h=>⟨_,rfl,h⟩
 have hne:∀{Q:T→Prop},(T0=.none→Q (.bool false))→((∃G R,T0=ZQ n G R)→Q (.bool true))→Pk (ZaO T0 .none) Q:=fun {Q} h1 h2=>by
  rcases l with⟨e,_⟩ | ⟨⟨G,R,e⟩,_⟩
  ·exact⟨_,by rw[e];rfl,h1 e⟩
  ·exact⟨_,by rw[e];rfl,h2 ⟨G,R,e⟩⟩
 have l0:T0=.none→∀b,D b=.none:=fun e=>by
  rcases l with⟨_,h⟩ | ⟨⟨G,R,e'⟩,_⟩
  ·exact h
  ·rw[e']at e;cases e
 have l1:(∃G R,T0=ZQ n G R)→Zdf [T0,ZX n c]=some (D true)∧ZdO [T0,ZX n c]=some (D false)∧ZcF [D false]=some (D false):=fun⟨G,R,e⟩=>by
  rcases l with⟨e',h⟩ | ⟨_,h⟩
  ·rw[e]at e';cases e'
  ·exact h
 refine Zci (fun σ'=>σ' 3=some T0∧σ' 4=some (ZX n c)∧σ' 5=some (smT n c)∧σ' 7=some T0∧σ' 8=some (.bool b)∧σ' 9=some .none) ?_ ?_
 ·walk_at "zz"
  exact⟨by walk_at "zr",by walk_at "zr",by walk_at "zr",by walk_at "zr",by walk_at "zr",by walk_at "zr"⟩
 clear e3 e4 e5 e7 e8
 rintro σ1 ⟨e3,e4,e5,e7,e8,e9⟩
 refine Zci (fun σ'=>σ' 3=some T0∧σ' 4=some (ZX n c)∧σ' 5=some (smT n c)∧σ' 7=some T0∧σ' 8=some (.bool b)∧σ' 9=some (if b then D true else .none)) ?_ ?_
 ·walk_at "zz"
  refine hne (fun z=>?_) (fun z=>?_)
  ·have h0:σ1 9=some (if b then D true else .none):=by rw[l0 z];cases b <;> exact e9
   clear e9
   walk_at "zz"
   exact⟨by walk_at "zr",by walk_at "zr",by walk_at "zr",by walk_at "zr",by walk_at "zr",by walk_at "zr"⟩
  ·cases b with
   | true=>
    walk_at "zz"
    refine ZH (l1 z).1 ?_
    exact⟨by walk_at "zr",by walk_at "zr",by walk_at "zr",by walk_at "zr",by walk_at "zr",ZbA⟩
   | false=>
    walk_at "zz"
    exact⟨by walk_at "zr",by walk_at "zr",by walk_at "zr",by walk_at "zr",by walk_at "zr",by walk_at "zr"⟩
 clear e3 e4 e5 e7 e8 e9
 rintro σ2 ⟨e3,e4,e5,e7,e8,e9⟩
 refine Zci (fun σ'=>σ' 3=some T0∧σ' 4=some (ZX n c)∧σ' 5=some (smT n c)∧σ' 7=some T0∧σ' 8=some (.bool b)∧σ' 9=some (D b)) ?_ ?_
 ·walk_at "zz"
  refine hne (fun z=>?_) (fun z=>?_)
  ·have h0:σ2 9=some (D b):=by rw[l0 z]at e9 ⊢;cases b <;> exact e9
   clear e9
   walk_at "zz"
   exact⟨by walk_at "zr",by walk_at "zr",by walk_at "zr",by walk_at "zr",by walk_at "zr",by walk_at "zr"⟩
  ·cases b with
   | true=>
    have h0:σ2 9=some (D true):=e9
    clear e9
    walk_at "zz"
    exact⟨by walk_at "zr",by walk_at "zr",by walk_at "zr",by walk_at "zr",by walk_at "zr",by walk_at "zr"⟩
   | false=>
    walk_at "zz"
    refine ZH (l1 z).2.1 ?_
    walk_at "zz"
    refine ZH (l1 z).2.2 ?_
    exact⟨by walk_at "zr",by walk_at "zr",by walk_at "zr",by walk_at "zr",by walk_at "zr",ZbA⟩
 clear e3 e4 e5 e7 e8 e9
 rintro σ3 ⟨e3,e4,e5,e7,e8,e9⟩
 walk_at "zz"
 refine ZH (w b) ?_
 walk_at "zz"
 refine h51 ?_
 walk_at "zz"
 refine Zog ps ps ?_
 rw[Za0 rfl]
 walk_at "zz"
 refine ZH hs ?_
 walk_at "zz"
 rcases d b with z | ⟨G2,R2,z,_⟩
 ·rw[z]
  walk_at "zz"
  refine Zog p p ?_
  rw[Za0 rfl]
  walk_at "zz"
  exact hN _ (by walk_at "zr") (by walk_at "zr") (by walk_at "zr") (by walk_at "zr")
 ·rw[z]
  have hn2:∀{Q:T→Prop},Q (.bool true)→Pk (ZaO (ZQ n G2 R2) .none) Q:=fun h=>⟨_,rfl,h⟩
  refine hn2 ?_
  walk_at "zz"
  refine Zwu (n:=n) (G:=G2) (R:=R2) (by walk_at "zr") fun g=>?_
  refine Zwv (n:=n) (g:=g) (R:=R2) (w:=.tup [.int 7,.int 7]) (by omega) rfl (by walk_at "zr") fun u=>?_
  walk_at "zz"
  refine Zog p p ?_
  rw[Za0 rfl]
  walk_at "zz"
  exact hN _ (by walk_at "zr") (by walk_at "zr") (by walk_at "zr") (by walk_at "zr")
theorem ZwM{D:Bool→T}(hn:n≤20)(e3:σ 3=some T0)(e4:σ 4=some (ZX n c))(e5:σ 5=some (smT n c))(F:F45 n T0 c D): Psk ((Zs (ZI 7 (Zr ZcF (Zd (Za 3) Zm))) (Zs (ZaB (ZaD (Zb6 (Zd (ZbD true) (Zd (ZbD false) Zm)))) (Zac 8) (Zs (ZI 9 (ZR)) (Zs (ZP (Zai (ZD (Ze ZaO (Za 7) (ZR))) (Zai (ZD (Za 8)) Zae)) (ZI 9 (Zr Zdf (Zd (Za 7) (Zd (Za 4) Zm)))) ZU) (Zs (ZP (Zai (ZD (Ze ZaO (Za 7) (ZR))) (Zai (ZbY (ZD (Za 8))) Zae)) (ZI 9 (Zr ZcF (Zd (Zr ZdO (Zd (Za 7) (Zd (Za 4) Zm))) Zm))) ZU) (Zs (ZI 10 (Zr Zd3 (Zd (Za 3) (Zd (Za 5) (Zd (Za 8) Zm))))) (Zs (ZP (bOr (ZD (Ze qNe (Ze Zq (Za 5) (Zj 1)) (Za 4))) (bOr (ZbY (ZD (Zr ZdT (Zd (Za 10) (Zd (Za 9) Zm))))) Zce)) (ZE (ZbD false)) ZU) (Zs (ZP (ZD (Ze ZaO (Za 10) (ZR))) (Zs (Za2 10 [] (Zj 7) (Zbu (Zbu ZaC (Zj 0)) (Zj 0)) (Zj 0)) (Zc0 10 [] (Zbu ZaC (Zj 1)) (ZaU (Zd (Zj 7) (Zd (Zj 7) Zm))))) ZU) (ZP (ZD (Ze qNe (Za 3) (Za 7))) (ZE (ZbD false)) ZU)))))))) (ZE (ZbD true)))) σ) (fun t=>t=.bool true) N:=by
 have cp:=F.k
 walk_at "zz"
 refine ZH cp ?_
 refine ZeN ?_
 refine ZnJ (ts:=[.bool true,.bool false]) (P:=fun _ σ'=>σ' 3=some T0∧σ' 4=some (ZX n c)∧σ' 5=some (smT n c)∧σ' 7=some T0) ?_ ⟨by walk_at "zr",by walk_at "zr",by walk_at "zr",by walk_at "zr"⟩ ?_ ?_
 ·walk_at "zz"
  rfl
 ·rintro i t σ' ei ⟨f3,f4,f5,f7⟩
  have:∃b,t=.bool b:=by
   match i,ei with
   | 0,ei=>cases ei;exact⟨_,rfl⟩
   | 1,ei=>cases ei;exact⟨_,rfl⟩
  obtain⟨b,rfl⟩:=this
  exact ZwL (b:=b) hn (by walk_at "zr") (by walk_at "zr") (by walk_at "zr") (by walk_at "zr") (by walk_at "zr") F fun σ'' g3 g4 g5 g7=>⟨g3,g4,g5,g7⟩
 ·rintro σ' ⟨f3,f4,f5,f7⟩
  walk_at "zz"
  rfl
theorem Zts(hL:Lay ns): Zny [scr ns]=some (.bool true):=by
 apply Pk.eq
 unfold Zny Znx
 obtain⟨p0,p1⟩:=Zck ns 0 (show(0:Int)<9 by decide)
 obtain⟨w,ew,hw⟩:=Zjd p0 (show Zbx ns 0 9<(9:Nat)by omega)
 walk_at "zz"
 refine ZH (Zcl (by decide) (by decide) (by decide)) ?_
 rw[ew]
 obtain⟨n,hn,hidx⟩:∃n:Nat,n≤4∧[T.int 0,.int 1,.int 2,.int 1,.int 2,.int 1,.int 2,.int 1,.int 3][w]?=some (.int n):=by
  match w,hw with
  | 0,_=>exact⟨0,by decide,rfl⟩
  | 1,_=>exact⟨1,by decide,rfl⟩
  | 2,_=>exact⟨2,by decide,rfl⟩
  | 3,_=>exact⟨1,by decide,rfl⟩
  | 4,_=>exact⟨2,by decide,rfl⟩
  | 5,_=>exact⟨1,by decide,rfl⟩
  | 6,_=>exact⟨2,by decide,rfl⟩
  | 7,_=>exact⟨1,by decide,rfl⟩
  | 8,_=>exact⟨3,by decide,rfl⟩
 refine ZiJ (t:=.int n) (by omega) (by rw[Int.toNat_natCast];exact hidx) ?_
 walk_at "zz"
 refine Zcj (n:=n) (a:=fun i=>.int i) (b:=fun i=>.int (Zcr ns (2+i))) (by omega) ?_ (fun t ht=>?_) ?_
 ·walk_at "zz"
  rfl
 ·walk_at "zz"
  exact ZH (Zgz hL (by omega) (by omega)) rfl
 generalize hx:(fun i:Nat=>Zcr ns (2+i))=x
 have sx:∀i,i<n→(x i).natAbs<2 ^ 134:=fun i _=>by rw[←hx];exact ZiR ns _
 rw[show(fun i:Nat=>T.int (Zcr ns (2+i)))=fun i=>T.int (x i)by rw[←hx]]
 walk_at "zz"
 refine ZH (Zwi (x:=x) hL (by decide) (by decide) (by omega)) ?_
 have gd:=Zup ns 14 n x
 have smG:SmG 136 n (Zcy ns 14 n x):=Zvi sx
 have smR:SmR 136 n (ZfQ ns 14 n x):=fun t ht=>⟨ZbS (Zqo (ns:=ns) (k:=14) sx t ht).1 (by decide),ZbS (Zqo (ns:=ns) (k:=14) sx t ht).2 (by decide)⟩
 generalize Zcy ns 14 n x=G at *
 generalize ZfQ ns 14 n x=R at *
 walk_at "zz"
 refine(Zx5 (n:=n) (kk:=8) (by decide) (by decide) hL (by omega)).mono ?_
 rintro _ ⟨c0,rfl,hc⟩
 have bc:=hc.bd (by decide)
 have bx:∀i,i<n→Bd 140 (x i):=fun i hi=>ZbS (sx i hi) (by decide)
 have hv:=Zvr (n:=n) (b:=140) (c:=c0) (x:=x) (by omega) (by decide) bc bx
 have bv:=(ZrI bc bx n (Zz10 n)).mono (show 140+140+n≤285 by omega)
 refine Zci (fun σ'=>σ' 0=some (scr ns)∧σ' 3=some (ZQ n G R)∧∃c,σ' 4=some (ZX n c)∧∀i,i<n+1→Bd 300 (c i)) ?_ ?_
 ·walk_at "zz"
  refine ZH (Zcl (by decide) (by decide) (by decide)) ?_
  walk_at "zz"
  refine⟨fun q=>?_,fun q=>?_⟩
  ·have hs:ZX n c0=.lst (tab (n+1) fun k=>.int (c0 k)):=rfl
   rw[hs]at hv ⊢
   walk_at "zz"
   refine ZH hv ?_
   walk_at "zz"
   refine ZH (Zcl (by decide) (by decide) (by decide)) ?_
   walk_at "zz"
   obtain⟨z0,z1⟩:=Zck ns 6 (show(0:Int)<5 by decide)
   generalize Zbx ns 6 5=pp at *
   refine ZmE (n:=n+1) (f:=fun k=>.int (c0 k)) (by walk_at "zr") (by omega) (by omega) ?_
   rw[show Int.toNat 0=0 from rfl]
   refine⟨by walk_at "zr",by walk_at "zr",fun k=>if k=0 then c0 0-Zaq c0 x n+pp-2 else c0 k,?_,fun i hi=>?_⟩
   ·rw[show(ZX n fun k=>if k=0 then c0 0-Zaq c0 x n+pp-2 else c0 k)=.lst (tab (n+1) fun k=>if k=0 then T.int (c0 0-Zaq c0 x n+pp-2)else .int (c0 k))from congrArg T.lst (Zbi fun k _=>by by_cases z:k=0 <;> simp only[z,if_true,if_false])]
    walk_at "zr"
   ·show Bd 300 (if i=0 then _ else _)
    split
    ·have h1:Bd 286 (pp-2):=(show Bd 3 (pp-2)by unfold Bd;omega).mono (by decide)
     have h2:=((bc 0 (by omega)).mono (show 140≤285 by decide)).sub bv
     rw[show c0 0-Zaq c0 x n+pp-2=c0 0-Zaq c0 x n+(pp-2)by omega]
     exact(h2.add h1).mono (by decide)
    ·exact(bc i hi).mono (by decide)
  ·walk_at "zz"
   exact⟨by walk_at "zr",by walk_at "zr",c0,by walk_at "zr",fun i hi=>(bc i hi).mono (by decide)⟩
 rintro σ1 ⟨e0,e3,c,e4,bc'⟩
 refine ZeN ?_
 refine Zi2 ?_
 have hl:Pk (ZaU (Zd (ZfT (Str.ofString "same")) (Zd (Zr Zcf (Zd (Za 4) Zm)) Zm)) σ1) fun t=>t=smT n c:=by
  unfold ZX at e4
  walk_at "zz"
  rfl
 refine hl.mono ?_
 rintro _ rfl
 walk_at "zz"
 refine ZH (Zcl (by decide) (by decide) (by decide)) ?_
 generalize Zbx ns 1 55=wy at *
 refine Zci (fun σ'=>σ' 0=some (scr ns)∧σ' 4=some (ZX n c)∧σ' 5=some (smT n c)∧σ' 6=some (.int wy)∧∃(G:Nat→Nat→Option Int) (R:Nat→Int×Int),σ' 3=some (ZQ n G R)∧(∀i,i<n+1→G i i=some 0)∧(∀t,t<n→RestOk (R t))∧SmG 137 n G∧SmR 137 n R) ?_ ?_
 ·walk_at "zz"
  refine⟨fun q=>?_,fun q=>?_⟩
  ·walk_at "zz"
   refine(ZuD (B:=136) hL (by decide) (by decide) (by omega) (by decide) gd.2 smR smG).mono ?_
   rintro _ ⟨G2,R2,rfl,d2,r2,g2,s2⟩
   exact⟨by walk_at "zr",by walk_at "zr",by walk_at "zr",by walk_at "zr",G2,R2,ZbA,fun i hi=>by rw[d2 i hi];exact gd.1 i hi,r2,g2,s2⟩
  ·walk_at "zz"
   exact⟨by walk_at "zr",by walk_at "zr",by walk_at "zr",by walk_at "zr",G,R,by walk_at "zr",gd.1,gd.2,fun a b ha hb c e=>ZbS (smG a b ha hb c e) (by decide),fun t ht=>⟨ZbS (smR t ht).1 (by decide),ZbS (smR t ht).2 (by decide)⟩⟩
 clear smG smR gd e0 e3 e4
 rintro σ2 ⟨e0,e4,e5,e6,G1,R1,e3,hd1,ok1,sG1,sR1⟩
 refine Zci (fun σ'=>σ' 4=some (ZX n c)∧σ' 5=some (smT n c)∧∃T0,σ' 3=some T0∧(T0=.none∨∃(G:Nat→Nat→Option Int) (R:Nat→Int×Int),T0=ZQ n G R∧(∀i,i<n+1→G i i=some 0)∧(∀t,t<n→RestOk (R t))∧SmG 137 n G∧SmR 137 n R)) ?_ ?_
 ·walk_at "zz"
  refine⟨fun q=>?_,fun q=>?_⟩
  ·walk_at "zz"
   exact⟨by walk_at "zr",by walk_at "zr",.none,ZbA,.inl rfl⟩
  ·walk_at "zz"
   exact⟨e4,e5,_,e3,.inr ⟨G1,R1,rfl,hd1,ok1,sG1,sR1⟩⟩
 rintro σ3 ⟨f4,f5,T0,f3,hT⟩
 obtain⟨D,F⟩:=Zvw hn bc' hT
 exact ZwM (by omega) f3 f4 f5 F
theorem Zs9(hlen:ns.length≤63)(hL:PyData.layable0 (.list (ns.map .int))=true): ∃H',Zqk [.ref 0] [ns.map V.int]=some (.bool true,H'):=Zug Zvd ns (Zts hL)
end L
end
section
open PySem PySem.W PyProof.Rows
namespace PySem.W.Fast
def tw1454219785156648487:=0
def tw13698048360955963301:=0
def tw8005766506721756608:=0
def tw10667965978278278033:=0
def tw3520363519792060846:=0
def tw12048056826642495367:=0
def tw6684487512316482741:=0
def tw10609323587221475018:=0
def tw5055051069096525434:=0
def tw14048895322960730393:=0
def tw2496939508604703423:=0
def tw374291931482123920:=0
def tw16550838102048051623:=0
def tw3414106826494052011:=0
def tw1944925098504758534:=0
def tw3094701115853657799:=0
def tw16279701975793424917:=0
def tw15213048550514571353:=0
def tw1165732905965986049:=0
def tw6459200953577825518:=0
def tw8181798732573668865:=0
def tw12565002596728077416:=0
def tw8646929664414959583:=0
def tw1880258362356491002:=0
def tw14439765378166140033:=0
def tw13432873828021710899:=0
def tw13884827974113296321:=0
def tw12059592832596718669:=0
def tw10188337973796604112:=0
def tw5488966160659634681:=0
def tw12221415409051222339:=0
def tw3241244739717862871:=0
def tw6951939212644042833:=0
def tw4218939439129018664:=0
def tw5759927347364260171:=0
def tw11973505968982382900:=0
def tw1712973634487312807:=0
def tw10042499479572932358:=0
def tw13305670439411429421:=0
def tw931956834028986255:=0
def tw1157979631877120646:=0
def tw15740581520725410121:=0
def tw16406923672382228973:=0
def tw6108208118871286908:=0
def tw489688042539752907:=0
def tw17545862747986772839:=0
def tw1611551182742943237:=0
def tw5764117369366255280:=0
def tw14987661418082201831:=0
def tw2754692670688779762:=0
def tw1901531775752417231:=0
def tw5266450434754204200:=0
def tw10069975712529536831:=0
def tw2337977823195543630:=0
def tw17698735102306075112:=0
def tw4227517698962585424:=0
def tw1647960591809683682:=0
def tw4185518321428705831:=0
def tw13991396874942911051:=0
def tw12815670308626618822:=0
def tw8667492640987031791:=0
def tw6905212232875527693:=0
def tw10378583025934500588:=0
def tw12674656310777702994:=0
def tw15631275449643306842:=0
def tw3934833063311361131:=0
def tw6999419289813526679:=0
def tw11469360237664420825:=0
def tw7950223703418521501:=0
def tw15261137711255440680:=0
def tw3665838584753200986:=0
def tw18182889222666715495:=0
def tw7894344252036594922:=0
def tw17338234738716814015:=0
def tw9161490523856799436:=0
def tw15226832943710054940:=0
def tw6429450841261186155:=0
def tw3133745999044795564:=0
def tw1061639710858884176:=0
def tw670427922429333600:=0
def tw3302770140995672700:=0
def tw16884622931589843948:=0
def tw11586196018267737339:=0
def tw10728712052571211117:=0
def tw8249347019533418915:=0
def tw3321576952164483024:=0
def tw1173414789623836638:=0
def tw3488647797146898431:=0
def tw3903891618737965568:=0
def tw7834740603555865465:=0
def tw7945405709010385892:=0
def tw12694112234171929671:=0
def tw6147076586173037292:=0
def tw5674458297940323589:=0
def tw16970792351503237766:=0
def tw1620389302784492585:=0
def tw3478894487363246031:=0
def tw9835382159548102362:=0
def tw1833547357909804662:=0
def tw11526203479690249398:=0
end PySem.W.Fast
set_option maxRecDepth 100000 in
set_option maxHeartbeats 8000000 in
open_top head for PySem.Challenge.rw_seer_k45_claims_of_same
end
section
open PySem PySem.W PySem.Calls PyProof.Rows PM
seal PM.J PM.Js PM.JT PM.JA PM.JF PM.JI PM.JI2 PM.JP PM.S1 PM.Ss PM.Sto PM.Rd PM.Nm PM.OpN PM.Op2 PM.Def
namespace L
noncomputable abbrev DD(w:World)(s₀:Shared)(mg mb:Str→Option Value)(f:Addr)(r:Nat)(F:List V→Hp→Option (V×Hp)): Prop:=Def PySem.Challenge.rw_seer_k45_claims_of_same.row.prog w (head.heap_39 w.params) head.view_39 (looseW head.view_39 []) (ExcName.means s₀.heap) mg mb f r F
section
variable {w:World} {s₀:Shared} {mg mb:Str→Option Value}
theorem Zpq: DD w s₀ mg mb 414 1 ZhL:=by
 unfold DD;k_fill
 refine Dof (names:=["_law_script","_law_k","_law_number_here"]) (g:=Zlb) ?_
 exact fun _ _ _ _ _ _ _ c _ _=>(Zx (ZT sL (ZM (ZM (ZM vL vL Za6) jI Za6) jI Zak)) (Zx (Z2 (ZO (Zav (nB c) (jc vL Zp) ZaW) jI Zdr) (ZB (ZT sL (ZM vL (Zw vL (ZM vL (Zav (nB c) (jc vL Zp) ZaW) Zbo)) Zak))) Z5) (ZB (ZL vL))))
theorem law_pick_d: DD w s₀ mg mb 421 2 Zb2:=by
 unfold DD;k_fill
 refine Dof (names:=["_law_script","_law_k","_law_many"]) (g:=ZlR) ?_
 exact fun _ _ _ _ _ _ _ c _ _=>(ZB (ZL (ZM (ZM (ZM (cF c Zpq (jc vL (jc vL Zp))) jI Za6) jI Zbo) vL Zbo)))
theorem Zgc: DD w s₀ mg mb 428 2 Zex:=by
 unfold DD;k_fill
 refine Dof (names:=["_law_script","_law_k","_law_number_here","_law_reach"]) (g:=ZkG) ?_
 exact fun _ _ _ _ _ _ _ c _ _=>(Zx (ZT sL (cF c Zpq (jc vL (jc vL Zp)))) (Zx (ZT sL (Zw (J.list (jc jI (jc jI (jc (ZM jI jI Zn7) (jc (ZM jI jI Zn7) Zp))))) (ZM (ZM (ZM vL jI Za6) jI Zbo) jI Zbo))) (ZB (ZL (ZM (ZM (ZM vL (ZM jI jI Zn7) Za6) (ZM (ZM jI vL Za6) jI Zak) Zbo) vL Zbs)))))
theorem Ztt: DD w s₀ mg mb 435 3 Zle:=by
 unfold DD;k_fill
 refine Dof (names:=["_law_script","_law_k","_law_way"]) (g:=Zld) ?_
 exact fun _ _ _ _ _ _ _ c _ _=>(Zx (ZT sL (cF c law_pick_d (jc vL (jc vL (jc jI Zp))))) (Zx (Z2 (ZO (ZM vL jI Zbo) jI Zco) (ZB (ZL jN)) Z5) (Zx (Z2 (ZO (ZM vL jI Zbo) jI Zco) (ZB (ZL jI)) Z5) (Zx (Z2 (ZO (ZM vL jI Zbo) jI ZaL) (ZB (ZL (ZM vL jI Zc3))) Z5) (ZB (ZL (Zav (nB c) (jc (cF c Zgc (jc vL (jc vL Zp))) Zp) Zd1)))))))
theorem Zew: DD w s₀ mg mb 442 1 ZdM:=by
 unfold DD;k_fill
 refine Dof (names:=["_law_m","_law_r"]) (g:=Zkf) ?_
 exact fun _ _ _ _ _ _ _ c _ _=>(Zx (Z2 (ZO vL jI ZaL) (ZB (ZL (J.tup (jc jI (jc vL Zp))))) Z5) (ZB (ZL (J.tup (jc vL (jc (ZM vL vL Zbo) Zp))))))
theorem Zt0: DD w s₀ mg mb 449 3 ZlU:=by
 unfold DD;k_fill
 refine Dof (names:=["_law_script","_law_k","_law_number_here","_law_way"]) (g:=ZlT) ?_
 exact fun _ _ _ _ _ _ _ c _ _=>(Zx (ZT sL (cF c law_pick_d (jc vL (jc vL (jc jI Zp))))) (Zx (Z2 (ZO (ZM vL jI Zbo) jI Zco) (ZB (ZL (J.tup (jc jI (jc jI Zp))))) Z5) (Zx (Z2 (ZO (ZM vL jI Zbo) jI ZaL) (ZB (ZL (J.tup (jc jI (jc vL Zp))))) Z5) (Zx (Z2 (ZO (ZM vL jI Zbo) jI ZaL) (ZB (ZL (cF c Zew (jc (ZM (ZM vL jI Zc3) jI Zak) (jc vL Zp))))) Z5) (ZB (ZL (cF c Zew (jc (Zav (nB c) (jc (cF c Zgc (jc vL (jc vL Zp))) Zp) Zd1) (jc vL Zp)))))))))
theorem Zt1: DD w s₀ mg mb 454 4 ZlX:=by
 unfold DD;k_fill
 refine Dof (names:=["_law_script","_law_k","_law_boxes","_law_full","_law_size","_law_bounds","_law_i","_law_row","_law_j","_law_top"]) (g:=ZlW) ?_
 exact fun _ _ _ _ _ _ _ c _ _=>(Zx (ZT sL (ZM (J.list (jc jI Zp)) vC Zak)) (Zx (ZT sC (Zav (nB c) (jc vL Zp) ZaW)) (Zx (ZT sL (J.list Zp)) (Zx (Zbk sL (JI.range (nB c) (jc vC Zp)) (Zx (ZT sL (J.list Zp)) (Zx (Zbk sL (JI.range (nB c) (jc vC Zp)) (Zx (ZT sL (cF c Ztt (jc vC (jc (ZM (ZM vC (ZM vL vC Za6) Zak) vL Zak) Zp)))) (Zx (Z2 (ZO vL jN ZbK) (ZB (ZT sL (ZM (ZM (Zw vL vL) (Zw vL vL) Zbs) vL Zak))) Z5) (ZB (Zd2 (J.append vL vL)))))) (Zx (S1.put jI vL vL) (ZB (Zd2 (J.append vL vL))))))) (ZB (ZL (J.tup (jc vL (jc (by refine cO ?_ ?_ ?_;(exact(JI.range (nB c) (jc (ZM vC jI Zbs) Zp)));(exact fun _ _=>(cF (Zch c) Zt0 (jc vD (jc (ZM (ZM vD (ZM vD vD Za6) Zak) vO Zak) (jc (Zw vD vO) Zp)))));(exact fun _ _=>JF.nil)) Zp)))))))))
theorem ZuF: DD w s₀ mg mb 537 3 ZmY:=by
 unfold DD;k_fill
 refine Dof (names:=["_law_script","_law_k","_law_many","_law_one","_law_way","_law_at","_law_to","_law_i"]) (g:=ZmX) ?_
 exact fun _ _ _ _ _ _ _ c _ _=>(Zx (ZT sL (ZM (J.list (jc (cF c Zgc (jc vL (jc vL Zp))) Zp)) (ZM (J.list (jc jI Zp)) vL Za6) Zak)) (Zx (ZT sL (cF c law_pick_d (jc vL (jc vL (jc jI Zp))))) (Zx (Z2 (ZaZ (Zbe (ZO vL jI ZaL) (Zbe (ZO vL jI ZaL) ZcM))) (ZB (ZL vL)) Z5) (Zx (ZT sL (ZM jI (cF c law_pick_d (jc vL (jc (ZM vL jI Zak) (jc vL Zp)))) Zak)) (Zx (Z2 (ZO vL jI ZaL) (ZB (S1.put (ZM (cF c law_pick_d (jc vL (jc (ZM vL jI Zak) (jc jI Zp)))) jI Zbs) vL vL)) Z5) (Zx (Z2 (ZaZ (Zbe (ZO vL jI ZaL) (Zbe (ZO vL jI ZaL) ZcM))) (Zx (ZT sL (ZM jI (cF c law_pick_d (jc vL (jc (ZM vL jI Zak) (jc vL Zp)))) Zak)) (Zx (S1.put jI vL vL) (ZB (S1.put (ZM (Zw vL vL) jI Zbs) vL vL)))) Z5) (Zx (Z2 (ZO vL jI ZaL) (ZB (Zbk sL (JI.range (nB c) (jc vL Zp)) (ZB (S1.put (ZM (cF c law_pick_d (jc vL (jc (ZM (ZM vL jI Zak) vL Zak) (jc jI Zp)))) jI Zbs) vL (ZM vL jI Zak))))) Z5) (Zx (Z2 (ZO vL jI ZaL) (ZB (Zbk sL (JI.range (nB c) (jc vL Zp)) (ZB (S1.put (ZM (cF c law_pick_d (jc vL (jc (ZM (ZM vL jI Zak) vL Zak) (jc jI Zp)))) jI Zbs) vL (ZM vL jI Zak))))) Z5) (ZB (ZL vL))))))))))
theorem ZpM: DD w s₀ mg mb 459 1 Zh4:=by
 unfold DD;k_fill
 refine Dof (names:=["_law_told_here"]) (g:=ZlZ) ?_
 exact fun _ _ _ _ _ _ _ c _ _=>(Zx (Z2 (ZO vL jN Zbg) (ZB (ZL jN)) Z5) (ZB (ZL (J.tup (jc (by refine cO ?_ ?_ ?_;(exact(JI.seq (Zw vL jI)));(exact fun _ _=>(Zc2 (nB (Zch c)) (jc vO Zp) Zdj));(exact fun _ _=>JF.nil)) (jc (Zc2 (nB c) (jc (Zw vL jI) Zp) Zdj) Zp))))))
theorem Zta: DD w s₀ mg mb 464 3 ZkJ:=by
 unfold DD;k_fill
 refine Dof (names:=["_law_script","_law_k","_law_told_here","_law_bounds","_law_rests","_law_i","_law_j","_law_way","_law_t","_law_one"]) (g:=ZkI) ?_
 exact fun _ _ _ _ _ _ _ c _ _=>(Zx (by refine sO sL ?_ ?_ ?_;(exact(JI.seq (Zw vL jI)));(exact fun _ _=>(Zc2 (nB (Zch c)) (jc vO Zp) Zdj));(exact fun _ _=>JF.nil)) (Zx (ZT sL (Zc2 (nB c) (jc (Zw vL jI) Zp) Zdj)) (Zx (ZT sL (cF c law_pick_d (jc vL (jc vL (jc (Zav (nB c) (jc vL Zp) ZaW) Zp))))) (Zx (ZT sL (cF c law_pick_d (jc vL (jc (ZM vL jI Zak) (jc (Zav (nB c) (jc vL Zp) ZaW) Zp))))) (Zx (ZT sL (cF c law_pick_d (jc vL (jc (ZM vL jI Zak) (jc jI Zp))))) (Zx (Z2 (ZaZ (Zaz (ZO vL jI Zco) (Zaz (ZO vL vL ZbN) (Zaz (ZO (Zw (Zw vL vL) vL) jN Zbg) ZbW)))) (ZB (S1.put (cF c Zgc (jc vL (jc (ZM vL jI Zak) Zp))) (Zw vL vL) vL)) (ZB (Z2 (ZaZ (Zaz (ZO vL jI Zco) (Zaz (ZO vL vL ZbN) ZbW))) (ZB (S1.put (ZM (ZM (Zw (Zw vL vL) vL) jI Zbs) (cF c law_pick_d (jc vL (jc (ZM vL jI Zak) (jc jI Zp)))) Zbs) (Zw vL vL) vL)) (ZB (Z2 (ZO (Zav (nB c) (jc vL Zp) ZaW) jI Zdr) (Zx (ZT sL (cF c law_pick_d (jc vL (jc vL (jc (Zav (nB c) (jc vL Zp) ZaW) Zp))))) (Zx (ZT sL (Zw vL vL)) (ZB (S1.put (cF c Zew (jc (ZM (Zw vL jI) (ZM jI (ZM vL jI Zbo) Zak) Za6) (jc (ZM (Zw vL jI) (cF c law_pick_d (jc vL (jc (ZM vL jI Zak) (jc jI Zp)))) Zak) Zp))) vL vL)))) Z5))))) (ZB (ZL (J.tup (jc vL (jc vL Zp)))))))))))
theorem ZqE: ∀n:Nat,Def PySem.Challenge.rw_seer_k45_claims_of_same.row.prog w (head.heap_39 w.params) head.view_39 (looseW head.view_39 []) (ExcName.means s₀.heap) mg mb 19 (n) (Zfx n)
 | 0=>Zvb
 | n+1=>by
  have ih:=ZqE n
  k_fill
  refine' Zrl (names:=["thing"]) (n:=1) (room:=n) (g:=ZnS (Zfx n)) (ho:=?ho) (hcd:=?hcd) (nd:=by decide) (hn:=by decide) (hbind:=?hb) (hkinds:=?hk) (hone:=?h1) (hco:=?z1) (hgen:=?z2) (hk:=?z3) (hbody:=?hbody)
  case ho=>k_is
  case z1=>rfl
  case z2=>rfl
  case z3=>rfl
  case hcd=>k_is
  case hb=>intro s xs hx;match xs,hx with | [x0],_=>exact BindsTo.of_eq rfl
  case hk=>decide
  case h1=>decide +kernel
  case hbody=>
   intro dp un gd L outer h₀ hu clr hd1 hu1
   exact(Zx (Z2 (Zbn (ZdV (nB clr) (nB clr) (.inr (.inr (.inl rfl))) vL)) (ZB (ZL (by refine cO ?_ ?_ ?_;(exact(JI.seq vL));(exact fun _ _=>(cF (Zch clr) ih (jc vO Zp)));(exact fun _ _=>JF.nil)))) Z5) (Zx (Z2 (Zbn (ZdV (nB clr) (nB clr) (.inr (.inr (.inr rfl))) vL)) (ZB (ZL (Zc2 (nB clr) (jc (by refine cO ?_ ?_ ?_;(exact(JI.seq vL));(exact fun _ _=>(cF (Zch clr) ih (jc vO Zp)));(exact fun _ _=>JF.nil)) Zp) Zud))) Z5) (ZB (ZL vL))))
theorem Zn6: Def PySem.Challenge.rw_seer_k45_claims_of_same.row.prog w (head.heap_39 w.params) head.view_39 (looseW head.view_39 []) (ExcName.means s₀.heap) mg mb 19 9 ZgO:=ZqE 9
theorem Zt2: DD w s₀ mg mb 209 1 Zmj:=by
 unfold DD;k_fill
 refine Dof (names:=["one","other"]) (g:=Zmi) ?_
 exact fun _ _ _ _ _ _ _ c _ _=>(ZB (ZL (by refine cT ?_ ?_;(exact(JI2.zip (nB c) vL vL));(exact fun _ _=>(ZM vO vO Zak)))))
theorem ZeB: DD w s₀ mg mb 214 1 ZdQ:=by
 unfold DD;k_fill
 refine Dof (names:=["one","k"]) (g:=Zly) ?_
 exact fun _ _ _ _ _ _ _ c _ _=>(ZB (ZL (by refine cO ?_ ?_ ?_;(exact(JI.seq vL));(exact fun _ _=>(ZM vO vD Za6));(exact fun _ _=>JF.nil))))
theorem Zmz: DD w s₀ mg mb 221 2 Zgm:=by
 unfold DD;k_fill
 refine Dof (names:=["one","other"]) (g:=Zml) ?_
 exact fun _ _ _ _ _ _ _ c _ _=>(ZB (ZL (cF c Zt2 (jc vL (jc (cF c ZeB (jc vL (jc (ZbH jI ZbB) Zp))) Zp)))))
theorem Zpr: DD w s₀ mg mb 93 1 ZhN:=by
 unfold DD;k_fill
 refine Dof (names:=["one","other"]) (g:=Zlg) ?_
 exact fun _ _ _ _ _ _ _ c _ _=>(ZB (ZL (Zx8 (ZcS vL jN Zbg) (Zg3 (ZcS vL jN ZbK) (ZcS vL vL Zji)))))
theorem ZqF: DD w s₀ mg mb 100 2 Ziv:=by
 unfold DD;k_fill
 refine Dof (names:=["one","other"]) (g:=Znr) ?_
 exact fun _ _ _ _ _ _ _ c _ _=>(ZB (ZL (ZeR (Zbn (cF c Zpr (jc vL (jc vL Zp)))) vL vL)))
theorem ZmA: DD w s₀ mg mb 107 3 Zgk:=by
 unfold DD;k_fill
 refine Dof (names:=["bounds","i","j","bound"]) (g:=Zia) ?_
 exact fun _ _ _ _ _ _ _ c _ _=>(ZB (S1.put (cF c ZqF (jc (Zw (Zw vL vL) vL) (jc vL Zp))) (Zw vL vL) vL))
theorem Zit: DD w s₀ mg mb 204 1 Zfs:=by
 unfold DD;k_fill
 refine Dof (names:=["i","n"]) (g:=Zm0) ?_
 exact fun _ _ _ _ _ _ _ c _ _=>(ZB (ZL (by refine cO ?_ ?_ ?_;(exact(JI.range (nB c) (jc (ZM vL jI Zak) Zp)));(exact fun _ _=>(ZeR (ZaZ (Zaz (ZO vD jI Zdr) (Zaz (ZO vO vD ZaL) ZbW))) jI jI));(exact fun _ _=>JF.nil))))
theorem Zfm: DD w s₀ mg mb 65 1 Zef:=by
 unfold DD;k_fill
 refine Dof (names:=["one","other"]) (g:=Zl4) ?_
 exact fun _ _ _ _ _ _ _ c _ _=>(Zx (Z2 (ZaZ (Zbe (ZO vL jN Zbg) (Zbe (ZO vL jN Zbg) ZcM))) (ZB (ZL jN)) Z5) (ZB (ZL (ZM vL vL Zak))))
theorem Zsc: DD w s₀ mg mb 311 1 ZjO:=by
 unfold DD;k_fill
 refine Dof (names:=["one"]) (g:=ZjN) ?_
 exact fun _ _ _ _ _ _ _ c _ _=>(ZB (ZL (ZcS (Zav (nB c) (jc (by refine cO ?_ ?_ ?_;(exact(JI.seq (ZgT vL jI)));(exact fun _ _=>vO);(exact fun _ _=>JF.one (ZO vO jI ZbN))) Zp) Zuk) (J.list (jc (ZbH jI ZbB) (jc jI Zp))) ZaL)))
theorem Zsu: DD w s₀ mg mb 58 2 Zj3:=by
 unfold DD;k_fill
 refine Dof (names:=["one","other"]) (g:=Zj2) ?_
 exact fun _ _ _ _ _ _ _ c _ _=>(ZB (ZL (J.tup (jc (cF c Zfm (jc (Zw vL jI) (jc (Zw vL jI) Zp))) (jc (cF c Zfm (jc (Zw vL jI) (jc (Zw vL jI) Zp))) Zp)))))
theorem Zh0: DD w s₀ mg mb 79 1 Zfd:=by
 unfold DD;k_fill
 refine Dof (names:=["end","k"]) (g:=Zlr) ?_
 exact fun _ _ _ _ _ _ _ c _ _=>(Zx (Z2 (ZO vL jN Zbg) (ZB (ZL jN)) Z5) (ZB (ZL (ZM vL vL Za6))))
theorem Zsd: DD w s₀ mg mb 72 2 ZjI:=by
 unfold DD;k_fill
 refine Dof (names:=["one","k","lo","hi"]) (g:=ZjH) ?_
 exact fun _ _ _ _ _ _ _ c _ _=>(Zx (Z2 (ZO vL jI ZaL) (ZB (ZL (J.tup (jc jI (jc jI Zp))))) Z5) (Zx (ZT sL (cF c Zh0 (jc (Zw vL jI) (jc vL Zp)))) (Zx (ZT sL (cF c Zh0 (jc (Zw vL jI) (jc vL Zp)))) (Zx (Z2 (ZO vL jI Zco) (ZB (ZL (J.tup (jc vL (jc vL Zp))))) Z5) (ZB (ZL (J.tup (jc vL (jc vL Zp)))))))))
theorem ZsL: DD w s₀ mg mb 228 3 Zkk:=by
 unfold DD;k_fill
 refine Dof (names:=["one","stretches","whole","k","part"]) (g:=Zkj) ?_
 exact fun _ _ _ _ _ _ _ c _ _=>(Zx (ZT sL (J.tup (jc (Zw vL jI) (jc (Zw vL jI) Zp)))) (Zx (ZiB sL sL (JI2.zip (nB c) (ZgT vL jI) vL) (ZB (ZT sL (cF c Zsu (jc vL (jc (cF c Zsd (jc vL (jc vL Zp))) Zp)))))) (ZB (ZL vL))))
theorem Zsv: DD w s₀ mg mb 299 2 Zka:=by
 unfold DD;k_fill
 refine Dof (names:=["told","bounds"]) (g:=Zj9) ?_
 exact fun _ _ _ _ _ _ _ c _ _=>(Zx (ZT sC (Zw vL jI)) (ZB (ZL (by refine cO ?_ ?_ ?_;(exact(JI.range (nB c) (jc jI (jc (Zav (nB c) (jc vC Zp) ZaW) Zp))));(exact fun _ _=>(J.tup (jc (cF (Zch c) Zh0 (jc (Zw (Zw vD jI) vO) (jc (ZbH jI ZbB) Zp))) (jc (Zw (Zw vD vO) jI) Zp))));(exact fun _ _=>JF.nil)))))
theorem ZmB: DD w s₀ mg mb 306 4 Zgl:=by
 unfold DD;k_fill
 refine Dof (names:=["told","one"]) (g:=Zmf) ?_
 exact fun _ _ _ _ _ _ _ c _ _=>(Zx (Z2 (Zbn (cF c Zsc (jc vL Zp))) (ZB (ZL (cF c Zfm (jc (Zw (Zw (Zw vL jI) (J.index vL jI jI)) (J.index vL (ZbH jI ZbB) jI)) (jc (Zw vL jI) Zp))))) Z5) (ZB (ZL (Zw (cF c ZsL (jc vL (jc (cF c Zsv (jc vL Zp)) Zp))) jI))))
theorem Zpa: DD w s₀ mg mb 346 5 ZhF:=by
 unfold DD;k_fill
 refine Dof (names:=["told","part","one","top"]) (g:=ZkT) ?_
 exact fun _ _ _ _ _ _ _ c _ _=>(ZB (ZL (cF c Zfm (jc (cF c ZmB (jc vL (jc (cF c Zmz (jc vL (jc vL Zp))) Zp))) (jc vL Zp)))))
theorem ZsM: DD w s₀ mg mb 332 6 Zkv:=by
 unfold DD;k_fill
 refine Dof (names:=["bounds","told","one","top","n","i","j","apart"]) (g:=Zhx) ?_
 exact fun _ _ _ _ _ _ _ c _ _=>(Zx (ZT sL (Zav (nB c) (jc (Zw vL jI) Zp) ZaW)) (ZB (Zbk sL (JI.range (nB c) (jc (ZM vL jI Zak) Zp)) (ZB (Zbk sL (JI.range (nB c) (jc (ZM vL jI Zak) Zp)) (Zx (ZT sL (cF c Zmz (jc (cF c Zit (jc vL (jc vL Zp))) (jc (cF c Zit (jc vL (jc vL Zp))) Zp)))) (ZB (Zd2 (cF c ZmA (jc vL (jc vL (jc vL (jc (cF c Zpa (jc vL (jc vL (jc vL (jc vL Zp))))) Zp)))))))))))))
theorem Zpb: DD w s₀ mg mb 86 1 ZhG:=by
 unfold DD;k_fill
 refine Dof (names:=["end","k"]) (g:=ZkV) ?_
 exact fun _ _ _ _ _ _ _ c _ _=>(Zx (Z2 (ZO vL jN Zbg) (ZB (ZL jN)) Z5) (ZB (ZL (ZM vL vL Zc3))))
theorem ZsN: DD w s₀ mg mb 339 6 Zkx:=by
 unfold DD;k_fill
 refine Dof (names:=["bounds","told","one","top","n","i","k","bound"]) (g:=Zhz) ?_
 exact fun _ _ _ _ _ _ _ c _ _=>(Zx (ZT sL (Zav (nB c) (jc (Zw vL jI) Zp) ZaW)) (ZB (Zbk sL (JI.range (nB c) (jc jI (jc (ZM vL jI Zak) Zp))) (Zx (ZT sL (Zw vL vL)) (Zx (ZT sL (cF c Zpa (jc vL (jc (cF c ZeB (jc (cF c Zit (jc vL (jc vL Zp))) (jc vL Zp))) (jc vL (jc vL Zp)))))) (Zx (Z2 (ZO vL jI Zdr) (ZB (Zd2 (cF c ZmA (jc vL (jc vL (jc jI (jc (cF c Zpb (jc vL (jc vL Zp))) Zp))))))) Z5) (ZB (Z2 (ZO vL jI Zco) (ZB (Zd2 (cF c ZmA (jc vL (jc jI (jc vL (jc (cF c Zpb (jc vL (jc (ZbH vL ZbB) Zp))) Zp))))))) Z5))))))))
theorem Zo3: DD w s₀ mg mb 268 1 Ze7:=by
 unfold DD;k_fill
 refine Dof (names:=["rests"]) (g:=Zkm) ?_
 exact fun _ _ _ _ _ _ _ c _ _=>(ZB (ZL (ZM (J.list (jc (J.tup (jc jI (jc jI Zp))) Zp)) vL Zak)))
theorem Znk: DD w s₀ mg mb 136 1 Zgv:=by
 unfold DD;k_fill
 refine Dof (names:=["one","other","left","right","over"]) (g:=ZmK) ?_
 exact fun _ _ _ _ _ _ _ c _ _=>(Zx (ZT sL (Zav (nB c) (jc vL Zp) Zd1)) (Zx (ZT sL (Zav (nB c) (jc vL Zp) Zd1)) (Zx (ZgD 1000000 (ZO vL jI ZbN) (Zx (ZT sL (ZM vL vL Zbo)) (Zx (ZT sL vL) (ZB (ZT sL vL))))) (ZB (ZL vL)))))
theorem Zjg: DD w s₀ mg mb 150 1 ZfJ:=by
 unfold DD;k_fill
 refine Dof (names:=["m","r"]) (g:=Zoh) ?_
 exact fun _ _ _ _ _ _ _ c _ _=>(Zx (Z2 (ZO vL jI Zco) (ZB (Zx1)) Z5) (Zx (Z2 (ZO vL jI ZaL) (ZB (ZL (J.tup (jc jI (jc vL Zp))))) Z5) (ZB (ZL (J.tup (jc vL (jc (ZM vL vL Zbo) Zp)))))))
theorem ZuG: DD w s₀ mg mb 143 1 ZmO:=by
 unfold DD;k_fill
 refine Dof (names:=["one","by","left","right","left_turns","right_turns","part","over","over_turns"]) (g:=ZmN) ?_
 exact fun _ _ _ _ _ _ _ c _ _=>(Zx (ZT sL (ZM vL vL Zbo)) (Zx (ZT sL vL) (Zx (ZT sL jI) (Zx (ZT sL jI) (Zx (ZgD 1000000 (ZO vL jI ZbN) (Zx (ZT sL (ZM vL vL Zc3)) (Zx (ZT sL (ZM vL (ZM vL vL Za6) Zbs)) (Zx (ZT sL (ZM vL (ZM vL vL Za6) Zbs)) (Zx (ZT sL vL) (Zx (ZT sL vL) (Zx (ZT sL vL) (ZB (ZT sL vL))))))))) (ZB (ZL (ZM vL vL Zbo))))))))
theorem Zgq: DD w s₀ mg mb 157 1 ZeC:=by
 unfold DD;k_fill
 refine Dof (names:=["one","number"]) (g:=Zl0) ?_
 exact fun _ _ _ _ _ _ _ c _ _=>(Zx (Z2 (ZO (Zw vL jI) jI ZaL) (ZB (ZL (ZcS vL (Zw vL jI) ZaL))) Z5) (ZB (ZL (ZcS (ZM vL (Zw vL jI) Zbo) (Zw vL jI) ZaL))))
theorem ZpN: DD w s₀ mg mb 171 2 Zh6:=by
 unfold DD;k_fill
 refine Dof (names:=["one","other","common","apart","width","turns"]) (g:=Zl2) ?_
 exact fun _ _ _ _ _ _ _ c _ _=>(Zx (Z2 (ZO (Zw vL jI) jI ZaL) (ZB (ZL (ZeR (Zbn (cF c Zgq (jc vL (jc (Zw vL jI) Zp)))) vL jN))) Z5) (Zx (Z2 (ZO (Zw vL jI) jI ZaL) (ZB (ZL (ZeR (Zbn (cF c Zgq (jc vL (jc (Zw vL jI) Zp)))) vL jN))) Z5) (Zx (ZT sL (cF c Znk (jc (Zw vL jI) (jc (Zw vL jI) Zp)))) (Zx (ZT sL (ZM (Zw vL jI) (Zw vL jI) Zbs)) (Zx (Z2 (ZO (ZM vL vL Zbo) jI ZbN) (ZB (ZL jN)) Z5) (Zx (ZT sL (ZM (Zw vL jI) vL Zc3)) (Zx (ZT sL (ZM (ZM vL vL Zc3) (cF c ZuG (jc (ZM (Zw vL jI) vL Zc3) (jc vL Zp))) Za6)) (ZB (ZL (cF c Zjg (jc (ZM (Zw vL jI) vL Za6) (jc (ZM (Zw vL jI) (ZM (Zw vL jI) vL Za6) Zak) Zp))))))))))))
theorem ZlN: DD w s₀ mg mb 178 2 Zgf:=by
 unfold DD;k_fill
 refine Dof (names:=["one","other"]) (g:=Zli) ?_
 exact fun _ _ _ _ _ _ _ c _ _=>(ZB (ZL (cF c Zjg (jc (cF c Znk (jc (Zw vL jI) (jc (Zw vL jI) Zp))) (jc (ZM (Zw vL jI) (Zw vL jI) Zak) Zp)))))
theorem Zsw: DD w s₀ mg mb 275 3 ZfZ:=by
 unfold DD;k_fill
 refine Dof (names:=["bounds","rests","i","met","j","other"]) (g:=Zj5) ?_
 exact fun _ _ _ _ _ _ _ c _ _=>(Zx (ZT sL (Zw vL vL)) (Zx (ZiB sL sL (Zu3 (nB c) vL) (ZB (Z2 (ZaZ (Zaz (ZO vL jN ZbK) (Zaz (ZO (cF c Zfm (jc (Zw (Zw vL vL) vL) (jc (Zw (Zw vL vL) vL) Zp))) jI ZaL) ZbW))) (ZB (ZT sL (cF c ZpN (jc vL (jc (cF c ZlN (jc vL (jc (J.tup (jc jI (jc (Zw (Zw vL vL) vL) Zp))) Zp))) Zp))))) Z5))) (ZB (ZL vL))))
theorem ZsO: DD w s₀ mg mb 261 4 Zeb:=by
 unfold DD;k_fill
 refine Dof (names:=["told","rests","met"]) (g:=Zf1) ?_
 exact fun _ _ _ _ _ _ _ c _ _=>(Zx (Z2 (ZO vC jN Zbg) (ZB (ZL jN)) Z5) (Zx (ZT sC (cF c Zo3 (jc (Zw vC jI) Zp))) (Zx (by refine sO sL ?_ ?_ ?_;(exact(JI.range (nB c) (jc jI (jc (Zav (nB c) (jc vC Zp) ZaW) Zp))));(exact fun _ _=>(cF (Zch c) Zsw (jc (Zw vD jI) (jc vD (jc vO Zp)))));(exact fun _ _=>JF.nil)) (Zx (Z2 (ZO jN vL ZfO) (ZB (ZL jN)) Z5) (ZB (ZL (J.tup (jc (Zw vC jI) (jc vL Zp)))))))))
theorem Zse: DD w s₀ mg mb 124 3 ZjF:=by
 unfold DD;k_fill
 refine Dof (names:=["row","there","further"]) (g:=ZjE) ?_
 exact fun _ _ _ _ _ _ _ c _ _=>(ZB (ZL (by refine cT ?_ ?_;(exact(JI2.zip (nB c) vL vL));(exact fun _ _=>(cF (Zch c) ZqF (jc vO (jc (cF (Zch c) Zfm (jc vD (jc vO Zp))) Zp)))))))
theorem Ztu: DD w s₀ mg mb 119 4 Zlm:=by
 unfold DD;k_fill
 refine Dof (names:=["bounds","mid"]) (g:=Zll) ?_
 exact fun _ _ _ _ _ _ _ c _ _=>(ZB (ZL (by refine cO ?_ ?_ ?_;(exact(JI.seq vC));(exact fun _ _=>(cF (Zch c) Zse (jc vO (jc (Zw vO vD) (jc (Zw vD vD) Zp)))));(exact fun _ _=>JF.nil))))
theorem Zsx: DD w s₀ mg mb 129 1 Zj0:=by
 unfold DD;k_fill
 refine Dof (names:=["bounds"]) (g:=ZjZ) ?_
 exact fun _ _ _ _ _ _ _ c _ _=>(ZB (ZL (Zav (nB c) (jc (by refine cO ?_ ?_ ?_;(exact(JI.range (nB c) (jc (Zav (nB c) (jc vC Zp) ZaW) Zp)));(exact fun _ _=>(ZcS (Zw (Zw vD vO) vO) jI Zco));(exact fun _ _=>JF.nil)) Zp) ZwU)))
theorem Zvx: DD w s₀ mg mb 114 5 Zfw:=by
 unfold DD;k_fill
 refine Dof (names:=["bounds","near","mid"]) (g:=Znt) ?_
 exact fun _ _ _ _ _ _ _ c _ _=>(Zx (ZT sL vL) (Zx (Zbk sL (JI.range (nB c) (jc (Zav (nB c) (jc vL Zp) ZaW) Zp)) (Zx (ZT sL (cF c Ztu (jc vL (jc vL Zp)))) (ZB (Z2 (Zbn (cF c Zsx (jc vL Zp))) (ZB (ZL jN)) Z5)))) (ZB (ZL vL))))
theorem ZxJ: DD w s₀ mg mb 256 6 Zem:=by
 unfold DD;k_fill
 refine Dof (names:=["told","bounds"]) (g:=Zi9) ?_
 exact fun _ _ _ _ _ _ _ c _ _=>(Zx (Z2 (ZO vL jN Zbg) (ZB (ZL jN)) Z5) (Zx (ZT sL (cF c Zvx (jc (Zw vL jI) Zp))) (Zx (Z2 (ZO vL jN Zbg) (ZB (ZL jN)) Z5) (ZB (ZL (J.tup (jc vL (jc (Zw vL jI) Zp))))))))
theorem ZrL: DD w s₀ mg mb 249 7 ZfK:=by
 unfold DD;k_fill
 refine Dof (names:=["told"]) (g:=Zoj) ?_
 exact fun _ _ _ _ _ _ _ c _ _=>(ZB (ZL (cF c ZsO (jc (cF c ZxJ (jc vL Zp)) Zp))))
theorem Ztb: DD w s₀ mg mb 199 1 ZkP:=by
 unfold DD;k_fill
 refine Dof (names:=["one","top"]) (g:=ZkO) ?_
 exact fun _ _ _ _ _ _ _ c _ _=>(Zx (Z2 (ZO (Zw vL jI) jI ZaL) (ZB (ZL (ZeR (ZO (Zw vL jI) vL Zji) (Zw vL jI) jN))) Z5) (ZB (ZL (ZM vL (ZM (ZM vL (Zw vL jI) Zbs) (Zw vL jI) Zbo) Zbs))))
theorem Zsf: DD w s₀ mg mb 294 2 ZjL:=by
 unfold DD;k_fill
 refine Dof (names:=["bound","left"]) (g:=ZjK) ?_
 exact fun _ _ _ _ _ _ _ c _ _=>(Zx (Z2 (ZO vL jN ZbK) (ZB (ZL (cF c Ztb (jc vL (jc vL Zp))))) Z5) (Zx (Z2 (ZO (Zw vL jI) jI ZaL) (ZB (ZL (Zw vL jI))) Z5) (ZB (ZL jN))))
theorem Zk9: DD w s₀ mg mb 185 2 Zf7:=by
 unfold DD;k_fill
 refine Dof (names:=["one","k"]) (g:=ZkL) ?_
 exact fun _ _ _ _ _ _ _ c _ _=>(ZB (ZL (cF c Zjg (jc (ZM (Zw vL jI) (Zav (nB c) (jc vL Zp) Zd1) Za6) (jc (ZM (Zw vL jI) vL Za6) Zp)))))
theorem ZsP: DD w s₀ mg mb 287 3 Zkq:=by
 unfold DD;k_fill
 refine Dof (names:=["row","left","rests","new","bound","other","low"]) (g:=Zkp) ?_
 exact fun _ _ _ _ _ _ _ c _ _=>(Zx (ZT sL (J.list Zp)) (Zx (ZiB sL sL (JI2.zip (nB c) vL vL) (Zx (ZT sL (cF c Zsf (jc vL (jc (cF c ZlN (jc vL (jc (cF c Zk9 (jc vL (jc (ZbH jI ZbB) Zp))) Zp))) Zp)))) (Zx (Z2 (ZaZ (Zaz (ZO vL jN Zbg) (Zaz (ZO vL jN ZbK) ZbW))) (ZB (ZL jN)) Z5) (ZB (Zd2 (J.append vL vL)))))) (ZB (ZL vL))))
theorem ZuH: DD w s₀ mg mb 280 4 ZmU:=by
 unfold DD;k_fill
 refine Dof (names:=["told","rests","bounds"]) (g:=ZmT) ?_
 exact fun _ _ _ _ _ _ _ c _ _=>(Zx (Z2 (ZO vL jN Zbg) (ZB (ZL jN)) Z5) (Zx (ZT sC (cF c Zo3 (jc (Zw vL jI) Zp))) (Zx (by refine sT sL ?_ ?_;(exact(JI2.zip (nB c) (Zw vL jI) vC));(exact fun _ _=>(cF (Zch c) ZsP (jc vO (jc vO (jc vD Zp)))))) (Zx (Z2 (ZO jN vL ZfO) (ZB (ZL jN)) Z5) (ZB (ZL (J.tup (jc vL (jc (Zw vL jI) Zp)))))))))
theorem Zrj: DD w s₀ mg mb 242 8 ZiN:=by
 unfold DD;k_fill
 refine Dof (names:=["told"]) (g:=ZnQ) ?_
 exact fun _ _ _ _ _ _ _ c _ _=>(ZB (ZL (cF c ZrL (jc (cF c ZuH (jc (cF c ZrL (jc vL Zp)) Zp)) Zp))))
theorem ZuI: DD w s₀ mg mb 51 1 ZmR:=by
 unfold DD;k_fill
 refine Dof (names:=["lo","hi"]) (g:=ZmQ) ?_
 exact fun _ _ _ _ _ _ _ c _ _=>(ZB (ZL (Zxw (ZcS vL jN ZbK) (Zg3 (ZcS vL jN ZbK) (ZcS vL vL Zdr)))))
theorem ZwN: DD w s₀ mg mb 318 5 ZnV:=by
 unfold DD;k_fill
 refine Dof (names:=["told","one"]) (g:=ZnU) ?_
 exact fun _ _ _ _ _ _ _ c _ _=>(ZB (ZL (cF c Zh0 (jc (cF c ZmB (jc vL (jc (cF c ZeB (jc vL (jc (ZbH jI ZbB) Zp))) Zp))) (jc (ZbH jI ZbB) Zp)))))
theorem ZgC: DD w s₀ mg mb 325 10 ZeG:=by
 unfold DD;k_fill
 refine Dof (names:=["told","one","top","bounds"]) (g:=Zm2) ?_
 exact fun _ _ _ _ _ _ _ c _ _=>(Zx (Z2 (ZaZ (Zbe (ZO vL jN Zbg) (Zbe (Zbn (cF c ZuI (jc (cF c ZwN (jc vL (jc vL Zp))) (jc vL Zp)))) ZcM))) (ZB (ZL jN)) Z5) (Zx (ZT sL (cF c Zn6 (jc (Zw vL jI) Zp))) (Zx (Zd2 (cF c ZsM (jc vL (jc vL (jc vL (jc vL Zp)))))) (Zx (Zd2 (cF c ZsN (jc vL (jc vL (jc vL (jc vL Zp)))))) (ZB (ZL (cF c Zrj (jc (J.tup (jc vL (jc (Zw vL jI) Zp))) Zp))))))))
theorem Ztc: DD w s₀ mg mb 360 11 ZkY:=by
 unfold DD;k_fill
 refine Dof (names:=["told","one","truth"]) (g:=ZkX) ?_
 exact fun _ _ _ _ _ _ _ c _ _=>(Zx (Z2 (Zbn vL) (ZB (ZL (cF c ZgC (jc vL (jc vL (jc (ZbH jI ZbB) Zp)))))) Z5) (ZB (ZL (cF c ZgC (jc vL (jc (cF c ZeB (jc vL (jc (ZbH jI ZbB) Zp))) (jc jI Zp)))))))
theorem ZoR: DD w s₀ mg mb 192 2 Zhm:=by
 unfold DD;k_fill
 refine Dof (names:=["one","k"]) (g:=ZjQ) ?_
 exact fun _ _ _ _ _ _ _ c _ _=>(ZB (ZL (cF c Zjg (jc (cF c Znk (jc (Zw vL jI) (jc vL Zp))) (jc (Zw vL jI) Zp)))))
theorem Zih: DD w s₀ mg mb 235 3 Zfg:=by
 unfold DD;k_fill
 refine Dof (names:=["one","rests","whole","k","part"]) (g:=Zl9) ?_
 exact fun _ _ _ _ _ _ _ c _ _=>(Zx (ZT sL (J.tup (jc jI (jc (Zw vL jI) Zp)))) (Zx (ZiB sL sL (JI2.zip (nB c) (ZgT vL jI) vL) (ZB (ZT sL (cF c ZlN (jc vL (jc (cF c Zk9 (jc vL (jc vL Zp))) Zp)))))) (ZB (ZL vL))))
theorem ZsQ: DD w s₀ mg mb 407 4 ZkA:=by
 unfold DD;k_fill
 refine Dof (names:=["rests","one","d","i","k","left","others"]) (g:=Zkz) ?_
 exact fun _ _ _ _ _ _ _ c _ _=>(Zx (ZT sL (Zw vL vL)) (Zx (ZT sL (Zw vL (ZM vL jI Zbs))) (Zx (Z2 (ZO (Zav (nB c) (jc vL Zp) Zd1) jI ZbN) (ZB (ZL vL)) Z5) (Zx (ZT sL (cF c Zmz (jc vL (jc (cF c ZeB (jc (cF c Zit (jc vL (jc (Zav (nB c) (jc vL Zp) ZaW) Zp))) (jc vL Zp))) Zp)))) (ZB (ZL (cF c ZpN (jc vL (jc (cF c ZoR (jc (cF c Zk9 (jc (cF c Zih (jc vL (jc vL Zp))) (jc (ZbH vL ZbB) Zp))) (jc vL Zp))) Zp)))))))))
theorem Zps: DD w s₀ mg mb 400 9 ZhT:=by
 unfold DD;k_fill
 refine Dof (names:=["told","one","d","rests"]) (g:=ZlD) ?_
 exact fun _ _ _ _ _ _ _ c _ _=>(Zx (Z2 (ZO vC jN Zbg) (ZB (ZL jN)) Z5) (Zx (by refine sO sL ?_ ?_ ?_;(exact(JI.range (nB c) (jc jI (jc (Zav (nB c) (jc vC Zp) ZaW) Zp))));(exact fun _ _=>(cF (Zch c) ZsQ (jc (Zw vD jI) (jc vD (jc vD (jc vO Zp))))));(exact fun _ _=>JF.nil)) (Zx (Z2 (ZO jN vL ZfO) (ZB (ZL jN)) Z5) (ZB (ZL (cF c Zrj (jc (J.tup (jc (Zw vC jI) (jc vL Zp))) Zp)))))))
theorem Zpt: DD w s₀ mg mb 388 10 ZhV:=by
 unfold DD;k_fill
 refine Dof (names:=["told","one","d"]) (g:=ZlE) ?_
 exact fun _ _ _ _ _ _ _ c _ _=>(Zx (Z2 (ZcP (Zbn (cF c Zgq (jc (cF c ZoR (jc (cF c Zih (jc vL (jc (Zw vL jI) Zp))) (jc vL Zp))) (jc jI Zp))))) (ZB (ZL jN)) Z5) (ZB (ZL (cF c Zps (jc vL (jc vL (jc vL Zp)))))))
theorem ZsR: DD w s₀ mg mb 164 2 Zki:=by
 unfold DD;k_fill
 refine Dof (names:=["one","other"]) (g:=Zkh) ?_
 exact fun _ _ _ _ _ _ _ c _ _=>(Zx (Z2 (ZO (Zw vL jI) jI ZaL) (ZB (ZL (ZcS vL vL ZaL))) Z5) (ZB (ZL (Zg3 (ZcS (ZM (Zw vL jI) (Zw vL jI) Zbo) jI ZaL) (cF c Zgq (jc vL (jc (Zw vL jI) Zp)))))))
theorem Zsg: DD w s₀ mg mb 395 11 ZjT:=by
 unfold DD;k_fill
 refine Dof (names:=["told","one","d"]) (g:=ZjS) ?_
 exact fun _ _ _ _ _ _ _ c _ _=>(Zx (Z2 (Zbn (cF c ZsR (jc (cF c Zih (jc vL (jc (Zw vL jI) Zp))) (jc (J.tup (jc vL (jc jI Zp))) Zp)))) (ZB (ZL jN)) Z5) (Zx (Z2 (ZO vL jI ZaL) (ZB (ZL (cF c Zpt (jc vL (jc (ZM (J.list (jc (ZM (Zw vL jI) jI Zak) Zp)) (ZgT vL jI) Zak) (jc jI Zp)))))) Z5) (ZB (ZL (cF c Zn6 (jc vL Zp))))))
theorem Ztv: DD w s₀ mg mb 367 11 ZlH:=by
 unfold DD;k_fill
 refine Dof (names:=["told","one","held"]) (g:=ZlG) ?_
 exact fun _ _ _ _ _ _ _ c _ _=>(Zx (Z2 (ZcP (Zbn (cF c Zgq (jc (cF c Zih (jc vL (jc (Zw vL jI) Zp))) (jc jI Zp))))) (ZB (ZL jN)) Z5) (Zx (ZT sL (cF c ZgC (jc (cF c ZgC (jc vL (jc vL (jc jI Zp)))) (jc (cF c ZeB (jc vL (jc (ZbH jI ZbB) Zp))) (jc jI Zp))))) (ZB (ZL (cF c Zps (jc vL (jc vL (jc jI Zp))))))))
theorem ZpO: DD w s₀ mg mb 381 11 Zic:=by
 unfold DD;k_fill
 refine Dof (names:=["told","one"]) (g:=Zmo) ?_
 exact fun _ _ _ _ _ _ _ c _ _=>(Zx (Z2 (ZaZ (Zaz (ZO vL jN ZbK) (Zaz (Zbn (cF c Zpr (jc (cF c ZmB (jc vL (jc vL Zp))) (jc jI Zp)))) ZbW))) (ZB (ZL (cF c ZgC (jc vL (jc vL (jc (ZbH jI ZbB) Zp)))))) Z5) (ZB (ZL vL)))
theorem Zsh: DD w s₀ mg mb 374 12 ZjV:=by
 unfold DD;k_fill
 refine Dof (names:=["told","one"]) (g:=ZjU) ?_
 exact fun _ _ _ _ _ _ _ c _ _=>(ZB (ZL (cF c Zn6 (jc (cF c ZpO (jc (cF c ZpO (jc vL (jc vL Zp))) (jc (cF c ZeB (jc vL (jc (ZbH jI ZbB) Zp))) Zp))) Zp))))
theorem ZxK: DD w s₀ mg mb 353 13 Zol:=by
 unfold DD;k_fill
 refine Dof (names:=["told","claim","truth"]) (g:=Zok) ?_
 exact fun _ _ _ _ _ _ _ c _ _=>(Zx (Z2 (ZO vL jN Zbg) (ZB (ZL jN)) Z5) (Zx (Z2 (ZO (Zw vL jI) jS ZaL) (ZB (ZL (cF c Ztc (jc vL (jc (Zw vL jI) (jc vL Zp)))))) Z5) (Zx (Z2 (ZO (Zw vL jI) jS ZaL) (ZB (ZL (ZeR (Zbn vL) (cF c Ztv (jc vL (jc (Zw vL jI) Zp))) (cF c Zsh (jc vL (jc (Zw vL jI) Zp)))))) Z5) (ZB (ZL (ZeR (Zbn vL) (cF c Zpt (jc vL (jc (Zw vL jI) (jc (Zw vL jI) Zp)))) (cF c Zsg (jc vL (jc (Zw vL jI) (jc (Zw vL jI) Zp))))))))))
theorem Zht: DD w s₀ mg mb 542 1 Ze6:=by
 unfold DD;k_fill
 refine Dof (names:=["_law_told_here","_law_one","_law_ups","_law_downs","_law_ends","_law_total","_law_i"]) (g:=Zj7) ?_
 exact fun _ _ _ _ _ _ _ c _ _=>(Zx (by refine sO sL ?_ ?_ ?_;(exact(JI.range (nB c) (jc jI (jc (Zav (nB c) (jc vC Zp) ZaW) Zp))));(exact fun _ _=>vO);(exact fun _ _=>JF.one (ZO (Zw vD vO) jI Zdr))) (Zx (by refine sO sL ?_ ?_ ?_;(exact(JI.range (nB c) (jc jI (jc (Zav (nB c) (jc vC Zp) ZaW) Zp))));(exact fun _ _=>vO);(exact fun _ _=>JF.one (ZO (Zw vD vO) jI Zco))) (Zx (Z2 (ZaZ (Zaz (ZO (Zav (nB c) (jc vL Zp) ZaW) jI ZaL) (Zaz (ZO (Zav (nB c) (jc vL Zp) ZaW) jI ZaL) (Zaz (ZO (Zw vC (Zw vL jI)) jI ZaL) (Zaz (ZO (Zw vC (Zw vL jI)) (ZbH jI ZbB) ZaL) ZbW))))) (Zx (Z2 (ZO (Zw (Zw (Zw vC jI) (Zw vL jI)) (Zw vL jI)) jN Zbg) (ZB (ZL jN)) Z5) (ZB (ZL (ZM (Zw (Zw (Zw vC jI) (Zw vL jI)) (Zw vL jI)) (Zw vC jI) Zak)))) Z5) (Zx (ZT sL (ZM (by refine cO ?_ ?_ ?_;(exact(JI.seq vL));(exact fun _ _=>(Zw (Zw (Zw vD jI) vO) jI));(exact fun _ _=>JF.nil)) (by refine cO ?_ ?_ ?_;(exact(JI.seq vL));(exact fun _ _=>(Zw (Zw (Zw vD jI) jI) vO));(exact fun _ _=>JF.nil)) Zak)) (Zx (Z2 (ZO jN vL ZfO) (ZB (ZL jN)) Z5) (Zx (ZT sL (Zw vC jI)) (Zx (Zbk sL (JI.seq vL) (ZB (ZT sL (ZM vL (ZM (Zw vC vL) (Zw (Zw (Zw vC jI) vL) jI) Za6) Zak)))) (Zx (Zbk sL (JI.seq vL) (ZB (ZT sL (ZM vL (ZM (Zw vC vL) (Zw (Zw (Zw vC jI) jI) vL) Za6) Zbs)))) (ZB (ZL vL))))))))))
theorem ZoN: DD w s₀ mg mb 511 1 Zhh:=by
 unfold DD;k_fill
 refine Dof (names:=["_law_bounds","_law_size","_law_found","_law_reach","_law_before","_law_i","_law_j","_law_k","_law_by"]) (g:=ZjB) ?_
 exact fun _ _ _ _ _ _ _ c _ _=>(Zx (ZT sL (Zav (nB c) (jc vL Zp) ZaW)) (Zx (by refine sO sL ?_ ?_ ?_;(exact(JI.seq vL));(exact fun _ _=>(Zc2 (nB (Zch c)) (jc vO Zp) Zdj));(exact fun _ _=>JF.nil)) (Zx (ZT sL jI) (Zx (ZgD 1000000 (ZO vL vL Zco) (Zx (by refine sO sL ?_ ?_ ?_;(exact(JI.seq vL));(exact fun _ _=>(Zc2 (nB (Zch c)) (jc vO Zp) Zdj));(exact fun _ _=>JF.nil)) (Zx (Zbk sL (JI.range (nB c) (jc vL Zp)) (ZB (Zbk sL (JI.range (nB c) (jc vL Zp)) (ZB (Zbk sL (JI.range (nB c) (jc vL Zp)) (ZB (Z2 (ZaZ (Zaz (ZO (Zw (Zw vL vL) vL) jN ZbK) (Zaz (ZO (Zw (Zw vL vL) vL) jN ZbK) ZbW))) (Zx (ZT sL (ZM (Zw (Zw vL vL) vL) (Zw (Zw vL vL) vL) Zak)) (ZB (Z2 (ZaZ (Zbe (ZO (Zw (Zw vL vL) vL) jN Zbg) (Zbe (ZO vL (Zw (Zw vL vL) vL) Zco) ZcM))) (ZB (S1.put vL (Zw vL vL) vL)) Z5))) Z5))))))) (ZB (ZT sL (ZM jI vL Za6)))))) (Zx (Zbk sL (JI.range (nB c) (jc vL Zp)) (ZB (Z2 (ZO (Zw (Zw vL vL) vL) jI Zco) (ZB (ZL jN)) Z5))) (ZB (ZL vL)))))))
theorem Zp7: DD w s₀ mg mb 506 2 Zim:=by
 unfold DD;k_fill
 refine Dof (names:=["_law_one","_law_other","_law_high","_law_low","_law_now","_law_then","_law_times","_law_over","_law_apart"]) (g:=ZmV) ?_
 exact fun _ _ _ _ _ _ _ c _ _=>(Zx (ZT sL (Zw vL jI)) (Zx (ZT sL (Zw vL jI)) (Zx (ZT sL jI) (Zx (ZT sL jI) (Zx (ZgD 1000000 (ZO vL jI ZbN) (Zx (ZT sL (ZM vL vL Zc3)) (Zx (ZT sL (ZM vL (ZM vL vL Za6) Zbs)) (Zx (ZT sL vL) (Zx (ZT sL vL) (Zx (ZT sL (ZM vL (ZM vL vL Za6) Zbs)) (Zx (ZT sL vL) (ZB (ZT sL vL))))))))) (Zx (ZT sL (ZM (Zw vL jI) (Zw vL jI) Zbs)) (Zx (Z2 (ZO vL jI ZaL) (Zx (Z2 (ZO vL jI ZbN) (ZB (ZL jN)) Z5) (ZB (ZL vL))) Z5) (Zx (Z2 (ZO (ZM vL vL Zbo) jI ZbN) (ZB (ZL jN)) Z5) (ZB (ZL (cF c Zew (jc (ZM (ZM (Zw vL jI) vL Zc3) (Zw vL jI) Za6) (jc (ZM (Zw vL jI) (ZM (ZM (Zw vL jI) vL Za6) (ZM vL vL Zc3) Za6) Zak) Zp)))))))))))))
theorem Zpc: DD w s₀ mg mb 518 3 ZhE:=by
 unfold DD;k_fill
 refine Dof (names:=["_law_bounds","_law_rests","_law_full","_law_new","_law_i","_law_j","_law_gap"]) (g:=ZkR) ?_
 exact fun _ _ _ _ _ _ _ c _ _=>(Zx (ZT sL (ZM (J.list (jc (J.tup (jc jI (jc jI Zp))) Zp)) vL Zak)) (Zx (ZT sL (ZM (J.list (jc (J.tup (jc jI (jc jI Zp))) Zp)) vL Zak)) (Zx (Zbk sL (JI.range (nB c) (jc jI (jc (Zav (nB c) (jc vL Zp) ZaW) Zp))) (ZB (Zbk sL (JI.range (nB c) (jc (Zav (nB c) (jc vL Zp) ZaW) Zp)) (Zx (ZT sL (Zw (Zw vL vL) vL)) (ZB (Z2 (ZaZ (Zaz (ZO vL vL ZbN) (Zaz (ZO vL jN ZbK) (Zaz (ZO (Zw (Zw vL vL) vL) (ZbH vL ZbB) ZaL) (Zaz (ZO (Zw vL vL) jN ZbK) ZbW))))) (ZB (S1.put (cF c Zp7 (jc (Zw vL vL) (jc (cF c Zew (jc (Zw (Zw vL vL) jI) (jc (ZM (Zw (Zw vL vL) jI) vL Zak) Zp))) Zp))) vL vL)) Z5)))))) (Zx (Z2 (ZO jN vL ZfO) (ZB (ZL jN)) Z5) (ZB (ZL (ZgT vL jI)))))))
theorem Znl: DD w s₀ mg mb 499 1 Zgu:=by
 unfold DD;k_fill
 refine Dof (names:=["_law_one","_law_other","_law_over"]) (g:=ZmH) ?_
 exact fun _ _ _ _ _ _ _ c _ _=>(Zx (ZT sL (Zav (nB c) (jc vL Zp) Zd1)) (Zx (ZT sL (Zav (nB c) (jc vL Zp) Zd1)) (Zx (ZgD 1000000 (ZO vL jI ZbN) (Zx (ZT sL (ZM vL vL Zbo)) (Zx (ZT sL vL) (ZB (ZT sL vL))))) (ZB (ZL vL)))))
theorem ZsS: DD w s₀ mg mb 523 2 Zkt:=by
 unfold DD;k_fill
 refine Dof (names:=["_law_bounds","_law_rests","_law_full","_law_new","_law_i","_law_j","_law_m","_law_r","_law_top"]) (g:=Zks) ?_
 exact fun _ _ _ _ _ _ _ c _ _=>(Zx (ZT sL (ZM (J.list (jc (J.tup (jc jI (jc jI Zp))) Zp)) vL Zak)) (Zx (by refine sO sL ?_ ?_ ?_;(exact(JI.seq vL));(exact fun _ _=>(Zc2 (nB (Zch c)) (jc vO Zp) Zdj));(exact fun _ _=>JF.nil)) (Zx (Zbk sL (JI.range (nB c) (jc (Zav (nB c) (jc vL Zp) ZaW) Zp)) (ZB (Zbk sL (JI.range (nB c) (jc (Zav (nB c) (jc vL Zp) ZaW) Zp)) (Zx (ZT sL (cF c Znl (jc (Zw (Zw vL vL) jI) (jc (Zw (Zw vL vL) jI) Zp)))) (Zx (ZT sL (ZM (Zw (Zw vL vL) jI) (Zw (Zw vL vL) jI) Zbs)) (Zx (ZT sL (Zw (Zw vL vL) vL)) (ZB (Z2 (ZaZ (Zaz (ZO vL vL ZbN) (Zaz (ZO vL jI ZaL) ZbW))) (Zx (Z2 (ZaZ (Zaz (ZO vL jN ZbK) (Zaz (ZO vL vL Zco) ZbW))) (ZB (ZL jN)) Z5) (ZB (S1.put vL (Zw vL vL) vL))) (ZB (Z2 (ZaZ (Zaz (ZO vL vL ZbN) (Zaz (ZO vL jN ZbK) ZbW))) (ZB (S1.put (ZM vL (ZM (ZM vL vL Zbs) vL Zbo) Zbs) (Zw vL vL) vL)) Z5)))))))))) (ZB (ZL vL)))))
theorem Zpu: DD w s₀ mg mb 530 4 ZhQ:=by
 unfold DD;k_fill
 refine Dof (names:=["_law_told_here","_law_bounds","_law_rests"]) (g:=Zlt) ?_
 exact fun _ _ _ _ _ _ _ c _ _=>(Zx (Z2 (ZO vL jN Zbg) (ZB (ZL jN)) Z5) (Zx (ZT sL (cF c ZoN (jc (Zw vL jI) Zp))) (Zx (Z2 (ZO vL jN Zbg) (ZB (ZL jN)) Z5) (Zx (ZT sL (cF c Zpc (jc vL (jc (Zw vL jI) Zp)))) (Zx (Z2 (ZO vL jN Zbg) (ZB (ZL jN)) Z5) (Zx (ZT sL (cF c ZsS (jc vL (jc vL Zp)))) (Zx (Z2 (ZO vL jN Zbg) (ZB (ZL jN)) Z5) (Zx (ZT sL (cF c ZoN (jc vL Zp))) (Zx (Z2 (ZO vL jN Zbg) (ZB (ZL jN)) Z5) (Zx (ZT sL (cF c Zpc (jc vL (jc vL Zp)))) (Zx (Z2 (ZO vL jN Zbg) (ZB (ZL jN)) Z5) (ZB (ZL (J.tup (jc vL (jc vL Zp))))))))))))))))
theorem Zii: DD w s₀ mg mb 561 1 Zfk:=by
 unfold DD;k_fill
 refine Dof (names:=["_law_one","_law_i","_law_k","_law_new"]) (g:=Zmp) ?_
 exact fun _ _ _ _ _ _ _ c _ _=>(Zx (ZT sL (Zc2 (nB c) (jc vL Zp) Zdj)) (Zx (Z2 (ZO vL jI Zdr) (ZB (S1.put (ZM (Zw vL vL) vL Zak) vL vL)) Z5) (ZB (ZL vL))))
theorem Zla: DD w s₀ mg mb 568 1 Zgb:=by
 unfold DD;k_fill
 refine Dof (names:=["_law_one","_law_other"]) (g:=ZkZ) ?_
 exact fun _ _ _ _ _ _ _ c _ _=>(Zx (Z2 (ZO vL jN Zbg) (ZB (ZL vL)) Z5) (Zx (Z2 (ZO vL jN Zbg) (ZB (ZL vL)) Z5) (ZB (ZL (Zav (nB c) (jc vL (jc vL Zp)) ZvA)))))
theorem ZkF: DD w s₀ mg mb 573 5 Zf4:=by
 unfold DD;k_fill
 refine Dof (names:=["_law_told_here","_law_one","_law_top","_law_away","_law_most","_law_bounds","_law_i","_law_j"]) (g:=ZkC) ?_
 exact fun _ _ _ _ _ _ _ c _ _=>(Zx (Z2 (ZO vL jN Zbg) (ZB (ZL jN)) Z5) (Zx (by refine sO sL ?_ ?_ ?_;(exact(JI.seq vL));(exact fun _ _=>(ZbH vO ZbB));(exact fun _ _=>JF.nil)) (Zx (ZT sL (cF c Zht (jc vL (jc vL Zp)))) (Zx (Z2 (ZaZ (Zaz (ZO vL jN ZbK) (Zaz (ZO (ZbH vL ZbB) vL Zdr) ZbW))) (ZB (ZL jN)) Z5) (Zx (by refine sO sL ?_ ?_ ?_;(exact(JI.seq (Zw vL jI)));(exact fun _ _=>(Zc2 (nB (Zch c)) (jc vO Zp) Zdj));(exact fun _ _=>JF.nil)) (Zx (Zbk sL (JI.range (nB c) (jc (Zav (nB c) (jc vL Zp) ZaW) Zp)) (ZB (Zbk sL (JI.range (nB c) (jc (Zav (nB c) (jc vL Zp) ZaW) Zp)) (Zx (ZT sL (cF c Zht (jc vL (jc (cF c Zii (jc (cF c Zii (jc vL (jc vL (jc jI Zp)))) (jc vL (jc (ZbH jI ZbB) Zp)))) Zp)))) (ZB (Z2 (ZaZ (Zaz (ZO vL vL ZbN) (Zaz (ZO vL jN ZbK) ZbW))) (ZB (S1.put (cF c Zla (jc (Zw (Zw vL vL) vL) (jc (ZM vL vL Zak) Zp))) (Zw vL vL) vL)) Z5)))))) (Zx (Zbk sL (JI.range (nB c) (jc jI (jc (Zav (nB c) (jc vL Zp) ZaW) Zp))) (Zx (ZT sL (cF c Zht (jc vL (jc (cF c Zii (jc vL (jc vL (jc (Zw vL vL) Zp)))) Zp)))) (Zx (Z2 (ZaZ (Zaz (ZO (Zw vL vL) jI Zdr) (Zaz (ZO vL jN ZbK) ZbW))) (ZB (S1.put (cF c Zla (jc (Zw (Zw vL vL) jI) (jc (ZM (ZM vL vL Zak) (Zw vL vL) Zc3) Zp))) (Zw vL vL) jI)) Z5) (ZB (Z2 (ZaZ (Zaz (ZO (Zw vL vL) jI Zco) (Zaz (ZO vL jN ZbK) ZbW))) (ZB (S1.put (cF c Zla (jc (Zw (Zw vL jI) vL) (jc (ZM (ZM vL vL Zak) (Zav (nB c) (jc (Zw vL vL) Zp) Zd1) Zc3) Zp))) (Zw vL jI) vL)) Z5))))) (ZB (ZL (cF c Zpu (jc (J.tup (jc vL (jc (Zw vL jI) Zp))) Zp)))))))))))
theorem ZoX: DD w s₀ mg mb 549 2 Zhs:=by
 unfold DD;k_fill
 refine Dof (names:=["_law_one","_law_rests","_law_m","_law_r","_law_i"]) (g:=Zkc) ?_
 exact fun _ _ _ _ _ _ _ c _ _=>(Zx (ZT sL jI) (Zx (ZT sL (Zw vL jI)) (Zx (Zbk sL (JI.range (nB c) (jc (Zav (nB c) (jc vL Zp) ZaW) Zp)) (Zx (ZT sL (cF c Znl (jc vL (jc (ZM (Zw vL (ZM vL jI Zak)) (Zw (Zw vL vL) jI) Za6) Zp)))) (ZB (ZT sL (ZM vL (ZM (Zw vL (ZM vL jI Zak)) (Zw (Zw vL vL) jI) Za6) Zak))))) (ZB (ZL (cF c Zew (jc vL (jc vL Zp))))))))
theorem Zt3: DD w s₀ mg mb 580 5 Zms:=by
 unfold DD;k_fill
 refine Dof (names:=["_law_told_here","_law_one","_law_step","_law_rests","_law_i","_law_k","_law_pair"]) (g:=Zmr) ?_
 exact fun _ _ _ _ _ _ _ c _ _=>(Zx (ZT sL (Zc2 (nB c) (jc (Zw vL jI) Zp) Zdj)) (Zx (Zbk sL (JI.range (nB c) (jc jI (jc (Zav (nB c) (jc vL Zp) ZaW) Zp))) (Zx (ZT sL (Zw vL vL)) (ZB (Z2 (ZaZ (Zbe (ZO vL jI ZaL) (Zbe (ZO vL (ZbH jI ZbB) ZaL) ZcM))) (Zx (ZT sL (cF c ZoX (jc (cF c Zii (jc vL (jc vL (jc (ZbH vL ZbB) Zp)))) (jc (Zw vL jI) Zp)))) (Zx (ZT sL (cF c Zew (jc (cF c Znl (jc (Zw vL jI) (jc vL Zp))) (jc (ZM (ZbH vL ZbB) (Zw vL jI) Za6) Zp)))) (ZB (S1.put (cF c Zp7 (jc (Zw vL (ZM vL jI Zbs)) (jc vL Zp))) vL (ZM vL jI Zbs))))) Z5)))) (Zx (Z2 (ZO jN vL ZfO) (ZB (ZL jN)) Z5) (ZB (ZL (cF c Zpu (jc (J.tup (jc (Zw vL jI) (jc vL Zp))) Zp)))))))
theorem Zsi: DD w s₀ mg mb 585 6 ZjY:=by
 unfold DD;k_fill
 refine Dof (names:=["_law_told_here","_law_one","_law_held"]) (g:=ZjX) ?_
 exact fun _ _ _ _ _ _ _ c _ _=>(Zx (Z2 (ZO (Zw (cF c ZoX (jc vL (jc (Zw vL jI) Zp))) jI) jI ZbN) (ZB (ZL jN)) Z5) (Zx (ZT sL (cF c ZkF (jc (cF c ZkF (jc vL (jc vL (jc jI Zp)))) (jc (by refine cO ?_ ?_ ?_;(exact(JI.seq vL));(exact fun _ _=>(ZbH vO ZbB));(exact fun _ _=>JF.nil)) (jc jI Zp))))) (Zx (Z2 (ZO vL jN Zbg) (ZB (ZL jN)) Z5) (ZB (ZL (cF c Zt3 (jc vL (jc vL (jc jI Zp)))))))))
theorem Ztd: DD w s₀ mg mb 590 6 Zk3:=by
 unfold DD;k_fill
 refine Dof (names:=["_law_told_here","_law_one","_law_each","_law_most"]) (g:=Zk2) ?_
 exact fun _ _ _ _ _ _ _ c _ _=>(Zx (Zbk sL (JI.seq (J.list (jc vL (jc (by refine cO ?_ ?_ ?_;(exact(JI.seq vL));(exact fun _ _=>(ZbH vO ZbB));(exact fun _ _=>JF.nil)) Zp)))) (ZB (Z2 (ZO vL jN ZbK) (Zx (ZT sL (cF c Zht (jc vL (jc vL Zp)))) (ZB (Z2 (ZaZ (Zaz (ZO vL jN ZbK) (Zaz (ZO vL jI Zji) ZbW))) (ZB (ZT sL (cF c ZkF (jc vL (jc vL (jc (ZbH jI ZbB) Zp)))))) Z5))) Z5))) (ZB (ZL vL)))
theorem ZlO: DD w s₀ mg mb 471 1 Zgg:=by
 unfold DD;k_fill
 refine Dof (names:=["_law_thing"]) (g:=Zlo) ?_
 exact fun _ _ _ _ _ _ _ c _ _=>(ZB (ZL (Zg3 (ZdV (nB c) (nB c) (.inl rfl) vL) (ZxL (ZdV (nB c) (nB c) (.inr (.inl rfl)) vL)))))
theorem Zt4: DD w s₀ mg mb 478 2 Zl7:=by
 unfold DD;k_fill
 refine Dof (names:=["_law_thing","_law_size","_law_i","_law_top"]) (g:=Zl6) ?_
 exact fun _ _ _ _ _ _ _ c _ _=>(Zx (Z2 (ZaZ (Zbe (ZcP (Zbn (ZdV (nB c) (nB c) (.inr (.inr (.inl rfl))) vL))) (Zbe (ZO (Zav (nB c) (jc vL Zp) ZaW) vL ZbN) ZcM))) (ZB (ZL jB)) Z5) (Zx (Zbk sL (JI.range (nB c) (jc vL Zp)) (Zx (Z2 (ZaZ (Zbe (ZcP (Zbn (ZdV (nB c) (nB c) (.inr (.inr (.inl rfl))) (Zw vL vL)))) (Zbe (ZO (Zav (nB c) (jc (Zw vL vL) Zp) ZaW) vL ZbN) ZcM))) (ZB (ZL jB)) Z5) (Zx (Zbk sL (JI.seq (Zw vL vL)) (ZB (Z2 (ZaZ (Zaz (ZO vL jN ZbK) (Zaz (ZcP (Zbn (cF c ZlO (jc vL Zp)))) ZbW))) (ZB (ZL jB)) Z5))) (ZB (Z2 (ZO (Zw (Zw vL vL) vL) jI ZbN) (ZB (ZL jB)) Z5))))) (ZB (ZL jB))))
theorem Ztw: DD w s₀ mg mb 485 3 Zlw:=by
 unfold DD;k_fill
 refine Dof (names:=["_law_thing","_law_many","_law_pair"]) (g:=Zlv) ?_
 exact fun _ _ _ _ _ _ _ c _ _=>(Zx (Z2 (ZaZ (Zbe (ZcP (Zbn (ZdV (nB c) (nB c) (.inr (.inr (.inr rfl))) vL))) (Zbe (ZO (Zav (nB c) (jc vL Zp) ZaW) jI ZbN) (Zbe (ZcP (Zbn (cF c Zt4 (jc (Zw vL jI) (jc (ZM vL jI Zak) Zp))))) ZcM)))) (ZB (ZL jB)) Z5) (Zx (Z2 (ZaZ (Zbe (ZcP (Zbn (ZdV (nB c) (nB c) (.inr (.inr (.inl rfl))) (Zw vL jI)))) (Zbe (ZO (Zav (nB c) (jc (Zw vL jI) Zp) ZaW) vL ZbN) ZcM))) (ZB (ZL jB)) Z5) (Zx (Zbk sL (JI.seq (Zw vL jI)) (Zx (Z2 (ZaZ (Zbe (ZcP (Zbn (ZdV (nB c) (nB c) (.inr (.inr (.inr rfl))) vL))) (Zbe (ZO (Zav (nB c) (jc vL Zp) ZaW) jI ZbN) ZcM))) (ZB (ZL jB)) Z5) (Zx (Z2 (ZaZ (Zbe (ZcP (Zbn (cF c ZlO (jc (Zw vL jI) Zp)))) (Zbe (ZcP (Zbn (cF c ZlO (jc (Zw vL jI) Zp)))) ZcM))) (ZB (ZL jB)) Z5) (ZB (Z2 (ZaZ (Zbe (ZO (Zw vL jI) jI Zco) (Zbe (ZaZ (Zaz (ZO (Zw vL jI) jI Zdr) (Zaz (ZcP (Zu6 jI (Zw vL jI) (Zw vL jI) Zji Zco)) ZbW))) ZcM))) (ZB (ZL jB)) Z5))))) (ZB (ZL jB)))))
theorem Zt5: DD w s₀ mg mb 492 4 Zmc:=by
 unfold DD;k_fill
 refine Dof (names:=["_law_found","_law_due"]) (g:=Zmb) ?_
 exact fun _ _ _ _ _ _ _ c _ _=>(Zx (Z2 (ZO vL jN Zbg) (ZB (ZL (ZcS vL jN Zbg))) Z5) (ZB (ZL (Zg3 (cF c Ztw (jc vL (jc (Zav (nB c) (jc (Zw vL jI) Zp) ZaW) Zp))) (ZcS vL vL ZaL)))))
theorem Ztx: DD w s₀ mg mb 554 1 ZlB:=by
 unfold DD;k_fill
 refine Dof (names:=["_law_one","_law_boxes"]) (g:=ZlA) ?_
 exact fun _ _ _ _ _ _ _ c _ _=>(ZB (ZL (ZM (Zw vC jI) (Zav (nB c) (jc (by refine cO ?_ ?_ ?_;(exact(JI.range (nB c) (jc (Zav (nB c) (jc vC Zp) ZaW) Zp)));(exact fun _ _=>(ZM (Zw vD (ZM vO jI Zak)) (Zw vD vO) Za6));(exact fun _ _=>JF.nil)) Zp) ZwO) Zak)))
end
end L
end
section
open PySem PySem.W PySem.Calls PyProof.Rows PM
open L
seal PySem.wpAny PM.J PM.Js PM.JT PM.JA PM.JF PM.JI PM.JI2 PM.JP PM.S1 PM.Ss PM.Sto PM.Rd PM.Nm PM.OpN PM.Op2 PM.Def
theorem PySem.Challenge.cw_seer_k45_claims_of_same_holds : PySem.Challenge.rw_seer_k45_claims_of_same.Holds :=
 head (by
  w_strict (k_go0;(rename Well _ _ _ _=>w9);(rename Frag.In _ _=>kx9);(rename Top _ _ _ _ _ _=>t9);(rename Fr _ _ _ _=>f9);(rename News _ _ _ _=>n9);(rename CellsAre _ _ _=>x9);(rename (PyData.layable0 _=true)=>hl9);(obtain⟨H9,e9⟩:=L.Zs9 (by omega) hl9);(refine' PM.ZvG (names:=["_law_script","_law_many","_law_boxes","_law_told_here","_law_one","_law_claim","_law_way","_law_kept","_law_truth","_law_due","_law_found"]) (g:=Znw) (room:=13) ?hb ?h1 ?h2 ?h3 ?h4 kx9 t9 w9 ?len f9 n9 x9 e9 ?post);(case h1=>decide);(case h2=>decide);(case h3=>rfl);(case h4=>rfl);(case len=>(rw[PM.Zbm];omega));(case hb=>(intro dp un gd L a ccd outer h₀ hu clr hd1 hu1;exact(Zx (ZT sL (Zw (J.list (jc jI (jc jI (jc jI (jc jI (jc jI (jc jI (jc jI (jc jI (jc jI Zp)))))))))) (cF clr law_pick_d (jc vC (jc jI (jc jI Zp)))))) (Zx (by refine sO sL ?_ ?_ ?_;(exact(JI.range (nB clr) (jc vL Zp)));(exact fun _ _=>(cF (Zch clr) Zgc (jc vD (jc (ZM jI vO Zak) Zp))));(exact fun _ _=>JF.nil)) (Zx (ZT sL (cF clr Zt1 (jc vC (jc jI (jc vL Zp))))) (Zx (ZT sL (cF clr ZuF (jc vC (jc jI (jc vL Zp))))) (Zx (Z2 (ZO (cF clr law_pick_d (jc vC (jc jI (jc jI Zp)))) jI Zdr) (ZB (S1.put (ZM (ZM (ZM (Zw vL jI) (cF clr Ztx (jc vL (jc vL Zp))) Zbs) (cF clr law_pick_d (jc vC (jc jI (jc jI Zp)))) Zak) jI Zbs) vL jI)) Z5) (Zx (ZT sL (J.tup (jc jS (jc (Zc2 (nB clr) (jc vL Zp) Zdj) Zp)))) (Zx (ZT sL (cF clr law_pick_d (jc vC (jc jI (jc jI Zp))))) (Zx (Z2 (ZO (ZM vL jI Zbo) jI ZaL) (ZB (ZT sL (cF clr Zta (jc vC (jc jI (jc vL Zp)))))) Z5) (Zx (Z2 (ZO (ZM vL jI Zbo) jI ZaL) (ZB (ZT sL jN)) Z5) (Zx (ZT sL (cF clr ZpM (jc vL Zp))) (Zx (Zbk sL (JI.seq (J.list (jc jB (jc jB Zp)))) (Zx (ZT sL jN) (Zx (Z2 (ZaZ (Zaz (ZO vL jN ZbK) (Zaz (Zbn vL) ZbW))) (ZB (ZT sL (cF clr Zsi (jc vL (jc vL Zp))))) Z5) (Zx (Z2 (ZaZ (Zaz (ZO vL jN ZbK) (Zaz (ZcP (Zbn vL)) ZbW))) (ZB (ZT sL (cF clr ZpM (jc (cF clr Ztd (jc vL (jc vL Zp))) Zp)))) Z5) (Zx (ZT sL (cF clr ZxK (jc vL (jc vL (jc vL Zp))))) (Zx (Z2 (ZaZ (Zbe (ZO (Zw vL jI) vL ZbN) (Zbe (ZcP (Zbn (cF clr Zt5 (jc vL (jc vL Zp))))) ZcM))) (ZB (ZL jB)) Z5) (Zx (Z2 (ZO vL jN ZbK) (Zx (S1.put jI (Zw (Zw vL jI) jI) jI) (ZB (Zd2 (J.append (Zw vL jI) (J.tup (jc jI (jc jI Zp))))))) Z5) (ZB (Z2 (ZO vL vL ZbN) (ZB (ZL jB)) Z5))))))))) (ZB (ZL jB)))))))))))))));(case post=>(intro h' tk' m' F';k_steps)))
  )
end
