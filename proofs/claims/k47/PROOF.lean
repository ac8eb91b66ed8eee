import PyProof.Rows.All
import Wide.All
import OpenK.AllK
import Wide.FinOn
import PySem.Challenge.RW_seer_k47_claims_keep_boxes
import PyProof.Rows.News
import PyProof.Rows.Nodes
import PyProof.Rows.Chain
import PyProof.Rows.TupSub
import PyProof.PureInt
import PyProof.Rules2
import PyProof.Rules3
import PyProof.Rows.Globals
import PyProof.Rows.RuleB_mod
import PyProof.Rows.RuleB_floordiv
import PyProof.Rows.RuleB_small
import PyProof.NoPylong
import PyProof.Rows.RuleB_pow
import PyProof.Rows.EqDataRows
import PyProof.Rows.StrTemp
import PyProof.Rows.TupAdd
import PyProof.Rows.ListMul
import PyProof.ListIndexNeg
import PyProof.SliceList
import PyProof.Methods
import PyProof.Rows.Tup
import PyProof.IsiPairs
import PyProof.IsiHeapPairs
import PyProof.IsiNone
import PyProof.Rows.RuleN_abs
import PyProof.Rows.SumAny
import PyProof.WalkInts
import PyProof.PvWalk
import PyProof.RulesRaise
import PyProof.Raises
import PyProof.Dict
import PyProof.Seq
import PyProof.Rows.ListAppend
import PyProof.ForAppend
import PyProof.ForAny
import PyProof.Walks
import PyProof.WalksT
import KE.KItem
import PyProof.WalksMore
import PyProof.RangeFor
import PyProof.Rows.Range3
import OpenK.KCell
import KE.KTree
import KE.RegLcTurns
import KE.KCompFold
import KE.KLcPair
import KE.LcTurns
import PyProof.CompUse
import PyProof.Rows.ZipGen
import OpenK.KLine
import KE.KState
import Wide.Well
import PyProof.ListCopy
import PyProof.Rows.TupleOfSeqD
import KE.LcSums
import KE.KCellOne
import PyProof.FitsBits
import KE.KEqDeep
import PyProof.Rows.TupMore
import PyProof.Rows.NestLooks
import PyProof.EnumMake
import PyProof.WalksEnum
import PyProof.Rows.SortWalk
import PyProof.DictStraight
import PyProof.EqAt
import PyProof.Rows.SeqMore2
import KE.KAnyBase
import PyProof.Rows.SeqSlice
set_option linter.all false
set_option maxRecDepth 100000
set_option maxHeartbeats 8000000
abbrev Zz0:=@Option.bind_eq_some_iff
abbrev Zz1:=@Option.map_eq_some_iff
abbrev Zz2:=@List.mem_cons_of_mem
abbrev Zz3:=@List.mem_append_right
abbrev Zz4:=@List.mem_append_left
abbrev Zz5:=@List.mem_cons_self
abbrev Zz6:=@List.getElem?_eq_some_iff
abbrev Zz7:=@List.mem_cons
abbrev Zz8:=@List.mem_append
abbrev Zz9:=@List.mem_singleton
abbrev Zz10:=@Nat.le_refl
abbrev Zz11:=@List.mem_map
set_option Elab.async false
set_option compiler.extract_closed false
section
set_option autoImplicit false
/-! The plain machine: values as trees, lists as places; and how it stands for the model's heap. -/
namespace PM
open PySem PyProof.Rows
inductive V where
 | none
 | bool (b:Bool)
 | int (i:Int)
 | str (s:Str)
 | tup (vs:List V)
 | ref (a:Nat)
noncomputable abbrev Hp:=List (List V)
noncomputable abbrev Lc:=Nat→Option V
noncomputable def LEN: Nat:=100000
theorem Zbm: LEN=100000:=rfl
theorem Zc5{n:Nat}(h:n≤LEN): n≤sizeLine:=by
 have:sizeLine=2 ^ 24:=rfl
 rw[this];rw[Zbm]at h;omega
noncomputable abbrev Zfd(xs:List Value)(k:Nat): Obj:={ cls:=.type "tuple",data:=.seq xs.toArray k }
noncomputable abbrev ZbQ(xs:List Value)(k:Nat): Obj:={ cls:=.type "list",data:=.seq xs.toArray k }
structure Wd where
 pi:List Addr
 tups:List (Addr×Obj)
 sc:Addr×Obj
structure Wd.Le(W W':Wd): Prop where
 pi:W.pi <+: W'.pi
 tups:∀q∈W.tups,q∈W'.tups
 sc:W'.sc=W.sc
theorem Wd.Le.refl(W:Wd): W.Le W:=⟨List.prefix_refl _,fun _ h=>h,rfl⟩
theorem Wd.Le.trans{W W' W'':Wd}(a:W.Le W')(b:W'.Le W''): W.Le W'':=⟨a.pi.trans b.pi,fun q h=>b.tups q (a.tups q h),b.sc.trans a.sc⟩
theorem Wd.Le.at{W W':Wd}(h:W.Le W'){i:Nat}{a:Addr}(e:W.pi[i]?=some a): W'.pi[i]?=some a:=by
 obtain⟨t,ht⟩:=h.pi
 have hi:i<W.pi.length:=(Zz6.mp e).1
 rw[←ht,List.getElem?_append_left hi]
 exact e
mutual
inductive VR(W:Wd): V→Value→Prop where
 | none:VR W .none .none
 | bool (b:Bool):VR W (.bool b) (.bool b)
 | int (i:Int) (t:Tok):VR W (.int i) (.int i t)
 | str (s:Str) (t:Tok):VR W (.str s) (.str s t)
 | tup {vs:List V} {a:Addr} {xs:List Value} {k:Nat}:(a,Zfd xs k)∈W.tups→vs.length≤LEN→VRs W vs xs→VR W (.tup vs) (.ref a)
 | ref {i:Nat} {a:Addr}:W.pi[i]?=some a→VR W (.ref i) (.ref a)
inductive VRs(W:Wd): List V→List Value→Prop where
 | nil:VRs W [] []
 | cons {v:V} {x:Value} {vs:List V} {xs:List Value}:VR W v x→VRs W vs xs→VRs W (v::vs) (x::xs)
end
mutual
theorem VR.mono{W W':Wd}(h:W.Le W'){v:V}{x:Value}(r:VR W v x): VR W' v x:=by
 cases r with
 | none=>exact .none
 | bool b=>exact .bool b
 | int i t=>exact .int i t
 | str s t=>exact .str s t
 | tup hm hl hs=>exact .tup (h.tups _ hm) hl (VRs.mono h hs)
 | ref e=>exact .ref (h.at e)
theorem VRs.mono{W W':Wd}(h:W.Le W'){vs:List V}{xs:List Value}(r:VRs W vs xs): VRs W' vs xs:=by
 cases r with
 | nil=>exact .nil
 | cons a b=>exact .cons (VR.mono h a) (VRs.mono h b)
end
theorem VRs.length{W:Wd}: ∀{vs:List V} {xs:List Value},VRs W vs xs→xs.length=vs.length
 | _,_,.nil=>rfl
 | _,_,.cons _ r=>by rw[List.length_cons,List.length_cons,r.length]
theorem VRs.at{W:Wd}: ∀{vs:List V} {xs:List Value} {i:Nat} {v:V},VRs W vs xs→vs[i]?=some v→∃x,xs[i]?=some x∧VR W v x
 | _,_,_,_,.nil,e=>by simp at e
 | _,_,0,_,.cons a _,e=>by
  simp at e
  exact⟨_,by simp,e▸a⟩
 | _,_,i+1,_,.cons _ r,e=>by
  simp at e
  obtain⟨x,hx,hr⟩:=r.at e
  exact⟨x,by simpa using hx,hr⟩
theorem VRs.append{W:Wd}: ∀{vs us:List V} {xs ys:List Value},VRs W vs xs→VRs W us ys→VRs W (vs++us) (xs++ys)
 | _,_,_,_,.nil,h=>h
 | _,_,_,_,.cons a r,h=>.cons a (r.append h)
theorem VRs.snoc{W:Wd}{vs:List V}{xs:List Value}{v:V}{x:Value}(h:VRs W vs xs)(r:VR W v x): VRs W (vs++[v]) (xs++[x]):=h.append (.cons r .nil)
theorem VRs.set{W:Wd}: ∀{vs:List V} {xs:List Value} {v:V} {x:Value} (i:Nat),VRs W vs xs→VR W v x→VRs W (vs.set i v) (xs.set i x)
 | _,_,_,_,_,.nil,_=>.nil
 | _,_,_,_,0,.cons _ r,h=>.cons h r
 | _,_,_,_,i+1,.cons a r,h=>.cons a (r.set i h)
theorem VRs.drop{W:Wd}: ∀{vs:List V} {xs:List Value} (i:Nat),VRs W vs xs→VRs W (vs.drop i) (xs.drop i)
 | _,_,0,h=>h
 | _,_,_+1,.nil=>.nil
 | _,_,i+1,.cons _ r=>r.drop i
structure HR(W:Wd)(H:Hp)(led:List (Addr×Obj)): Prop where
 len:W.pi.length=H.length
 nd:W.pi.Nodup
 lists:∀(i:Nat) (vs:List V),H[i]?=some vs→vs.length≤LEN∧∃a xs k,W.pi[i]?=some a∧(a,ZbQ xs k)∈led∧VRs W vs xs
 tups:∀q∈W.tups,q∈led
 kind:∀q∈W.tups,∃xs k,q.2=Zfd xs k
theorem HR.mono{W:Wd}{H:Hp}{led led':List (Addr×Obj)}(R:HR W H led)(h:∀q∈led,q∈led'): HR W H led':=
 ⟨R.len,R.nd,fun i vs e=>by
  obtain⟨l,a,xs,k,h1,h2,h3⟩:=R.lists i vs e
  exact⟨l,a,xs,k,h1,h _ h2,h3⟩,fun q hq=>h q (R.tups q hq),R.kind⟩
structure Cx where
 A:Around
 env:Env
 h₀:Heap
 L:Addr
 hh:A.handled=none
 hu:A.units+200<cLine
 Own:Wd→Lc→(Str→Option Value)→List (Addr×Obj)→Prop
 mono:∀{W W':Wd} {ρ:Lc} {m:Str→Option Value} {c:List (Addr×Obj)},W.Le W'→Own W ρ m c→Own W' ρ m c
structure Rep'(Γ:Cx)(W:Wd)(ρ:Lc)(H:Hp)(fr:List (Addr×Obj))(h:Heap)(m:Str→Option Value)(cells led:List (Addr×Obj)): Prop where
 F:Fr Γ.h₀ Γ.L h m
 N:News Γ.h₀ Γ.L h led
 R:HR W H (W.sc::led)
 sc:Γ.h₀.get? W.sc.1=some W.sc.2
 sc0:W.pi[0]?=some W.sc.1
 frIn:∀q∈fr,q∈led
 frOff:∀q∈fr,q.1∉W.pi
 clIn:∀q∈cells,q∈led
 clOff:∀q∈cells,q.1∉W.pi
 apart:∀q∈cells,∀r∈fr,q.1≠r.1
 frTup:∀q∈fr,∀t∈W.tups,q.1≠t.1
 clTup:∀q∈cells,∀t∈W.tups,q.1≠t.1
 own:Γ.Own W ρ m cells
noncomputable def Rep(Γ:Cx)(W:Wd)(ρ:Lc)(H:Hp)(fr:List (Addr×Obj))(h:Heap): Prop:=∃m cells led,Rep' Γ W ρ H fr h m cells led
theorem Rep.grown{Γ:Cx}{W:Wd}{ρ:Lc}{H:Hp}{fr:List (Addr×Obj)}{h h':Heap}(r:Rep Γ W ρ H fr h)(up:∀b o,h.get? b=some o→h'.get? b=some o): Rep Γ W ρ H fr h':=by
 obtain⟨m,c,led,r⟩:=r
 refine⟨m,c,led,⟨⟨?_,fun b o e=>up b o (r.F.keep b o e),r.F.above⟩,fun q hq=>⟨up _ _ (r.N q hq).1,(r.N q hq).2⟩,r.R,r.sc,r.sc0,r.frIn,r.frOff,r.clIn,r.clOff,r.apart,r.frTup,r.clTup,r.own⟩⟩
 obtain⟨o,es,ep,h1,h2⟩:=r.F.ns
 exact⟨o,es,ep,up _ _ h1,h2⟩
theorem Rep.push{Γ:Cx}{W:Wd}{ρ:Lc}{H:Hp}{fr:List (Addr×Obj)}{h:Heap}(r:Rep Γ W ρ H fr h)(o:Obj): Rep Γ W ρ H fr (h.push o):=r.grown fun _ _ e=>Heap.get?_push_of_some _ e
theorem Zex{q s:Addr×Obj}{l l':List (Addr×Obj)}(h:q∈s::l)(m:q∈l→q∈l'): q∈s::l':=by
 rcases Zz7.mp h with e | h
 ·exact e▸List.mem_cons_self
 ·exact Zz2 _ (m h)
theorem Zf6{q s:Addr×Obj}{l l':List (Addr×Obj)}(h:q∈s::l)(m:∀x∈l,x∈l'): q∈s::l':=by
 rcases Zz7.mp h with e | h
 ·exact e▸List.mem_cons_self
 ·exact Zz2 _ (m q h)
theorem Rep'.get{Γ:Cx}{W:Wd}{ρ:Lc}{H:Hp}{fr:List (Addr×Obj)}{h:Heap}{m:Str→Option Value}{c led:List (Addr×Obj)}(r:Rep' Γ W ρ H fr h m c led){q:Addr×Obj}(hq:q∈W.sc::led): h.get? q.1=some q.2:=by
 rcases Zz7.mp hq with e | hq
 ·rw[e]
  exact r.F.keep _ _ r.sc
 ·exact(r.N q hq).1
theorem Rep'.off{Γ:Cx}{W:Wd}{ρ:Lc}{H:Hp}{fr:List (Addr×Obj)}{h:Heap}{m:Str→Option Value}{c led:List (Addr×Obj)}(r:Rep' Γ W ρ H fr h m c led): ∀q∈W.sc::led,q.1≠h.objs.size:=fun q hq=>Nat.ne_of_lt (Heap.lt_size (r.get hq))
theorem Rep'.same{Γ:Cx}{W:Wd}{ρ:Lc}{H:Hp}{fr:List (Addr×Obj)}{h h':Heap}{m:Str→Option Value}{c led:List (Addr×Obj)}(r:Rep' Γ W ρ H fr h m c led)(F':Fr Γ.h₀ Γ.L h' m)(N':News Γ.h₀ Γ.L h' led): Rep Γ W ρ H fr h':=
 ⟨m,c,led,F',N',r.R,r.sc,r.sc0,r.frIn,r.frOff,r.clIn,r.clOff,r.apart,r.frTup,r.clTup,r.own⟩
theorem Rep'.piIn{Γ:Cx}{W:Wd}{ρ:Lc}{H:Hp}{fr:List (Addr×Obj)}{h:Heap}{m:Str→Option Value}{c led:List (Addr×Obj)}(r:Rep' Γ W ρ H fr h m c led): ∀a∈W.pi,∃o,(a,o)∈W.sc::led:=by
 intro a ha
 obtain⟨i,hi,e⟩:=List.getElem_of_mem ha
 have hi':i<H.length:=r.R.len▸hi
 obtain⟨_,b,xs,k,h1,h2,_⟩:=r.R.lists i H[i] (List.getElem?_eq_getElem hi')
 have:b=a:=by rw[List.getElem?_eq_getElem hi,e]at h1;exact(Option.some.inj h1).symm
 exact⟨_,this▸h2⟩
theorem Rep'.inLed{Γ:Cx}{W:Wd}{ρ:Lc}{H:Hp}{fr:List (Addr×Obj)}{h:Heap}{m:Str→Option Value}{c led:List (Addr×Obj)}(r:Rep' Γ W ρ H fr h m c led){i:Nat}{a:Addr}{o:Obj}(hi:i≠0)(ea:W.pi[i]?=some a)(hm:(a,o)∈W.sc::led): (a,o)∈led:=by
 rcases Zz7.mp hm with e | hm
 ·have e1:a=W.sc.1:=congrArg (·.1) e
  have hl:i<W.pi.length:=(Zz6.mp ea).1
  have:i=0:=(List.getElem?_inj hl r.R.nd).mp (by rw[ea,r.sc0,e1])
  exact absurd this hi
 ·exact hm
theorem Rep'.notSc{Γ:Cx}{W:Wd}{ρ:Lc}{H:Hp}{fr:List (Addr×Obj)}{h:Heap}{m:Str→Option Value}{c led:List (Addr×Obj)}(r:Rep' Γ W ρ H fr h m c led): ∀q∈led,q.1≠W.sc.1:=fun q hq e=>by
 have:=(r.N q hq).2.2
 rw[e,r.sc]at this
 cases this
theorem Rep'.newTup{Γ:Cx}{W:Wd}{ρ:Lc}{H:Hp}{fr:List (Addr×Obj)}{h h':Heap}{m:Str→Option Value}{c led:List (Addr×Obj)}{vs:List V}{xs:List Value}{k:Nat}{n:Addr}(r:Rep' Γ W ρ H fr h m c led)(F':Fr Γ.h₀ Γ.L h' m)(N':News Γ.h₀ Γ.L h' ((n,Zfd xs k)::led))(hn:∀q∈W.sc::led,q.1≠n)(hv:VRs W vs xs)(hl:vs.length≤LEN):
  ∃W',W.Le W'∧Rep Γ W' ρ H fr h'∧VR W' (.tup vs) (.ref n):=by
 have le:W.Le ⟨W.pi,(n,Zfd xs k)::W.tups,W.sc⟩:=⟨List.prefix_refl _,fun q hq=>List.mem_cons_of_mem _ hq,rfl⟩
 refine⟨⟨W.pi,(n,Zfd xs k)::W.tups,W.sc⟩,le,⟨m,c,(n,Zfd xs k)::led,⟨F',N',?_,r.sc,r.sc0,fun q hq=>List.mem_cons_of_mem _ (r.frIn q hq),r.frOff,fun q hq=>List.mem_cons_of_mem _ (r.clIn q hq),r.clOff,r.apart,fun q hq t ht=>?_,fun q hq t ht=>?_,Γ.mono le r.own⟩⟩,.tup Zz5 hl (hv.mono le)⟩
 ·refine⟨r.R.len,r.R.nd,fun i us e=>?_,fun q hq=>?_,fun q hq=>?_⟩
  ·obtain⟨l,a,ys,j,h1,h2,h3⟩:=r.R.lists i us e
   exact⟨l,a,ys,j,h1,Zf6 h2 fun x hx=>List.mem_cons_of_mem _ hx,h3.mono le⟩
  ·rcases Zz7.mp hq with e | hq
   ·exact e▸List.mem_cons_of_mem _ Zz5
   ·exact Zf6 (r.R.tups q hq) fun x hx=>List.mem_cons_of_mem _ hx
  ·rcases Zz7.mp hq with e | hq
   ·exact⟨xs,k,by rw[e]⟩
   ·exact r.R.kind q hq
 ·rcases Zz7.mp ht with e | ht
  ·rw[e]
   exact hn q (Zz2 _ (r.frIn q hq))
  ·exact r.frTup q hq t ht
 ·rcases Zz7.mp ht with e | ht
  ·rw[e]
   exact hn q (Zz2 _ (r.clIn q hq))
  ·exact r.clTup q hq t ht
theorem Rep.tuple{Γ:Cx}{W:Wd}{ρ:Lc}{H:Hp}{fr:List (Addr×Obj)}{h:Heap}{vs:List V}{xs:List Value}{k:Nat}(r:Rep Γ W ρ H fr h)(hv:VRs W vs xs)(hl:vs.length≤LEN):
  ∃W',W.Le W'∧Rep Γ W' ρ H fr (h.push (Zfd xs k))∧VR W' (.tup vs) (.ref h.objs.size):=by
 obtain⟨m,c,led,r⟩:=r
 exact r.newTup (r.F.push _) (News.push r.F r.N _) r.off hv hl
theorem Rep'.newList{Γ:Cx}{W:Wd}{ρ:Lc}{H:Hp}{fr:List (Addr×Obj)}{h h':Heap}{m:Str→Option Value}{c led:List (Addr×Obj)}{vs:List V}{xs:List Value}{k:Nat}{n:Addr}(r:Rep' Γ W ρ H fr h m c led)(F':Fr Γ.h₀ Γ.L h' m)(N':News Γ.h₀ Γ.L h' ((n,ZbQ xs k)::led))(hn:∀q∈W.sc::led,q.1≠n)(hv:VRs W vs xs)(hl:vs.length≤LEN):
  ∃W',W.Le W'∧Rep Γ W' ρ (H++[vs]) fr h'∧VR W' (.ref H.length) (.ref n):=by
 have le:W.Le ⟨W.pi++[n],W.tups,W.sc⟩:=⟨List.prefix_append _ _,fun q hq=>hq,rfl⟩
 have h0:0<W.pi.length:=(Zz6.mp r.sc0).1
 have at_n:(W.pi++[n])[H.length]?=some n:=by rw[←r.R.len];simp
 refine⟨⟨W.pi++[n],W.tups,W.sc⟩,le,⟨m,c,(n,ZbQ xs k)::led,⟨F',N',?_,r.sc,(List.getElem?_append_left h0).trans r.sc0,fun q hq=>List.mem_cons_of_mem _ (r.frIn q hq),fun q hq=>?_,fun q hq=>List.mem_cons_of_mem _ (r.clIn q hq),fun q hq=>?_,r.apart,r.frTup,r.clTup,Γ.mono le r.own⟩⟩,.ref at_n⟩
 ·refine⟨by simp[r.R.len],?_,fun i us e=>?_,fun q hq=>Zf6 (r.R.tups q hq) fun x hx=>List.mem_cons_of_mem _ hx,r.R.kind⟩
  ·show(W.pi++[n]).Nodup
   rw[List.nodup_append]
   refine⟨r.R.nd,by simp,fun a ha b hb=>?_⟩
   rw[List.mem_singleton.mp hb]
   obtain⟨o,ho⟩:=r.piIn a ha
   exact hn _ ho
  ·by_cases hi:i<H.length
   ·rw[List.getElem?_append_left hi]at e
    obtain⟨l,a,ys,j,h1,h2,h3⟩:=r.R.lists i us e
    exact⟨l,a,ys,j,le.at h1,Zf6 h2 fun x hx=>List.mem_cons_of_mem _ hx,h3.mono le⟩
   ·have:i=H.length:=by
     have:=(Zz6.mp e).1
     simp at this
     omega
    subst this
    simp at e
    subst e
    exact⟨hl,n,xs,k,at_n,List.mem_cons_of_mem _ Zz5,hv.mono le⟩
 ·intro hm
  rcases Zz8.mp hm with hm | hm
  ·exact r.frOff q hq hm
  ·exact hn q (Zz2 _ (r.frIn q hq)) (Zz9.mp hm)
 ·intro hm
  rcases Zz8.mp hm with hm | hm
  ·exact r.clOff q hq hm
  ·exact hn q (Zz2 _ (r.clIn q hq)) (Zz9.mp hm)
theorem Rep.list{Γ:Cx}{W:Wd}{ρ:Lc}{H:Hp}{fr:List (Addr×Obj)}{h:Heap}{vs:List V}{xs:List Value}{k:Nat}(r:Rep Γ W ρ H fr h)(hv:VRs W vs xs)(hl:vs.length≤LEN):
  ∃W',W.Le W'∧Rep Γ W' ρ (H++[vs]) fr (h.push (ZbQ xs k))∧VR W' (.ref H.length) (.ref h.objs.size):=by
 obtain⟨m,c,led,r⟩:=r
 exact r.newList (r.F.push _) (News.push r.F r.N _) r.off hv hl
theorem Rep.at{Γ:Cx}{W:Wd}{ρ:Lc}{H:Hp}{fr:List (Addr×Obj)}{h:Heap}{i:Nat}{a:Addr}{vs:List V}(r:Rep Γ W ρ H fr h)(e:H[i]?=some vs)(ea:W.pi[i]?=some a): vs.length≤LEN∧∃xs k,h.get? a=some (ZbQ xs k)∧VRs W vs xs:=by
 obtain⟨m,c,led,r⟩:=r
 obtain⟨l,b,xs,k,h1,h2,h3⟩:=r.R.lists i vs e
 rw[ea]at h1
 cases h1
 exact⟨l,xs,k,r.get h2,h3⟩
theorem Rep.tupAt{Γ:Cx}{W:Wd}{ρ:Lc}{H:Hp}{fr:List (Addr×Obj)}{h:Heap}{q:Addr×Obj}(r:Rep Γ W ρ H fr h)(e:q∈W.tups): h.get? q.1=some q.2:=by
 obtain⟨m,c,led,r⟩:=r
 exact r.get (r.R.tups _ e)
theorem Rep'.changed{Γ:Cx}{W:Wd}{ρ:Lc}{H:Hp}{fr:List (Addr×Obj)}{h h':Heap}{m:Str→Option Value}{c led:List (Addr×Obj)}{i:Nat}{a:Addr}{vs us:List V}{ys:List Value}{k:Nat}(r:Rep' Γ W ρ H fr h m c led)(i0:i≠0)(e:H[i]?=some vs)(ea:W.pi[i]?=some a)(F':Fr Γ.h₀ Γ.L h' m)(N':News Γ.h₀ Γ.L h' ((a,ZbQ ys k)::led.filter (fun q=>decide (q.1≠a))))(hv:VRs W us ys)(hl:us.length≤LEN):
  Rep Γ W ρ (H.set i us) fr h':=by
 obtain⟨_,b,xs,j,h1,h2,h3⟩:=r.R.lists i vs e
 rw[ea]at h1
 cases h1
 have h2:=r.inLed i0 ea h2
 have hN:=r.N _ h2
 have hm:a∈W.pi:=List.mem_of_getElem? ea
 have hi:i<H.length:=(Zz6.mp e).1
 refine⟨m,c,(a,ZbQ ys k)::led.filter (fun q=>decide (q.1≠a)),⟨F',N',?_,r.sc,r.sc0,fun q hq=>?_,r.frOff,fun q hq=>?_,r.clOff,r.apart,r.frTup,r.clTup,r.own⟩⟩
 ·refine⟨by simp[r.R.len],r.R.nd,fun n ws en=>?_,fun q hq=>?_,r.R.kind⟩
  ·by_cases hn:n=i
   ·subst hn
    rw[List.getElem?_set_self hi]at en
    cases en
    exact⟨hl,a,ys,k,ea,List.mem_cons_of_mem _ Zz5,hv⟩
   ·rw[List.getElem?_set_ne (Ne.symm hn)]at en
    obtain⟨l,d,zs,j',g1,g2,g3⟩:=r.R.lists n ws en
    refine⟨l,d,zs,j',g1,Zex g2 fun g2=>List.mem_cons_of_mem _ (List.mem_filter.mpr ⟨g2,?_⟩),g3⟩
    have:d≠a:=fun e=>by
     subst e
     exact hn ((List.getElem?_inj (Zz6.mp g1).1 r.R.nd).mp (g1.trans ea.symm))
    simpa using this
  ·refine Zex (r.R.tups q hq) fun g2=>List.mem_cons_of_mem _ (List.mem_filter.mpr ⟨g2,?_⟩)
   have:q.1≠a:=fun e=>by
    obtain⟨zs,j',hk⟩:=r.R.kind q hq
    have g:=r.get (r.R.tups q hq)
    rw[e,hN.1,hk]at g
    have c:=congrArg Obj.cls (Option.some.inj g)
    exact absurd c (by simp)
   simpa using this
 ·refine Zz2 _ (List.mem_filter.mpr ⟨r.frIn q hq,?_⟩)
  have:q.1≠a:=fun e=>r.frOff q hq (e▸hm)
  simpa using this
 ·refine Zz2 _ (List.mem_filter.mpr ⟨r.clIn q hq,?_⟩)
  have:q.1≠a:=fun e=>r.clOff q hq (e▸hm)
  simpa using this
theorem Rep.change{Γ:Cx}{W:Wd}{ρ:Lc}{H:Hp}{fr:List (Addr×Obj)}{h h':Heap}{i:Nat}{a:Addr}{vs us:List V}{ys:List Value}{k:Nat}(r:Rep Γ W ρ H fr h)(i0:i≠0)(e:H[i]?=some vs)(ea:W.pi[i]?=some a)(sb:Heap.SameBut a h h')(ha:h'.get? a=some (ZbQ ys k))(hv:VRs W us ys)(hl:us.length≤LEN):
  Rep Γ W ρ (H.set i us) fr h':=by
 obtain⟨m,c,led,r⟩:=r
 obtain⟨_,b,xs,j,h1,h2,h3⟩:=r.R.lists i vs e
 rw[ea]at h1
 cases h1
 have h2:=r.inLed i0 ea h2
 have hN:=r.N _ h2
 have keep:∀q∈led,q.1≠a→h'.get? q.1=some q.2:=fun q hq hn=>sb.extBut _ _ hn (r.N q hq).1
 refine r.changed (k:=k) i0 e ea ⟨r.F.ns.sameBut sb (Ne.symm hN.2.1),fun b o eb=>sb.extBut b o (fun q=>?_) (r.F.keep b o eb),r.F.above⟩ (fun q hq=>?_) hv hl
 ·subst q
  rw[hN.2.2]at eb
  cases eb
 ·rcases Zz7.mp hq with e | hq
  ·subst e
   exact⟨ha,hN.2⟩
  ·obtain⟨h1,h2⟩:=List.mem_filter.mp hq
   exact⟨keep q h1 (by simpa using h2),(r.N q h1).2⟩
theorem Rep.swap{Γ:Cx}{W:Wd}{ρ:Lc}{H:Hp}{fs fs' fr:List (Addr×Obj)}{h h':Heap}(r:Rep Γ W ρ H (fs++fr) h)(ap:∀q∈fs,∀t∈fr,q.1≠t.1)(keep:∀b o,b∉fs.map (·.1)→h.get? b=some o→h'.get? b=some o)(new:∀q∈fs',h'.get? q.1=some q.2∧q.1∈fs.map (·.1)): Rep Γ W ρ H (fs'++fr) h':=by
 obtain⟨m,c,led,r⟩:=r
 have inF:∀q∈fs,q∈fs++fr:=fun q hq=>List.mem_append_left _ hq
 have nL:∀a∈fs.map (·.1),a≠Γ.L∧Γ.h₀.get? a=none:=fun a ha=>by
  obtain⟨q,hq,e⟩:=Zz11.mp ha
  exact e▸(r.N q (r.frIn q (inF q hq))).2
 have kp:∀q∈led,q.1∉fs.map (·.1)→h'.get? q.1=some q.2:=fun q hq hn=>keep _ _ hn (r.N q hq).1
 refine⟨m,c,fs'++led.filter (fun q=>decide (q.1∉fs.map (·.1))),⟨⟨?_,fun b o e=>?_,r.F.above⟩,fun q hq=>?_,⟨r.R.len,r.R.nd,fun i vs e=>?_,fun q hq=>?_,r.R.kind⟩,r.sc,r.sc0,fun q hq=>?_,fun q hq=>?_,fun q hq=>?_,r.clOff,fun q hq t ht=>?_,fun q hq t ht=>?_,r.clTup,r.own⟩⟩
 ·obtain⟨o,es,ep,h1,h2⟩:=r.F.ns
  exact⟨o,es,ep,keep _ _ (fun q=>(nL _ q).1 rfl) h1,h2⟩
 ·refine keep b o (fun q=>?_) (r.F.keep b o e)
  rw[(nL b q).2]at e
  cases e
 ·rcases Zz8.mp hq with hq | hq
  ·obtain⟨h1,h2⟩:=new q hq
   exact⟨h1,nL _ h2⟩
  ·obtain⟨h1,h2⟩:=List.mem_filter.mp hq
   exact⟨kp q h1 (by simpa using h2),(r.N q h1).2⟩
 ·obtain⟨l,a,xs,k,h1,h2,h3⟩:=r.R.lists i vs e
  refine⟨l,a,xs,k,h1,Zex h2 fun h2=>List.mem_append_right _ (List.mem_filter.mpr ⟨h2,?_⟩),h3⟩
  have:a∉fs.map (·.1):=fun q=>by
   obtain⟨t,ht,e⟩:=Zz11.mp q
   exact r.frOff t (inF t ht) (e▸List.mem_of_getElem? h1)
  simpa using this
 ·refine Zex (r.R.tups q hq) fun h2=>List.mem_append_right _ (List.mem_filter.mpr ⟨h2,?_⟩)
  have:q.1∉fs.map (·.1):=fun z=>by
   obtain⟨t,ht,e⟩:=Zz11.mp z
   exact r.frTup t (inF t ht) q hq e
  simpa using this
 ·rcases Zz8.mp hq with hq | hq
  ·exact Zz4 _ hq
  ·refine Zz3 _ (List.mem_filter.mpr ⟨r.frIn q (Zz3 _ hq),?_⟩)
   have:q.1∉fs.map (·.1):=fun z=>by
    obtain⟨t,ht,e⟩:=Zz11.mp z
    exact ap t ht q hq e
   simpa using this
 ·rcases Zz8.mp hq with hq | hq
  ·obtain⟨t,ht,e⟩:=Zz11.mp (new q hq).2
   exact e▸r.frOff t (inF t ht)
  ·exact r.frOff q (Zz3 _ hq)
 ·refine Zz3 _ (List.mem_filter.mpr ⟨r.clIn q hq,?_⟩)
  have:q.1∉fs.map (·.1):=fun z=>by
   obtain⟨t,ht,e⟩:=Zz11.mp z
   exact r.apart q hq t (inF t ht) e.symm
  simpa using this
 ·rcases Zz8.mp ht with ht | ht
  ·obtain⟨u,hu,e⟩:=Zz11.mp (new t ht).2
   exact e▸r.apart q hq u (inF u hu)
  ·exact r.apart q hq t (Zz3 _ ht)
 ·rcases Zz8.mp hq with hq | hq
  ·obtain⟨u,hu,e⟩:=Zz11.mp (new q hq).2
   exact e▸r.frTup u (inF u hu) t ht
  ·exact r.frTup q (Zz3 _ hq) t ht
theorem Rep.more{Γ:Cx}{W:Wd}{ρ:Lc}{H:Hp}{fs fr:List (Addr×Obj)}{h h':Heap}(r:Rep Γ W ρ H fr h)(up:∀b o,h.get? b=some o→h'.get? b=some o)(new:∀q∈fs,h'.get? q.1=some q.2∧h.objs.size≤q.1): Rep Γ W ρ H (fs++fr) h'∧∀q∈fs,∀t∈fr,q.1≠t.1:=by
 have r':=r.grown up
 obtain⟨m,c,led,r⟩:=r
 have lt:∀q∈W.sc::led,q.1<h.objs.size:=fun q hq=>Heap.lt_size (r.get hq)
 have ne:∀q∈fs,∀t∈W.sc::led,q.1≠t.1:=fun q hq t ht=>Nat.ne_of_gt (Nat.lt_of_lt_of_le (lt t ht) (new q hq).2)
 refine⟨⟨m,c,fs++led,⟨⟨?_,fun b o e=>up b o (r.F.keep b o e),r.F.above⟩,fun q hq=>?_,r.R.mono fun q hq=>Zf6 hq fun x hx=>List.mem_append_right _ hx,r.sc,r.sc0,fun q hq=>?_,fun q hq=>?_,fun q hq=>List.mem_append_right _ (r.clIn q hq),r.clOff,fun q hq t ht=>?_,fun q hq t ht=>?_,r.clTup,r.own⟩⟩,fun q hq t ht=>ne q hq t (Zz2 _ (r.frIn t ht))⟩
 ·obtain⟨o,es,ep,h1,h2⟩:=r.F.ns
  exact⟨o,es,ep,up _ _ h1,h2⟩
 ·rcases Zz8.mp hq with hq | hq
  ·obtain⟨h1,h2⟩:=new q hq
   refine⟨h1,fun e=>?_,?_⟩
   ·exact absurd (e▸r.F.ns.lt) (Nat.not_lt.mpr h2)
   ·cases e:Γ.h₀.get? q.1 with
    | none=>rfl
    | some o=>exact absurd (Heap.lt_size (r.F.keep _ _ e)) (Nat.not_lt.mpr h2)
  ·exact⟨up _ _ (r.N q hq).1,(r.N q hq).2⟩
 ·rcases Zz8.mp hq with hq | hq
  ·exact Zz4 _ hq
  ·exact Zz3 _ (r.frIn q hq)
 ·rcases Zz8.mp hq with hq | hq
  ·intro hm
   obtain⟨o,ho⟩:=r.piIn _ hm
   exact ne q hq _ ho rfl
  ·exact r.frOff q hq
 ·rcases Zz8.mp ht with ht | ht
  ·exact(ne t ht q (Zz2 _ (r.clIn q hq))).symm
  ·exact r.apart q hq t ht
 ·rcases Zz8.mp hq with hq | hq
  ·exact ne q hq t (r.R.tups t ht)
  ·exact r.frTup q hq t ht
theorem Rep.less{Γ:Cx}{W:Wd}{ρ:Lc}{H:Hp}{fs fr:List (Addr×Obj)}{h:Heap}(r:Rep Γ W ρ H fs h)(sub:∀q∈fr,q∈fs): Rep Γ W ρ H fr h:=by
 obtain⟨m,c,led,r⟩:=r
 exact⟨m,c,led,⟨r.F,r.N,r.R,r.sc,r.sc0,fun q hq=>r.frIn q (sub q hq),fun q hq=>r.frOff q (sub q hq),r.clIn,r.clOff,fun q hq t ht=>r.apart q hq t (sub t ht),fun q hq=>r.frTup q (sub q hq),r.clTup,r.own⟩⟩
theorem Rep.frAt{Γ:Cx}{W:Wd}{ρ:Lc}{H:Hp}{fr:List (Addr×Obj)}{h:Heap}{q:Addr×Obj}(r:Rep Γ W ρ H fr h)(hq:q∈fr): h.get? q.1=some q.2:=by
 obtain⟨m,c,led,r⟩:=r
 exact(r.N q (r.frIn q hq)).1
end PM
end
section
set_option autoImplicit false
namespace PM
open PySem PyProof.Rows PyProof
noncomputable abbrev Ex:=Lc→Hp→Option (V×Hp)
noncomputable abbrev Exs:=Lc→Hp→Option (List V×Hp)
noncomputable abbrev Ts:=Lc→Hp→Option (Bool×Hp)
noncomputable abbrev ZhD(Γ:Cx)(W:Wd)(ρ:Lc)(H:Hp)(fr:List (Addr×Obj))(s:Shared)(Q:Value→Shared→Prop)(v:V): Prop:=
 ∀(W':Wd) (h':Heap) (tk':Nat) (x:Value),W.Le W'→Rep Γ W' ρ H fr h'→VR W' v x→Q x { s with heap:=h',toks:=tk' }
noncomputable abbrev Zjz(Γ:Cx)(W:Wd)(ρ:Lc)(H:Hp)(fr:List (Addr×Obj))(s:Shared)(Q:Bool→Shared→Prop)(b:Bool): Prop:=
 ∀(W':Wd) (h':Heap) (tk':Nat),W.Le W'→Rep Γ W' ρ H fr h'→Q b { s with heap:=h',toks:=tk' }
section
variable (prog:Program) (w:World)
noncomputable def J(Γ:Cx)(e:Expr)(f:Ex): Prop:=∀(W:Wd) (ρ:Lc) (H:Hp) (fr:List (Addr×Obj)) (s:Shared) (Q E:Value→Shared→Prop) (v:V) (H':Hp),
 Rep Γ W ρ H fr s.heap→f ρ H=some (v,H')→ZhD Γ W ρ H' fr s Q v→wpAny (model prog w) Γ.A (eval e Γ.env) Q E s
noncomputable def Js(Γ:Cx)(es:List Expr)(f:Exs): Prop:=∀(pos:Pos) (W:Wd) (ρ:Lc) (H:Hp) (fr:List (Addr×Obj)) (s:Shared) (Q:List Value→Shared→Prop) (E:Value→Shared→Prop) (vs:List V) (H':Hp),
 Rep Γ W ρ H fr s.heap→f ρ H=some (vs,H')→(∀(W':Wd) (h':Heap) (tk':Nat) (xs:List Value),W.Le W'→Rep Γ W' ρ H' fr h'→VRs W' vs xs→Q xs { s with heap:=h',toks:=tk' })→wpAny (model prog w) Γ.A (spliced (backTo pos (starEach es Γ.env))) Q E s
noncomputable def JT(Γ:Cx)(e:Expr)(f:Ts): Prop:=∀(W:Wd) (ρ:Lc) (H:Hp) (fr:List (Addr×Obj)) (s:Shared) (Q:Bool→Shared→Prop) (E:Value→Shared→Prop) (b:Bool) (H':Hp),
 Rep Γ W ρ H fr s.heap→f ρ H=some (b,H')→Zjz Γ W ρ H' fr s Q b→wpAny (model prog w) Γ.A (isTrue e Γ.env (eval e Γ.env)) Q E s
noncomputable def Op2(m:Value→Value→Sem Value)(o:V→V→Hp→Option (V×Hp)): Prop:=∀(Γ:Cx) (W:Wd) (ρ:Lc) (H:Hp) (fr:List (Addr×Obj)) (s:Shared) (Q E:Value→Shared→Prop) (a b:V) (x y:Value) (v:V) (H':Hp),
 Rep Γ W ρ H fr s.heap→VR W a x→VR W b y→o a b H=some (v,H')→ZhD Γ W ρ H' fr s Q v→wpAny (model prog w) Γ.A (m x y) Q E s
noncomputable def Op1(m:Value→Sem Value)(o:V→Hp→Option (V×Hp)): Prop:=∀(Γ:Cx) (W:Wd) (ρ:Lc) (H:Hp) (fr:List (Addr×Obj)) (s:Shared) (Q E:Value→Shared→Prop) (a:V) (x:Value) (v:V) (H':Hp),
 Rep Γ W ρ H fr s.heap→VR W a x→o a H=some (v,H')→ZhD Γ W ρ H' fr s Q v→wpAny (model prog w) Γ.A (m x) Q E s
noncomputable def OpT(m:Value→Sem Bool)(o:V→Hp→Option Bool): Prop:=∀(Γ:Cx) (W:Wd) (ρ:Lc) (H:Hp) (fr:List (Addr×Obj)) (s:Shared) (Q:Bool→Shared→Prop) (E:Value→Shared→Prop) (a:V) (x:Value) (b:Bool),
 Rep Γ W ρ H fr s.heap→VR W a x→o a H=some b→Zjz Γ W ρ H fr s Q b→wpAny (model prog w) Γ.A (m x) Q E s
end
noncomputable def Zn(k:Int): Ex:=fun _ H=>some (.int k,H)
noncomputable def Zac: Ex:=fun _ H=>some (.none,H)
noncomputable def Za3(b:Bool): Ex:=fun _ H=>some (.bool b,H)
noncomputable def ZcB(x:Str): Ex:=fun _ H=>some (.str x,H)
noncomputable def Zb(i:Nat): Ex:=fun ρ H=>(ρ i).map fun v=>(v,H)
noncomputable def Zk(o:V→V→Hp→Option (V×Hp))(f g:Ex): Ex:=fun ρ H=>(f ρ H).bind fun p=>(g ρ p.2).bind fun q=>o p.1 q.1 q.2
noncomputable def eUn(o:V→Hp→Option (V×Hp))(f:Ex): Ex:=fun ρ H=>(f ρ H).bind fun p=>o p.1 p.2
noncomputable def eIf(t:Ts)(f g:Ex): Ex:=fun ρ H=>(t ρ H).bind fun p=>if p.1 then f ρ p.2 else g ρ p.2
noncomputable def Zq: Exs:=fun _ H=>some ([],H)
noncomputable def Zf(f:Ex)(g:Exs): Exs:=fun ρ H=>(f ρ H).bind fun p=>(g ρ p.2).bind fun q=>some (p.1::q.1,q.2)
noncomputable def ZaV(g:Exs): Ex:=fun ρ H=>(g ρ H).bind fun p=>if p.1.length≤LEN then some (.tup p.1,p.2)else none
noncomputable def Zca(g:Exs): Ex:=fun ρ H=>(g ρ H).bind fun p=>if p.1.length≤LEN then some (.ref p.2.length,p.2++[p.1])else none
noncomputable def ZcY: V→Hp→Option Bool
 | .bool b,_=>some b
 | .int i,_=>some (i != 0)
 | .none,_=>some false
 | _,_=>none
noncomputable def ZM(f:Ex): Ts:=fun ρ H=>(f ρ H).bind fun p=>(ZcY p.1 p.2).map fun b=>(b,p.2)
noncomputable def ZbC(t:Ts): Ts:=fun ρ H=>(t ρ H).map fun p=>(!p.1,p.2)
noncomputable def ZaM: Ts:=fun _ H=>some (true,H)
noncomputable def Zb9: Ts:=fun _ H=>some (false,H)
noncomputable def Zbe(t u:Ts): Ts:=fun ρ H=>(t ρ H).bind fun p=>if p.1 then u ρ p.2 else some (false,p.2)
noncomputable def tOr(t u:Ts): Ts:=fun ρ H=>(t ρ H).bind fun p=>if p.1 then some (true,p.2)else u ρ p.2
noncomputable def Zgc(f:Ex): Ex:=fun ρ H=>(f ρ H).bind fun p=>(ZcY p.1 p.2).map fun b=>(.bool (!b),p.2)
noncomputable def ZcC(f g:Ex): Ex:=fun ρ H=>(f ρ H).bind fun p=>(ZcY p.1 p.2).bind fun b=>if b then g ρ p.2 else some p
noncomputable def eOr(f g:Ex): Ex:=fun ρ H=>(f ρ H).bind fun p=>(ZcY p.1 p.2).bind fun b=>if b then some p else g ρ p.2
section
variable {prog:Program} {w:World} {Γ:Cx}
theorem J.int(k:Int)(n:Nat)(pos:Pos): J prog w Γ (.Constant (.int k) n pos) (Zn k):=fun W ρ H fr s Q E v H' r e post=>by
 cases e
 exact wpAny_Constant_int (post W s.heap _ _ (.refl W) r (.int k _))
theorem J.none(n:Nat)(pos:Pos): J prog w Γ (.Constant .none n pos) Zac:=fun W ρ H fr s Q E v H' r e post=>by
 cases e
 exact wpAny_Constant_none (post W s.heap s.toks _ (.refl W) r .none)
theorem J.bool(b:Bool)(n:Nat)(pos:Pos): J prog w Γ (.Constant (.bool b) n pos) (Za3 b):=fun W ρ H fr s Q E v H' r e post=>by
 cases e
 exact wpAny_Constant_bool (post W s.heap s.toks _ (.refl W) r (.bool b))
theorem J.str(x:Str)(n:Nat)(pos:Pos): J prog w Γ (.Constant (.str x) n pos) (ZcB x):=fun W ρ H fr s Q E v H' r e post=>by
 cases e
 exact wpAny_Constant_str (post W s.heap _ _ (.refl W) r (.str x _))
theorem ZX{e1 e2:Expr}{op:Operator}{pos:Pos}{f g:Ex}{o:V→V→Hp→Option (V×Hp)}(h1:J prog w Γ e1 f)(h2:J prog w Γ e2 g)(ho:Op2 prog w (binaryOp op) o): J prog w Γ (.BinOp e1 op e2 pos) (Zk o f g):=by
 intro W ρ H fr s Q E v H' r hf post
 obtain⟨p,e1,hf⟩:=Zz0.mp hf
 obtain⟨q,e2,e3⟩:=Zz0.mp hf
 refine wpAny_BinOp (h1 W ρ H fr s _ E _ _ r e1 fun W1 k1 t1 x l1 r1 x1=>?_)
 refine h2 W1 ρ _ fr _ _ E _ _ r1 e2 fun W2 k2 t2 y l2 r2 y2=>?_
 exact ho Γ W2 ρ _ fr _ Q E _ _ x y v H' r2 (x1.mono l2) y2 e3 fun W3 k3 t3 z l3 r3 z3=>post W3 k3 t3 z ((l1.trans l2).trans l3) r3 z3
theorem Zbd{e1 e2:Expr}{op:CmpOp}{pos:Pos}{f g:Ex}{o:V→V→Hp→Option (V×Hp)}(h1:J prog w Γ e1 f)(h2:J prog w Γ e2 g)(ho:Op2 prog w (compareOp op) o)(hm:behindInMarks op e2=false:=by with_unfolding_all rfl): J prog w Γ (.Compare e1 [op] [e2] pos) (Zk o f g):=by
 intro W ρ H fr s Q E v H' r hf post
 obtain⟨p,e1,hf⟩:=Zz0.mp hf
 obtain⟨q,e2,e3⟩:=Zz0.mp hf
 refine wpAny_Compare1 (h1 W ρ H fr s _ E _ _ r e1 fun W1 k1 t1 x l1 r1 x1=>?_) hm
 refine h2 W1 ρ _ fr _ _ E _ _ r1 e2 fun W2 k2 t2 y l2 r2 y2=>?_
 exact ho Γ W2 ρ _ fr _ Q E _ _ x y v H' r2 (x1.mono l2) y2 e3 fun W3 k3 t3 z l3 r3 z3=>post W3 k3 t3 z ((l1.trans l2).trans l3) r3 z3
theorem ZcD{e1:Expr}{op:UnaryOp}{pos:Pos}{f:Ex}{o:V→Hp→Option (V×Hp)}(h1:J prog w Γ e1 f)(ho:Op1 prog w (unaryOp op) o): J prog w Γ (.UnaryOp op e1 pos) (eUn o f):=by
 intro W ρ H fr s Q E v H' r hf post
 obtain⟨p,e1,hf⟩:=Zz0.mp hf
 refine wpAny_UnaryOp (h1 W ρ H fr s _ E _ _ r e1 fun W1 k1 t1 x l1 r1 x1=>?_)
 exact ho Γ W1 ρ _ fr _ Q E _ x v H' r1 x1 hf fun W3 k3 t3 z l3 r3 z3=>post W3 k3 t3 z (l1.trans l3) r3 z3
theorem truth: OpT prog w truthy ZcY:=by
 intro Γ W ρ H fr s Q E a x b r hx ho post
 cases hx with
 | none=>cases ho;exact truthy_none (post W s.heap s.toks (.refl W) r)
 | bool c=>cases ho;exact fun _ _ _=>post W s.heap s.toks (.refl W) r
 | int i t=>cases ho;exact P.truthy_int (post W s.heap s.toks (.refl W) r)
 | str _ _=>cases ho
 | tup _ _ _=>cases ho
 | ref _=>cases ho
theorem Zos{e1:Expr}{pos:Pos}{f:Ex}(h1:J prog w Γ e1 f): J prog w Γ (.UnaryOp .Not e1 pos) (Zgc f):=by
 intro W ρ H fr s Q E v H' r hf post
 obtain⟨p,e1,hf⟩:=Zz0.mp hf
 obtain⟨b,e2,e3⟩:=Zz1.mp hf
 cases e3
 refine wpAny_UnaryOp (h1 W ρ H fr s _ E _ _ r e1 fun W1 k1 t1 x l1 r1 x1=>?_)
 exact not_of (truth Γ W1 ρ _ fr _ _ E _ x b r1 x1 e2 fun W2 k2 t2 l2 r2=>post W2 k2 t2 _ (l1.trans l2) r2 (.bool _))
theorem Zeu{e1 e2:Expr}{pos:Pos}{f g:Ex}(h1:J prog w Γ e1 f)(h2:J prog w Γ e2 g): J prog w Γ (.BoolOp .And [e1,e2] pos) (ZcC f g):=by
 intro W ρ H fr s Q E v H' r hf post
 obtain⟨p,e1,hf⟩:=Zz0.mp hf
 obtain⟨b,e2,e3⟩:=Zz0.mp hf
 refine wpAny_And2 (h1 W ρ H fr s _ E _ _ r e1 fun W1 k1 t1 x l1 r1 x1=>?_)
 refine truth Γ W1 ρ _ fr _ _ E _ x b r1 x1 e2 fun W2 k2 t2 l2 r2=>?_
 cases b with
 | true=>exact h2 W2 ρ _ fr _ Q E v H' r2 e3 fun W3 k3 t3 z l3 r3 z3=>post W3 k3 t3 z ((l1.trans l2).trans l3) r3 z3
 | false=>
  cases e3
  exact post W2 k2 t2 x (l1.trans l2) r2 (x1.mono l2)
theorem ZjK{e1 e2:Expr}{pos:Pos}{f g:Ex}(h1:J prog w Γ e1 f)(h2:J prog w Γ e2 g): J prog w Γ (.BoolOp .Or [e1,e2] pos) (eOr f g):=by
 intro W ρ H fr s Q E v H' r hf post
 obtain⟨p,e1,hf⟩:=Zz0.mp hf
 obtain⟨b,e2,e3⟩:=Zz0.mp hf
 refine wpAny_Or2 (h1 W ρ H fr s _ E _ _ r e1 fun W1 k1 t1 x l1 r1 x1=>?_)
 refine truth Γ W1 ρ _ fr _ _ E _ x b r1 x1 e2 fun W2 k2 t2 l2 r2=>?_
 cases b with
 | false=>exact h2 W2 ρ _ fr _ Q E v H' r2 e3 fun W3 k3 t3 z l3 r3 z3=>post W3 k3 t3 z ((l1.trans l2).trans l3) r3 z3
 | true=>
  cases e3
  exact post W2 k2 t2 x (l1.trans l2) r2 (x1.mono l2)
theorem Ze7{t e1 e2:Expr}{pos:Pos}{u:Ts}{f g:Ex}(ht:JT prog w Γ t u)(h1:J prog w Γ e1 f)(h2:J prog w Γ e2 g): J prog w Γ (.IfExp t e1 e2 pos) (eIf u f g):=by
 intro W ρ H fr s Q E v H' r hf post
 obtain⟨p,e1,hf⟩:=Zz0.mp hf
 refine wpAny_IfExp (ht W ρ H fr s _ E _ _ r e1 fun W1 k1 t1 l1 r1=>?_)
 obtain⟨b,H1⟩:=p
 cases b with
 | true=>exact h1 W1 ρ _ fr _ Q E v H' r1 hf fun W3 k3 t3 z l3 r3 z3=>post W3 k3 t3 z (l1.trans l3) r3 z3
 | false=>exact h2 W1 ρ _ fr _ Q E v H' r1 hf fun W3 k3 t3 z l3 r3 z3=>post W3 k3 t3 z (l1.trans l3) r3 z3
theorem Zt: Js prog w Γ [] Zq:=fun pos W ρ H fr s Q E vs H' r hf post=>by
 cases hf
 exact wpAny_items_nil (post W s.heap s.toks [] (.refl W) r .nil)
theorem Zg{e:Expr}{es:List Expr}{f:Ex}{g:Exs}(h1:J prog w Γ e f)(h2:Js prog w Γ es g)(he:starEach (e::es) Γ.env=(false,eval e Γ.env)::starEach es Γ.env:=by rfl): Js prog w Γ (e::es) (Zf f g):=by
 intro pos W ρ H fr s Q E vs H' r hf post
 obtain⟨p,e1,hf⟩:=Zz0.mp hf
 obtain⟨q,e2,e3⟩:=Zz0.mp hf
 cases e3
 refine wpAny_items_cons (h1 W ρ H fr s _ E _ _ r e1 fun W1 k1 t1 x l1 r1 x1=>?_) he
 exact h2 pos W1 ρ _ fr _ _ E _ _ r1 e2 fun W2 k2 t2 ys l2 r2 y2=>post W2 k2 t2 _ (l1.trans l2) r2 (.cons (x1.mono l2) y2)
theorem J.tup{es:List Expr}{k:Nat}{pos:Pos}{g:Exs}(h:Js prog w Γ es g): J prog w Γ (.Tuple es k pos) (ZaV g):=by
 intro W ρ H fr s Q E v H' r hf post
 obtain⟨p,e1,hf⟩:=Zz0.mp hf
 by_cases hl:p.1.length≤LEN
 ·rw[if_pos hl]at hf
  cases hf
  refine wpAny_Tuple (h pos W ρ H fr s _ E _ _ r e1 fun W1 k1 t1 xs l1 r1 x1=>⟨Zc5 (by rw[x1.length];exact hl),?_⟩)
  obtain⟨W2,l2,r2,v2⟩:=r1.tuple (k:=0) x1 hl
  exact post W2 _ _ _ (l1.trans l2) r2 v2
 ·rw[if_neg hl]at hf
  cases hf
theorem J.list{es:List Expr}{pos:Pos}{g:Exs}(h:Js prog w Γ es g): J prog w Γ (.List es pos) (Zca g):=by
 intro W ρ H fr s Q E v H' r hf post
 obtain⟨p,e1,hf⟩:=Zz0.mp hf
 by_cases hl:p.1.length≤LEN
 ·rw[if_pos hl]at hf
  cases hf
  refine wpAny_List (h pos W ρ H fr s _ E _ _ r e1 fun W1 k1 t1 xs l1 r1 x1=>⟨Zc5 (by rw[x1.length];exact hl),?_⟩)
  obtain⟨W2,l2,r2,v2⟩:=r1.list (k:=0) x1 hl
  exact post W2 _ _ _ (l1.trans l2) r2 v2
 ·rw[if_neg hl]at hf
  cases hf
theorem ZbU{e:Expr}{pos:Pos}{t:Ts}(h:JT prog w Γ e t): JT prog w Γ (.UnaryOp .Not e pos) (ZbC t):=by
 intro W ρ H fr s Q E b H' r hf post
 obtain⟨p,e1,e2⟩:=Zz1.mp hf
 cases e2
 exact isTrue_not (h W ρ H fr s _ E _ _ r e1 post)
noncomputable def JA(prog:Program)(w:World)(Γ:Cx)(op:BoolOp)(es:List Expr)(f:Ts): Prop:=∀(W:Wd) (ρ:Lc) (H:Hp) (fr:List (Addr×Obj)) (s:Shared) (Q:Bool→Shared→Prop) (E:Value→Shared→Prop) (b:Bool) (H':Hp),
 Rep Γ W ρ H fr s.heap→f ρ H=some (b,H')→Zjz Γ W ρ H' fr s Q b→wpAny (model prog w) Γ.A (allTrue op es Γ.env) Q E s
theorem ZcU: JA prog w Γ .And [] ZaM:=fun W ρ H fr s Q E b H' r hf post=>by
 cases hf
 exact wpAny_allTrue_And_nil (post W s.heap s.toks (.refl W) r)
theorem ZcJ: JA prog w Γ .Or [] Zb9:=fun W ρ H fr s Q E b H' r hf post=>by
 cases hf
 exact wpAny_allTrue_Or_nil (post W s.heap s.toks (.refl W) r)
theorem Zbl{e:Expr}{es:List Expr}{t u:Ts}(h1:JT prog w Γ e t)(h2:JA prog w Γ .And es u): JA prog w Γ .And (e::es) (Zbe t u):=by
 intro W ρ H fr s Q E b H' r hf post
 obtain⟨p,e1,hf⟩:=Zz0.mp hf
 refine wpAny_allTrue_And_cons (h1 W ρ H fr s _ E _ _ r e1 fun W1 k1 t1 l1 r1=>?_)
 obtain⟨c,H1⟩:=p
 cases c with
 | true=>exact h2 W1 ρ _ fr _ Q E b H' r1 hf fun W3 k3 t3 l3 r3=>post W3 k3 t3 (l1.trans l3) r3
 | false=>
  cases hf
  exact post W1 k1 t1 l1 r1
theorem Zbf{e:Expr}{es:List Expr}{t u:Ts}(h1:JT prog w Γ e t)(h2:JA prog w Γ .Or es u): JA prog w Γ .Or (e::es) (tOr t u):=by
 intro W ρ H fr s Q E b H' r hf post
 obtain⟨p,e1,hf⟩:=Zz0.mp hf
 refine wpAny_allTrue_Or_cons (h1 W ρ H fr s _ E _ _ r e1 fun W1 k1 t1 l1 r1=>?_)
 obtain⟨c,H1⟩:=p
 cases c with
 | false=>exact h2 W1 ρ _ fr _ Q E b H' r1 hf fun W3 k3 t3 l3 r3=>post W3 k3 t3 (l1.trans l3) r3
 | true=>
  cases hf
  exact post W1 k1 t1 l1 r1
theorem Zbi{op:BoolOp}{es:List Expr}{pos:Pos}{t:Ts}(h:JA prog w Γ op es t): JT prog w Γ (.BoolOp op es pos) t:=fun W ρ H fr s Q E b H' r hf post=>wpAny_isTrue_BoolOp (h W ρ H fr s Q E b H' r hf post)
theorem ZaT{e:Expr}{f:Ex}(h:J prog w Γ e f)(he:isTrue e Γ.env (eval e Γ.env)=(do let v ←eval e Γ.env;standAt e.pos;holding [v] (truthy v)):=by rfl): JT prog w Γ e (ZM f):=by
 intro W ρ H fr s Q E b H' r hf post
 obtain⟨p,e1,hf⟩:=Zz0.mp hf
 obtain⟨c,e2,e3⟩:=Zz1.mp hf
 cases e3
 refine isTrue_plain (h W ρ H fr s _ E _ _ r e1 fun W1 k1 t1 x l1 r1 x1=>?_) he
 exact truth Γ W1 ρ _ fr _ _ E _ x b r1 x1 e2 fun W2 k2 t2 l2 r2=>post W2 k2 t2 (l1.trans l2) r2
theorem Z4{e1 e2:Expr}{op:CmpOp}{pos:Pos}{f g:Ex}{o:V→V→Hp→Option (V×Hp)}(h1:J prog w Γ e1 f)(h2:J prog w Γ e2 g)(ho:Op2 prog w (compareOp op) o)(hm:behindInMarks op e2=false:=by with_unfolding_all rfl): JT prog w Γ (.Compare e1 [op] [e2] pos) (ZM (Zk o f g)):=by
 intro W ρ H fr s Q E b H' r hf post
 obtain⟨pp,e0,hf0⟩:=Zz0.mp hf
 obtain⟨c,e4,e5⟩:=Zz1.mp hf0
 cases e5
 obtain⟨p,e1,hf⟩:=Zz0.mp e0
 obtain⟨q,e2,e3⟩:=Zz0.mp hf
 refine wpAny_isTrue_Compare1 (h1 W ρ H fr s _ E _ _ r e1 fun W1 k1 t1 x l1 r1 x1=>?_) hm
 refine h2 W1 ρ _ fr _ _ E _ _ r1 e2 fun W2 k2 t2 y l2 r2 y2=>?_
 refine ho Γ W2 ρ _ fr _ _ E _ _ x y _ _ r2 (x1.mono l2) y2 e3 fun W3 k3 t3 z l3 r3 z3=>?_
 exact truth Γ W3 ρ _ fr _ _ E _ z b r3 z3 e4 fun W4 k4 t4 l4 r4=>post W4 k4 t4 (((l1.trans l2).trans l3).trans l4) r4
end
end PM
end
section
set_option autoImplicit false
namespace PM
open PySem PyProof.Rows PyProof
noncomputable def mulOk(a b:Int): Bool:=!(decide (Builtin.Int.intBits a>shortFactorBits) && decide (Builtin.Int.intBits b>shortFactorBits) && Builtin.Int.intTooBig (Builtin.Int.intBits a+Builtin.Int.intBits b))
theorem Zvh{a b:Int}(h:mulOk a b=true): IntMulOk a b:=by
 unfold mulOk at h
 unfold IntMulOk
 intro c
 rw[c]at h
 cases h
noncomputable def ZbR: V→V→Hp→Option (V×Hp)
 | .int a,.int b,H=>some (.int (a-b),H)
 | _,_,_=>none
noncomputable def oDiv: V→V→Hp→Option (V×Hp)
 | .int a,.int b,H=>if b≠0∧Builtin.divisionGoesByPylong a b=false then some (.int (a.fdiv b),H)else none
 | _,_,_=>none
noncomputable def oMod: V→V→Hp→Option (V×Hp)
 | .int a,.int b,H=>if b≠0 then some (.int (a.fmod b),H)else none
 | _,_,_=>none
noncomputable def oPow: V→V→Hp→Option (V×Hp)
 | .int a,.int b,H=>if 0≤b∧(Builtin.Int.intBits a:Int)*b≤2 ^ 27 then some (.int (a ^ b.toNat),H)else none
 | _,_,_=>none
noncomputable def Zcb: V→Hp→Option (V×Hp)
 | .int a,H=>some (.int (-a),H)
 | _,_=>none
noncomputable def ZjL(p:Int→Int→Bool): V→V→Hp→Option (V×Hp)
 | .int a,.int b,H=>some (.bool (p a b),H)
 | _,_,_=>none
noncomputable def oLt:=ZjL fun a b=>decide (a<b)
noncomputable def oLe:=ZjL fun a b=>decide (a≤b)
noncomputable def oGt:=ZjL fun a b=>decide (b<a)
section
variable {prog:Program} {w:World}
theorem Zb0: Op2 prog w (binaryOp .Sub) ZbR:=by
 intro Γ W ρ H fr s Q E a b x y v H' r hx hy ho post
 cases hx <;> first | (cases ho;done) | skip
 cases hy <;> first | (cases ho;done) | skip
 cases ho
 exact PySem.P.sub_int (post W s.heap _ _ (.refl W) r (.int _ _))
theorem Zbj: Op2 prog w (binaryOp .Mod) oMod:=by
 intro Γ W ρ H fr s Q E a b x y v H' r hx hy ho post
 cases hx <;> first | (cases ho;done) | skip
 cases hy <;> first | (cases ho;done) | skip
 rename_i i t j u
 simp only[oMod]at ho
 by_cases hb:j≠0
 ·rw[if_pos hb]at ho
  cases ho
  exact mod_int' hb (post W s.heap _ _ (.refl W) r (.int _ _))
 ·rw[if_neg hb]at ho
  cases ho
theorem Ze0: Op2 prog w (binaryOp .FloorDiv) oDiv:=by
 intro Γ W ρ H fr s Q E a b x y v H' r hx hy ho post
 cases hx <;> first | (cases ho;done) | skip
 cases hy <;> first | (cases ho;done) | skip
 rename_i i t j u
 simp only[oDiv]at ho
 by_cases hb:j≠0∧Builtin.divisionGoesByPylong i j=false
 ·rw[if_pos hb]at ho
  cases ho
  exact floordiv_int hb.1 (post W s.heap _ _ (.refl W) r (.int _ _)) (.inl hb.2)
 ·rw[if_neg hb]at ho
  cases ho
theorem Zn9: Op2 prog w (binaryOp .Pow) oPow:=by
 intro Γ W ρ H fr s Q E a b x y v H' r hx hy ho post
 cases hx <;> first | (cases ho;done) | skip
 cases hy <;> first | (cases ho;done) | skip
 rename_i i t j u
 simp only[oPow]at ho
 by_cases hb:0≤j∧(Builtin.Int.intBits i:Int)*j≤2 ^ 27
 ·rw[if_pos hb]at ho
  cases ho
  exact pow_int hb.1 hb.2 (post W s.heap _ _ (.refl W) r (.int _ _))
 ·rw[if_neg hb]at ho
  cases ho
theorem Zct: Op1 prog w (unaryOp .USub) Zcb:=by
 intro Γ W ρ H fr s Q E a x v H' r hx ho post
 cases hx <;> first | (cases ho;done) | skip
 cases ho
 exact PySem.P.neg_int (post W s.heap _ _ (.refl W) r (.int _ _))
theorem ZdF: Op2 prog w (compareOp .Lt) oLt:=by
 intro Γ W ρ H fr s Q E a b x y v H' r hx hy ho post
 cases hx <;> first | (cases ho;done) | skip
 cases hy <;> first | (cases ho;done) | skip
 cases ho
 exact PySem.P.lt_int (post W s.heap s.toks _ (.refl W) r (.bool _))
theorem ZjA: Op2 prog w (compareOp .LtE) oLe:=by
 intro Γ W ρ H fr s Q E a b x y v H' r hx hy ho post
 cases hx <;> first | (cases ho;done) | skip
 cases hy <;> first | (cases ho;done) | skip
 cases ho
 exact PySem.P.le_int (post W s.heap s.toks _ (.refl W) r (.bool _))
theorem Zd2: Op2 prog w (compareOp .Gt) oGt:=by
 intro Γ W ρ H fr s Q E a b x y v H' r hx hy ho post
 cases hx <;> first | (cases ho;done) | skip
 cases hy <;> first | (cases ho;done) | skip
 cases ho
 exact PySem.P.gt_int (post W s.heap s.toks _ (.refl W) r (.bool _))
end
end PM
end
section
set_option autoImplicit false
namespace PM
open PySem PyProof.Rows PyProof
noncomputable def Zgd(f:V→Option PyData): List V→Option (List PyData)
 | []=>some []
 | v::vs=>(f v).bind fun d=>(Zgd f vs).bind fun ds=>some (d::ds)
noncomputable def toD(H:Hp): Nat→V→Option PyData
 | _,.none=>some .none
 | _,.bool b=>some (.bool b)
 | _,.int i=>some (.int i)
 | _,.str x=>some (.str x)
 | n+1,.tup vs=>(Zgd (toD H n) vs).map .tuple
 | n+1,.ref a=>H[a]?.bind fun vs=>(Zgd (toD H n) vs).map .list
 | 0,.tup _=>none
 | 0,.ref _=>none
theorem ZlY{W:Wd}{h:Heap}{f:V→Option PyData}(ih:∀v x d,VR W v x→f v=some d→∃as,Reads h x d as): ∀{vs:List V} {xs:List Value} {ds:List PyData},VRs W vs xs→Zgd f vs=some ds→∃as,ReadsAll h xs ds as
 | _,_,_,.nil,e=>by
  cases e
  exact⟨_,.nil⟩
 | _,_,_,.cons a r,e=>by
  obtain⟨d,e1,e⟩:=Zz0.mp e
  obtain⟨ds,e2,e3⟩:=Zz0.mp e
  cases e3
  obtain⟨as,h1⟩:=ih _ _ _ a e1
  obtain⟨bs,h2⟩:=ZlY ih r e2
  exact⟨_,.cons h1 h2⟩
theorem ZfB{Γ:Cx}{W:Wd}{ρ:Lc}{H:Hp}{fr:List (Addr×Obj)}{h:Heap}(r:Rep Γ W ρ H fr h): ∀(n:Nat) (v:V) (x:Value) (d:PyData),VR W v x→toD H n v=some d→∃as,Reads h x d as:=by
 intro n
 induction n with
 | zero=>
  intro v x d hv e
  cases hv with
  | none=>cases e;exact⟨_,.none⟩
  | bool b=>cases e;exact⟨_,.bool b⟩
  | int i t=>cases e;exact⟨_,.int i t⟩
  | str y t=>cases e;exact⟨_,.str y t⟩
  | tup _ _ _=>cases e
  | ref _=>cases e
 | succ n ih=>
  intro v x d hv e
  cases hv with
  | none=>cases e;exact⟨_,.none⟩
  | bool b=>cases e;exact⟨_,.bool b⟩
  | int i t=>cases e;exact⟨_,.int i t⟩
  | str y t=>cases e;exact⟨_,.str y t⟩
  | @tup vs a xs k hm hl hs=>
   obtain⟨ds,e1,e2⟩:=Zz1.mp e
   subst e2
   obtain⟨as,h1⟩:=ZlY ih hs e1
   exact⟨_,.tuple (r.tupAt hm) rfl rfl (by simpa using h1)⟩
  | @ref i a ea=>
   obtain⟨vs,e0,e⟩:=Zz0.mp e
   obtain⟨ds,e1,e2⟩:=Zz1.mp e
   subst e2
   obtain⟨hl,xs,k,hg,hs⟩:=r.at e0 ea
   obtain⟨as,h1⟩:=ZlY ih hs e1
   exact⟨_,.list hg rfl rfl (by simpa using h1)⟩
noncomputable def ZbS: Nat:=8
noncomputable def ZjM(a b:V)(H:Hp): Option Bool:=(toD H ZbS a).bind fun d=>(toD H ZbS b).bind fun e=>if SeqAt.shaped d=true∧SeqAt.shaped e=true then some (PyData.eqv d e)else none
noncomputable def oEq(a b:V)(H:Hp): Option (V×Hp):=(ZjM a b H).map fun c=>(.bool c,H)
noncomputable def oNe(a b:V)(H:Hp): Option (V×Hp):=(ZjM a b H).map fun c=>(.bool (!c),H)
noncomputable def oIs: V→V→Hp→Option (V×Hp)
 | .none,.none,H=>some (.bool true,H)
 | .bool _,.none,H=>some (.bool false,H)
 | .int _,.none,H=>some (.bool false,H)
 | .str _,.none,H=>some (.bool false,H)
 | .tup _,.none,H=>some (.bool false,H)
 | .ref _,.none,H=>some (.bool false,H)
 | _,_,_=>none
noncomputable def ZcO(a b:V)(H:Hp): Option (V×Hp):=(oIs a b H).bind fun p=>match p.1 with | .bool c=>some (.bool (!c),p.2) | _=>none
section
variable {prog:Program} {w:World}
theorem Zar: Op2 prog w (compareOp .Eq) oEq:=by
 intro Γ W ρ H fr s Q E a b x y v H' r hx hy ho post
 obtain⟨c,e1,e2⟩:=Zz1.mp ho
 cases e2
 obtain⟨d,h1,e1⟩:=Zz0.mp e1
 obtain⟨e,h2,e1⟩:=Zz0.mp e1
 by_cases hs:SeqAt.shaped d=true∧SeqAt.shaped e=true
 ·rw[if_pos hs]at e1
  cases e1
  obtain⟨as,R1⟩:=ZfB r ZbS a x d hx h1
  obtain⟨bs,R2⟩:=ZfB r ZbS b y e hy h2
  exact eq_dataH R1 R2 hs.1 hs.2 (by have:=Γ.hu;omega) (post W s.heap s.toks _ (.refl W) r (.bool _))
 ·rw[if_neg hs]at e1
  cases e1
theorem Zcx: Op2 prog w (compareOp .NotEq) oNe:=by
 intro Γ W ρ H fr s Q E a b x y v H' r hx hy ho post
 obtain⟨c,e1,e2⟩:=Zz1.mp ho
 cases e2
 obtain⟨d,h1,e1⟩:=Zz0.mp e1
 obtain⟨e,h2,e1⟩:=Zz0.mp e1
 by_cases hs:SeqAt.shaped d=true∧SeqAt.shaped e=true
 ·rw[if_pos hs]at e1
  cases e1
  obtain⟨as,R1⟩:=ZfB r ZbS a x d hx h1
  obtain⟨bs,R2⟩:=ZfB r ZbS b y e hy h2
  exact ne_dataH R1 R2 hs.1 hs.2 (by have:=Γ.hu;omega) (post W s.heap s.toks _ (.refl W) r (.bool _))
 ·rw[if_neg hs]at e1
  cases e1
theorem ZbX: Op2 prog w (compareOp .Is) oIs:=by
 intro Γ W ρ H fr s Q E a b x y v H' r hx hy ho post
 cases hy <;> first | (cases hx <;> cases ho;done) | skip
 refine PySem.is_none ?_
 cases hx <;> (cases ho;exact post W s.heap s.toks _ (.refl W) r (.bool _))
theorem Zc6: Op2 prog w (compareOp .IsNot) ZcO:=by
 intro Γ W ρ H fr s Q E a b x y v H' r hx hy ho post
 cases hy <;> first | (cases hx <;> cases ho;done) | skip
 refine PySem.isNot_none ?_
 cases hx <;> (cases ho;exact post W s.heap s.toks _ (.refl W) r (.bool _))
end
end PM
end
section
set_option autoImplicit false
namespace PM
open PySem PyProof.Rows PyProof
noncomputable def Zw: V→V→Hp→Option (V×Hp)
 | .ref a,.int k,H=>H[a]?.bind fun vs=>(seqIndex? k vs.length).bind fun j=>vs[j]?.map fun v=>(v,H)
 | .tup vs,.int k,H=>(seqIndex? k vs.length).bind fun j=>vs[j]?.map fun v=>(v,H)
 | _,_,_=>none
theorem Zpd{k:Int}{n j:Nat}(h:seqIndex? k n=some j): j<n∧(k:Int)<n∧-(n:Int)≤k∧(0≤k→k.toNat=j)∧(k<0→(k+n).toNat=j):=by
 unfold seqIndex? at h
 by_cases c:k<0
 ·simp only[c,if_true]at h
  split at h
  ·rename_i d
   simp at d h
   omega
  ·cases h
 ·simp only[c,if_false]at h
  split at h
  ·rename_i d
   simp at d h
   omega
  ·cases h
section
variable {prog:Program} {w:World} {Γ:Cx}
theorem ZE{e1 e2:Expr}{pos:Pos}{f g:Ex}(h1:J prog w Γ e1 f)(h2:J prog w Γ e2 g)(hs:∀a k u,subscripted e2 false (.ref a) (.int k u)=operate [.ref a,.int k u] (getItem (.ref a) (.int k u)):=by intros;with_unfolding_all rfl): J prog w Γ (.Subscript e1 e2 pos) (Zk Zw f g):=by
 intro W ρ H fr s Q E v H' r hf post
 obtain⟨p,e1,hf⟩:=Zz0.mp hf
 obtain⟨q,e2,e3⟩:=Zz0.mp hf
 refine Subscript_ (h1 W ρ H fr s _ E _ _ r e1 fun W1 k1 t1 x l1 r1 x1=>?_)
 refine h2 W1 ρ _ fr _ _ E _ _ r1 e2 fun W2 k2 t2 y l2 r2 y2=>?_
 have x2:=x1.mono l2
 obtain⟨v1,H1⟩:=p
 obtain⟨v2,H2⟩:=q
 simp only at e3 r2 x2 y2
 cases y2 <;> first | (cases x2 <;> cases e3;done) | skip
 rename_i k u
 cases x2 <;> first | (cases e3;done) | skip
 ·rename_i vs a xs kk hm hl hv
  obtain⟨j,hj,e4⟩:=Zz0.mp e3
  obtain⟨z,hz,e5⟩:=Zz1.mp e4
  cases e5
  obtain⟨z',hz',rz⟩:=hv.at hz
  have hx:xs.length=vs.length:=hv.length
  have hb:=Zpd hj
  rw[Zbm]at hl
  have it:IsTup k2 a xs.toArray:=⟨_,r2.tupAt hm,rfl,kk,rfl⟩
  exact item_tupleT it (by omega) (by omega) (by rw[hx];exact hj) hz' (post W2 k2 t2 z' (l1.trans l2) r2 rz) (hs _ _ _)
 ·rename_i i a ea
  obtain⟨vs,hvs,e3⟩:=Zz0.mp e3
  obtain⟨j,hj,e4⟩:=Zz0.mp e3
  obtain⟨z,hz,e5⟩:=Zz1.mp e4
  cases e5
  obtain⟨hl,xs,kk,hg,hv⟩:=r2.at hvs ea
  obtain⟨z',hz',rz⟩:=hv.at hz
  have hx:xs.length=vs.length:=hv.length
  have hb:=Zpd hj
  rw[Zbm]at hl
  have isl:k2.IsList a xs.toArray:=⟨_,hg,rfl,kk,rfl⟩
  refine tail_any (s:={ s with heap:=k2,toks:=t2 }) isl.typeIs slot_list_getitem.lookup ?_ (hs _ _ _)
  by_cases hk:0≤k
  ·exact wpAny_getItem_list isl hk (by omega) (by rw[hb.2.2.2.1 hk];simpa using hz') (post W2 k2 t2 z' (l1.trans l2) r2 rz)
  ·refine wpAny_getItem_list_neg isl (by omega) (by simp;omega) (by omega) ?_ (post W2 k2 t2 z' (l1.trans l2) r2 rz)
   have:=hb.2.2.2.2 (by omega)
   rw[←hx]at this
   simpa [this]using hz'
end
noncomputable def ZbE{α:Type}(vs:List α)(lo hi:Option Int): List α:=(sliceRange (sliceBounds lo hi none vs.length).1 (sliceBounds lo hi none vs.length).2.1 (sliceBounds lo hi none vs.length).2.2).filterMap fun i=>vs[i]?
theorem VRs.pick{W:Wd}{vs:List V}{xs:List Value}(h:VRs W vs xs)(l:List Nat): VRs W (l.filterMap fun i=>vs[i]?) (l.filterMap fun i=>xs[i]?):=by
 induction l with
 | nil=>exact .nil
 | cons i l ih=>
  simp only[List.filterMap_cons]
  have hl:=h.length
  cases e:vs[i]? with
  | none=>
   have:xs[i]?=none:=by rw[List.getElem?_eq_none_iff]at e ⊢;omega
   rw[this]
   exact ih
  | some v=>
   obtain⟨x,hx,hr⟩:=h.at e
   rw[hx]
   exact .cons hr ih
theorem Zqa{α:Type}(vs:List α)(lo hi:Option Int): (ZbE vs lo hi).length≤vs.length:=by
 unfold ZbE
 refine Nat.le_trans (List.length_filterMap_le _ _) ?_
 refine sliceRange_length_le _ _ _ _ (fun _=>?_) fun c=>?_
 ·unfold sliceBounds
  cases lo <;> cases hi <;> simp <;> omega
 ·exact absurd (by unfold sliceBounds;simp) c
theorem Zvi{α:Type}(vs:List α)(a:Nat): ∀m:Nat,a+m≤vs.length→((List.range m).map fun k=>a+k).filterMap (fun i=>vs[i]?)=(vs.drop a).take m:=by
 intro m
 induction m with
 | zero=>intro _;simp
 | succ m ih=>
  intro h
  rw[List.range_succ,List.map_append,List.filterMap_append,ih (by omega),List.take_add_one]
  congr 1
  simp only[List.map_cons,List.map_nil,List.filterMap_cons,List.filterMap_nil,List.getElem?_drop]
  cases e:vs[a+m]? with
  | none=>rw[List.getElem?_eq_none_iff]at e;omega
  | some v=>rfl
theorem ZqN{α:Type}(vs:List α)(lo hi:Option Int){a b:Nat}(ha:(sliceBounds lo hi none vs.length).1=(a:Int))(hb:(sliceBounds lo hi none vs.length).2.1=(b:Int))(h:b≤vs.length): ZbE vs lo hi=(vs.drop a).take (b-a):=by
 have hc:(sliceBounds lo hi none vs.length).2.2=1:=by unfold sliceBounds;rfl
 unfold ZbE
 rw[ha,hb,hc]
 have e:sliceRange (a:Int) (b:Int) 1=(List.range (b-a)).map fun k=>a+k:=by
  unfold sliceRange
  simp only[show(1:Int)>0 from by decide,if_true]
  by_cases c:(a:Int)<b
  ·rw[if_pos c]
   have:((b:Int)-a+1-1) / 1=((b-a:Nat):Int):=by omega
   rw[this]
   simp only[Int.toNat_natCast]
   refine List.map_congr_left fun k _=>?_
   omega
  ·rw[if_neg c]
   have:b-a=0:=by omega
   rw[this]
   rfl
 rw[e]
 by_cases c:a≤b
 ·exact Zvi vs a (b-a) (by omega)
 ·have:b-a=0:=by omega
  rw[this]
  simp
theorem ZpR{α:Type}(vs:List α){k:Int}{a:Nat}(e:k=(a:Int)): ZbE vs (some k) none=vs.drop a:=by
 by_cases h:a≤vs.length
 ·rw[ZqN vs (some k) none (a:=a) (b:=vs.length) (by unfold sliceBounds;simp;omega) (by unfold sliceBounds;simp) (Zz10 _)]
  rw[List.take_of_length_le (by simp)]
 ·rw[ZqN vs (some k) none (a:=vs.length) (b:=vs.length) (by unfold sliceBounds;simp;omega) (by unfold sliceBounds;simp) (Zz10 _)]
  simp
  omega
noncomputable def Zhx: Option V→Option (Option Int)
 | none=>some none
 | some (.int k)=>some (some k)
 | _=>none
noncomputable abbrev Pt:=Lc→Hp→Option (Option V×Hp)
noncomputable def Zf7: Pt:=fun _ H=>some (none,H)
noncomputable def Zf8(f:Ex): Pt:=fun ρ H=>(f ρ H).map fun p=>(some p.1,p.2)
noncomputable def Zeo(f:Ex)(lo hi:Pt): Ex:=fun ρ H=>(f ρ H).bind fun p=>(lo ρ p.2).bind fun q=>(hi ρ q.2).bind fun u=>(Zhx q.1).bind fun a=>(Zhx u.1).bind fun b=>match p.1 with
 | .ref i=>u.2[i]?.bind fun vs=>some (.ref u.2.length,u.2++[ZbE vs a b])
 | _=>none
inductive VP(W:Wd): Option V→Value→Prop where
 | none:VP W none .none
 | some {v:V} {x:Value}:VR W v x→VP W (some v) x
theorem VP.mono{W W':Wd}{v:Option V}{x:Value}(l:W.Le W')(h:VP W v x): VP W' v x:=by
 cases h with
 | none=>exact .none
 | some h=>exact .some (h.mono l)
theorem VP.part{W:Wd}{v:Option V}{x:Value}{k:Option Int}(h:VP W v x)(e:Zhx v=Option.some k): IsPart x k:=by
 cases h with
 | none=>cases e;exact .none
 | some h=>cases h <;> cases e;exact .int _ _
noncomputable def JP(prog:Program)(w:World)(Γ:Cx)(e:Option Expr)(f:Pt): Prop:=∀(W:Wd) (ρ:Lc) (H:Hp) (fr:List (Addr×Obj)) (s:Shared) (Q E:Value→Shared→Prop) (v:Option V) (H':Hp),
 Rep Γ W ρ H fr s.heap→f ρ H=some (v,H')→(∀(W':Wd) (h':Heap) (tk':Nat) (x:Value),W.Le W'→Rep Γ W' ρ H' fr h'→VP W' v x→Q x { s with heap:=h',toks:=tk' })→wpAny (model prog w) Γ.A (evalPart e Γ.env) Q E s
section
variable {prog:Program} {w:World} {Γ:Cx}
theorem JP.none: JP prog w Γ none Zf7:=fun W ρ H fr s Q E v H' r hf post=>by
 cases hf
 exact wpAny_evalPart_none (post W s.heap s.toks _ (.refl W) r .none)
theorem JP.some{e:Expr}{f:Ex}(h:J prog w Γ e f): JP prog w Γ (some e) (Zf8 f):=fun W ρ H fr s Q E v H' r hf post=>by
 obtain⟨p,e1,e2⟩:=Zz1.mp hf
 cases e2
 exact wpAny_evalPart_some (h W ρ H fr s _ E _ _ r e1 fun W1 k1 t1 x l1 r1 x1=>post W1 k1 t1 x l1 r1 (.some x1))
theorem Zwc{e:Expr}{lo hi:Option Expr}{p pos:Pos}{f:Ex}{a b:Pt}(h:J prog w Γ e f)(hlo:JP prog w Γ lo a)(hhi:JP prog w Γ hi b)(ht:∀o r,letTemporaryGo e o r=pure ():=by intro _ _;rfl): J prog w Γ (.Subscript e (.Slice lo hi Option.none p) pos) (Zeo f a b):=by
 intro W ρ H fr s Q E v H' r hf post
 obtain⟨p,e1,hf⟩:=Zz0.mp hf
 obtain⟨q,e2,hf⟩:=Zz0.mp hf
 obtain⟨u,e3,hf⟩:=Zz0.mp hf
 obtain⟨ka,e4,hf⟩:=Zz0.mp hf
 obtain⟨kb,e5,hf⟩:=Zz0.mp hf
 refine wpAny_Subscript_list_slice (h W ρ H fr s _ E _ _ r e1 fun W1 k1 t1 x l1 r1 x1=>?_) ht
 refine hlo W1 ρ _ fr _ _ E _ _ r1 e2 fun W2 k2 t2 y l2 r2 y2=>?_
 refine hhi W2 ρ _ fr _ _ E _ _ r2 e3 fun W3 k3 t3 z l3 r3 z3=>?_
 have x3:=x1.mono (l2.trans l3)
 obtain⟨v1,H1⟩:=p
 simp only at hf x3
 cases x3 with
 | none=>cases hf
 | bool _=>cases hf
 | int _ _=>cases hf
 | str _ _=>cases hf
 | tup _ _ _=>cases hf
 | @ref i a ea=>
  obtain⟨vs,hvs,e6⟩:=Zz0.mp hf
  cases e6
  obtain⟨hl,xs,kk,hg,hv⟩:=r3.at hvs ea
  have isl:k3.IsList a xs.toArray:=⟨_,hg,rfl,kk,rfl⟩
  refine⟨a,xs.toArray,ka,kb,rfl,isl,Zc5 (by simp[hv.length];exact hl),(y2.mono l3).part e4,z3.part e5,?_⟩
  have hp:VRs W3 (ZbE vs ka kb) (ZbE xs ka kb):=by
   unfold ZbE
   rw[hv.length]
   exact hv.pick _
  have hx:slicePick xs.toArray ka kb Option.none=(ZbE xs ka kb).toArray:=by
   unfold slicePick ZbE
   simp
  obtain⟨W4,l4,r4,v4⟩:=(r3.push { cls:=.type "slice",data:=.fields #[y,z,.none] }).list (k:=0) hp (Nat.le_trans (Zqa vs ka kb) hl)
  rw[hx]
  have:=post W4 _ t3 _ (((l1.trans l2).trans l3).trans l4) r4 v4
  rw[Heap.size_push]at this
  exact this
end
end PM
end
section
set_option autoImplicit false
namespace PM
open PySem PyProof.Rows PyProof
noncomputable def Nm(prog:Program)(w:World)(Γ:Cx)(x:Str)(v:Value): Prop:=∀(pos:Pos) (m:Str→Option Value) (s:Shared) (Q E:Value→Shared→Prop),Fr Γ.h₀ Γ.L s.heap m→Q v s→wpAny (model prog w) Γ.A (eval (.Name x pos) Γ.env) Q E s
theorem Nm.use{prog:Program}{w:World}{Γ:Cx}{x:Str}{y:Value}(h:Nm prog w Γ x y){pos:Pos}{W:Wd}{ρ:Lc}{H:Hp}{fr:List (Addr×Obj)}{s:Shared}{Q E:Value→Shared→Prop}(r:Rep Γ W ρ H fr s.heap)(q:Q y s): wpAny (model prog w) Γ.A (eval (.Name x pos) Γ.env) Q E s:=by
 obtain⟨m,c,led,r⟩:=r
 exact h pos m s Q E r.F q
noncomputable def OpN(prog:Program)(w:World)(m:List Value→Sem Value)(o:List V→Hp→Option (V×Hp)): Prop:=∀(Γ:Cx) (W:Wd) (ρ:Lc) (H:Hp) (fr:List (Addr×Obj)) (s:Shared) (Q E:Value→Shared→Prop) (as:List V) (xs:List Value) (v:V) (H':Hp),
 Rep Γ W ρ H fr s.heap→VRs W as xs→o as H=some (v,H')→ZhD Γ W ρ H' fr s Q v→wpAny (model prog w) Γ.A (m xs) Q E s
noncomputable def Zu(o:List V→Hp→Option (V×Hp))(g:Exs): Ex:=fun ρ H=>(g ρ H).bind fun p=>o p.1 p.2
section
variable {prog:Program} {w:World} {Γ:Cx}
theorem ZaA{x:Str}{np pos:Pos}{id:String}{e:Expr}{es:List Expr}{g:Exs}{o:List V→Hp→Option (V×Hp)}(hn:Nm prog w Γ x (.builtin id))(h:Js prog w Γ (e::es) g)(ho:OpN prog w (fun xs=>call (.builtin id) xs) o)
  (he:starEach (e::es) Γ.env=(false,eval e Γ.env)::starEach es Γ.env:=by rfl) (hp:∀pos,(backTo pos (starEach es Γ.env)).any (·.1)=false:=by intro _;rfl):J prog w Γ (.Call (.Name x np) (e::es) [] pos) (Zu o g):=by
 intro W ρ H fr s Q E v H' r hf post
 obtain⟨p,e1,hf⟩:=Zz0.mp hf
 refine wpAny_Call_ofName (hn.use r ?_)
 refine callWith_builtin1 (h pos W ρ H fr s _ E _ _ r e1 fun W1 k1 t1 xs l1 r1 x1=>?_) he (hp pos)
 exact ho Γ W1 ρ _ fr _ Q E _ xs v H' r1 x1 hf fun W2 k2 t2 y l2 r2 y2=>post W2 k2 t2 y (l1.trans l2) r2 y2
theorem ZiZ{x:Str}{np pos:Pos}{T:String}{e:Expr}{es:List Expr}{g:Exs}{o:List V→Hp→Option (V×Hp)}(hn:Nm prog w Γ x (.type T))(h:Js prog w Γ (e::es) g)(ho:OpN prog w (fun xs=>call (.type T) xs) o)
  (he:starEach (e::es) Γ.env=(false,eval e Γ.env)::starEach es Γ.env:=by rfl) (hp:∀pos,(backTo pos (starEach es Γ.env)).any (·.1)=false:=by intro _;rfl):J prog w Γ (.Call (.Name x np) (e::es) [] pos) (Zu o g):=by
 intro W ρ H fr s Q E v H' r hf post
 obtain⟨p,e1,hf⟩:=Zz0.mp hf
 refine wpAny_Call_ofName (hn.use r ?_)
 refine PySem.Pv.callWith_type1 (h pos W ρ H fr s _ E _ _ r e1 fun W1 k1 t1 xs l1 r1 x1=>?_) he (hp pos)
 exact ho Γ W1 ρ _ fr _ Q E _ xs v H' r1 x1 hf fun W2 k2 t2 y l2 r2 y2=>post W2 k2 t2 y (l1.trans l2) r2 y2
end
noncomputable def ZnE: V→String
 | .none=>"NoneType"
 | .bool _=>"bool"
 | .int _=>"int"
 | .str _=>"str"
 | .tup _=>"tuple"
 | .ref _=>"list"
noncomputable def Zoa(T:String)(v:V): Bool:=ZnE v == T || (T == "int" && ZnE v == "bool")
noncomputable def eIs(T:String)(f:Ex): Ex:=fun ρ H=>(f ρ H).map fun p=>(.bool (Zoa T p.1),p.2)
section
variable {prog:Program} {w:World} {Γ:Cx}
theorem isinst{T:String}(hT:T="int"∨T="bool"∨T="list"∨T="tuple"){W:Wd}{ρ:Lc}{H:Hp}{fr:List (Addr×Obj)}{s:Shared}{Q E:Value→Shared→Prop}{a:V}{x:Value}(r:Rep Γ W ρ H fr s.heap)(hx:VR W a x)(hin:∀i,a=.ref i→i<H.length)
  (post:∀tk,Q (.bool (Zoa T a)) { s with toks:=tk }):wpAny (model prog w) Γ.A (call (.builtin "isinstance") [x,.type T]) Q E s:=by
 cases hx with
 | none=>
      rcases hT with e | e | e | e <;> subst e
      ·exact call_isinstance (isinstance_false_none (by decide +kernel) F.isi_meta_int (by rw[isSubtype_type];kernel_rfl)) (post _)
      ·exact call_isinstance (isinstance_false_none (by decide +kernel) F.isi_meta_bool (by rw[isSubtype_type];kernel_rfl)) (post _)
      ·exact call_isinstance (isinstance_false_none (by decide +kernel) F.isi_meta_list (by rw[isSubtype_type];kernel_rfl)) (post _)
      ·exact call_isinstance (isinstance_false_none (by decide +kernel) F.isi_meta_tuple (by rw[isSubtype_type];kernel_rfl)) (post _)
 | bool b=>
       rcases hT with e | e | e | e <;> subst e
       ·exact IsiPair.bool_int (post s.toks)
       ·exact IsiPair.bool_bool (post s.toks)
       ·exact IsiPair.bool_list (post _)
       ·exact IsiPair.bool_tuple (post _)
 | int i t=>
       rcases hT with e | e | e | e <;> subst e
       ·exact IsiPair.int_int (post s.toks)
       ·exact IsiPair.int_bool (post _)
       ·exact IsiPair.int_list (post _)
       ·exact IsiPair.int_tuple (post _)
 | str y t=>
       rcases hT with e | e | e | e <;> subst e
       ·exact IsiPair.str_int (post _)
       ·exact IsiPair.str_bool (post _)
       ·exact IsiPair.str_list (post _)
       ·exact IsiPair.str_tuple (post _)
 | tup hm hl hs=>
  have hg:=r.tupAt hm
  rcases hT with e | e | e | e <;> subst e
  ·exact IsiPair.tuple_int hg rfl (post _)
  ·exact IsiPair.tuple_bool hg rfl (post _)
  ·exact IsiPair.tuple_list hg rfl (post _)
  ·exact IsiPair.tuple_tuple hg rfl (post s.toks)
 | @ref i a ea=>
  obtain⟨hl,xs,k,hg,hv⟩:=r.at (List.getElem?_eq_getElem (hin i rfl)) ea
  rcases hT with e | e | e | e <;> subst e
  ·exact IsiPair.list_int hg rfl (post _)
  ·exact IsiPair.list_bool hg rfl (post _)
  ·exact IsiPair.list_list hg rfl (post s.toks)
  ·exact IsiPair.list_tuple hg rfl (post _)
end
theorem Rep.refIn{Γ:Cx}{W:Wd}{ρ:Lc}{H:Hp}{fr:List (Addr×Obj)}{h:Heap}{i:Nat}{x:Value}(r:Rep Γ W ρ H fr h)(hx:VR W (.ref i) x): i<H.length:=by
 obtain⟨m,c,led,r⟩:=r
 cases hx with
 | ref e=>rw[←r.R.len];exact(Zz6.mp e).1
section
variable {prog:Program} {w:World} {Γ:Cx}
theorem ZdS{np tp pos:Pos}{x y:Str}{T:String}{e:Expr}{f:Ex}(hn:Nm prog w Γ x (.builtin "isinstance"))(hy:Nm prog w Γ y (.type T))(hT:T="int"∨T="bool"∨T="list"∨T="tuple")(h:J prog w Γ e f)
  (he:starEach [e,.Name y tp] Γ.env=(false,eval e Γ.env)::starEach [.Name y tp] Γ.env:=by rfl) (hp:∀pos,(backTo pos (starEach [.Name y tp] Γ.env)).any (·.1)=false:=by intro _;rfl):J prog w Γ (.Call (.Name x np) [e,.Name y tp] [] pos) (eIs T f):=by
 intro W ρ H fr s Q E v H' r hf post
 obtain⟨p,e1,e2⟩:=Zz1.mp hf
 cases e2
 refine wpAny_Call_ofName (hn.use r ?_)
 refine callWith_builtin1 (wpAny_items_cons (h W ρ H fr s _ E _ _ r e1 fun W1 k1 t1 z l1 r1 z1=>?_) he) he (hp pos)
 refine wpAny_items_cons (hy.use (s:={ s with heap:=k1,toks:=t1 }) r1 ?_)
 refine wpAny_items_nil ?_
 exact PM.isinst hT r1 z1 (fun i e=>by rw[e]at z1;exact r1.refIn z1) fun tk=>post W1 k1 tk _ l1 r1 (.bool _)
end
noncomputable def ZaP: List V→Hp→Option (V×Hp)
 | [.ref a],H=>H[a]?.map fun vs=>(.int vs.length,H)
 | [.tup vs],H=>some (.int vs.length,H)
 | _,_=>none
noncomputable def Zdi: List V→Hp→Option (V×Hp)
 | [.int a],H=>some (.int (if a<0 then -a else a),H)
 | _,_=>none
noncomputable def ZjB: List V→Hp→Option (V×Hp)
 | [.int a,.int b],H=>some (.int (if b>a then b else a),H)
 | _,_=>none
noncomputable def ZdB: List V→Option (List Int)
 | []=>some []
 | .int k::vs=>(ZdB vs).map fun ks=>k::ks
 | _::_=>none
noncomputable def ZhE: List V→Hp→Option (V×Hp)
 | [.ref a],H=>H[a]?.bind fun vs=>(ZdB vs).map fun ks=>(.int ks.sum,H)
 | _,_=>none
theorem VRs.one{W:Wd}{v:V}{xs:List Value}(h:VRs W [v] xs): ∃x,xs=[x]∧VR W v x:=by
 cases h with
 | cons a b=>cases b;exact⟨_,rfl,a⟩
theorem VRs.two{W:Wd}{v u:V}{xs:List Value}(h:VRs W [v,u] xs): ∃x y,xs=[x,y]∧VR W v x∧VR W u y:=by
 cases h with
 | cons a b=>obtain⟨y,e,r⟩:=b.one;subst e;exact⟨_,_,rfl,a,r⟩
theorem Ztq{W:Wd}: ∀{vs:List V} {xs:List Value} {ks:List Int},VRs W vs xs→ZdB vs=some ks→∃ts:Array (Int×Tok),xs.toArray=intItems ts∧preSum (numAt ts) ts.size=ks.sum:=by
 have key:∀{vs:List V} {xs:List Value} {ks:List Int},VRs W vs xs→ZdB vs=some ks→∃ts:List (Int×Tok),xs=ts.map (fun p=>Value.int p.1 p.2)∧ts.map (·.1)=ks:=by
  intro vs
  induction vs with
  | nil=>intro xs ks h e;cases h;cases e;exact⟨[],rfl,rfl⟩
  | cons v vs ih=>
   intro xs ks h e
   cases h with
   | cons a b=>
    cases v with
    | int i=>
     obtain⟨js,e1,e2⟩:=Zz1.mp e
     subst e2
     cases a with
     | int _ t=>
      obtain⟨ts,h1,h2⟩:=ih b e1
      exact⟨(i,t)::ts,by rw[h1];rfl,by rw[List.map_cons,h2]⟩
    | none=>cases e
    | bool _=>cases e
    | str _=>cases e
    | tup _=>cases e
    | ref _=>cases e
 intro vs xs ks h e
 obtain⟨ts,h1,h2⟩:=key h e
 refine⟨ts.toArray,by rw[h1];simp[intItems],?_⟩
 rw[preSum_eq,List.take_of_length_le (by simp),←h2]
noncomputable def Zax: V→V→Hp→Option (V×Hp)
 | .int a,.int b,H=>some (.int (a+b),H)
 | .ref a,.ref b,H=>H[a]?.bind fun vs=>H[b]?.bind fun us=>if(vs++us).length≤LEN then some (.ref H.length,H++[vs++us])else none
 | .tup vs,.tup us,H=>if(vs++us).length≤LEN then some (.tup (vs++us),H)else none
 | _,_,_=>none
noncomputable def Zfe(vs:List V): Nat→List V
 | 0=>[]
 | n+1=>Zfe vs n++vs
noncomputable def Zbw: V→V→Hp→Option (V×Hp)
 | .int a,.int b,H=>if mulOk a b=true then some (.int (a*b),H)else none
 | .ref a,.int k,H=>H[a]?.bind fun vs=>if vs.length*k.toNat≤LEN∧-(2 ^ 63:Int)≤k∧k<2 ^ 63 then some (.ref H.length,H++[Zfe vs k.toNat])else none
 | _,_,_=>none
section
variable {prog:Program} {w:World}
theorem Za7: OpN prog w (fun xs=>call (.builtin "len") xs) ZaP:=by
 intro Γ W ρ H fr s Q E as xs v H' r hx ho post
 unfold ZaP at ho
 split at ho
 ·rename_i a
  obtain⟨vs,e1,e2⟩:=Zz1.mp ho
  cases e2
  obtain⟨x,ex,rx⟩:=hx.one
  subst ex
  cases rx with
  | ref ea=>
   obtain⟨hl,ys,k,hg,hv⟩:=r.at e1 ea
   have isl:s.heap.IsList _ ys.toArray:=⟨_,hg,rfl,k,rfl⟩
   have e3:(ys.toArray.size:Int)=vs.length:=by simp[hv.length]
   rw[Zbm]at hl
   refine Calls.call_len_list isl (by rw[e3];omega) ?_
   rw[e3]
   exact post W s.heap _ _ (.refl W) r (.int _ _)
 ·rename_i vs
  cases ho
  obtain⟨x,ex,rx⟩:=hx.one
  subst ex
  cases rx with
  | @tup _ a ys k hm hl hs=>
   have it:IsTup s.heap a ys.toArray:=⟨_,r.tupAt hm,rfl,k,rfl⟩
   have e3:(ys.toArray.size:Int)=vs.length:=by simp[hs.length]
   rw[Zbm]at hl
   refine len_tuple it (by rw[e3];omega) ?_
   rw[e3]
   exact post W s.heap _ _ (.refl W) r (.int _ _)
 ·cases ho
theorem ZdX: OpN prog w (fun xs=>call (.builtin "abs") xs) Zdi:=by
 intro Γ W ρ H fr s Q E as xs v H' r hx ho post
 unfold Zdi at ho
 split at ho
 ·cases ho
  obtain⟨x,ex,rx⟩:=hx.one
  subst ex
  cases rx with
  | int i t=>exact call_abs_int fun u tk=>post W s.heap tk _ (.refl W) r (.int _ _)
 ·cases ho
theorem Zwd: OpN prog w (fun xs=>call (.builtin "max") xs) ZjB:=by
 intro Γ W ρ H fr s Q E as xs v H' r hx ho post
 unfold ZjB at ho
 split at ho
 ·cases ho
  obtain⟨x,y,ex,rx,ry⟩:=hx.two
  subst ex
  cases rx with
  | int i t=>
   cases ry with
   | int j u=>
    refine max_two_ints Γ.hh fun h' tk up=>?_
    split
    ·rename_i c
     rw[if_pos c]at post
     exact post W h' tk _ (.refl W) (r.grown up) (.int _ _)
    ·rename_i c
     rw[if_neg c]at post
     exact post W h' tk _ (.refl W) (r.grown up) (.int _ _)
 ·cases ho
theorem Zxq: OpN prog w (fun xs=>call (.builtin "sum") xs) ZhE:=by
 intro Γ W ρ H fr s Q E as xs v H' r hx ho post
 unfold ZhE at ho
 split at ho
 ·obtain⟨vs,e1,e2⟩:=Zz0.mp ho
  obtain⟨ks,e3,e4⟩:=Zz1.mp e2
  cases e4
  obtain⟨x,ex,rx⟩:=hx.one
  subst ex
  cases rx with
  | ref ea=>
   obtain⟨hl,ys,k,hg,hv⟩:=r.at e1 ea
   obtain⟨ts,h1,h2⟩:=Ztq hv e3
   have isl:s.heap.IsList _ (intItems ts):=⟨_,hg,rfl,k,by rw[←h1]⟩
   refine sum_intListG Γ.hh isl fun h' tk t' up=>?_
   rw[h2]
   exact post W h' tk _ (.refl W) (r.grown up) (.int _ _)
 ·cases ho
theorem ZaJ: Op2 prog w (binaryOp .Add) Zax:=by
 intro Γ W ρ H fr s Q E a b x y v H' r hx hy ho post
 unfold Zax at ho
 split at ho
 ·cases ho
  cases hx;cases hy
  exact PySem.P.add_int (post W s.heap _ _ (.refl W) r (.int _ _))
 ·obtain⟨vs,e1,ho⟩:=Zz0.mp ho
  obtain⟨us,e2,ho⟩:=Zz0.mp ho
  by_cases hl:(vs++us).length≤LEN
  ·rw[if_pos hl]at ho
   cases ho
   cases hx with
   | ref ea=>
   cases hy with
   | ref eb=>
   obtain⟨l1,ys,k,hg,hv⟩:=r.at e1 ea
   obtain⟨l2,zs,k2,hg2,hv2⟩:=r.at e2 eb
   obtain⟨m,c,led,r'⟩:=r
   have i1:s.heap.IsList _ ys.toArray:=⟨_,hg,rfl,k,rfl⟩
   have i2:s.heap.IsList _ zs.toArray:=⟨_,hg2,rfl,k2,rfl⟩
   refine add_lists (hsz:=Zc5 (by rw[hv.length,hv2.length,←List.length_append];exact hl)) r'.F r'.N i1 i2 fun h' F' N'=>?_
   obtain⟨W2,le2,r2,v2⟩:=r'.newList F' N' r'.off (hv.append hv2) hl
   exact post W2 h' s.toks _ le2 r2 v2
  ·rw[if_neg hl]at ho
   cases ho
 ·rename_i vs us
  by_cases hl:(vs++us).length≤LEN
  ·rw[if_pos hl]at ho
   cases ho
   cases hx with
   | @tup _ a ys k hm h1 hv=>
   cases hy with
   | @tup _ b zs k2 hm2 h2 hv2=>
   have t1:IsTup s.heap a ys.toArray:=⟨_,r.tupAt hm,rfl,k,rfl⟩
   have t2:IsTup s.heap b zs.toArray:=⟨_,r.tupAt hm2,rfl,k2,rfl⟩
   have r0:=r
   obtain⟨m,c,led,r'⟩:=r
   refine add_tuples (hsz:=Zc5 (by rw[hv.length,hv2.length,←List.length_append];exact hl)) r'.F r'.N t1 t2 (fun e=>?_) (fun _ e=>?_) fun _ _ h' F' N'=>?_
   ·have:vs=[]:=List.length_eq_zero_iff.mp (by rw[←hv.length,e];rfl)
    subst this
    exact post W s.heap s.toks _ (.refl W) r0 (.tup hm2 h2 hv2)
   ·have:us=[]:=List.length_eq_zero_iff.mp (by rw[←hv2.length,e];rfl)
    subst this
    rw[List.append_nil]at post
    exact post W s.heap s.toks _ (.refl W) r0 (.tup hm h1 hv)
   ·obtain⟨W2,le2,r2,v2⟩:=r'.newTup F' N' r'.off (hv.append hv2) hl
    exact post W2 h' s.toks _ le2 r2 v2
  ·rw[if_neg hl]at ho
   cases ho
 ·cases ho
theorem Zqb(vs:List V): ∀n,(Zfe vs n).length=vs.length*n
 | 0=>rfl
 | n+1=>by rw[Zfe,List.length_append,Zqb vs n,Nat.mul_succ]
theorem ZuG(xs:List Value)(n:Nat): ∀acc:Array Value,(List.foldl (fun x1 x2=>x1++x2) acc (List.replicate n xs.toArray))=acc++(List.replicate n xs).flatten.toArray:=by
 induction n with
 | zero=>intro acc;simp
 | succ n ih=>
  intro acc
  rw[List.replicate_succ,List.foldl_cons,ih,List.replicate_succ,List.flatten_cons]
  simp[Array.append_assoc]
theorem ZqO{W:Wd}{vs:List V}{xs:List Value}(h:VRs W vs xs): ∀n,VRs W (Zfe vs n) (List.replicate n xs).flatten
 | 0=>.nil
 | n+1=>by
  rw[Zfe,List.replicate_succ',List.flatten_append]
  simp only[List.flatten_cons,List.flatten_nil,List.append_nil]
  exact(ZqO h n).append h
theorem ZbV: Op2 prog w (binaryOp .Mult) Zbw:=by
 intro Γ W ρ H fr s Q E a b x y v H' r hx hy ho post
 unfold Zbw at ho
 split at ho
 ·rename_i i j
  by_cases hm:mulOk i j=true
  ·rw[if_pos hm]at ho
   cases ho
   cases hx;cases hy
   exact PySem.P.mul_int (post W s.heap _ _ (.refl W) r (.int _ _)) (Zvh hm)
  ·rw[if_neg hm]at ho
   cases ho
 ·rename_i i k
  obtain⟨vs,e1,ho⟩:=Zz0.mp ho
  by_cases hc:vs.length*k.toNat≤LEN∧-(2 ^ 63:Int)≤k∧k<2 ^ 63
  ·rw[if_pos hc]at ho
   cases ho
   cases hx with
   | ref ea=>
   cases hy with
   | int _ u=>
   obtain⟨l1,ys,kk,hg,hv⟩:=r.at e1 ea
   obtain⟨m,c,led,r'⟩:=r
   have hl:=hc.1
   rw[Zbm]at hl
   refine mul_list r'.F r'.N hg hc.2.1 hc.2.2 (by rw[List.size_toArray,hv.length];omega) fun h' F' N'=>?_
   have e2:(List.foldl (fun x1 x2=>x1++x2) #[] (List.replicate (if ys.toArray.isEmpty=true then 0 else k.toNat) ys.toArray))=(List.replicate k.toNat ys).flatten.toArray:=by
    cases ys with
    | nil=>
     simp
    | cons y0 ys0=>
     have:((y0::ys0).toArray.isEmpty=true)=False:=by simp
     simp only[this,if_false]
     rw[ZuG]
     simp
   rw[e2]at N'
   obtain⟨W2,le2,r2,v2⟩:=r'.newList F' N' r'.off (ZqO hv k.toNat) (by rw[Zqb];exact hc.1)
   exact post W2 h' s.toks _ le2 r2 v2
  ·rw[if_neg hc]at ho
   cases ho
 ·cases ho
end
end PM
end
section
set_option autoImplicit false
namespace PM
open PySem PyProof.Rows PyProof
noncomputable def upd(ρ:Lc)(i:Nat)(v:V): Lc:=fun j=>if j=i then some v else ρ j
noncomputable abbrev Sm:=Lc→Hp→Option (Option V×Lc×Hp)
noncomputable def ZZ: Sm:=fun ρ H=>some (none,ρ,H)
noncomputable def ZB(a b:Sm): Sm:=fun ρ H=>(a ρ H).bind fun p=>match p.1 with
 | some _=>some p
 | none=>b p.2.1 p.2.2
noncomputable def ZI(f:Ex): Sm:=fun ρ H=>(f ρ H).map fun p=>(some p.1,ρ,p.2)
noncomputable def Z3(i:Nat)(f:Ex): Sm:=fun ρ H=>(f ρ H).map fun p=>(none,upd ρ i p.1,p.2)
noncomputable def ZY(t:Ts)(a b:Sm): Sm:=fun ρ H=>(t ρ H).bind fun p=>if p.1 then a ρ p.2 else b ρ p.2
noncomputable def ZcE(f:Ex): Sm:=fun ρ H=>(f ρ H).map fun p=>(none,ρ,p.2)
noncomputable def ZoE: V→V→V→Hp→Option Hp
 | .ref a,.int k,v,H=>H[a]?.bind fun vs=>if a≠0∧0≤k∧k<vs.length then some (H.set a (vs.set k.toNat v))else none
 | _,_,_,_=>none
noncomputable def Zc1(f o i:Ex): Sm:=fun ρ H=>(f ρ H).bind fun p=>(o ρ p.2).bind fun q=>(i ρ q.2).bind fun u=>(ZoE q.1 u.1 p.1 u.2).map fun K=>(none,ρ,K)
noncomputable def ZdY(t:Ts)(b:Sm): Nat→Sm
 | 0=>fun _ _=>none
 | n+1=>fun ρ H=>(t ρ H).bind fun p=>if p.1 then(b ρ p.2).bind fun q=>(match q.1 with
   | some _=>some q
   | none=>ZdY t b n q.2.1 q.2.2)else some (none,ρ,p.2)
noncomputable def PostS(Γ:Cx)(W:Wd)(fr:List (Addr×Obj))(s:Shared)(Q:Flow→Shared→Prop): Option V×Lc×Hp→Prop
 | (none,ρ',H')=>∀(W':Wd) (h':Heap) (tk':Nat),W.Le W'→Rep Γ W' ρ' H' fr h'→Q .next { s with heap:=h',toks:=tk' }
 | (some v,ρ',H')=>∀(W':Wd) (h':Heap) (tk':Nat) (x:Value),W.Le W'→Rep Γ W' ρ' H' fr h'→VR W' v x→Q (.ret x) { s with heap:=h',toks:=tk' }
theorem PostS.le{Γ:Cx}{W W':Wd}{fr:List (Addr×Obj)}{s:Shared}{h:Heap}{tk:Nat}{Q:Flow→Shared→Prop}{r:Option V×Lc×Hp}(l:W.Le W')(p:PostS Γ W fr s Q r): PostS Γ W' fr { s with heap:=h,toks:=tk } Q r:=by
 obtain⟨o,ρ',H'⟩:=r
 cases o with
 | none=>exact fun W2 h2 t2 l2 r2=>p W2 h2 t2 (l.trans l2) r2
 | some v=>exact fun W2 h2 t2 x l2 r2 x2=>p W2 h2 t2 x (l.trans l2) r2 x2
section
variable (prog:Program) (w:World)
noncomputable def S1(Γ:Cx)(st:Stmt)(g:Sm): Prop:=∀(W:Wd) (ρ:Lc) (H:Hp) (fr:List (Addr×Obj)) (s:Shared) (Q:Flow→Shared→Prop) (E:Value→Shared→Prop) (r:Option V×Lc×Hp),
 Rep Γ W ρ H fr s.heap→g ρ H=some r→PostS Γ W fr s Q r→wpAny (model prog w) Γ.A (exec st Γ.env) Q E s
noncomputable def Ss(Γ:Cx)(ss:List Stmt)(g:Sm): Prop:=∀(W:Wd) (ρ:Lc) (H:Hp) (fr:List (Addr×Obj)) (s:Shared) (Q:Flow→Shared→Prop) (E:Value→Shared→Prop) (r:Option V×Lc×Hp),
 Rep Γ W ρ H fr s.heap→g ρ H=some r→PostS Γ W fr s Q r→wpAny (model prog w) Γ.A (execs ss Γ.env) Q E s
noncomputable def Sto(Γ:Cx)(x:Str)(i:Nat): Prop:=∀(W:Wd) (ρ:Lc) (H:Hp) (fr:List (Addr×Obj)) (s:Shared) (Q:Unit→Shared→Prop) (E:Value→Shared→Prop) (v:V) (y:Value),
 Rep Γ W ρ H fr s.heap→VR W v y→(∀(h':Heap) (tk':Nat),Rep Γ W (upd ρ i v) H fr h'→Q () { s with heap:=h',toks:=tk' })→wpAny (model prog w) Γ.A (storeName Γ.env x y) Q E s
noncomputable def Rd(Γ:Cx)(x:Str)(i:Nat): Prop:=∀(W:Wd) (ρ:Lc) (H:Hp) (fr:List (Addr×Obj)) (s:Shared) (Q E:Value→Shared→Prop) (v:V) (pos:Pos),
 Rep Γ W ρ H fr s.heap→ρ i=some v→(∀y,VR W v y→Q y s)→wpAny (model prog w) Γ.A (eval (.Name x pos) Γ.env) Q E s
end
section
variable {prog:Program} {w:World} {Γ:Cx}
theorem ZjC{x:Str}{i:Nat}{pos:Pos}(h:Rd prog w Γ x i): J prog w Γ (.Name x pos) (Zb i):=by
 intro W ρ H fr s Q E v H' r hf post
 obtain⟨u,e1,e2⟩:=Zz1.mp hf
 cases e2
 exact h W ρ H fr s Q E v pos r e1 fun y hy=>post W s.heap s.toks y (.refl W) r hy
theorem Z6: Ss prog w Γ [] ZZ:=fun W ρ H fr s Q E r rp hf post=>by
 cases hf
 exact wpAny_execs_nil (post W s.heap s.toks (.refl W) rp)
theorem ZG{st:Stmt}{ss:List Stmt}{a b:Sm}(h1:S1 prog w Γ st a)(h2:Ss prog w Γ ss b): Ss prog w Γ (st::ss) (ZB a b):=by
 intro W ρ H fr s Q E r rp hf post
 obtain⟨p,e1,hf⟩:=Zz0.mp hf
 refine wpAny_execs_cons (h1 W ρ H fr s _ E p rp e1 ?_)
 obtain⟨o,ρ1,H1⟩:=p
 cases o with
 | some v=>
  cases hf
  exact fun W1 k1 t1 x l1 r1 x1=>post W1 k1 t1 x l1 r1 x1
 | none=>exact fun W1 k1 t1 l1 r1=>h2 W1 ρ1 H1 fr _ Q E r r1 hf (post.le l1)
theorem ZA{st:Stmt}{a:Sm}(h1:S1 prog w Γ st a): Ss prog w Γ [st] a:=by
 intro W ρ H fr s Q E r rp hf post
 refine wpAny_execs_cons (h1 W ρ H fr s _ E r rp hf ?_)
 obtain⟨o,ρ1,H1⟩:=r
 cases o with
 | some v=>exact fun W1 k1 t1 x l1 r1 x1=>post W1 k1 t1 x l1 r1 x1
 | none=>exact fun W1 k1 t1 l1 r1=>wpAny_execs_nil (post W1 k1 t1 l1 r1)
theorem ZK{e:Expr}{pos:Pos}{f:Ex}(h:J prog w Γ e f): S1 prog w Γ (.Return (some e) pos) (ZI f):=by
 intro W ρ H fr s Q E r rp hf post
 obtain⟨p,e1,e2⟩:=Zz1.mp hf
 cases e2
 exact wpAny_Return_some (h W ρ H fr s _ E _ _ rp e1 post)
theorem Z7{t:Expr}{a b:List Stmt}{pos:Pos}{u:Ts}{f g:Sm}(ht:JT prog w Γ t u)(h1:Ss prog w Γ a f)(h2:Ss prog w Γ b g): S1 prog w Γ (.If t a b pos) (ZY u f g):=by
 intro W ρ H fr s Q E r rp hf post
 obtain⟨p,e1,hf⟩:=Zz0.mp hf
 refine wpAny_If (ht W ρ H fr s _ E _ _ rp e1 fun W1 k1 t1 l1 r1=>?_)
 obtain⟨c,H1⟩:=p
 cases c with
 | true=>exact h1 W1 ρ H1 fr _ Q E r r1 hf (post.le l1)
 | false=>exact h2 W1 ρ H1 fr _ Q E r r1 hf (post.le l1)
theorem Zep{e:Expr}{pos:Pos}{f:Ex}(h:J prog w Γ e f)(hi:interactive Γ.env=false:=by rfl)(hs:swapsWith e none pos.line Γ.env=pure false:=by rfl): S1 prog w Γ (.Expr e pos) (ZcE f):=by
 intro W ρ H fr s Q E r rp hf post
 obtain⟨p,e1,e2⟩:=Zz1.mp hf
 cases e2
 exact wpAny_Expr_any (h W ρ H fr s _ E _ _ rp e1 fun W1 k1 t1 x l1 r1 x1=>post W1 k1 t1 l1 r1) hi hs
theorem Zae{x:Str}{i:Nat}{e:Expr}{pos' pos:Pos}{f:Ex}(hx:Sto prog w Γ x i)(h:J prog w Γ e f)(hs:swapsWith e (some (.Name x pos')) pos.line Γ.env=pure false:=by rfl): S1 prog w Γ (.Assign [.Name x pos'] e pos) (Z3 i f):=by
 intro W ρ H fr s Q E r rp hf post
 obtain⟨p,e1,e2⟩:=Zz1.mp hf
 cases e2
 refine wpAny_Assign_Name (h W ρ H fr s _ E _ _ rp e1 fun W1 k1 t1 y l1 r1 y1=>?_) hs
 exact hx W1 ρ _ fr _ _ E _ y r1 y1 fun h' tk' r2=>post W1 h' tk' l1 r2
theorem Zqc{t:Expr}{a:List Stmt}{pos:Pos}{u:Ts}{f:Sm}(n:Nat)(ht:JT prog w Γ t u)(h1:Ss prog w Γ a f): S1 prog w Γ (.While t a [] pos) (ZdY u f n):=by
 intro W ρ H fr s Q E r rp hf post
 refine wpAny_While ?_
 refine codeAny_whileLoop (fun k s'=>∃W' ρ' H' h' tk',s' = { s with heap:=h',toks:=tk' }∧W.Le W'∧Rep Γ W' ρ' H' fr h'∧ZdY u f k ρ' H'=some r) ?_ n ⟨W,ρ,H,s.heap,s.toks,rfl,.refl W,rp,hf⟩
 rintro k s' ⟨W1,ρ1,H1,k1,t1,rfl,l1,r1,e⟩
 cases k with
 | zero=>cases e
 | succ k=>
  obtain⟨p,e1,e⟩:=Zz0.mp e
  refine ht W1 ρ1 H1 fr _ _ _ _ _ r1 e1 fun W2 k2 t2 l2 r2=>?_
  obtain⟨c,H2⟩:=p
  cases c with
  | false=>
   cases e
   exact wpAny_execs_nil (post W2 k2 t2 (l1.trans l2) r2)
  | true=>
   obtain⟨q,e2,e⟩:=Zz0.mp e
   refine h1 W2 ρ1 H2 fr _ _ _ q r2 e2 ?_
   obtain⟨o,ρ3,H3⟩:=q
   cases o with
   | some v=>
    cases e
    exact fun W3 k3 t3 x l3 r3 x3=>post W3 k3 t3 x ((l1.trans l2).trans l3) r3 x3
   | none=>exact fun W3 k3 t3 l3 r3=>⟨k,Nat.lt_succ_self k,W3,ρ3,H3,k3,t3,rfl,(l1.trans l2).trans l3,r3,e⟩
end
noncomputable def Zha: List V→Hp→Option (V×Hp)
 | [.ref a,v],H=>H[a]?.bind fun vs=>if a≠0∧vs.length<LEN then some (.none,H.set a (vs++[v]))else none
 | _,_=>none
section
variable {prog:Program} {w:World} {Γ:Cx}
theorem ZuH: OpN prog w (fun xs=>call (.builtin "list.append") xs) Zha:=by
 intro Γ W ρ H fr s Q E as xs v H' r hx ho post
 unfold Zha at ho
 split at ho
 ·obtain⟨vs,e1,e2⟩:=Zz0.mp ho
  obtain⟨x,y,ex,rx,ry⟩:=hx.two
  subst ex
  split at e2
  ·rename_i hl
   cases e2
   cases rx with
   | @ref _ a0 ea=>
    obtain⟨_,ys,k,hg,hv⟩:=r.at e1 ea
    refine append_at (hsz:=Zc5 (by rw[List.size_toArray,hv.length];omega)) hg fun h' sb hg'=>?_
    have hg2:h'.get? a0=some (ZbQ (ys++[y]) (k+1)):=by rw[hg'];simp
    exact post W h' s.toks _ (.refl W) (r.change hl.1 e1 ea sb hg2 (hv.snoc ry) (by simp;omega)) .none
  ·cases e2
 ·cases ho
end
end PM
end
section
set_option autoImplicit false
namespace PM
open PySem PySem.W PyProof.Rows PyProof
theorem ZqP: ∀{l:List Value} {k:Nat} {v:Value},k<l.length→ki_setL l k v=some (l.set k v)
 | [],_,_,h=>by simp at h
 | x::r,0,v,_=>by simp[ki_setL]
 | x::r,k+1,v,h=>by
  have:=ZqP (l:=r) (k:=k) (v:=v) (by simpa using h)
  simp[ki_setL,this]
theorem ZuI{a k v:V}{H K:Hp}(h:ZoE a k v H=some K): ∃i j vs,a=.ref i∧k=.int j∧H[i]?=some vs∧(i≠0∧0≤j∧j<vs.length)∧K=H.set i (vs.set j.toNat v):=by
 cases a <;> first | (cases h;done) | skip
 cases k <;> first | (cases h;done) | skip
 obtain⟨vs,e1,e2⟩:=Zz0.mp h
 split at e2
 ·rename_i c
  cases e2
  exact⟨_,_,vs,rfl,rfl,e1,c,rfl⟩
 ·cases e2
theorem Ztr{a v x:V}{H K:Hp}(h:Zha [a,v] H=some (x,K)): ∃i,a=.ref i:=by
 cases a <;> first | (cases h;done) | skip
 exact⟨_,rfl⟩
noncomputable def ZfO(o f:Ex): Ex:=fun ρ H=>(o ρ H).bind fun p=>(f ρ p.2).bind fun q=>Zha [p.1,q.1] q.2
section
variable {prog:Program} {w:World} {Γ:Cx}
theorem S1.put{o i value:Expr}{pos' pos:Pos}{f g k:Ex}(hf:J prog w Γ value f)(ho:J prog w Γ o g)(hi:J prog w Γ i k)(hs:swapsWith value (some (.Subscript o i pos')) pos.line Γ.env=pure false:=by rfl): S1 prog w Γ (.Assign [.Subscript o i pos'] value pos) (Zc1 f g k):=by
 intro W ρ H fr s Q E r rp hx post
 obtain⟨p,e1,hx⟩:=Zz0.mp hx
 obtain⟨q,e2,hx⟩:=Zz0.mp hx
 obtain⟨u,e3,hx⟩:=Zz0.mp hx
 obtain⟨K,e4,e5⟩:=Zz1.mp hx
 cases e5
 refine wpAny_Assign_Subscript (hf W ρ H fr s _ E _ _ rp e1 fun W1 k1 t1 x l1 r1 x1=>?_) hs
 refine ho W1 ρ _ fr _ _ E _ _ r1 e2 fun W2 k2 t2 y l2 r2 y2=>?_
 refine hi W2 ρ _ fr _ _ E _ _ r2 e3 fun W3 k3 t3 z l3 r3 z3=>?_
 have x3:=x1.mono (l2.trans l3)
 have y3:=y2.mono l3
 obtain⟨b,kk,vs,eb,ek,hvs,hc,e6⟩:=ZuI e4
 subst e6
 rw[eb]at y3
 rw[ek]at z3
 cases y3 with
 | @ref _ a ea=>
 cases z3 with
 | int _ tz=>
 obtain⟨hl,xs,n,hg,hv⟩:=r3.at hvs ea
 obtain⟨m,c,led,r'⟩:=r3
 have hll:=hl
 rw[Zbm]at hll
 have hk:kk.toNat<xs.length:=by rw[hv.length];omega
 obtain⟨_,a',xs',n',h1,h2,h3⟩:=r'.R.lists b vs hvs
 rw[ea]at h1
 cases h1
 have h2:=r'.inLed hc.1 ea h2
 have N2:News Γ.h₀ Γ.L k3 ((a,ZbQ xs n)::led.filter (fun q=>decide (q.1≠a))):=by
  intro q hq
  rcases Zz7.mp hq with e | hq
  ·subst e
   exact⟨hg,(r'.N _ h2).2⟩
  ·exact r'.N q (List.mem_filter.mp hq).1
 refine ki_set (its:=xs.toArray) (n:=n) (q:=xs.set kk.toNat x) r'.F N2 hc.2.1 (by omega) (by simpa using ZqP hk) (Upd.head fun q hq=>by simpa using (List.mem_filter.mp hq).2) fun h' F' N'=>?_
 exact post W3 h' t3 ((l1.trans l2).trans l3) (r'.changed hc.1 hvs ea F' N' (hv.set _ x3) (by simpa using hl))
theorem J.append{o e:Expr}{apos pos:Pos}{f g:Ex}(ho:J prog w Γ o f)(he:J prog w Γ e g)(hbase:attributeBase o "append" Γ.env (eval o Γ.env)=eval o Γ.env:=by rfl)
  (hfew:((backTo pos (starEach [e] Γ.env)).all (fun x=>!x.1) && (backToKw pos (keywordEach [] Γ.env)).all (fun x=>x.1.isSome) && decide (([e]:List Expr).length+([]:List Keyword).length+(if([]:List Keyword).isEmpty then 0 else 1)<30))=true:=by rfl)
  (hline:(apos.endLine == pos.line)=true:=by rfl) (htrees:backTo pos (starEach [e] Γ.env)=[(false,eval e Γ.env)]:=by rfl):J prog w Γ (.Call (.Attribute o "append" apos) [e] [] pos) (ZfO f g):=by
 intro W ρ H fr s Q E v H' r hx post
 obtain⟨p,e1,hx⟩:=Zz0.mp hx
 obtain⟨q,e2,e3⟩:=Zz0.mp hx
 refine wpAny_Call_append hbase hfew hline htrees (ho W ρ H fr s _ E _ _ r e1 fun W1 k1 t1 x l1 r1 x1=>?_)
 obtain⟨v1,H1⟩:=p
 obtain⟨b,hb⟩:=Ztr e3
 subst hb
 have hb:=r1.refIn x1
 cases x1 with
 | @ref _ a ea=>
 obtain⟨_,xs,n,hg,hv⟩:=r1.at (List.getElem?_eq_getElem hb) ea
 refine⟨a,xs.toArray,rfl,⟨_,n,hg,rfl,rfl,rfl⟩,?_⟩
 refine he W1 ρ _ fr _ _ E _ _ r1 e2 fun W2 k2 t2 y l2 r2 y2=>?_
 exact ZuH Γ W2 ρ _ fr _ Q E _ [.ref a,y] v H' r2 (.cons (.ref (l2.at ea)) (.cons y2 .nil)) e3 fun W3 k3 t3 z l3 r3 z3=>post W3 k3 t3 z ((l1.trans l2).trans l3) r3 z3
end
end PM
end
section
set_option autoImplicit false
namespace PM
open PySem PySem.W PyProof.Rows PyProof
noncomputable abbrev Nx:=Nat→Hp→Option (Option V)
noncomputable def Zyv(Γ:Cx)(W:Wd)(ρ:Lc)(H:Hp)(fr:List (Addr×Obj))(s:Shared)(It:Nat→List (Addr×Obj)→Prop)(i:Nat)(Q:Option Value→Shared→Prop): Option V→Prop
 | none=>∀(h':Heap) (tk':Nat),Rep Γ W ρ H fr h'→Q none { s with heap:=h',toks:=tk' }
 | some v=>∀(fs':List (Addr×Obj)) (h':Heap) (tk':Nat) (x:Value),It (i+1) fs'→Rep Γ W ρ H (fs'++fr) h'→VR W v x→Q (some x) { s with heap:=h',toks:=tk' }
structure Itr(prog:Program)(w:World)(Γ:Cx)(W0:Wd)(it:Value)(as:List Addr)(It:Nat→List (Addr×Obj)→Prop)(nx:Nx): Prop where
 adr:∀i fs,It i fs→fs.map (·.1)=as
 next:∀(i:Nat) (W:Wd) (ρ:Lc) (H:Hp) (fr fs:List (Addr×Obj)) (s:Shared) (Q:Option Value→Shared→Prop) (E:Value→Shared→Prop) (o:Option V),W0.Le W→Rep Γ W ρ H (fs++fr) s.heap→(∀a∈as,∀t∈fr,a≠t.1)→It i fs→nx i H=some o →
  Zyv Γ W ρ H fr s It i Q o→wpAny (model prog w) Γ.A (pyNext it) Q E s
 self:∀(i:Nat) (W:Wd) (ρ:Lc) (H:Hp) (fr fs:List (Addr×Obj)) (s:Shared) (Q E:Value→Shared→Prop),W0.Le W→Rep Γ W ρ H (fs++fr) s.heap→It i fs→Q it s→wpAny (model prog w) Γ.A (pyIter it) Q E s
noncomputable abbrev Src:=Lc→Hp→Option (Nx×Nat×Hp)
noncomputable def JI(prog:Program)(w:World)(Γ:Cx)(e:Expr)(g:Src): Prop:=∀(W:Wd) (ρ:Lc) (H:Hp) (fr:List (Addr×Obj)) (s:Shared) (Q E:Value→Shared→Prop) (nx:Nx) (n:Nat) (H':Hp),
 Rep Γ W ρ H fr s.heap→g ρ H=some (nx,n,H') →
 (∀(W':Wd) (h':Heap) (tk':Nat) (it:Value) (as:List Addr) (It:Nat→List (Addr×Obj)→Prop) (fs:List (Addr×Obj)),W.Le W'→It 0 fs→Rep Γ W' ρ H' (fs++fr) h'→(∀a∈as,∀t∈fr,a≠t.1)→Itr prog w Γ W' it as It nx→Q it { s with heap:=h',toks:=tk' }) →
 wpAny (model prog w) Γ.A (eval e Γ.env) (fun xv s₁=>wpAny (model prog w) Γ.A (pyIter xv) Q E s₁) E s
noncomputable def Zob(a:Nat): Nx:=fun i H=>H[a]?.map fun vs=>vs[i]?
noncomputable def ZrC(vs:List V): Nx:=fun i _=>some vs[i]?
noncomputable def ZfP(a c:Int)(n:Nat): Nx:=fun i _=>some (if i<n then some (.int (a+i*c))else none)
noncomputable def ZcR(f:Ex): Src:=fun ρ H=>(f ρ H).bind fun p=>match p.1 with
 | .ref a=>p.2[a]?.map fun vs=>(Zob a,vs.length+1,p.2)
 | .tup vs=>some (ZrC vs,vs.length+1,p.2)
 | _=>none
noncomputable def rngN(a b c:Int): Nat:=(Builtin.Range.rangeSize a b c).toNat
noncomputable def Zcs(a b c:Int)(H:Hp): Option (Nx×Nat×Hp):=if c≠0∧Builtin.Range.small a b c=true∧0≤Builtin.Range.rangeSize a b c∧rngN a b c≤LEN∧Builtin.divisionGoesByPylong (b-a) c=false then some (ZfP a c (rngN a b c),rngN a b c+1,H)else none
noncomputable def Zbc(g:Exs): Src:=fun ρ H=>(g ρ H).bind fun p=>match p.1 with
 | [.int b]=>Zcs 0 b 1 p.2
 | [.int a,.int b]=>Zcs a b 1 p.2
 | [.int a,.int b,.int c]=>Zcs a b c p.2
 | _=>none
section
variable {prog:Program} {w:World} {Γ:Cx}
theorem Zoc{W0:Wd}{I:Addr}{nx:Nx}(P:Nat→Obj→Prop)
  (next:∀(i:Nat) (W:Wd) (ρ:Lc) (H:Hp) (fr:List (Addr×Obj)) (ob:Obj) (s:Shared) (Q:Option Value→Shared→Prop) (E:Value→Shared→Prop) (o:Option V),W0.Le W→Rep Γ W ρ H ((I,ob)::fr) s.heap→P i ob→nx i H=some o →
   (match o with
    | none=>∀(h':Heap) (tk':Nat),(∀b o,b≠I→s.heap.get? b=some o→h'.get? b=some o)→Q none { s with heap:=h',toks:=tk' }
    | some v=>∀(ob':Obj) (h':Heap) (tk':Nat) (x:Value),P (i+1) ob'→h'.get? I=some ob'→(∀b o,b≠I→s.heap.get? b=some o→h'.get? b=some o)→VR W v x→Q (some x) { s with heap:=h',toks:=tk' })→wpAny (model prog w) Γ.A (pyNext (.ref I)) Q E s)
  (self:∀(i:Nat) (W:Wd) (ρ:Lc) (H:Hp) (fr:List (Addr×Obj)) (ob:Obj) (s:Shared) (Q E:Value→Shared→Prop),W0.Le W→Rep Γ W ρ H ((I,ob)::fr) s.heap→P i ob→Q (.ref I) s→wpAny (model prog w) Γ.A (pyIter (.ref I)) Q E s):
  Itr prog w Γ W0 (.ref I) [I] (fun i fs=>∃ob,fs=[(I,ob)]∧P i ob) nx:=by
 refine⟨?_,?_,?_⟩
 ·rintro i fs ⟨ob,e,_⟩
  rw[e]
  rfl
 ·rintro i W ρ H fr fs s Q E o le r ap ⟨ob,e,hp⟩ hn post
  subst e
  refine next i W ρ H fr ob s Q E o le r hp hn ?_
  have ap':∀q∈[(I,ob)],∀t∈fr,q.1≠t.1:=fun q hq t ht=>by rw[List.mem_singleton.mp hq];exact ap I Zz5 t ht
  cases o with
  | none=>
   intro h' tk' keep
   have:=Rep.swap (fs:=[(I,ob)]) (fs':=[]) r ap' (fun b o hb e=>keep b o (fun q=>hb (by simp[q])) e) (fun q hq=>nomatch hq)
   exact post h' tk' this
  | some v=>
   intro ob' h' tk' x hp' hg keep hx
   have:=Rep.swap (fs:=[(I,ob)]) (fs':=[(I,ob')]) r ap' (fun b o hb e=>keep b o (fun q=>hb (by simp[q])) e) (fun q hq=>by rw[List.mem_singleton.mp hq];exact⟨hg,by simp⟩)
   exact post [(I,ob')] h' tk' x ⟨ob',rfl,hp'⟩ this hx
 ·rintro i W ρ H fr fs s Q E le r ⟨ob,e,hp⟩ q
  subst e
  exact self i W ρ H fr ob s Q E le r hp q
theorem JI.seq{e:Expr}{f:Ex}(h:J prog w Γ e f): JI prog w Γ e (ZcR f):=by
 intro W ρ H fr s Q E nx n H' r hf post
 obtain⟨p,e1,hf⟩:=Zz0.mp hf
 refine h W ρ H fr s _ E _ _ r e1 fun W1 k1 t1 x l1 r1 x1=>?_
 obtain⟨v,H1⟩:=p
 cases x1 with
 | none=>cases hf
 | bool _=>cases hf
 | int _ _=>cases hf
 | str _ _=>cases hf
 | @tup vs a xs k hm hl hs=>
  cases hf
  have it:k1.IsTuple a xs.toArray:=⟨_,r1.tupAt hm,rfl,k,rfl⟩
  refine wpAny_pyIter_tuple it ?_
  obtain⟨r2,ap⟩:=r1.more (fs:=[(k1.objs.size,{ cls:=.type "tuple_iterator",data:=.fields #[.ref a,.int 0 0] })]) (fun b o e=>Heap.get?_push_of_some { cls:=.type "tuple_iterator",data:=.fields #[.ref a,.int 0 0] } e) (fun q hq=>by rw[List.mem_singleton.mp hq];exact⟨Heap.get?_push_size _ rfl,Nat.le_refl _⟩)
  refine post W1 _ t1 _ [k1.objs.size] _ _ l1 ⟨_,rfl,?_⟩ r2 (fun b hb t ht=>by rw[List.mem_singleton.mp hb];exact ap _ Zz5 t ht)
   (Zoc (fun i ob=>ob.cls=.type "tuple_iterator"∧ob.data=.fields #[.ref a,.int i 0]) ?_ ?_)
  ·intro i W ρ H fr ob s Q E o le r hp hn post
   have g1:s.heap.IsTupleIter k1.objs.size a i:=⟨ob,r.frAt Zz5,hp.1,hp.2⟩
   have g2:s.heap.IsTuple a xs.toArray:=⟨_,r.tupAt (le.tups _ hm),rfl,k,rfl⟩
   have ne:a≠k1.objs.size:=Nat.ne_of_lt (Heap.lt_size (r1.tupAt hm))
   have Wk:=Walks.tuple (prog:=prog) (w:=w) Γ.hh k1.objs.size a ne xs.toArray
   cases hn
   cases ev:vs[i]? with
   | none=>
    rw[ev]at post
    have hi:xs.toArray[i]?=none:=by have:=List.getElem?_eq_none_iff.mp ev;rw[←hs.length]at this;simpa using this
    exact wpAny_pyNext_tuple_end Γ.hh g1 g2 hi fun h' he'=>post h' s.toks fun b o hb e=>he' b o hb e
   | some v=>
    rw[ev]at post
    obtain⟨y,hy,ry⟩:=hs.at ev
    refine wpAny_pyNext_tuple_item g1 g2 (x:=y) (by simpa using hy) fun h' hit' hs'=>?_
    obtain⟨ob',h1,h2,h3⟩:=hit'
    exact post ob' h' s.toks y ⟨h2,h3⟩ h1 (fun b o hb e=>hs'.extBut b o hb e) (ry.mono le)
  ·intro i W ρ H fr ob s Q E le r hp q
   exact wpAny_pyIter_tupleiter (⟨ob,r.frAt Zz5,hp.1,hp.2⟩:s.heap.IsTupleIter k1.objs.size a i) q
  ·exact⟨rfl,rfl⟩
 | @ref i0 a ea=>
  obtain⟨vs,e2,e3⟩:=Zz1.mp hf
  cases e3
  obtain⟨hl,xs,k,hg,hv⟩:=r1.at e2 ea
  have isl:k1.IsList a xs.toArray:=⟨_,hg,rfl,k,rfl⟩
  refine wpAny_pyIter_list isl ?_
  obtain⟨r2,ap⟩:=r1.more (fs:=[(k1.objs.size,{ cls:=.type "list_iterator",data:=.fields #[.ref a,.int 0 0] })]) (fun b o e=>Heap.get?_push_of_some { cls:=.type "list_iterator",data:=.fields #[.ref a,.int 0 0] } e) (fun q hq=>by rw[List.mem_singleton.mp hq];exact⟨Heap.get?_push_size _ rfl,Nat.le_refl _⟩)
  refine post W1 _ t1 _ [k1.objs.size] _ _ l1 ⟨_,rfl,?_⟩ r2 (fun b hb t ht=>by rw[List.mem_singleton.mp hb];exact ap _ Zz5 t ht)
   (Zoc (fun i ob=>ob.cls=.type "list_iterator"∧ob.data=.fields #[.ref a,.int i 0]) ?_ ?_)
  ·intro i W ρ H fr ob s Q E o le r hp hn post
   obtain⟨us,eu,e4⟩:=Zz1.mp hn
   subst e4
   obtain⟨hl2,ys,k2,hg2,hv2⟩:=r.at eu (le.at ea)
   have g1:s.heap.IsListIter k1.objs.size a i:=⟨ob,r.frAt Zz5,hp.1,hp.2⟩
   have g2:s.heap.IsList a ys.toArray:=⟨_,hg2,rfl,k2,rfl⟩
   cases ev:us[i]? with
   | none=>
    rw[ev]at post
    have hi:ys.toArray[i]?=none:=by have:=List.getElem?_eq_none_iff.mp ev;rw[←hv2.length]at this;simpa using this
    exact wpAny_pyNext_list_end Γ.hh g1 g2 hi fun h' he'=>post h' s.toks fun b o hb e=>he' b o hb e
   | some v=>
    rw[ev]at post
    obtain⟨y,hy,ry⟩:=hv2.at ev
    refine wpAny_pyNext_list_item g1 g2 (x:=y) (by simpa using hy) fun h' hit' hs'=>?_
    obtain⟨ob',h1,h2,h3⟩:=hit'
    exact post ob' h' s.toks y ⟨h2,h3⟩ h1 (fun b o hb e=>hs'.extBut b o hb e) ry
  ·intro i W ρ H fr ob s Q E le r hp q
   exact wpAny_pyIter_listiter (⟨ob,r.frAt Zz5,hp.1,hp.2⟩:s.heap.IsListIter k1.objs.size a i) q
  ·exact⟨rfl,rfl⟩
theorem Zts{a b c:Int}{H:Hp}{z:Nx×Nat×Hp}(h:Zcs a b c H=some z): c≠0∧Builtin.divisionGoesByPylong (b-a) c=false:=by
 unfold Zcs at h
 split at h
 ·rename_i hc
  exact⟨hc.1,hc.2.2.2.2⟩
 ·cases h
theorem Zvj{W0:Wd}{I:Addr}{a c:Int}{n:Nat}: Itr prog w Γ W0 (.ref I) [I] (fun i fs=>∃ob,fs=[(I,ob)]∧(i≤n∧ob = { cls:=.type "range_iterator",dict:=none,data:=.fields #[rawInt (a+(i:Nat)*c),rawInt ((n:Int)-(i:Nat)),rawInt c],slots:=#[] })) (ZfP a c n):=by
 have Wk:=Walks.range (prog:=prog) (w:=w) Γ.hh I a c n
 refine Zoc (fun i ob=>i≤n∧ob = { cls:=.type "range_iterator",dict:=none,data:=.fields #[rawInt (a+(i:Nat)*c),rawInt ((n:Int)-(i:Nat)),rawInt c],slots:=#[] }) ?_ ?_
 ·intro i W ρ H fr ob s Q E o le r hp hn post
  have g:IsRangeIter s.heap I (a+(i:Nat)*c) ((n:Int)-(i:Nat)) c:=(r.frAt Zz5).trans (congrArg some hp.2)
  cases hn
  by_cases hi:i<n
  ·rw[if_pos hi]at post
   refine Wk.item i s Q E hi g fun v h' tk hv st keep=>?_
   obtain⟨t,e⟩:=hv
   subst e
   exact post _ h' tk _ ⟨hi,rfl⟩ st (fun b o hb e=>keep b o (by simpa using hb) e) (.int _ _)
  ·rw[if_neg hi]at post
   have e:i=n:=by have:=hp.1;omega
   subst e
   exact Wk.done s Q E g fun h' tk keep=>post h' tk fun b o hb e=>keep b o (by simpa using hb) e
 ·intro i W ρ H fr ob s Q E le r hp q
  have g:IsRangeIter s.heap I (a+(i:Nat)*c) ((n:Int)-(i:Nat)) c:=(r.frAt Zz5).trans (congrArg some hp.2)
  exact Wk.self i s Q E g q
theorem ZlZ{a b c:Int}{t u v:Tok}{W:Wd}{ρ:Lc}{H:Hp}{fr:List (Addr×Obj)}{s:Shared}{k:Heap}{tk:Nat}{Q E:Value→Shared→Prop}{nx:Nx}{n:Nat}{H':Hp}(r:Rep Γ W ρ H fr k)(hm:Zcs a b c H=some (nx,n,H'))
  (post:∀(W':Wd) (h':Heap) (tk':Nat) (it:Value) (as:List Addr) (It:Nat→List (Addr×Obj)→Prop) (fs:List (Addr×Obj)),W.Le W'→It 0 fs→Rep Γ W' ρ H' (fs++fr) h'→(∀a∈as,∀t∈fr,a≠t.1)→Itr prog w Γ W' it as It nx→Q it { s with heap:=h',toks:=tk' }):
  wpAny (model prog w) Γ.A (pyIter (.ref k.objs.size)) Q E { s with heap:=k.push { cls:=.type "range",data:=.fields #[.int a t,.int b u,.int c v] },toks:=tk }:=by
 unfold Zcs at hm
 split at hm
 ·rename_i hc
  cases hm
  have hr:IsRange (k.push { cls:=.type "range",data:=.fields #[.int a t,.int b u,.int c v] }) k.objs.size a b c t u v:=IsRange.new ..
  refine wpAny_pyIter_range hr hc.2.1 ?_
  have rp:=r.push { cls:=.type "range",data:=.fields #[.int a t,.int b u,.int c v] }
  have en:Builtin.Range.rangeSize a b c=((rngN a b c:Nat):Int):=(Int.toNat_of_nonneg hc.2.2.1).symm
  dsimp only
  generalize hk:k.push { cls:=.type "range",data:=.fields #[.int a t,.int b u,.int c v] } = k2 at rp ⊢
  obtain⟨r2,ap⟩:=rp.more (fs:=[(k2.objs.size,{ cls:=.type "range_iterator",data:=.fields #[rawInt a,rawInt (Builtin.Range.rangeSize a b c),rawInt c] })]) (fun b' o e=>Heap.get?_push_of_some { cls:=.type "range_iterator",data:=.fields #[rawInt a,rawInt (Builtin.Range.rangeSize a b c),rawInt c] } e) (fun q hq=>by rw[List.mem_singleton.mp hq];exact⟨Heap.get?_push_size _ rfl,Nat.le_refl _⟩)
  refine post W _ tk _ [k2.objs.size] _ _ (.refl W) ⟨_,rfl,Nat.zero_le _,?_⟩ r2 (fun b hb t ht=>by rw[List.mem_singleton.mp hb];exact ap _ Zz5 t ht) (Zvj (a:=a) (c:=c) (n:=rngN a b c))
  rw[en]
  simp
 ·cases hm
theorem JI.range{x:Str}{np pos:Pos}{e:Expr}{es:List Expr}{g:Exs}(hn:Nm prog w Γ x (.type "range"))(h:Js prog w Γ (e::es) g)
  (he:starEach (e::es) Γ.env=(false,eval e Γ.env)::starEach es Γ.env:=by rfl) (hp:∀pos,(backTo pos (starEach es Γ.env)).any (·.1)=false:=by intro _;rfl):JI prog w Γ (.Call (.Name x np) (e::es) [] pos) (Zbc g):=by
 intro W ρ H fr s Q E nx n H' r hf post
 obtain⟨p,e1,hf⟩:=Zz0.mp hf
 refine wpAny_Call_ofName (hn.use r ?_)
 refine PySem.Pv.callWith_type1 (h pos W ρ H fr s _ E _ _ r e1 fun W1 k1 t1 xs l1 r1 x1=>?_) he (hp pos)
 obtain⟨vs,H1⟩:=p
 dsimp only at hf x1 r1
 have post1:=fun W' h' tk' it as It fs (l:W1.Le W')=>post W' h' tk' it as It fs (l1.trans l)
 split at hf
 ·obtain⟨y,ex,ry⟩:=x1.one
  subst ex
  cases ry
  exact call_range_1 (ZlZ r1 hf post1)
 ·obtain⟨y,z,ex,ry,rz⟩:=x1.two
  subst ex
  cases ry
  cases rz
  exact call_range_2 (ZlZ r1 hf post1)
 ·cases x1 with
  | cons ry x1=>
  obtain⟨y,z,ex,rz,ru⟩:=x1.two
  subst ex
  cases ry
  cases rz
  cases ru
  have hc:=Zts hf
  exact call_range_3 hc.1 (ZlZ r1 hf post1) (.inl hc.2)
 ·cases hf
end
noncomputable def Zdq(nx:Nx)(put:V→Lc→Option Lc)(b:Sm): Nat→Nat→Sm
 | 0,_=>fun _ _=>none
 | n+1,i=>fun ρ H=>(nx i H).bind fun o=>match o with
  | none=>some (none,ρ,H)
  | some v=>(put v ρ).bind fun ρ1=>(b ρ1 H).bind fun q=>match q.1 with
   | some _=>some q
   | none=>Zdq nx put b n (i+1) q.2.1 q.2.2
noncomputable def Za9(g:Src)(put:V→Lc→Option Lc)(b:Sm): Sm:=fun ρ H=>(g ρ H).bind fun z=>Zdq z.1 put b z.2.1 0 ρ z.2.2
noncomputable def put1(i:Nat): V→Lc→Option Lc:=fun v ρ=>some (upd ρ i v)
section
variable {prog:Program} {w:World} {Γ:Cx}
theorem Zb1{x:Str}{i:Nat}{px pos:Pos}{it:Expr}{body:List Stmt}{g:Src}{b:Sm}(hx:Sto prog w Γ x i)(hg:JI prog w Γ it g)(hb:Ss prog w Γ body b)(hs:∀x,foldedSetIterable it Γ.env x=pure x:=by intro _;rfl): S1 prog w Γ (.For (.Name x px) it body [] pos) (Za9 g (put1 i) b):=by
 intro W ρ H fr s Q E r rp hf post
 obtain⟨z,e1,hf⟩:=Zz0.mp hf
 obtain⟨nx,n,H0⟩:=z
 refine wpAny_For (hg W ρ H fr s _ E nx n H0 rp e1 fun W1 k1 t1 itv as It fs l1 i1 r1 ap I1=>?_) hs
 refine codeAny_forLoop (fun k s'=>∃W' ρ' H' h' tk' j fs',s' = { s with heap:=h',toks:=tk' }∧W1.Le W'∧It j fs'∧Rep Γ W' ρ' H' (fs'++fr) h'∧Zdq nx (put1 i) b k j ρ' H'=some r) ?_ n ⟨W1,ρ,H0,k1,t1,0,fs,rfl,.refl _,i1,r1,hf⟩
 rintro k s' ⟨W2,ρ2,H2,k2,t2,j,fs2,rfl,l2,i2,r2,e⟩
 cases k with
 | zero=>cases e
 | succ k=>
  obtain⟨o,e2,e⟩:=Zz0.mp e
  refine I1.next j W2 ρ2 H2 fr fs2 _ _ _ o l2 r2 ap i2 e2 ?_
  cases o with
  | none=>
   cases e
   intro h' tk' r3
   exact wpAny_execs_nil (post W2 h' tk' (l1.trans l2) r3)
  | some v=>
   intro fs3 k3 t3 y i3 r3 y3
   obtain⟨ρ3,e3,e⟩:=Zz0.mp e
   cases e3
   obtain⟨q,e4,e⟩:=Zz0.mp e
   refine wpAny_assign_Name (hx W2 ρ2 H2 (fs3++fr) _ _ _ v y r3 y3 fun k4 t4 r4=>?_)
   refine hb W2 _ H2 (fs3++fr) _ _ _ q r4 e4 ?_
   obtain⟨u,ρ5,H5⟩:=q
   cases u with
   | some u=>
    cases e
    exact fun W5 k5 t5 x5 l5 r5 v5=>post W5 k5 t5 x5 ((l1.trans l2).trans l5) (r5.less fun q hq=>List.mem_append_right _ hq) v5
   | none=>exact fun W5 k5 t5 l5 r5=>⟨k,Nat.lt_succ_self k,W5,ρ5,H5,k5,t5,j+1,fs3,rfl,l2.trans l5,i3,r5,e⟩
end
end PM
end
section
set_option autoImplicit false
namespace PM
open PySem PySem.W PySem.Calls PyProof.Rows PyProof
structure OwnF(names:List Str)(cs:Scope)(cl:List (Str×Addr))(W:Wd)(ρ:Lc)(m:Str→Option Value)(cells:List (Addr×Obj)): Prop where
 loc:∀(i:Nat) (x:Str) (v:V),names[i]?=some x→cs.names.lookup x=some .local→ρ i=some v→∃y,m x=some y∧VR W v y
 cel:∀(i:Nat) (x:Str) (v:V),names[i]?=some x→cs.names.lookup x=some .cell→ρ i=some v→∃c o y,cl.lookup x=some c∧(c,o)∈cells∧o.data=.cell (some y)∧VR W v y
 all:∀(x:Str) (c:Addr),cl.lookup x=some c→∃o v₀,(c,o)∈cells∧o.data=.cell v₀
 one:∀(x y:Str) (c:Addr),cl.lookup x=some c→cl.lookup y=some c→x=y
theorem OwnF.mono{names:List Str}{cs:Scope}{cl:List (Str×Addr)}{W W':Wd}{ρ:Lc}{m:Str→Option Value}{cells:List (Addr×Obj)}(l:W.Le W')(h:OwnF names cs cl W ρ m cells): OwnF names cs cl W' ρ m cells:=
 ⟨fun i x v a b c=>by
  obtain⟨y,h1,h2⟩:=h.loc i x v a b c
  exact⟨y,h1,h2.mono l⟩,fun i x v a b c=>by
  obtain⟨d,o,y,h1,h2,h3,h4⟩:=h.cel i x v a b c
  exact⟨d,o,y,h1,h2,h3,h4.mono l⟩,h.all,h.one⟩
noncomputable def ZbG(dp un:Nat)(gd:Option (List Code))(cn:Str)(cs:Scope)(L a:Addr)(ccd:Value)(cl:List (Str×Addr))(outer:List Env)(h₀:Heap)(hu:un+200<cLine)(names:List Str): Cx where
 A:=ktrTop dp un gd cn cs L a ccd cl outer
 env:=envX cn cs L a ccd cl
 h₀:=h₀
 L:=L
 hh:=rfl
 hu:=hu
 Own:=OwnF names cs cl
 mono:=OwnF.mono
section
variable {prog:Program} {w:World} {dp un:Nat} {gd:Option (List Code)} {cn:Str} {cs:Scope} {L a:Addr} {ccd:Value} {cl:List (Str×Addr)} {outer:List Env} {h₀:Heap} {hu:un+200<cLine} {names:List Str}
theorem Zxr{x:Str}{i:Nat}(hi:names[i]?=some x)(hx:cs.names.lookup x=some .local)(hk:cs.kind=.function)(hd:(x == ("__debug__":Str))=false): Rd prog w (ZbG dp un gd cn cs L a ccd cl outer h₀ hu names) x i:=by
 intro W ρ H fr s Q E v pos r e q
 obtain⟨m,c,led,r⟩:=r
 obtain⟨y,h1,h2⟩:=r.own.loc i x v hi hx e
 exact nameX_L r.F h1 (q y h2) hk hx hd
theorem Zxs{x:Str}{i:Nat}(hi:names[i]?=some x)(hx:cs.names.lookup x=some .cell)(hk:cs.kind=.function)(hd:(x == ("__debug__":Str))=false): Rd prog w (ZbG dp un gd cn cs L a ccd cl outer h₀ hu names) x i:=by
 intro W ρ H fr s Q E v pos r e q
 obtain⟨m,c,led,r⟩:=r
 obtain⟨d,o,y,h1,h2,h3,h4⟩:=r.own.cel i x v hi hx e
 exact nameX_C r.N h1 (r.clIn _ h2) h3 (q y h4) hk hx hd
theorem Zwe{x:Str}{i:Nat}(nd:names.Nodup)(hi:names[i]?=some x)(hx:cs.names.lookup x=some .local)(hk:cs.kind=.function): Sto prog w (ZbG dp un gd cn cs L a ccd cl outer h₀ hu names) x i:=by
 intro W ρ H fr s Q E v y r vy q
 obtain⟨m,c,led,r⟩:=r
 have hi':i<names.length:=(Zz6.mp hi).1
 refine storeX_L r.F r.N (fun h' F' N'=>q h' _ ⟨_,c,led,⟨F',N',r.R,r.sc,r.sc0,r.frIn,r.frOff,r.clIn,r.clOff,r.apart,r.frTup,r.clTup,⟨fun j z u hj hz hu=>?_,fun j z u hj hz hu=>?_,r.own.all,r.own.one⟩⟩⟩) hk hx
 ·by_cases e:j=i
  ·subst e
   rw[hi]at hj
   cases hj
   simp only[upd,if_true]at hu
   cases hu
   exact⟨y,by simp,vy⟩
  ·have hzx:z≠x:=fun e'=>by
    subst e'
    exact e ((List.getElem?_inj (Zz6.mp hj).1 nd).mp (hj.trans hi.symm))
   simp only[upd,if_neg e]at hu
   obtain⟨y',h1,h2⟩:=r.own.loc j z u hj hz hu
   exact⟨y',by simp[hzx,h1],h2⟩
 ·by_cases e:j=i
  ·subst e
   rw[hi]at hj
   cases hj
   rw[hx]at hz
   cases hz
  ·simp only[upd,if_neg e]at hu
   exact r.own.cel j z u hj hz hu
theorem Zwf{x:Str}{i:Nat}(nd:names.Nodup)(hi:names[i]?=some x)(hx:cs.names.lookup x=some .cell)(hk:cs.kind=.function)(hcl:(cl.lookup x).isSome=true): Sto prog w (ZbG dp un gd cn cs L a ccd cl outer h₀ hu names) x i:=by
 intro W ρ H fr s Q E v y r vy q
 obtain⟨m,c,led,r⟩:=r
 obtain⟨d,hd⟩:=Option.isSome_iff_exists.mp hcl
 obtain⟨o,v₀,ho,hv₀⟩:=r.own.all x d hd
 have inl:=r.clIn _ ho
 have N2:News h₀ L s.heap ((d,o)::led.filter (fun q=>decide (q.1≠d))):=by
  intro q hq
  rcases Zz7.mp hq with e | hq
  ·subst e
   exact r.N _ inl
  ·exact r.N q (List.mem_filter.mp hq).1
 refine storeX_C r.F N2 hd (UpdF.head fun q hq=>by simpa using (List.mem_filter.mp hq).2) hv₀ (fun h' o' F' N' ho'=>?_) hk hx
 have keep:∀q∈led,q.1≠d→q∈(d,o')::led.filter (fun q=>decide (q.1≠d)):=fun q hq hn=>List.mem_cons_of_mem _ (List.mem_filter.mpr ⟨hq,by simpa using hn⟩)
 refine q h' s.toks ⟨m,(d,o')::c.filter (fun q=>decide (q.1≠d)),_,⟨F',N',⟨r.R.len,r.R.nd,fun j vs e=>?_,fun q hq=>Zex (r.R.tups q hq) fun z=>keep q z (r.clTup _ ho q hq).symm,r.R.kind⟩,r.sc,r.sc0,fun q hq=>keep q (r.frIn q hq) (r.apart _ ho q hq).symm,r.frOff,fun q hq=>?_,fun q hq=>?_,fun q hq t ht=>?_,r.frTup,fun q hq t ht=>?_,⟨fun j z u hj hz hu=>?_,fun j z u hj hz hu=>?_,fun z e hz=>?_,r.own.one⟩⟩⟩
 ·obtain⟨l,b,xs,k,h1,h2,h3⟩:=r.R.lists j vs e
  exact⟨l,b,xs,k,h1,Zex h2 fun z=>keep _ z fun e=>r.clOff _ ho (e▸List.mem_of_getElem? h1),h3⟩
 ·rcases Zz7.mp hq with e | hq
  ·exact e▸List.mem_cons_self
  ·obtain⟨h1,h2⟩:=List.mem_filter.mp hq
   exact keep q (r.clIn q h1) (by simpa using h2)
 ·rcases Zz7.mp hq with e | hq
  ·rw[e]
   exact(r.clOff _ ho:d∉W.pi)
  ·exact r.clOff q (List.mem_filter.mp hq).1
 ·rcases Zz7.mp hq with e | hq
  ·rw[e]
   exact(r.apart _ ho t ht:d≠t.1)
  ·exact r.apart q (List.mem_filter.mp hq).1 t ht
 ·rcases Zz7.mp hq with e | hq
  ·rw[e]
   exact(r.clTup _ ho t ht:d≠t.1)
  ·exact r.clTup q (List.mem_filter.mp hq).1 t ht
 ·by_cases e:j=i
  ·subst e
   rw[hi]at hj
   cases hj
   rw[hx]at hz
   cases hz
  ·simp only[upd,if_neg e]at hu
   exact r.own.loc j z u hj hz hu
 ·by_cases e:j=i
  ·subst e
   rw[hi]at hj
   cases hj
   simp only[upd,if_true]at hu
   cases hu
   exact⟨d,o',y,hd,List.mem_cons_self,ho',vy⟩
  ·have hzx:z≠x:=fun e'=>by
    subst e'
    exact e ((List.getElem?_inj (Zz6.mp hj).1 nd).mp (hj.trans hi.symm))
   simp only[upd,if_neg e]at hu
   obtain⟨b,ob,y',h1,h2,h3,h4⟩:=r.own.cel j z u hj hz hu
   have:b≠d:=fun e'=>by
    subst e'
    exact hzx (r.own.one z x b h1 hd)
   exact⟨b,ob,y',h1,List.mem_cons_of_mem _ (List.mem_filter.mpr ⟨h2,by simpa using this⟩),h3,h4⟩
 ·by_cases e':e=d
  ·subst e'
   exact⟨o',_,List.mem_cons_self,ho'⟩
  ·obtain⟨ob,v1,h1,h2⟩:=r.own.all z e hz
   exact⟨ob,v1,List.mem_cons_of_mem _ (List.mem_filter.mpr ⟨h1,by simpa using e'⟩),h2⟩
end
end PM
end
section
set_option autoImplicit false
namespace PM
open PySem PySem.W PySem.Calls PyProof.Rows PyProof PyProof.Rows.LCg
theorem ZgP{Γ:Cx}{W:Wd}{ρ:Lc}{H:Hp}{fr:List (Addr×Obj)}{h:Heap}{D:Addr}{ys:List Value}{k:Nat}{vs:List V}(r:Rep Γ W ρ H ((D,ZbQ ys k)::fr) h)(ap:∀t∈fr,D≠t.1)(hv:VRs W vs ys)(hl:vs.length≤LEN):
  ∃W',W.Le W'∧Rep Γ W' ρ (H++[vs]) fr h∧VR W' (.ref H.length) (.ref D):=by
 obtain⟨m,c,led,r⟩:=r
 have le:W.Le ⟨W.pi++[D],W.tups,W.sc⟩:=⟨List.prefix_append _ _,fun q hq=>hq,rfl⟩
 have h0:0<W.pi.length:=(Zz6.mp r.sc0).1
 have at_n:(W.pi++[D])[H.length]?=some D:=by rw[←r.R.len];simp
 have off:=r.frOff _ Zz5
 refine⟨⟨W.pi++[D],W.tups,W.sc⟩,le,⟨m,c,led,⟨r.F,r.N,⟨by simp[r.R.len],?_,fun i us e=>?_,r.R.tups,r.R.kind⟩,r.sc,(List.getElem?_append_left h0).trans r.sc0,fun q hq=>r.frIn q (Zz2 _ hq),fun q hq=>?_,r.clIn,fun q hq=>?_,fun q hq t ht=>r.apart q hq t (Zz2 _ ht),fun q hq=>r.frTup q (Zz2 _ hq),r.clTup,Γ.mono le r.own⟩⟩,.ref at_n⟩
 ·show(W.pi++[D]).Nodup
  rw[List.nodup_append]
  refine⟨r.R.nd,by simp,fun a ha b hb=>?_⟩
  rw[List.mem_singleton.mp hb]
  exact fun e=>off (e▸ha)
 ·by_cases hi:i<H.length
  ·rw[List.getElem?_append_left hi]at e
   obtain⟨l,a,zs,j,h1,h2,h3⟩:=r.R.lists i us e
   exact⟨l,a,zs,j,le.at h1,h2,h3.mono le⟩
  ·have:i=H.length:=by
    have:=(Zz6.mp e).1
    simp at this
    omega
   subst this
   simp at e
   subst e
   exact⟨hl,D,ys,k,at_n,List.mem_cons_of_mem _ (r.frIn _ Zz5),hv.mono le⟩
 ·intro hm
  rcases Zz8.mp hm with hm | hm
  ·exact r.frOff q (Zz2 _ hq) hm
  ·exact ap q hq (Zz9.mp hm).symm
 ·intro hm
  rcases Zz8.mp hm with hm | hm
  ·exact r.clOff q hq hm
  ·exact r.apart q hq _ Zz5 (Zz9.mp hm)
noncomputable def ZyT(Γ:Cx)(C:Addr)(ts:List (Str×Nat))(ρ0:Lc)(W:Wd)(ρ:Lc)(m:Str→Option Value)(cells:List (Addr×Obj)): Prop:=
 ∃oC m₂ cs,cells=(C,oC)::cs∧(∀q∈cs,q.1≠C)∧NsObj oC m₂∧(∀p∈ts,∃v y,ρ p.2=some v∧m₂ p.1=some y∧VR W v y)∧(∀j,(∀p∈ts,p.2≠j)→ρ j=ρ0 j)∧Γ.Own W ρ0 m cs
noncomputable def Zbo(Γ:Cx)(scope:Scope)(cl:List (Str×Addr))(C:Addr)(ts:List (Str×Nat))(ρ0:Lc): Cx where
 A:=Γ.A
 env:=compEnvC scope cl C Γ.env
 h₀:=Γ.h₀
 L:=Γ.L
 hh:=Γ.hh
 hu:=Γ.hu
 Own:=ZyT Γ C ts ρ0
 mono:=fun l h=>by
  obtain⟨oC,m₂,cs,e,h0,h1,h2,h3,h4⟩:=h
  exact⟨oC,m₂,cs,e,h0,h1,fun p hp=>by
   obtain⟨v,y,a,b,c⟩:=h2 p hp
   exact⟨v,y,a,b,c.mono l⟩,h3,Γ.mono l h4⟩
section
variable {Γ:Cx} {scope:Scope} {cl:List (Str×Addr)} {C:Addr} {ts:List (Str×Nat)} {ρ0:Lc} {W:Wd} {ρ:Lc} {H:Hp} {fr:List (Addr×Obj)} {h:Heap}
theorem ZqQ{oC:Obj}{m₂:Str→Option Value}(r:Rep Γ W ρ0 H ((C,oC)::fr) h)(ap:∀t∈fr,C≠t.1)(hC:NsObj oC m₂)(ht:∀p∈ts,∃v y,ρ p.2=some v∧m₂ p.1=some y∧VR W v y)(hj:∀j,(∀p∈ts,p.2≠j)→ρ j=ρ0 j): Rep (Zbo Γ scope cl C ts ρ0) W ρ H fr h:=by
 obtain⟨m,c,led,r⟩:=r
 refine⟨m,(C,oC)::c,led,⟨r.F,r.N,r.R,r.sc,r.sc0,fun q hq=>r.frIn q (Zz2 _ hq),fun q hq=>r.frOff q (Zz2 _ hq),fun q hq=>?_,fun q hq=>?_,fun q hq t ht=>?_,fun q hq=>r.frTup q (Zz2 _ hq),fun q hq t ht=>?_,⟨oC,m₂,c,rfl,fun q hq=>r.apart q hq _ Zz5,hC,ht,hj,r.own⟩⟩⟩
 ·rcases Zz7.mp hq with e | hq
  ·exact e▸r.frIn _ Zz5
  ·exact r.clIn q hq
 ·rcases Zz7.mp hq with e | hq
  ·exact e▸r.frOff _ Zz5
  ·exact r.clOff q hq
 ·rcases Zz7.mp hq with e | hq
  ·exact e▸ap t ht
  ·exact r.apart q hq t (Zz2 _ ht)
 ·rcases Zz7.mp hq with e | hq
  ·exact e▸r.frTup _ Zz5 t ht
  ·exact r.clTup q hq t ht
theorem Rep.fromC(r:Rep (Zbo Γ scope cl C ts ρ0) W ρ H fr h): ∃oC m₂,NsObj oC m₂∧Rep Γ W ρ0 H ((C,oC)::fr) h:=by
 obtain⟨m,c,led,r⟩:=r
 obtain⟨oC,m₂,cs,e,h0,h1,h2,h3,h4⟩:=r.own
 subst e
 refine⟨oC,m₂,h1,m,cs,led,⟨r.F,r.N,r.R,r.sc,r.sc0,fun q hq=>?_,fun q hq=>?_,fun q hq=>r.clIn q (Zz2 _ hq),fun q hq=>r.clOff q (Zz2 _ hq),fun q hq t ht=>?_,fun q hq t ht=>?_,fun q hq=>r.clTup q (Zz2 _ hq),h4⟩⟩
 ·rcases Zz7.mp hq with e | hq
  ·exact e▸r.clIn _ Zz5
  ·exact r.frIn q hq
 ·rcases Zz7.mp hq with e | hq
  ·exact e▸r.clOff _ Zz5
  ·exact r.frOff q hq
 ·rcases Zz7.mp ht with e | ht
  ·rw[e]
   exact h0 q hq
  ·exact r.apart q (Zz2 _ hq) t ht
 ·rcases Zz7.mp hq with e | hq
  ·exact e▸r.clTup _ Zz5 t ht
  ·exact r.frTup q hq t ht
end
noncomputable def JF(prog:Program)(w:World)(Γ:Cx)(ifs:List Expr)(f:Ts): Prop:=∀(W:Wd) (ρ:Lc) (H:Hp) (fr:List (Addr×Obj)) (s:Shared) (Q:Bool→Shared→Prop) (E:Value→Shared→Prop) (b:Bool) (H':Hp),
 Rep Γ W ρ H fr s.heap→f ρ H=some (b,H')→Zjz Γ W ρ H' fr s Q b →
 wpAny (model prog w) Γ.A (forIn ifs true fun c r=>if r=true then do let ok ←isTrue c Γ.env (eval c Γ.env);pure (ForInStep.yield ok)else pure (ForInStep.yield r)) Q E s
section
variable {prog:Program} {w:World} {Γ:Cx}
theorem JF.nil: JF prog w Γ [] ZaM:=fun W ρ H fr s Q E b H' r hf post=>by
 cases hf
 exact wpAny_pure (post W s.heap s.toks (.refl W) r)
theorem JF.one{e:Expr}{t:Ts}(h:JT prog w Γ e t): JF prog w Γ [e] t:=fun W ρ H fr s Q E b H' r hf post=>by
 rw[List.forIn_cons]
 simp only[if_true,List.forIn_nil]
 refine wpAny_bind (wpAny_bind (h W ρ H fr s _ E b H' r hf fun W1 k1 t1 l1 r1=>wpAny_pure ?_))
 exact wpAny_pure (post W1 k1 t1 l1 r1)
end
end PM
end
section
set_option autoImplicit false
namespace PM
open PySem PySem.W PySem.Calls PyProof.Rows PyProof PyProof.Rows.LCg
noncomputable def ZcZ(nx:Nx)(put:V→Lc→Option Lc)(c:Ts)(f:Ex)(ρ:Lc): Nat→Nat→List V→Hp→Option (List V×Hp)
 | 0,_,_,_=>none
 | n+1,i,acc,H=>(nx i H).bind fun o=>match o with
  | none=>some (acc,H)
  | some v=>(put v ρ).bind fun ρ1=>(c ρ1 H).bind fun b=>if b.1 then(f ρ1 b.2).bind fun p=>(if acc.length<LEN then ZcZ nx put c f ρ n (i+1) (acc++[p.1]) p.2 else none)else ZcZ nx put c f ρ n (i+1) acc b.2
noncomputable def Za4(g:Src)(put:V→Lc→Option Lc)(c:Ts)(f:Ex): Ex:=fun ρ H=>(g ρ H).bind fun z=>(ZcZ z.1 put c f ρ z.2.1 0 [] z.2.2).map fun q=>(.ref q.2.length,q.2++[q.1])
noncomputable def ZhF(Γ:Cx)(W0:Wd)(ρ:Lc)(fr:List (Addr×Obj))(C D:Addr)(It:Nat→List (Addr×Obj)→Prop)(nx:Nx)(put:V→Lc→Option Lc)(c:Ts)(f:Ex)(q:List V×Hp)(s:Shared)(k:Nat)(s':Shared): Prop:=
 ∃W' H' h' tk' j fs acc ys oC m₂,s' = { s with heap:=h',toks:=tk' }∧W0.Le W'∧It j fs∧NsObj oC m₂∧VRs W' acc ys∧acc.length≤LEN∧Rep Γ W' ρ H' ((C,oC)::(D,lst ys)::(fs++fr)) h'∧ZcZ nx put c f ρ k j acc H'=some q
section
variable {prog:Program} {w:World} {Γ:Cx}
theorem ZpS{scope:Scope}{cl:List (Str×Addr)}{elt:Expr}{ts:List (Str×Nat)}{W0 W:Wd}{ρ ρ1:Lc}{H:Hp}{fr fs:List (Addr×Obj)}{C D:Addr}{It:Nat→List (Addr×Obj)→Prop}{nx:Nx}{put:V→Lc→Option Lc}{c:Ts}{f:Ex}{q:List V×Hp}{s:Shared}{h:Heap}{tk:Nat}{k j:Nat}{acc:List V}{ys:List Value}{E:Value→Shared→Prop}
  (hel:J prog w (Zbo Γ scope cl C ts ρ) elt f) (aD:∀t∈fs++fr,D≠t.1) (cd:C≠D) (l0:W0.Le W) (hit:It (j+1) fs) (hv:VRs W acc ys) (r:Rep (Zbo Γ scope cl C ts ρ) W ρ1 H ((D,lst ys)::(fs++fr)) h)
  (e:((f ρ1 H).bind fun p=>(if acc.length<LEN then ZcZ nx put c f ρ k (j+1) (acc++[p.1]) p.2 else none))=some q):
  wpAny (model prog w) Γ.A (eval elt (compEnvC scope cl C Γ.env)) (fun x s₄=>wpAny (model prog w) Γ.A (call (.builtin "list.append") [.ref D,x]) (fun _ s₅=>∃m,m<k+1∧ZhF Γ W0 ρ fr C D It nx put c f q s m s₅) E s₄) E { s with heap:=h,toks:=tk }:=by
 obtain⟨p,e2,e⟩:=Zz0.mp e
 by_cases hlt:acc.length<LEN
 ·rw[if_pos hlt]at e
  refine hel W ρ1 H _ _ _ E _ _ r e2 fun W2 k2 t2 x l2 r2 x2=>?_
  obtain⟨oC',m₃,hC',r3⟩:=r2.fromC
  have hD:k2.get? D=some (lst ys):=r3.frAt (q:=(D,lst ys)) (Zz2 _ Zz5)
  refine append_at (hsz:=Zc5 (by rw[List.size_toArray,hv.length];omega)) hD fun h' sb hg=>?_
  have hg':h'.get? D=some (lst (ys++[x])):=hg.trans (congrArg some (lst_snoc ys x))
  have r4:Rep Γ W2 ρ p.2 ([(D,lst ys)]++((C,oC')::(fs++fr))) k2:=r3.less fun q hq=>by
   rcases Zz8.mp hq with hq | hq
   ·rw[List.mem_singleton.mp hq]
    exact Zz2 _ Zz5
   ·rcases Zz7.mp hq with e | hq
    ·exact e▸List.mem_cons_self
    ·exact Zz2 _ (Zz2 _ hq)
  have r5:Rep Γ W2 ρ p.2 ([(D,lst (ys++[x]))]++((C,oC')::(fs++fr))) h':=by
   refine r4.swap (fun q hq t ht=>?_) (fun b o hb e=>sb.extBut b o (fun z=>hb (by simp[z])) e) fun q hq=>?_
   ·rw[List.mem_singleton.mp hq]
    rcases Zz7.mp ht with e | ht
    ·rw[e]
     exact cd.symm
    ·exact aD t ht
   ·rw[List.mem_singleton.mp hq]
    exact⟨hg',by simp⟩
  have r6:Rep Γ W2 ρ p.2 ((C,oC')::(D,lst (ys++[x]))::(fs++fr)) h':=r5.less fun q hq=>by
   rcases Zz7.mp hq with e | hq
   ·exact e▸List.mem_append_right _ Zz5
   ·rcases Zz7.mp hq with e | hq
    ·exact e▸List.mem_append_left _ Zz5
    ·exact Zz3 _ (Zz2 _ hq)
  exact⟨k,Nat.lt_succ_self k,W2,p.2,h',t2,j+1,fs,acc++[p.1],ys++[x],oC',m₃,rfl,l0.trans l2,hit,hC',(hv.mono l2).snoc x2,by simp;omega,r6,e⟩
 ·rw[if_neg hlt]at e
  cases e
theorem Zvk{scope:Scope}{cl:List (Str×Addr)}{elt:Expr}{ifs:List Expr}{ts:List (Str×Nat)}{W0 W:Wd}{ρ ρ1:Lc}{H:Hp}{fr fs:List (Addr×Obj)}{C D:Addr}{It:Nat→List (Addr×Obj)→Prop}{nx:Nx}{put:V→Lc→Option Lc}{c:Ts}{f:Ex}{q:List V×Hp}{s s1:Shared}{k j:Nat}{acc:List V}{ys:List Value}{oC:Obj}{m₂:Str→Option Value}{E:Value→Shared→Prop}
  (hel:J prog w (Zbo Γ scope cl C ts ρ) elt f) (hif:JF prog w (Zbo Γ scope cl C ts ρ) ifs c) (hs:∃h tk,s1 = { s with heap:=h,toks:=tk })
  (aC:∀t∈(D,lst ys)::(fs++fr),C≠t.1) (aD:∀t∈fs++fr,D≠t.1) (l0:W0.Le W) (hit:It (j+1) fs) (hC:NsObj oC m₂) (hv:VRs W acc ys) (hl:acc.length≤LEN) (r:Rep Γ W ρ H ((C,oC)::(D,lst ys)::(fs++fr)) s1.heap)
  (ht:∀p∈ts,∃v y,ρ1 p.2=some v∧m₂ p.1=some y∧VR W v y) (hj:∀i,(∀p∈ts,p.2≠i)→ρ1 i=ρ i)
  (e:((c ρ1 H).bind fun b=>if b.1 then(f ρ1 b.2).bind fun p=>(if acc.length<LEN then ZcZ nx put c f ρ k (j+1) (acc++[p.1]) p.2 else none)else ZcZ nx put c f ρ k (j+1) acc b.2)=some q):
  wpAny (model prog w) Γ.A (forIn ifs true fun c r=>if r=true then do let ok ←isTrue c (compEnvC scope cl C Γ.env) (eval c (compEnvC scope cl C Γ.env));pure (ForInStep.yield ok)else pure (ForInStep.yield r)) (fun ok s₃=>
   if ok=true then wpAny (model prog w) Γ.A (eval elt (compEnvC scope cl C Γ.env)) (fun x s₄=>wpAny (model prog w) Γ.A (call (.builtin "list.append") [.ref D,x]) (fun _ s₅=>∃m,m<k+1∧ZhF Γ W0 ρ fr C D It nx put c f q s m s₅) E s₄) E s₃
   else ∃m,m<k+1∧ZhF Γ W0 ρ fr C D It nx put c f q s m s₃) E s1:=by
 obtain⟨h,tk,rfl⟩:=hs
 obtain⟨b,e1,e⟩:=Zz0.mp e
 obtain⟨b,H1⟩:=b
 have rc:=ZqQ (scope:=scope) (cl:=cl) r aC hC ht hj
 refine hif W ρ1 H _ _ _ E b H1 rc e1 fun W1 k1 t1 l1 r1=>?_
 cases b with
 | false=>
  obtain⟨oC',m₃,hC',r2⟩:=r1.fromC
  exact⟨k,Nat.lt_succ_self k,W1,H1,k1,t1,j+1,fs,acc,ys,oC',m₃,rfl,l0.trans l1,hit,hC',hv.mono l1,hl,r2,e⟩
 | true=>exact ZpS hel aD (aC (D,lst ys) Zz5) (l0.trans l1) hit (hv.mono l1) r1 e
theorem comp_core{elt iter:Expr}{x:Str}{px:Pos}{ifs:List Expr}{scope:Scope}{pos:Pos}{cl:List (Str×Addr)}{t:Nat}{g:Src}{c:Ts}{f:Ex}(hg:JI prog w Γ iter g)(hel:∀C ρ,J prog w (Zbo Γ scope cl C [(x,t)] ρ) elt f)(hif:∀C ρ,JF prog w (Zbo Γ scope cl C [(x,t)] ρ) ifs c)
  (hcell:∀y∈scope.names,y.2≠.cell) (hkind:scope.kind=.function) (hx:scope.names.lookup x=some .local)
  {W:Wd} {ρ:Lc} {H:Hp} {fr:List (Addr×Obj)} {s:Shared} {E:Value→Shared→Prop} {q:List V×Hp} {RR:Value→Addr→Result→Shared→Prop} (r:Rep Γ W ρ H fr s.heap) (hf:((g ρ H).bind fun z=>ZcZ z.1 (put1 t) c f ρ z.2.1 0 [] z.2.2)=some q)
  (hR:∀(W':Wd) (h':Heap) (tk':Nat) (C D:Addr) (oC:Obj) (m₂:Str→Option Value) (ys:List Value),W.Le W'→NsObj oC m₂→VRs W' q.1 ys→q.1.length≤LEN→(∀t∈fr,D≠t.1)→(∀t∈fr,C≠t.1)→C≠D→Rep Γ W' ρ q.2 ((C,oC)::(D,lst ys)::fr) h'→RR (.ref D) C (.ok .next) { s with heap:=h',toks:=tk' }):
  wpAny (model prog w) Γ.A (eval iter Γ.env) (fun xv s₁=>wpAny (model prog w) Γ.A (pyIter xv) (fun it s₂=>wpAny (model prog w) Γ.A (newList []) (fun acc s₃=>wpAny (model prog w) Γ.A (newFunctionEnv scope Γ.env.globals cl [] Γ.env.qual none .none (some Γ.env)) (fun cenv s₄=>
   codeAny (model prog w) Γ.A (.compStart (.ListComp elt [⟨.Name x px,iter,ifs,0⟩] scope pos) 0 it acc { cenv with scope:=relabel scope Γ.env }) (RR acc cenv.locals) s₄) E s₃) E s₂) E s₁) E s:=by
 obtain⟨z,e1,e2⟩:=Zz0.mp hf
 obtain⟨nx,n,H0⟩:=z
 refine hg W ρ H fr s _ E nx n H0 r e1 fun W1 k1 t1 itv as It fs l1 i1 r1 ap I1=>?_
 refine wpAny_newObj_type (wpAny_newFunctionEnv hcell (fun y hy=>by simp at hy) (fun h₂ hns hsb=>?_) hkind)
 dsimp only at hns hsb ⊢
 obtain⟨rD,aD⟩:=r1.more (fs:=[(k1.objs.size,lst [])]) (fun b o e=>Heap.get?_push_of_some (lst []) e) (fun q hq=>by rw[List.mem_singleton.mp hq];exact⟨Heap.get?_push_size _ rfl,Nat.le_refl _⟩)
 generalize eH:k1.push { cls:=.type "list",dict:=none,data:=.seq ([]:List Value).toArray } = K at hns hsb ⊢
 have eK:k1.push (lst [])=K:=eH
 rw[eK]at rD
 obtain⟨oC,gC,nC⟩:=ns_obj hns
 have up:∀b o,K.get? b=some o→h₂.get? b=some o:=fun b o e=>hsb.extBut b o (Nat.ne_of_lt (Heap.lt_size e)) (Heap.get?_push_of_some _ e)
 obtain⟨rC,aC⟩:=rD.more (fs:=[(K.objs.size,oC)]) up (fun q hq=>by rw[List.mem_singleton.mp hq];exact⟨gC,Nat.le_refl _⟩)
 have adr0:=I1.adr 0 fs i1
 have offs:∀b∈as,b≠k1.objs.size∧b≠K.objs.size:=fun b hb=>by
  rw[←adr0]at hb
  obtain⟨q,hq,e⟩:=Zz11.mp hb
  exact⟨e▸(aD _ Zz5 q (Zz4 _ hq)).symm,e▸(aC _ Zz5 q (Zz3 _ (Zz4 _ hq))).symm⟩
 have cd:K.objs.size≠k1.objs.size:=aC _ Zz5 (k1.objs.size,lst []) (Zz4 _ Zz5)
 have cfr:∀t∈fr,K.objs.size≠t.1:=fun t ht=>aC _ Zz5 t (Zz3 _ (Zz3 _ ht))
 have dfr:∀t∈fr,k1.objs.size≠t.1:=fun t ht=>aD _ Zz5 t (Zz3 _ ht)
 generalize k1.objs.size=D at *
 generalize K.objs.size=C at *
 have loop:∀s₃:Shared,s₃ = { s with heap:=h₂,toks:=t1+([]:List (Str×Value)).length } →
   codeAny (model prog w) Γ.A (.compLoop (.ListComp elt [⟨.Name x px,iter,ifs,0⟩] scope pos) 0 itv (.ref D) (compEnvC scope cl C Γ.env)) (RR (.ref D) C) s₃:=by
  intro s₃ hs₃
  subst hs₃
  refine codeAny_compLoop_tests (ZhF Γ W1 ρ fr C D It nx (put1 t) c f q s) ?_ n ⟨W1,H0,h₂,_,0,fs,[],[],oC,_,rfl,.refl _,i1,nC,.nil,Nat.zero_le _,rC,e2⟩
  rintro k s' ⟨W2,H2,k2,t2,j,fs2,acc,ys,oC2,m₂,rfl,l2,i2,hC2,hv2,hl2,r2,e⟩
  cases k with
  | zero=>cases e
  | succ k=>
   obtain⟨o,e4,e⟩:=Zz0.mp e
   have r2':Rep Γ W2 ρ H2 (fs2++((C,oC2)::(D,lst ys)::fr)) k2:=r2.less fun q hq=>by
    rcases Zz8.mp hq with hq | hq
    ·exact Zz2 _ (Zz2 _ (Zz4 _ hq))
    ·rcases Zz7.mp hq with e | hq
     ·exact e▸List.mem_cons_self
     ·rcases Zz7.mp hq with e | hq
      ·exact e▸List.mem_cons_of_mem _ Zz5
      ·exact Zz2 _ (Zz2 _ (Zz3 _ hq))
   have ap2:∀b∈as,∀t∈(C,oC2)::(D,lst ys)::fr,b≠t.1:=fun b hb t ht=>by
    rcases Zz7.mp ht with e | ht
    ·rw[e]
     exact(offs b hb).2
    ·rcases Zz7.mp ht with e | ht
     ·rw[e]
      exact(offs b hb).1
     ·exact ap b hb t ht
   refine I1.next j W2 ρ H2 _ fs2 _ _ _ o l2 r2' ap2 i2 e4 ?_
   cases o with
   | none=>
    cases e
    intro h' tk' r3
    exact hR W2 h' tk' C D oC2 m₂ ys (l1.trans l2) hC2 hv2 hl2 dfr cfr cd r3
   | some v=>
    intro fs3 k3 t3 y i3 r3 y3
    obtain⟨ρ3,e5,e⟩:=Zz0.mp e
    cases e5
    have a3:∀t∈fs3,t.1∈as:=fun t ht=>by
     rw[←I1.adr _ _ i3]
     exact List.mem_map_of_mem ht
    have gC3:k3.get? C=some oC2:=r3.frAt (q:=(C,oC2)) (Zz3 _ Zz5)
    have nC3:k3.Ns C m₂:=hC2.ns gC3
    refine wpAny_assign_Name (wpAny_storeName_local (lookup_relabel_local hx) nC3 (fun h4 hn4 sb4=>?_) (by simp[compEnvC,relabel,hkind]))
    obtain⟨oC4,gC4,nC4⟩:=ns_obj hn4
    have r3':Rep Γ W2 ρ H2 ([(C,oC2)]++((D,lst ys)::(fs3++fr))) k3:=r3.less fun q hq=>by
     rcases Zz8.mp hq with hq | hq
     ·rw[List.mem_singleton.mp hq]
      exact Zz3 _ Zz5
     ·rcases Zz7.mp hq with e | hq
      ·exact e▸List.mem_append_right _ (Zz2 _ Zz5)
      ·rcases Zz8.mp hq with hq | hq
       ·exact Zz4 _ hq
       ·exact Zz3 _ (Zz2 _ (Zz2 _ hq))
    have aC3:∀t∈(D,lst ys)::(fs3++fr),C≠t.1:=fun t ht=>by
     rcases Zz7.mp ht with e | ht
     ·rw[e]
      exact cd
     ·rcases Zz8.mp ht with ht | ht
      ·exact(offs _ (a3 t ht)).2.symm
      ·exact cfr t ht
    have aD3:∀t∈fs3++fr,D≠t.1:=fun t ht=>by
     rcases Zz8.mp ht with ht | ht
     ·exact(offs _ (a3 t ht)).1.symm
     ·exact dfr t ht
    have r4:Rep Γ W2 ρ H2 ([(C,oC4)]++((D,lst ys)::(fs3++fr))) h4:=by
     refine r3'.swap (fun q hq t ht=>?_) (fun b o hb e=>sb4.extBut b o (fun z=>hb (by simp[z,compEnvC])) e) fun q hq=>?_
     ·rw[List.mem_singleton.mp hq]
      exact aC3 t ht
     ·rw[List.mem_singleton.mp hq]
      exact⟨gC4,by simp⟩
    refine Zvk (hel C ρ) (hif C ρ) ⟨h4,_,rfl⟩ aC3 aD3 l2 i3 nC4 hv2 hl2 r4 (fun p hp=>?_) (fun i hi=>?_) e
    ·rw[List.mem_singleton.mp hp]
     exact⟨v,y,by simp[upd],by simp,y3⟩
    ·have:i≠t:=fun e=>hi (x,t) Zz5 e.symm
     simp[upd,this]
 refine codeAny_compStart_list (loop _ rfl) ?_
 exact I1.self 0 W1 ρ H0 (([(C,oC)]++[(D,lst [])])++fr) fs _ _ _ (.refl _) (rC.less fun q hq=>by
  rcases Zz8.mp hq with hq | hq
  ·exact Zz3 _ (Zz3 _ (Zz4 _ hq))
  ·rcases Zz8.mp hq with hq | hq
   ·rcases Zz8.mp hq with hq | hq
    ·exact Zz4 _ hq
    ·exact Zz3 _ (Zz4 _ hq)
   ·exact Zz3 _ (Zz3 _ (Zz3 _ hq))) i1 (loop _ rfl)
theorem Zqd{W:Wd}{ρ:Lc}{q:List V×Hp}{fr:List (Addr×Obj)}{C D:Addr}{oC:Obj}{ys:List Value}{h' h'':Heap}(hv:VRs W q.1 ys)(hl:q.1.length≤LEN)(aD:∀t∈fr,D≠t.1)(aC:∀t∈fr,C≠t.1)(cd:C≠D)(r:Rep Γ W ρ q.2 ((C,oC)::(D,lst ys)::fr) h')(sb:Heap.SameBut C h' h''):
  ∃W',W.Le W'∧Rep Γ W' ρ (q.2++[q.1]) fr h''∧VR W' (.ref q.2.length) (.ref D):=by
 have r4:Rep Γ W ρ q.2 ([]++((D,lst ys)::fr)) h'':=by
  refine Rep.swap (fs:=[(C,oC)]) (fs':=[]) r (fun q hq t ht=>?_) (fun b o hb e=>sb.extBut b o (fun z=>hb (by simp[z])) e) fun q hq=>nomatch hq
  rw[List.mem_singleton.mp hq]
  rcases Zz7.mp ht with e | ht
  ·rw[e]
   exact cd
  ·exact aC t ht
 exact ZgP r4 aD hv hl
theorem Zxt{elt iter:Expr}{x:Str}{px:Pos}{ifs:List Expr}{scope:Scope}{pos:Pos}{cl:List (Str×Addr)}{t:Nat}{g:Src}{c:Ts}{f:Ex}(hg:JI prog w Γ iter g)(hel:∀C ρ,J prog w (Zbo Γ scope cl C [(x,t)] ρ) elt f)(hif:∀C ρ,JF prog w (Zbo Γ scope cl C [(x,t)] ρ) ifs c)
  (hclos:closureFor scope Γ.env=pure cl) (hcell:∀y∈scope.names,y.2≠.cell) (hkind:scope.kind=.function) (hnames:∀y∈scope.names,y.2=.local→scope.names.lookup y.1=some .local) (hx:scope.names.lookup x=some .local) (hs:∀x,foldedSetIterable iter Γ.env x=pure x:=by intro _;rfl):
  J prog w Γ (.ListComp elt [⟨.Name x px,iter,ifs,0⟩] scope pos) (Za4 g (put1 t) c f):=by
 intro W ρ H fr s Q E v H' r hf post
 obtain⟨z,e1,hf⟩:=Zz0.mp hf
 obtain⟨q,e2,e3⟩:=Zz1.mp hf
 cases e3
 rw[eval_ListComp]
 refine wpAny_comprehension_free (use:=Option.none) rfl hs hclos hkind hnames ?_
 refine comp_core (RR:=fun acc C=>compPost (model prog w) Γ.A E Option.none Q acc C) hg hel hif hcell hkind hx r (q:=q) (by rw[e1];exact e2) fun W2 h' tk' C D oC m₂ ys l2 hC hv hl aD aC cd r3=>?_
 refine⟨m₂,hC.ns (r3.frAt (q:=(C,oC)) Zz5),fun h'' sb=>?_⟩
 obtain⟨W5,l5,r5,v5⟩:=Zqd hv hl aD aC cd r3 sb
 exact post W5 h'' tk' _ (l2.trans l5) r5 v5
theorem Zt7{elt iter:Expr}{x y:Str}{px py pos spos:Pos}{ifs:List Expr}{scope:Scope}{cl:List (Str×Addr)}{t i:Nat}{g:Src}{c:Ts}{f:Ex}(hy:Sto prog w Γ y i)(hg:JI prog w Γ iter g)(hel:∀C ρ,J prog w (Zbo Γ scope cl C [(x,t)] ρ) elt f)(hif:∀C ρ,JF prog w (Zbo Γ scope cl C [(x,t)] ρ) ifs c)
  (hsw:swapsWith (.ListComp elt [⟨.Name x px,iter,ifs,0⟩] scope pos) (some (.Name y py)) spos.line Γ.env=pure true)
  (hclos:closureFor scope Γ.env=pure cl) (hcell:∀y∈scope.names,y.2≠.cell) (hkind:scope.kind=.function) (hnames:∀y∈scope.names,y.2=.local→scope.names.lookup y.1=some .local) (hx:scope.names.lookup x=some .local) (hs:∀x,foldedSetIterable iter Γ.env x=pure x:=by intro _;rfl):
  S1 prog w Γ (.Assign [.Name y py] (.ListComp elt [⟨.Name x px,iter,ifs,0⟩] scope pos) spos) (Z3 i (Za4 g (put1 t) c f)):=by
 intro W ρ H fr s Q E r rp hf post
 obtain⟨p,e0,e9⟩:=Zz1.mp hf
 cases e9
 obtain⟨z,e1,hf⟩:=Zz0.mp e0
 obtain⟨q,e2,e3⟩:=Zz1.mp hf
 cases e3
 rw[exec_Assign_Name_used _ _ _ _ hsw]
 refine wpAny_bind (wpAny_standAt (wpAny_bind ?_))
 show wpAny _ Γ.A (do let _ ←comprehension (.ListComp elt [⟨.Name x px,iter,ifs,0⟩] scope pos) scope Γ.env _ (newList []) false (eval iter Γ.env) (some (assign (.Name y py) Γ.env))) _ _ s
 refine wpAny_bind (wpAny_mono (wpAny_comprehension_free (use:=some (assign (.Name y py) Γ.env)) (Q:=fun _ s'=>Q .next s') rfl hs hclos hkind hnames ?_) (fun _ s' h'=>wpAny_pure (wpAny_pure h')) fun _ _ e=>e)
 refine comp_core (RR:=fun acc C=>compPost (model prog w) Γ.A E (some (assign (.Name y py) Γ.env)) (fun _ s'=>Q .next s') acc C) hg hel hif hcell hkind hx rp (q:=q) (by rw[e1];exact e2) fun W2 h' tk' C D oC m₂ ys l2 hC hv hl aD aC cd r3=>?_
 have r4:Rep Γ W2 ρ q.2 ((D,lst ys)::(C,oC)::fr) h':=r3.less fun t ht=>by
  rcases Zz7.mp ht with e | ht
  ·exact e▸List.mem_cons_of_mem _ Zz5
  ·rcases Zz7.mp ht with e | ht
   ·exact e▸List.mem_cons_self
   ·exact Zz2 _ (Zz2 _ ht)
 obtain⟨W5,l5,r5,v5⟩:=ZgP r4 (fun t ht=>by
  rcases Zz7.mp ht with e | ht
  ·rw[e]
   exact cd.symm
  ·exact aD t ht) hv hl
 refine wpAny_assign_Name (hy W5 ρ _ _ _ _ _ _ _ r5 v5 fun h6 t6 r6=>?_)
 refine⟨m₂,hC.ns (r6.frAt (q:=(C,oC)) Zz5),fun h'' sb=>?_⟩
 have r7:Rep Γ W5 (upd ρ i (.ref q.2.length)) (q.2++[q.1]) ([]++fr) h'':=
  Rep.swap (fs:=[(C,oC)]) (fs':=[]) r6 (fun q hq t ht=>by rw[List.mem_singleton.mp hq];exact aC t ht) (fun b o hb e=>sb.extBut b o (fun z=>hb (by simp[z])) e) fun q hq=>nomatch hq
 exact post W5 h'' t6 (l2.trans l5) r7
end
end PM
end
section
set_option autoImplicit false
namespace PM
open PySem PySem.W PySem.Calls PyProof.Rows PyProof PyProof.Rows.LCg PyProof.Rows.LCp
theorem ZoF(h:Heap): ∀as:List Addr,(∀a∈as,∃o,h.get? a=some o)→∃fs:List (Addr×Obj),fs.map (·.1)=as∧∀q∈fs,h.get? q.1=some q.2
 | [],_=>⟨[],rfl,fun q hq=>nomatch hq⟩
 | a::as,d=>by
  obtain⟨o,ho⟩:=d a Zz5
  obtain⟨fs,h1,h2⟩:=ZoF h as fun b hb=>d b (Zz2 _ hb)
  refine⟨(a,o)::fs,by rw[List.map_cons,h1],fun q hq=>?_⟩
  rcases Zz7.mp hq with e | hq
  ·rw[e]
   exact ho
  ·exact h2 q hq
structure Itr2(prog:Program)(w:World)(Γ:Cx)(W0:Wd)(it:Value)(as:List Addr)(It:Nat→List (Addr×Obj)→Prop)(nx:Nx): Prop where
 adr:∀i fs,It i fs→fs.map (·.1)=as
 pair:∀i H v,nx i H=some (some v)→∃a b,v=.tup [a,b]
 item:∀(i:Nat) (W:Wd) (ρ:Lc) (H:Hp) (fr fs:List (Addr×Obj)) (s:Shared) (Q:Option Value→Shared→Prop) (E:Value→Shared→Prop) (a b:V),W0.Le W→Rep Γ W ρ H (fs++fr) s.heap→(∀a∈as,∀t∈fr,a≠t.1)→It i fs→nx i H=some (some (.tup [a,b])) →
  (∀(T:Addr) (h1:Heap) (t1:Nat),(∀(elts:List Expr) (k:Nat) (pos:Pos) (s1:Shared) (Q1:Unit→Shared→Prop) (E1:Value→Shared→Prop),s1 = { s with heap:=h1,toks:=t1 } →
    (∀(fs':List (Addr×Obj)) (h':Heap) (x y:Value),It (i+1) fs'→Rep Γ W ρ H (fs'++fr) h'→IsTup h' T #[x,y]→VR W a x→VR W b y→Q1 () { s with heap:=h',toks:=t1 })→wpAny (model prog w) Γ.A (letOwnedTupleGo (.Tuple elts k pos) it (.ref T)) Q1 E1 s1)→Q (some (.ref T)) { s with heap:=h1,toks:=t1 })→wpAny (model prog w) Γ.A (pyNext it) Q E s
 done:∀(i:Nat) (W:Wd) (ρ:Lc) (H:Hp) (fr fs:List (Addr×Obj)) (s:Shared) (Q:Option Value→Shared→Prop) (E:Value→Shared→Prop),W0.Le W→Rep Γ W ρ H (fs++fr) s.heap→(∀a∈as,∀t∈fr,a≠t.1)→It i fs→nx i H=some none →
  (∀(h':Heap) (tk':Nat),Rep Γ W ρ H fr h'→Q none { s with heap:=h',toks:=tk' })→wpAny (model prog w) Γ.A (pyNext it) Q E s
 self:∀(i:Nat) (W:Wd) (ρ:Lc) (H:Hp) (fr fs:List (Addr×Obj)) (s:Shared) (Q E:Value→Shared→Prop) (o:Option V),W0.Le W→Rep Γ W ρ H (fs++fr) s.heap→It i fs→nx i H=some o→Q it s→wpAny (model prog w) Γ.A (pyIter it) Q E s
noncomputable def JI2(prog:Program)(w:World)(Γ:Cx)(e:Expr)(g:Src): Prop:=∀(W:Wd) (ρ:Lc) (H:Hp) (fr:List (Addr×Obj)) (s:Shared) (Q E:Value→Shared→Prop) (nx:Nx) (n:Nat) (H':Hp),
 Rep Γ W ρ H fr s.heap→g ρ H=some (nx,n,H') →
 (∀(W':Wd) (h':Heap) (tk':Nat) (it:Value) (as:List Addr) (It:Nat→List (Addr×Obj)→Prop) (fs:List (Addr×Obj)),W.Le W'→It 0 fs→Rep Γ W' ρ H' (fs++fr) h'→(∀a∈as,∀t∈fr,a≠t.1)→Itr2 prog w Γ W' it as It nx→(∃o,nx 0 H'=some o)→Q it { s with heap:=h',toks:=tk' }) →
 wpAny (model prog w) Γ.A (eval e Γ.env) (fun xv s₁=>wpAny (model prog w) Γ.A (pyIter xv) Q E s₁) E s
noncomputable def Zhy(a b:Nat): Nx:=fun i H=>H[a]?.bind fun vs=>H[b]?.bind fun us=>match vs[i]?,us[i]? with
 | some x,some y=>some (some (.tup [x,y]))
 | _,_=>if i=min vs.length us.length then some none else none
noncomputable def Zd5(f g:Ex): Src:=fun ρ H=>(f ρ H).bind fun p=>(g ρ p.2).bind fun q=>match p.1,q.1 with
 | .ref a,.ref b=>q.2[a]?.bind fun vs=>q.2[b]?.map fun us=>(Zhy a b,min vs.length us.length+1,q.2)
 | _,_=>none
noncomputable def Zcl(i j:Nat): V→Lc→Option Lc
 | .tup [a,b],ρ=>some (upd (upd ρ i a) j b)
 | _,_=>none
noncomputable def ZS(z TI TO i1 i2 l1 l2:Addr)(i:Nat)(h:Heap): Prop:=IsZip h z TI TO .none∧PySem.IsPair h TI (.ref i1) (.ref i2)∧(∃a b,PySem.IsPair h TO a b)∧h.IsListIter i1 l1 i∧h.IsListIter i2 l2 i
theorem ZS.at{z TI TO i1 i2 l1 l2:Addr}{i:Nat}{h h':Heap}(x:ZS z TI TO i1 i2 l1 l2 i h)(e:∀a∈[z,TI,TO,i1,i2],∀o,h.get? a=some o→h'.get? a=some o): ZS z TI TO i1 i2 l1 l2 i h':=by
 obtain⟨h1,h2,⟨a,b,h3⟩,h4,h5⟩:=x
 exact⟨e z (by simp) _ h1,e TI (by simp) _ h2,⟨a,b,e TO (by simp) _ h3⟩,h4.at fun o x=>e i1 (by simp) o x,h5.at fun o x=>e i2 (by simp) o x⟩
theorem ZS.have{z TI TO i1 i2 l1 l2:Addr}{i:Nat}{h:Heap}(x:ZS z TI TO i1 i2 l1 l2 i h): ∀a∈[z,TI,TO,i1,i2],∃o,h.get? a=some o:=by
 obtain⟨h1,h2,⟨a,b,h3⟩,⟨o4,h4,_⟩,⟨o5,h5,_⟩⟩:=x
 intro c hc
 simp only[List.mem_cons,List.not_mem_nil,or_false]at hc
 rcases hc with e | e | e | e | e <;> subst e
 ·exact⟨_,h1⟩
 ·exact⟨_,h2⟩
 ·exact⟨_,h3⟩
 ·exact⟨_,h4⟩
 ·exact⟨_,h5⟩
noncomputable def ZIt(z TI TO i1 i2 l1 l2:Addr)(i:Nat)(fs:List (Addr×Obj)): Prop:=fs.map (·.1)=[z,TI,TO,i1,i2]∧∀h:Heap,(∀q∈fs,h.get? q.1=some q.2)→ZS z TI TO i1 i2 l1 l2 i h
theorem ZqR{z TI TO i1 i2 l1 l2:Addr}{i:Nat}{h:Heap}(x:ZS z TI TO i1 i2 l1 l2 i h): ∃fs,ZIt z TI TO i1 i2 l1 l2 i fs∧∀q∈fs,h.get? q.1=some q.2:=by
 obtain⟨fs,h1,h2⟩:=ZoF h [z,TI,TO,i1,i2] x.have
 refine⟨fs,⟨h1,fun h' e=>x.at fun a ha o ho=>?_⟩,h2⟩
 rw[←h1]at ha
 obtain⟨q,hq,eq⟩:=Zz11.mp ha
 have:=h2 q hq
 rw[eq,ho]at this
 cases this
 exact eq▸e q hq
section
variable {prog:Program} {w:World} {Γ:Cx}
theorem Zxu{W0:Wd}{z TI TO i1 i2 l1 l2:Addr}{a b:Nat}(ea:W0.pi[a]?=some l1)(eb:W0.pi[b]?=some l2)(D:ZipApart z TI TO i1 i2 l1 l2):
  Itr2 prog w Γ W0 (.ref z) [z,TI,TO,i1,i2] (ZIt z TI TO i1 i2 l1 l2) (Zhy a b):=by
 refine⟨fun i fs h=>h.1,?_,?_,?_,?_⟩
 ·intro i H v e
  obtain⟨vs,e1,e⟩:=Zz0.mp e
  obtain⟨us,e2,e⟩:=Zz0.mp e
  split at e
  ·cases e
   exact⟨_,_,rfl⟩
  ·split at e <;> cases e
 ·intro i W ρ H fr fs s Q E va vb le r ap hit hn post
  obtain⟨vs,e1,e⟩:=Zz0.mp hn
  obtain⟨us,e2,e⟩:=Zz0.mp e
  have hvu:vs[i]?=some va∧us[i]?=some vb:=by
   split at e
   ·rename_i x y h1 h2
    cases e
    exact⟨h1,h2⟩
   ·split at e <;> cases e
  obtain⟨_,xs,k1,g1,v1⟩:=r.at e1 (le.at ea)
  obtain⟨_,ys,k2,g2,v2⟩:=r.at e2 (le.at eb)
  obtain⟨x,hx,rx⟩:=v1.at hvu.1
  obtain⟨y,hy,ry⟩:=v2.at hvu.2
  have st:ZS z TI TO i1 i2 l1 l2 i s.heap:=hit.2 _ fun q hq=>r.frAt (Zz4 _ hq)
  have Wk:=WalksT.zip2 (prog:=prog) (w:=w) (A:=Γ.A) Γ.hh z TI TO i1 i2 l1 l2 D xs.toArray ys.toArray
  have isl1:s.heap.IsList l1 xs.toArray:=⟨_,g1,rfl,k1,rfl⟩
  have isl2:s.heap.IsList l2 ys.toArray:=⟨_,g2,rfl,k2,rfl⟩
  have hi:i<min xs.toArray.size ys.toArray.size:=by
   have h1:=(Zz6.mp hx).1
   have h2:=(Zz6.mp hy).1
   simp
   omega
  refine Wk.item i s Q E hi ⟨st.1,st.2.1,st.2.2.1,st.2.2.2.1,st.2.2.2.2,isl1,isl2⟩ fun T vals h1 t1 hp hT hTup hmid keep1=>post T h1 t1 ?_
  intro elts k pos s1 Q1 E1 es1 q1
  subst es1
  have hTw:=Wk.apart i T _ hmid
  refine Wk.go elts k pos i T _ Q1 E1 hmid fun h2 st2 keep2=>?_
  obtain⟨x',y',hx',hy',ev⟩:=hp
  have ex:x'=x:=by
   have:xs[i]?=some x':=by simpa using hx'
   rw[hx]at this
   exact(Option.some.inj this).symm
  have ey:y'=y:=by
   have:ys[i]?=some y':=by simpa using hy'
   rw[hy]at this
   exact(Option.some.inj this).symm
  subst ex ey ev
  obtain⟨fs',hit',at'⟩:=ZqR (h:=h2) (⟨st2.1,st2.2.1,st2.2.2.1,st2.2.2.2.1,st2.2.2.2.2.1⟩:ZS z TI TO i1 i2 l1 l2 (i+1) h2)
  obtain⟨oT,gT,cT,nT,dT⟩:=hTup
  refine q1 fs' h2 x' y' hit' ?_ ⟨oT,keep2 T oT hTw gT,cT,nT,dT⟩ rx ry
  refine r.swap (fs':=fs') (fun q hq t ht=>?_) (fun c o hc e=>?_) fun q hq=>⟨at' q hq,?_⟩
  ·exact ap _ (hit.1▸List.mem_map_of_mem hq) t ht
  ·rw[hit.1]at hc
   have hcw:c∉[z,TO,i1,i2]:=fun h=>hc (by simp at h ⊢;rcases h with h | h | h | h <;> simp[h])
   exact keep2 c o hcw (keep1 c o hcw e)
  ·rw[hit.1,←hit'.1]
   exact List.mem_map_of_mem hq
 ·intro i W ρ H fr fs s Q E le r ap hit hn post
  obtain⟨vs,e1,e⟩:=Zz0.mp hn
  obtain⟨us,e2,e⟩:=Zz0.mp e
  obtain⟨_,xs,k1,g1,v1⟩:=r.at e1 (le.at ea)
  obtain⟨_,ys,k2,g2,v2⟩:=r.at e2 (le.at eb)
  have hi:i=min vs.length us.length:=by
   split at e
   ·cases e
   ·split at e
    ·assumption
    ·cases e
  have st:ZS z TI TO i1 i2 l1 l2 i s.heap:=hit.2 _ fun q hq=>r.frAt (Zz4 _ hq)
  have Wk:=WalksT.zip2 (prog:=prog) (w:=w) (A:=Γ.A) Γ.hh z TI TO i1 i2 l1 l2 D xs.toArray ys.toArray
  have hm:min xs.toArray.size ys.toArray.size=i:=by simp[v1.length,v2.length,hi]
  refine Wk.done s Q E (by rw[hm];exact⟨st.1,st.2.1,st.2.2.1,st.2.2.2.1,st.2.2.2.2,⟨_,g1,rfl,k1,rfl⟩,⟨_,g2,rfl,k2,rfl⟩⟩) fun h' tk keep=>post h' tk ?_
  have:=r.swap (fs':=[]) (fun q hq t ht=>ap _ (hit.1▸List.mem_map_of_mem hq) t ht) (fun c o hc e=>keep c o (fun h=>hc (by rw[hit.1];simp at h ⊢;rcases h with h | h | h | h <;> simp[h])) e) (fun q hq=>nomatch hq)
  exact this
 ·intro i W ρ H fr fs s Q E o le r hit hn q
  obtain⟨vs,e1,e⟩:=Zz0.mp hn
  obtain⟨us,e2,e⟩:=Zz0.mp e
  obtain⟨_,xs,k1,g1,v1⟩:=r.at e1 (le.at ea)
  obtain⟨_,ys,k2,g2,v2⟩:=r.at e2 (le.at eb)
  have st:ZS z TI TO i1 i2 l1 l2 i s.heap:=hit.2 _ fun q hq=>r.frAt (Zz4 _ hq)
  have Wk:=WalksT.zip2 (prog:=prog) (w:=w) (A:=Γ.A) Γ.hh z TI TO i1 i2 l1 l2 D xs.toArray ys.toArray
  exact Wk.self i s Q E ⟨st.1,st.2.1,st.2.2.1,st.2.2.2.1,st.2.2.2.2,⟨_,g1,rfl,k1,rfl⟩,⟨_,g2,rfl,k2,rfl⟩⟩ q
theorem JI2.zip{x:Str}{np pos:Pos}{e1 e2:Expr}{f g:Ex}(hn:Nm prog w Γ x (.type "zip"))(h1:J prog w Γ e1 f)(h2:J prog w Γ e2 g)
  (he:starEach [e1,e2] Γ.env=(false,eval e1 Γ.env)::starEach [e2] Γ.env:=by rfl) (he2:starEach [e2] Γ.env=(false,eval e2 Γ.env)::starEach [] Γ.env:=by rfl) (hp:∀pos,(backTo pos (starEach [e2] Γ.env)).any (·.1)=false:=by intro _;rfl):JI2 prog w Γ (.Call (.Name x np) [e1,e2] [] pos) (Zd5 f g):=by
 intro W ρ H fr s Q E nx n H' r hf post
 obtain⟨p,a1,hf⟩:=Zz0.mp hf
 obtain⟨q,a2,hf⟩:=Zz0.mp hf
 refine wpAny_Call_ofName (hn.use r ?_)
 refine PySem.Pv.callWith_type1 (wpAny_items_cons (h1 W ρ H fr s _ E _ _ r a1 fun W1 k1 t1 y1 l1 r1 v1=>?_) he) he (hp pos)
 refine wpAny_items_cons (h2 W1 ρ _ fr _ _ E _ _ r1 a2 fun W2 k2 t2 y2 l2 r2 v2=>wpAny_items_nil ?_) he2
 have v1':=v1.mono l2
 obtain⟨u1,H1⟩:=p
 obtain⟨u2,H2⟩:=q
 simp only at hf v1' v2 r2
 cases u1 <;> first | (cases hf;done) | skip
 rename_i b1
 cases u2 <;> first | (cases hf;done) | skip
 rename_i b2
 obtain⟨vs,c1,hf⟩:=Zz0.mp hf
 obtain⟨us,c2,c3⟩:=Zz1.mp hf
 cases c3
 cases v1' with
 | @ref _ m1 ea=>
 cases v2 with
 | @ref _ m2 eb=>
 obtain⟨_,xs,n1,g1,w1⟩:=r2.at c1 ea
 obtain⟨_,ys,n2,g2,w2⟩:=r2.at c2 eb
 have isl1:k2.IsList m1 xs.toArray:=⟨_,g1,rfl,n1,rfl⟩
 have isl2:k2.IsList m2 ys.toArray:=⟨_,g2,rfl,n2,rfl⟩
 refine call_zip_2 (s:={ s with heap:=k2,toks:=t2 }) isl1 isl2 fun h₁ hz hTI hTO hi1 hi2 hsz up=>?_
 have ap:=zipApart_new (n:=k2.objs.size) (Heap.lt_size g1) (Heap.lt_size g2)
 have Wk:=WalksT.zip2 (prog:=prog) (w:=w) (A:=Γ.A) Γ.hh _ _ _ _ _ m1 m2 ap xs.toArray ys.toArray
 have zs:ZS (k2.objs.size+4) (k2.objs.size+2) (k2.objs.size+3) k2.objs.size (k2.objs.size+1) m1 m2 0 h₁:=⟨hz,hTI,⟨_,_,hTO⟩,hi1,hi2⟩
 refine Wk.self 0 _ _ _ ⟨hz,hTI,⟨_,_,hTO⟩,hi1,hi2,isl1.at fun o e=>up _ o e,isl2.at fun o e=>up _ o e⟩ ?_
 obtain⟨fs,hit,at'⟩:=ZqR zs
 obtain⟨r3,ap3⟩:=r2.more (fs:=fs) (h':=h₁) (fun b o e=>up b o e) (fun q hq=>⟨at' q hq,by
  have:q.1∈fs.map (·.1):=List.mem_map_of_mem hq
  rw[hit.1]at this
  simp at this
  rcases this with e | e | e | e | e <;> rw[e] <;> omega⟩)
 refine post W2 h₁ t2 _ _ _ fs (l1.trans l2) hit r3 (fun b hb t ht=>?_) (Zxu ea eb ap) ?_
 ·rw[←hit.1]at hb
  obtain⟨q,hq,e⟩:=Zz11.mp hb
  exact e▸ap3 q hq t ht
 ·simp only[Zhy,c1,c2,Option.bind_some]
  split
  ·exact⟨_,rfl⟩
  ·rename_i hno
   have:0=min vs.length us.length:=by
    rcases Nat.eq_zero_or_pos vs.length with z | z
    ·rw[z];simp
    ·rcases Nat.eq_zero_or_pos us.length with z' | z'
     ·rw[z'];simp
     ·exact(hno vs[0] us[0] (by simp[z]) (by simp[z'])).elim
   rw[if_pos this]
   exact⟨_,rfl⟩
theorem Zwg{x1 x2:Str}{i1 i2 kt:Nat}{p1 p2 tp:Pos}(h1:Sto prog w Γ x1 i1)(h2:Sto prog w Γ x2 i2){W:Wd}{ρ:Lc}{H:Hp}{fr:List (Addr×Obj)}{s:Shared}{Q:Unit→Shared→Prop}{E:Value→Shared→Prop}{T:Addr}{y1 y2:Value}{a b:V}(r:Rep Γ W ρ H fr s.heap)(ht:IsTup s.heap T #[y1,y2])(v1:VR W a y1)(v2:VR W b y2)
  (post:∀(h':Heap) (tk':Nat),Rep Γ W (upd (upd ρ i1 a) i2 b) H fr h'→Q () { s with heap:=h',toks:=tk' }):wpAny (model prog w) Γ.A (assign (.Tuple [.Name x1 p1,.Name x2 p2] kt tp) Γ.env (.ref T)) Q E s:=by
 refine assign_Tuple_tuple Γ.hh ht rfl rfl fun g₄ he=>?_
 have r4:=r.grown (h':=g₄) fun b o e=>he b o (Nat.ne_of_lt (Heap.lt_size e)) e
 refine assignInOrder_cons (wpAny_assign_Name (h1 W ρ H fr _ _ _ a y1 r4 v1 fun k5 t5 r5=>?_))
 refine assignInOrder_cons (wpAny_assign_Name (h2 W _ H fr _ _ _ b y2 r5 v2 fun k6 t6 r6=>?_))
 exact assignInOrder_nil (post k6 t6 r6)
theorem Zi0{x1 x2:Str}{i1 i2 kt:Nat}{p1 p2 tp pos:Pos}{it:Expr}{body:List Stmt}{g:Src}{b:Sm}(h1:Sto prog w Γ x1 i1)(h2:Sto prog w Γ x2 i2)(hg:JI2 prog w Γ it g)(hb:Ss prog w Γ body b)(hs:∀x,foldedSetIterable it Γ.env x=pure x:=by intro _;rfl):
  S1 prog w Γ (.For (.Tuple [.Name x1 p1,.Name x2 p2] kt tp) it body [] pos) (Za9 g (Zcl i1 i2) b):=by
 intro W ρ H fr s Q E r rp hf post
 obtain⟨z,e1,hf⟩:=Zz0.mp hf
 obtain⟨nx,n,H0⟩:=z
 refine wpAny_For (hg W ρ H fr s _ E nx n H0 rp e1 fun W1 k1 t1 itv as It fs l1 j1 r1 ap I1 _=>?_) hs
 refine codeAny_forLoop_any (fun k s'=>∃W' ρ' H' h' tk' j fs',s' = { s with heap:=h',toks:=tk' }∧W1.Le W'∧It j fs'∧Rep Γ W' ρ' H' (fs'++fr) h'∧Zdq nx (Zcl i1 i2) b k j ρ' H'=some r) ?_ n ⟨W1,ρ,H0,k1,t1,0,fs,rfl,.refl _,j1,r1,hf⟩
 rintro k s' ⟨W2,ρ2,H2,k2,t2,j,fs2,rfl,l2,j2,r2,e⟩
 cases k with
 | zero=>cases e
 | succ k=>
  obtain⟨o,e2,e⟩:=Zz0.mp e
  cases o with
  | none=>
   cases e
   exact I1.done j W2 ρ2 H2 fr fs2 _ _ _ l2 r2 ap j2 e2 fun h' tk' r3=>wpAny_execs_nil (post W2 h' tk' (l1.trans l2) r3)
  | some v=>
   obtain⟨va,vb,ev⟩:=I1.pair j H2 v e2
   subst ev
   refine I1.item j W2 ρ2 H2 fr fs2 _ _ _ va vb l2 r2 ap j2 e2 fun T h3 t3 go=>?_
   obtain⟨ρ3,e3,e⟩:=Zz0.mp e
   cases e3
   obtain⟨q,e4,e⟩:=Zz0.mp e
   refine go _ _ _ _ _ _ rfl fun fs3 k3 y1 y2 j3 r3 ht w1 w2=>?_
   refine Zwg h1 h2 (s:={ s with heap:=k3,toks:=t3 }) r3 ht w1 w2 fun k4 t4 r4=>?_
   refine hb W2 _ H2 (fs3++fr) _ _ _ q r4 e4 ?_
   obtain⟨u,ρ5,H5⟩:=q
   cases u with
   | some u=>
    cases e
    exact fun W5 k5 t5 x5 l5 r5 v5=>post W5 k5 t5 x5 ((l1.trans l2).trans l5) (r5.less fun q hq=>List.mem_append_right _ hq) v5
   | none=>exact fun W5 k5 t5 l5 r5=>⟨k,Nat.lt_succ_self k,W5,ρ5,H5,k5,t5,j+1,fs3,rfl,l2.trans l5,j3,r5,e⟩
theorem Zpw{elt iter:Expr}{x x₂:Str}{px px₂ tp:Pos}{kt:Nat}{scope:Scope}{pos:Pos}{cl:List (Str×Addr)}{t t₂:Nat}{g:Src}{f:Ex}(hg:JI2 prog w Γ iter g)(hel:∀C ρ,J prog w (Zbo Γ scope cl C [(x,t),(x₂,t₂)] ρ) elt f)
  (hcell:∀y∈scope.names,y.2≠.cell) (hkind:scope.kind=.function) (hx:scope.names.lookup x=some .local) (hx₂:scope.names.lookup x₂=some .local) (hxx:x≠x₂) (htt:t≠t₂)
  {W:Wd} {ρ:Lc} {H:Hp} {fr:List (Addr×Obj)} {s:Shared} {E:Value→Shared→Prop} {q:List V×Hp} {RR:Value→Addr→Result→Shared→Prop} (r:Rep Γ W ρ H fr s.heap) (hf:((g ρ H).bind fun z=>ZcZ z.1 (Zcl t t₂) ZaM f ρ z.2.1 0 [] z.2.2)=some q)
  (hR:∀(W':Wd) (h':Heap) (tk':Nat) (C D:Addr) (oC:Obj) (m₂:Str→Option Value) (ys:List Value),W.Le W'→NsObj oC m₂→VRs W' q.1 ys→q.1.length≤LEN→(∀t∈fr,D≠t.1)→(∀t∈fr,C≠t.1)→C≠D→Rep Γ W' ρ q.2 ((C,oC)::(D,lst ys)::fr) h'→RR (.ref D) C (.ok .next) { s with heap:=h',toks:=tk' }):
  wpAny (model prog w) Γ.A (eval iter Γ.env) (fun xv s₁=>wpAny (model prog w) Γ.A (pyIter xv) (fun it s₂=>wpAny (model prog w) Γ.A (newList []) (fun acc s₃=>wpAny (model prog w) Γ.A (newFunctionEnv scope Γ.env.globals cl [] Γ.env.qual none .none (some Γ.env)) (fun cenv s₄=>
   codeAny (model prog w) Γ.A (.compStart (.ListComp elt [⟨.Tuple [.Name x px,.Name x₂ px₂] kt tp,iter,[],0⟩] scope pos) 0 it acc { cenv with scope:=relabel scope Γ.env }) (RR acc cenv.locals) s₄) E s₃) E s₂) E s₁) E s:=by
 obtain⟨z,e1,e2⟩:=Zz0.mp hf
 obtain⟨nx,n,H0⟩:=z
 refine hg W ρ H fr s _ E nx n H0 r e1 fun W1 k1 t1 itv as It fs l1 i1 r1 ap I1 hstart=>?_
 refine wpAny_newObj_type (wpAny_newFunctionEnv hcell (fun y hy=>by simp at hy) (fun h₂ hns hsb=>?_) hkind)
 dsimp only at hns hsb ⊢
 obtain⟨rD,aD⟩:=r1.more (fs:=[(k1.objs.size,lst [])]) (fun b o e=>Heap.get?_push_of_some (lst []) e) (fun q hq=>by rw[List.mem_singleton.mp hq];exact⟨Heap.get?_push_size _ rfl,Nat.le_refl _⟩)
 generalize eH:k1.push { cls:=.type "list",dict:=none,data:=.seq ([]:List Value).toArray } = K at hns hsb ⊢
 have eK:k1.push (lst [])=K:=eH
 rw[eK]at rD
 obtain⟨oC,gC,nC⟩:=ns_obj hns
 have up:∀b o,K.get? b=some o→h₂.get? b=some o:=fun b o e=>hsb.extBut b o (Nat.ne_of_lt (Heap.lt_size e)) (Heap.get?_push_of_some _ e)
 obtain⟨rC,aC⟩:=rD.more (fs:=[(K.objs.size,oC)]) up (fun q hq=>by rw[List.mem_singleton.mp hq];exact⟨gC,Nat.le_refl _⟩)
 have adr0:=I1.adr 0 fs i1
 have offs:∀b∈as,b≠k1.objs.size∧b≠K.objs.size:=fun b hb=>by
  rw[←adr0]at hb
  obtain⟨q,hq,e⟩:=Zz11.mp hb
  exact⟨e▸(aD _ Zz5 q (Zz4 _ hq)).symm,e▸(aC _ Zz5 q (Zz3 _ (Zz4 _ hq))).symm⟩
 have cd:K.objs.size≠k1.objs.size:=aC _ Zz5 (k1.objs.size,lst []) (Zz4 _ Zz5)
 have cfr:∀t∈fr,K.objs.size≠t.1:=fun t ht=>aC _ Zz5 t (Zz3 _ (Zz3 _ ht))
 have dfr:∀t∈fr,k1.objs.size≠t.1:=fun t ht=>aD _ Zz5 t (Zz3 _ ht)
 generalize k1.objs.size=D at *
 generalize K.objs.size=C at *
 have loop:∀s₃:Shared,s₃ = { s with heap:=h₂,toks:=t1+([]:List (Str×Value)).length } →
   codeAny (model prog w) Γ.A (.compLoop (.ListComp elt [⟨.Tuple [.Name x px,.Name x₂ px₂] kt tp,iter,[],0⟩] scope pos) 0 itv (.ref D) (compEnvC scope cl C Γ.env)) (RR (.ref D) C) s₃:=by
  intro s₃ hs₃
  subst hs₃
  refine codeAny_compLoop_pair (ZhF Γ W1 ρ fr C D It nx (Zcl t t₂) ZaM f q s) ?_ n ⟨W1,H0,h₂,_,0,fs,[],[],oC,_,rfl,.refl _,i1,nC,.nil,Nat.zero_le _,rC,e2⟩
  rintro k s' ⟨W2,H2,k2,t2,j,fs2,acc,ys,oC2,m₂,rfl,l2,i2,hC2,hv2,hl2,r2,e⟩
  cases k with
  | zero=>cases e
  | succ k=>
   obtain⟨o,e4,e⟩:=Zz0.mp e
   have r2':Rep Γ W2 ρ H2 (fs2++((C,oC2)::(D,lst ys)::fr)) k2:=r2.less fun q hq=>by
    rcases Zz8.mp hq with hq | hq
    ·exact Zz2 _ (Zz2 _ (Zz4 _ hq))
    ·rcases Zz7.mp hq with e | hq
     ·exact e▸List.mem_cons_self
     ·rcases Zz7.mp hq with e | hq
      ·exact e▸List.mem_cons_of_mem _ Zz5
      ·exact Zz2 _ (Zz2 _ (Zz3 _ hq))
   have ap2:∀b∈as,∀t∈(C,oC2)::(D,lst ys)::fr,b≠t.1:=fun b hb t ht=>by
    rcases Zz7.mp ht with e | ht
    ·rw[e]
     exact(offs b hb).2
    ·rcases Zz7.mp ht with e | ht
     ·rw[e]
      exact(offs b hb).1
     ·exact ap b hb t ht
   cases o with
   | none=>
    cases e
    exact I1.done j W2 ρ H2 _ fs2 _ _ _ l2 r2' ap2 i2 e4 fun h' tk' r3=>hR W2 h' tk' C D oC2 m₂ ys (l1.trans l2) hC2 hv2 hl2 dfr cfr cd r3
   | some v=>
    obtain⟨va,vb,ev⟩:=I1.pair j H2 v e4
    subst ev
    refine I1.item j W2 ρ H2 _ fs2 _ _ _ va vb l2 r2' ap2 i2 e4 fun T h3 t3 go=>?_
    obtain⟨ρ3,e5,e⟩:=Zz0.mp e
    cases e5
    refine go _ _ _ _ _ _ rfl fun fs3 k3 y1 y2 i3 r3 htup w1 w2=>?_
    have a3:∀t∈fs3,t.1∈as:=fun t ht=>by
     rw[←I1.adr _ _ i3]
     exact List.mem_map_of_mem ht
    refine assign_Tuple_tuple (s:={ s with heap:=k3,toks:=t3 }) Γ.hh htup rfl rfl fun g₄ he=>?_
    have r3g:=r3.grown (h':=g₄) fun b o e=>he b o (Nat.ne_of_lt (Heap.lt_size e)) e
    have gC3:g₄.get? C=some oC2:=r3g.frAt (q:=(C,oC2)) (Zz3 _ Zz5)
    have nC3:g₄.Ns C m₂:=hC2.ns gC3
    refine assignInOrder_cons (wpAny_assign_Name (wpAny_storeName_local (lookup_relabel_local hx) nC3 (fun h5 hn5 sb5=>?_) (by simp[compEnvC,relabel,hkind])))
    refine assignInOrder_cons (wpAny_assign_Name (wpAny_storeName_local (lookup_relabel_local hx₂) hn5 (fun h4 hn4 sb4=>?_) (by simp[compEnvC,relabel,hkind])))
    refine assignInOrder_nil ?_
    obtain⟨oC4,gC4,nC4⟩:=ns_obj hn4
    have r3':Rep Γ W2 ρ H2 ([(C,oC2)]++((D,lst ys)::(fs3++fr))) g₄:=r3g.less fun q hq=>by
     rcases Zz8.mp hq with hq | hq
     ·rw[List.mem_singleton.mp hq]
      exact Zz3 _ Zz5
     ·rcases Zz7.mp hq with e | hq
      ·exact e▸List.mem_append_right _ (Zz2 _ Zz5)
      ·rcases Zz8.mp hq with hq | hq
       ·exact Zz4 _ hq
       ·exact Zz3 _ (Zz2 _ (Zz2 _ hq))
    have aC3:∀t∈(D,lst ys)::(fs3++fr),C≠t.1:=fun t ht=>by
     rcases Zz7.mp ht with e | ht
     ·rw[e]
      exact cd
     ·rcases Zz8.mp ht with ht | ht
      ·exact(offs _ (a3 t ht)).2.symm
      ·exact cfr t ht
    have aD3:∀t∈fs3++fr,D≠t.1:=fun t ht=>by
     rcases Zz8.mp ht with ht | ht
     ·exact(offs _ (a3 t ht)).1.symm
     ·exact dfr t ht
    have r4:Rep Γ W2 ρ H2 ([(C,oC4)]++((D,lst ys)::(fs3++fr))) h4:=by
     refine r3'.swap (fun q hq t ht=>?_) (fun b o hb e=>sb4.extBut b o (fun z=>hb (by simp[z,compEnvC])) (sb5.extBut b o (fun z=>hb (by simp[z,compEnvC])) e)) fun q hq=>?_
     ·rw[List.mem_singleton.mp hq]
      exact aC3 t ht
     ·rw[List.mem_singleton.mp hq]
      exact⟨gC4,by simp⟩
    have rc:=ZqQ (scope:=scope) (cl:=cl) (ts:=[(x,t),(x₂,t₂)]) (ρ:=upd (upd ρ t va) t₂ vb) r4 aC3 nC4 (fun p hp=>by
     rcases Zz7.mp hp with e | hp
     ·rw[e]
      exact⟨va,y1,by simp[upd,htt],by simp[hxx],w1⟩
     ·rw[List.mem_singleton.mp hp]
      exact⟨vb,y2,by simp[upd],by simp,w2⟩) (fun i hi=>by
     have h1:i≠t:=fun e=>hi (x,t) Zz5 e.symm
     have h2:i≠t₂:=fun e=>hi (x₂,t₂) (Zz2 _ Zz5) e.symm
     simp[upd,h1,h2])
    exact ZpS (hel C ρ) aD3 cd l2 i3 hv2 rc e
 refine codeAny_compStart_list (loop _ rfl) ?_
 obtain⟨o0,ho0⟩:=hstart
 exact I1.self 0 W1 ρ H0 (([(C,oC)]++[(D,lst [])])++fr) fs _ _ _ o0 (.refl _) (rC.less fun q hq=>by
  rcases Zz8.mp hq with hq | hq
  ·exact Zz3 _ (Zz3 _ (Zz4 _ hq))
  ·rcases Zz8.mp hq with hq | hq
   ·rcases Zz8.mp hq with hq | hq
    ·exact Zz4 _ hq
    ·exact Zz3 _ (Zz4 _ hq)
   ·exact Zz3 _ (Zz3 _ (Zz3 _ hq))) i1 ho0 (loop _ rfl)
theorem Zwh{elt iter:Expr}{x x₂:Str}{px px₂ tp:Pos}{kt:Nat}{scope:Scope}{pos:Pos}{cl:List (Str×Addr)}{t t₂:Nat}{g:Src}{f:Ex}(hg:JI2 prog w Γ iter g)(hel:∀C ρ,J prog w (Zbo Γ scope cl C [(x,t),(x₂,t₂)] ρ) elt f)
  (hclos:closureFor scope Γ.env=pure cl) (hcell:∀y∈scope.names,y.2≠.cell) (hkind:scope.kind=.function) (hnames:∀y∈scope.names,y.2=.local→scope.names.lookup y.1=some .local) (hx:scope.names.lookup x=some .local) (hx₂:scope.names.lookup x₂=some .local) (hxx:x≠x₂) (htt:t≠t₂) (hs:∀x,foldedSetIterable iter Γ.env x=pure x:=by intro _;rfl):
  J prog w Γ (.ListComp elt [⟨.Tuple [.Name x px,.Name x₂ px₂] kt tp,iter,[],0⟩] scope pos) (Za4 g (Zcl t t₂) ZaM f):=by
 intro W ρ H fr s Q E v H' r hf post
 obtain⟨z,e1,hf⟩:=Zz0.mp hf
 obtain⟨q,e2,e3⟩:=Zz1.mp hf
 cases e3
 rw[eval_ListComp]
 refine wpAny_comprehension_free (use:=Option.none) rfl hs hclos hkind hnames ?_
 refine Zpw (RR:=fun acc C=>compPost (model prog w) Γ.A E Option.none Q acc C) hg hel hcell hkind hx hx₂ hxx htt r (q:=q) (by rw[e1];exact e2) fun W2 h' tk' C D oC m₂ ys l2 hC hv hl aD aC cd r3=>?_
 refine⟨m₂,hC.ns (r3.frAt (q:=(C,oC)) Zz5),fun h'' sb=>?_⟩
 obtain⟨W5,l5,r5,v5⟩:=Zqd hv hl aD aC cd r3 sb
 exact post W5 h'' tk' _ (l2.trans l5) r5 v5
end
end PM
end
section
set_option autoImplicit false
namespace PM
open PySem PySem.W PySem.Calls PyProof.Rows PyProof PySem.Spec
theorem Zxv{prog:Program}{w:World}{A A₀:Around}{s:Shared}{base h₀:Heap}{L:Addr}{m:Str→Option Value}{lent:List (Addr×Obj)}{K:Frag}{p:Program}{loose:List Str}{mean:ExcName→Option Value}{mg mb:Str→Option Value}
  {env:Env} {outer:List Env} {R:Result→Shared→Prop} {name qual:Str} {params:Arguments} {body:List Stmt} {scope:Scope} {dV kV doc pm cdv ct oc:Value} {an od:Option Addr} {osl:Array (Option Value)} {f:Addr} {args:Args} {binds:List (Str×Value)}
  (B:Below A₀ base outer h₀) (F:Fr h₀ L s.heap m) (X₀:K.In h₀) (N:News h₀ L s.heap lent) (T:Top p loose mean mg mb h₀) (hA:A.frames=some (env::outer)) (hf:env.frame=some L) (hke:env.scope.kind=.function)
  (ho:K.lookup f=some ⟨oc,od,.func (fnOf name qual params body scope dV kV doc pm an cdv ct),osl⟩) (hcd:codeIn K cdv qual=true) (hroom:A.depth<recursionLimit)
  (hbind:BindsTo s (fnOf name qual params body scope dV kV doc pm an cdv ct) args binds) (hall:(binds.all fun y=>scope.names.lookup y.1 == some .local || scope.names.lookup y.1 == some .cell)=true) (hone:((cellsFrom 0 scope.names []).map (·.1)).Nodup)
  (h:∀g L' h₁ tk cells,(∀b o,s.heap.get? b=some o→b∉lent.map (·.1)→g.get? b=some o)→Fr g L' h₁ (bindL (envOfC qual scope L' f cdv).kindOf binds fun _=>none)→News g L' h₁ (cells++lent)→CellsAre (bindC (envOfC qual scope L' f cdv).kindOf binds fun _=>none) (cellsFrom (L'+1) scope.names []) cells →
   (cellsFrom (L'+1) scope.names []).Pairwise (fun x y=>x.2≠y.2)→(∀n c,(n,c)∈cellsFrom (L'+1) scope.names []→L'<c)→Below A base (env::outer) g→K.In g→Top p loose mean mg mb g→(∀q∈lent,q.1<L')→s.heap.objs.size≤L' →
   wpAny (model prog w) (A.deeper (envOfC qual scope L' f cdv)) (execs body (envOfC qual scope L' f cdv)) (fun fl s'=>LeaveK h₀ L m g R (match fl with | .ret v=>v | _=>.none) s')
    (fun e s'=>wpAny (model prog w) (A.deeper (envOfC qual scope L' f cdv)) (leaving (envOfC qual scope L' f cdv) e) (fun _ s''=>R (.error e) s'') (fun e' s''=>R (.error e') s'') s') { s with heap:=h₁,toks:=tk })
  (hco:scope.isCoroutine=false) (hgen:scope.isGenerator=false) (hk:scope.kind=.function):codeAny (model prog w) A (.call (.ref f) args) R s:=by
 obtain⟨FG,BG,st,lv⟩:=groundX (R:=R) B F N hA hf hke
 have X:=X₀.keeps F.keep
 refine codeAny_call_function (fd:=fnOf name qual params body scope dV kV doc pm an cdv ct) hroom (X _ _ ho) rfl hco hgen rfl (codeRec_of X hcd) (hbind _ _ _ _ ?_)
 refine wpAny_newFunctionEnv_cells hk (kindsX hall _) fun fresh hfr s' inC=>?_
 subst hfr
 have up:=inC.toInCall.keep
 refine⟨(T.nolimit.keeps F.keep).keeps up,codeAny_func ?_⟩
 obtain⟨h₁,tk,hs',_⟩:=inC.done
 subst hs'
 have nod:=cellsFrom_names scope.names 0 (s.heap.objs.size+1) [] [] rfl▸hone
 obtain⟨cells,NC,Y⟩:=Cl.news (h₀:=s.heap) (L:=s.heap.objs.size) (Zz10 _) fun n c hm=>⟨inC.cell n c (lookup_of_mem_nodup nod hm),inC.above n c hm⟩
 have old:∀q∈lent,q.1<s.heap.objs.size:=fun q hq=>Heap.lt_size (N q hq).1
 refine wpAny_mono (h _ s.heap.objs.size h₁ tk cells (fun b o e nb=>hideAll_get _ e nb) ⟨inC.toInCall.ns,fun b o e=>up b o (of_hideAll _ e),Nat.le_of_eq (hideAll_size _ _)⟩ (fun q hq=>?_) Y inC.apart inC.above BG (X₀.keeps st) (T.keeps st) old (Zz10 _)) (fun fl s' hl=>lv _ _ hl) fun _ _ y=>y
 rcases Zz8.mp hq with hq | hq
 ·obtain⟨c1,c2,c3⟩:=NC q hq
  refine⟨c1,c2,?_⟩
  cases e:(hideAll s.heap (lent.map (·.1))).get? q.1 with
  | none=>rfl
  | some o=>
   have z:=of_hideAll _ e
   rw[c3]at z
   cases z
 ·exact⟨up _ _ (N q hq).1,Nat.ne_of_lt (old q hq),hideAll_none _ (List.mem_map_of_mem hq)⟩
section
variable (prog:Program) (w:World) (K:Frag) (p:Program) (loose:List Str) (mean:ExcName→Option Value) (mg mb:Str→Option Value)
noncomputable def Clr(Γ:Cx)(dp un:Nat): Prop:=∃(gd:Option (List Code)) (cn:Str) (cs:Scope) (a:Addr) (ccd:Value) (cl:List (Str×Addr)) (outer:List Env) (A₀:Around) (base:Heap),
 Γ.A=ktrTop dp un gd cn cs Γ.L a ccd cl outer∧Below A₀ base outer Γ.h₀∧K.In Γ.h₀∧Top p loose mean mg mb Γ.h₀∧cs.kind=.function
noncomputable def Def(f:Addr)(room:Nat)(F:List V→Hp→Option (V×Hp)): Prop:=∀(Γ:Cx) (dp un:Nat),Clr K p loose mean mg mb Γ dp un→dp+room<recursionLimit→un+10*room+300<cLine →
 ∀(W:Wd) (ρ:Lc) (H:Hp) (fr:List (Addr×Obj)) (s:Shared) (Q E:Value→Shared→Prop) (as:List V) (xs:List Value) (v:V) (H':Hp),
  Rep Γ W ρ H fr s.heap→VRs W as xs→F as H=some (v,H')→ZhD Γ W ρ H' fr s Q v→wpAny (model prog w) Γ.A (call (.ref f) xs) Q E s
end
noncomputable def Z5(n:Nat)(g:Sm): List V→Hp→Option (V×Hp):=fun as H=>if as.length=n then(g (fun i=>as[i]?) H).map fun r=>((r.1.getD .none),r.2.2)else none
theorem ZuJ{kindOf:Str→Option NameKind}: ∀{ps:List Str} {xs:List Value} {m:Str→Option Value} {x:Str} {i:Nat} {y:Value},ps.Nodup→ps[i]?=some x→xs[i]?=some y→kindOf x=some .local→bindL kindOf (ps.zip xs) m x=some y:=by
 have skip:∀{ps:List Str} {xs:List Value} {m:Str→Option Value} {x:Str},x∉ps→bindL kindOf (ps.zip xs) m x=m x:=by
  intro ps
  induction ps with
  | nil=>intro xs m x _;rfl
  | cons p ps ih=>
   intro xs m x hx
   cases xs with
   | nil=>rfl
   | cons z xs=>
    simp only[List.zip_cons_cons,bindL]
    rw[ih (fun h=>hx (Zz2 _ h))]
    have:x≠p:=fun e=>hx (e▸List.mem_cons_self)
    split <;> simp[this]
 intro ps
 induction ps with
 | nil=>intro xs m x i y _ h;simp at h
 | cons p ps ih=>
  intro xs m x i y nd hp hx hk
  cases xs with
  | nil=>simp at hx
  | cons z xs=>
   obtain⟨n1,n2⟩:=List.nodup_cons.mp nd
   cases i with
   | zero=>
    simp at hp hx
    subst hp hx
    simp only[List.zip_cons_cons,bindL]
    rw[skip n1,if_pos hk]
    simp
   | succ i=>
    simp at hp hx
    simp only[List.zip_cons_cons,bindL]
    exact ih n2 hp hx hk
theorem ZuK{kindOf:Str→Option NameKind}: ∀{ps:List Str} {xs:List Value} {m:Str→Option Value} {x:Str} {i:Nat} {y:Value},ps.Nodup→ps[i]?=some x→xs[i]?=some y→kindOf x=some .cell→bindC kindOf (ps.zip xs) m x=some y:=by
 have skip:∀{ps:List Str} {xs:List Value} {m:Str→Option Value} {x:Str},x∉ps→bindC kindOf (ps.zip xs) m x=m x:=by
  intro ps
  induction ps with
  | nil=>intro xs m x _;rfl
  | cons p ps ih=>
   intro xs m x hx
   cases xs with
   | nil=>rfl
   | cons z xs=>
    simp only[List.zip_cons_cons,bindC]
    rw[ih (fun h=>hx (Zz2 _ h))]
    have:x≠p:=fun e=>hx (e▸List.mem_cons_self)
    split <;> simp[this]
 intro ps
 induction ps with
 | nil=>intro xs m x i y _ h;simp at h
 | cons p ps ih=>
  intro xs m x i y nd hp hx hk
  cases xs with
  | nil=>simp at hx
  | cons z xs=>
   obtain⟨n1,n2⟩:=List.nodup_cons.mp nd
   cases i with
   | zero=>
    simp at hp hx
    subst hp hx
    simp only[List.zip_cons_cons,bindC]
    rw[skip n1,if_neg (by rw[hk];simp)]
    simp
   | succ i=>
    simp at hp hx
    simp only[List.zip_cons_cons,bindC]
    exact ih n2 hp hx hk
theorem Zhb{cm:Str→Option Value}: ∀{cs:List (Str×Addr)} {cells:List (Addr×Obj)} {x:Str} {c:Addr},CellsAre cm cs cells→(x,c)∈cs→∃o,(c,o)∈cells∧o.data=.cell (cm x)
 | _,_,_,_,.nil,h=>nomatch h
 | _,_,_,_,.cons hd r,h=>by
  rcases Zz7.mp h with e | h
  ·cases e
   exact⟨_,List.mem_cons_self,hd⟩
  ·obtain⟨o,h1,h2⟩:=Zhb r h
   exact⟨o,List.mem_cons_of_mem _ h1,h2⟩
theorem ZqS{cm:Str→Option Value}: ∀{cs:List (Str×Addr)} {cells:List (Addr×Obj)} {q:Addr×Obj},CellsAre cm cs cells→q∈cells→∃x,(x,q.1)∈cs
 | _,_,_,.nil,h=>nomatch h
 | _,_,_,.cons hd r,h=>by
  rcases Zz7.mp h with e | h
  ·cases e
   exact⟨_,List.mem_cons_self⟩
  ·obtain⟨x,h1⟩:=ZqS r h
   exact⟨x,List.mem_cons_of_mem _ h1⟩
theorem ZdP{α β:Type}[BEq α][LawfulBEq α]: ∀{l:List (α×β)} {x:α} {y:β},l.lookup x=some y→(x,y)∈l
 | [],_,_,h=>by simp at h
 | (a,b)::r,x,y,h=>by
  rw[List.lookup_cons]at h
  split at h
  ·rename_i e
   cases h
   have:=eq_of_beq e
   subst this
   exact Zz5
  ·exact Zz2 _ (ZdP h)
end PM
end
section
set_option autoImplicit false
namespace PM
open PySem PySem.W PySem.Calls PyProof.Rows PyProof PySem.Spec
section
variable {prog:Program} {w:World} {K:Frag} {p:Program} {loose:List Str} {mean:ExcName→Option Value} {mg mb:Str→Option Value}
theorem ZrD{name qual:Str}{params:Arguments}{body:List Stmt}{scope:Scope}{dV kV doc pm cdv ct oc:Value}{an od:Option Addr}{osl:Array (Option Value)}{f:Addr}{names:List Str}{n room:Nat}{g:Sm}
  (ho:K.lookup f=some ⟨oc,od,.func (fnOf name qual params body scope dV kV doc pm an cdv ct),osl⟩) (hcd:codeIn K cdv qual=true) (nd:names.Nodup) (hn:n≤names.length)
  (hbind:∀s xs,xs.length=n→BindsTo s (fnOf name qual params body scope dV kV doc pm an cdv ct) ⟨xs,[]⟩ ((names.take n).zip xs)) (hkinds:∀x∈names.take n,scope.names.lookup x=some .local∨scope.names.lookup x=some .cell) (hone:((cellsFrom 0 scope.names []).map (·.1)).Nodup)
  (hco:scope.isCoroutine=false) (hgen:scope.isGenerator=false) (hk:scope.kind=.function)
  (hbody:∀(dp un:Nat) (gd:Option (List Code)) (L:Addr) (outer:List Env) (h₀:Heap) (hu:un+200<cLine),Clr K p loose mean mg mb (ZbG dp un gd qual scope L f cdv (cellsFrom (L+1) scope.names []) outer h₀ hu names) dp un→dp+room<recursionLimit→un+10*room+300<cLine →
   Ss prog w (ZbG dp un gd qual scope L f cdv (cellsFrom (L+1) scope.names []) outer h₀ hu names) body g):
  Def prog w K p loose mean mg mb f (room+1) (Z5 n g):=by
 intro Γ dp un clr hd hu W ρ H fr s Q E as xs v H' r hx hF post
 obtain⟨gd,cn,cs,a,ccd,cl,outer,A₀,base,eA,B,X,T,hke⟩:=clr
 unfold Z5 at hF
 split at hF
 ·rename_i hlen
  obtain⟨res,e1,e2⟩:=Zz1.mp hF
  obtain⟨o,ρ',K'⟩:=res
  cases e2
  obtain⟨m,c,led,r⟩:=r
  have hxl:xs.length=n:=by rw[hx.length,hlen]
  have inn:∀q∈led,(q.1∈W.pi∨q.1∈W.tups.map (·.1))↔q∈led.filter (fun q=>decide (q.1∈W.pi∨q.1∈W.tups.map (·.1))):=fun q hq=>⟨fun h=>List.mem_filter.mpr ⟨hq,by simpa using h⟩,fun h=>by simpa using (List.mem_filter.mp h).2⟩
  have isub:∀q∈led.filter (fun q=>decide (q.1∈W.pi∨q.1∈W.tups.map (·.1))),q∈led:=fun q hq=>(List.mem_filter.mp hq).1
  generalize hlent:led.filter (fun q=>decide (q.1∈W.pi∨q.1∈W.tups.map (·.1)))=lent at inn isub
  have notin:∀q∈led,q.1∉W.pi→(∀t∈W.tups,q.1≠t.1)→q.1∉lent.map (·.1):=fun q hq h1 h2 h3=>by
   obtain⟨t,ht,e⟩:=Zz11.mp h3
   rcases(inn t (isub t ht)).mpr ht with z | z
   ·exact h1 (e▸z)
   ·obtain⟨u,hu,e'⟩:=Zz11.mp z
    exact h2 u hu (e▸e'.symm)
  rw[eA]
  refine wpAny_call ?_
  refine Zxv (env:=envX cn cs Γ.L a ccd cl) (lent:=lent) B r.F X (fun q hq=>r.N q (isub q hq)) T rfl rfl hke ho hcd (by show dp<recursionLimit;omega) (hbind s xs hxl) ?_ hone ?_ hco hgen hk
  ·refine List.all_eq_true.mpr fun y hy=>?_
   rcases hkinds y.1 (List.of_mem_zip hy).1 with h | h <;> simp[h]
  intro g0 L' h₁ tk cells stay F' N' Y ap ab B' X' T' old szL
  have hu':(un+3)+200<cLine:=by omega
  have clr':Clr K p loose mean mg mb (ZbG (dp+1) (un+3) gd qual scope L' f cdv (cellsFrom (L'+1) scope.names []) (envX cn cs Γ.L a ccd cl::outer) g0 hu' names) (dp+1) (un+3):=
   ⟨gd,qual,scope,f,cdv,cellsFrom (L'+1) scope.names [],envX cn cs Γ.L a ccd cl::outer,_,base,rfl,B',X',T',hk⟩
  have below:∀q∈cells,L'<q.1:=fun q hq=>by
   obtain⟨x,hx⟩:=ZqS Y hq
   exact ab x _ hx
  have piLt:∀b∈W.pi,b<L':=fun b hb=>by
   obtain⟨o,ho⟩:=r.piIn b hb
   exact Nat.lt_of_lt_of_le (Heap.lt_size (r.get ho)) szL
  have tuLt:∀t∈W.tups,t.1<L':=fun t ht=>Nat.lt_of_lt_of_le (Heap.lt_size (r.get (r.R.tups t ht))) szL
  have scN:W.sc.1∉lent.map (·.1):=fun z=>by
   obtain⟨t,ht,e⟩:=Zz11.mp z
   exact r.notSc t (isub t ht) e
  have tkn:∀{i:Nat} {x:Str} {u:V},names[i]?=some x→as[i]?=some u→(names.take n)[i]?=some x∧∃y,xs[i]?=some y∧VR W u y:=fun {i x u} h1 h2=>by
   have hi:i<n:=by rw[←hlen];exact(Zz6.mp h2).1
   exact⟨by rw[List.getElem?_take_of_lt hi];exact h1,hx.at h2⟩
  have ndt:(names.take n).Nodup:=nd.sublist (List.take_sublist _ _)
  have rep:Rep (ZbG (dp+1) (un+3) gd qual scope L' f cdv (cellsFrom (L'+1) scope.names []) (envX cn cs Γ.L a ccd cl::outer) g0 hu' names) W (fun i=>as[i]?) H [] h₁:=by
   refine⟨_,cells,cells++lent,⟨F',N',⟨r.R.len,r.R.nd,fun i vs e=>?_,fun q hq=>?_,r.R.kind⟩,stay _ _ (r.F.keep _ _ r.sc) scN,r.sc0,fun q hq=>(nomatch hq),fun q hq=>(nomatch hq),fun q hq=>List.mem_append_left _ hq,fun q hq z=>?_,fun q _ t ht=>(nomatch ht),fun q hq=>(nomatch hq),fun q hq t ht=>?_,⟨fun i x u hi hk1 hu1=>?_,fun i x u hi hk1 hu1=>?_,fun x c1 hc=>?_,fun x y c1 h1 h2=>?_⟩⟩⟩
   ·obtain⟨l,b,ys,k,h1,h2,h3⟩:=r.R.lists i vs e
    exact⟨l,b,ys,k,h1,Zex h2 fun z=>List.mem_append_right _ ((inn _ z).mp (.inl (List.mem_of_getElem? h1))),h3⟩
   ·exact Zex (r.R.tups q hq) fun z=>List.mem_append_right _ ((inn _ z).mp (.inr (List.mem_map_of_mem hq)))
   ·exact absurd (Nat.lt_trans (piLt _ z) (below q hq)) (Nat.lt_irrefl _)
   ·exact Nat.ne_of_gt (Nat.lt_trans (tuLt t ht) (below q hq))
   ·obtain⟨h1,y,h2,h3⟩:=tkn hi hu1
    exact⟨y,ZuJ ndt h1 h2 hk1,h3⟩
   ·obtain⟨h1,y,h2,h3⟩:=tkn hi hu1
    have hs:=cellsFrom_some scope.names (L'+1) [] (.inl hk1)
    obtain⟨c1,hc1⟩:=Option.isSome_iff_exists.mp hs
    obtain⟨o1,ho1,hd1⟩:=Zhb Y (ZdP hc1)
    refine⟨c1,o1,y,hc1,ho1,?_,h3⟩
    rw[hd1,ZuK ndt h1 h2 hk1]
   ·obtain⟨o1,ho1,hd1⟩:=Zhb Y (ZdP hc)
    exact⟨o1,_,ho1,hd1⟩
   ·exact name_of_addr ap (ZdP h1) (ZdP h2)
  have hb:=hbody (dp+1) (un+3) gd L' (envX cn cs Γ.L a ccd cl::outer) g0 hu' clr' (by omega) (by omega)
  have back:∀(W':Wd) (h':Heap) (tk':Nat) (x:Value),W.Le W'→Rep (ZbG (dp+1) (un+3) gd qual scope L' f cdv (cellsFrom (L'+1) scope.names []) (envX cn cs Γ.L a ccd cl::outer) g0 hu' names) W' ρ' K' [] h'→VR W' (o.getD .none) x →
    LeaveK Γ.h₀ Γ.L m g0 (fun r s'=>match r with | .ok (.ret v)=>Q v s' | .ok _=>False | .error e=>E e s') x { s with heap:=h',toks:=tk' }:=by
   intro W' h' tk' x l' r' x'
   obtain⟨m',c',led',r'⟩:=r'
   refine⟨L',m',led',r'.F,r'.N,fun FG NG=>post W' h' tk' x l' ?_ x'⟩
   have g0at:∀q∈led,q.1∉lent.map (·.1)→g0.get? q.1=some q.2:=fun q hq hn=>stay _ _ (r.N q hq).1 hn
   have frN:∀q∈fr,q.1∉lent.map (·.1):=fun q hq=>notin q (r.frIn q hq) (r.frOff q hq) (r.frTup q hq)
   have clN:∀q∈c,q.1∉lent.map (·.1):=fun q hq=>notin q (r.clIn q hq) (r.clOff q hq) (r.clTup q hq)
   have newN:∀t∈led',g0.get? t.1=none:=fun t ht=>(r'.N t ht).2.2
   have far:∀q∈led,q.1∉lent.map (·.1)→∀t∈W'.sc::led',q.1≠t.1:=fun q hq hn t ht e=>by
    rcases Zz7.mp ht with e2 | ht
    ·rw[e2,l'.sc]at e
     exact r.notSc q hq e
    ·have:=g0at q hq hn
     rw[e,newN t ht]at this
     cases this
   have farPi:∀q∈led,q.1∉lent.map (·.1)→q.1∉W'.pi:=fun q hq hn z=>by
    obtain⟨o2,h2⟩:=r'.piIn _ z
    exact far q hq hn _ h2 rfl
   have keep:∀q∈led,q.1∉lent.map (·.1)→q∈led'++led.filter (fun q=>decide (q.1∉lent.map (·.1))):=fun q hq hn=>List.mem_append_right _ (List.mem_filter.mpr ⟨hq,by simpa using hn⟩)
   refine⟨m,c,led'++led.filter (fun q=>decide (q.1∉lent.map (·.1))),⟨FG,fun q hq=>?_,r'.R.mono fun q hq=>Zf6 hq fun x hx=>List.mem_append_left _ hx,l'.sc▸r.sc,r'.sc0,fun q hq=>keep q (r.frIn q hq) (frN q hq),fun q hq=>farPi q (r.frIn q hq) (frN q hq),fun q hq=>keep q (r.clIn q hq) (clN q hq),fun q hq=>farPi q (r.clIn q hq) (clN q hq),r.apart,fun q hq t ht=>far q (r.frIn q hq) (frN q hq) t (r'.R.tups t ht),fun q hq t ht=>far q (r.clIn q hq) (clN q hq) t (r'.R.tups t ht),Γ.mono l' r.own⟩⟩
   rcases Zz8.mp hq with hq | hq
   ·exact NG q hq
   ·obtain⟨h1,h2⟩:=List.mem_filter.mp hq
    exact⟨r'.F.keep _ _ (g0at q h1 (by simpa using h2)),(r.N q h1).2⟩
  refine hb W _ H [] _ _ _ (o,ρ',K') rep e1 ?_
  cases o with
  | none=>exact fun W' h' tk' l' r'=>back W' h' tk' .none l' r' .none
  | some v0=>exact fun W' h' tk' x l' r' x'=>back W' h' tk' x l' r' x'
 ·cases hF
theorem Zwi{Γ:Cx}{dp un:Nat}{x:Str}{np pos:Pos}{f:Addr}{room:Nat}{e:Expr}{es:List Expr}{g:Exs}{o:List V→Hp→Option (V×Hp)}(clr:Clr K p loose mean mg mb Γ dp un)(hn:Nm prog w Γ x (.ref f))(hkeep:keepIn K (.ref f)=true)(D:Def prog w K p loose mean mg mb f room o)(hd:dp+room<recursionLimit)(hu:un+10*room+300<cLine)
  (h:Js prog w Γ (e::es) g) (he:starEach (e::es) Γ.env=(false,eval e Γ.env)::starEach es Γ.env:=by rfl) (hp:∀pos,(backTo pos (starEach es Γ.env)).any (·.1)=false:=by intro _;rfl):J prog w Γ (.Call (.Name x np) (e::es) [] pos) (Zu o g):=by
 intro W ρ H fr s Q E v H' r hf post
 obtain⟨q,e1,hf⟩:=Zz0.mp hf
 have X:K.In Γ.h₀:=by
  obtain⟨_,_,_,_,_,_,_,_,_,_,_,X,_⟩:=clr
  exact X
 refine wpAny_Call_ofName (hn.use r ?_)
 refine callWith_K (first:=[]) X hkeep (h pos W ρ H fr s _ E _ _ r e1 fun W1 k1 t1 xs l1 r1 x1=>⟨?_,?_⟩) he (hp pos)
 ·obtain⟨m,c,led,r1⟩:=r1
  exact X.keeps r1.F.keep
 ·exact D Γ dp un clr hd hu W1 ρ _ fr _ Q E _ xs v H' r1 x1 hf fun W2 k2 t2 y l2 r2 y2=>post W2 k2 t2 y (l1.trans l2) r2 y2
theorem Zc7{Γ:Cx}{dp un:Nat}{scope:Scope}{cl:List (Str×Addr)}{C:Addr}{ts:List (Str×Nat)}{ρ0:Lc}(h:Clr K p loose mean mg mb Γ dp un): Clr K p loose mean mg mb (Zbo Γ scope cl C ts ρ0) dp un:=h
end
end PM
end
section
set_option autoImplicit false
namespace PM
open PySem PySem.W PySem.Calls PyProof.Rows PyProof PySem.Spec
theorem Zku{lo:Nat}: ∀(names:List (Str×NameKind)) (n:Nat) (acc:List (Str×Addr)),acc.Pairwise (fun x y=>x.2≠y.2)→(∀q∈acc,lo<q.2∧q.2<n)→lo<n→(cellsFrom n names acc).Pairwise (fun x y=>x.2≠y.2)∧∀q∈cellsFrom n names acc,lo<q.2
 | [],n,acc,h1,h2,_=>⟨h1,fun q hq=>(h2 q hq).1⟩
 | (y,k)::r,n,acc,h1,h2,h3=>by
  unfold cellsFrom
  by_cases hk:(k == .cell)=true
  ·rw[if_pos hk]
   refine Zku r (n+1) ((y,n)::acc) (List.pairwise_cons.mpr ⟨fun q hq=>Nat.ne_of_gt (h2 q hq).2,h1⟩) (fun q hq=>?_) (Nat.lt_succ_of_lt h3)
   rcases Zz7.mp hq with e | hq
   ·rw[e]
    exact⟨h3,Nat.lt_succ_self n⟩
   ·exact⟨(h2 q hq).1,Nat.lt_succ_of_lt (h2 q hq).2⟩
  ·rw[if_neg hk]
   exact Zku r n acc h1 h2 h3
theorem ZuL{P:Params}{h:Heap}{a:Addr}{ns:List Int}(w1:Well P h (.ref a) (ofPy (.list (ns.map PyData.int))))(W:Wd): ∃vs,h.get? a=some (ZbQ vs 0)∧VRs W (ns.map V.int) vs:=by
 have key:∀{ns:List Int} {vs:List Value} {xs:List WData},xs=(ns.map PyData.int).map ofPy→WellAll P h vs xs→VRs W (ns.map V.int) vs:=by
  intro ns
  induction ns with
  | nil=>intro vs xs e h;subst e;cases h;exact .nil
  | cons n ns ih=>
   intro vs xs e h
   subst e
   cases h with
   | cons h1 h2=>
    cases h1 with
    | int i t=>exact .cons (.int _ _) (ih rfl h2)
 have e:ofPy (.list (ns.map PyData.int))=.list ((ns.map PyData.int).map ofPy):=by rw[ofPy,ofPys_eq]
 rw[e]at w1
 cases w1 with
 | list hg ha=>exact⟨_,hg,key rfl ha⟩
section
variable {prog:Program} {w:World} {K:Frag} {p:Program} {loose:List Str} {mean:ExcName→Option Value} {mg mb:Str→Option Value}
theorem Zwj{P:Params}{h₀:Heap}{s:Shared}{sa fa:Addr}{cd:Value}{ns:List Int}{qual pname:Str}{scope:Scope}{body:List Stmt}{names:List Str}{g:Sm}{cells:List (Addr×Obj)}{Q:Flow→Shared→Prop}{E:Value→Shared→Prop}{room:Nat}{H':Hp}
  (hbody:∀(dp un:Nat) (gd:Option (List Code)) (L a:Addr) (ccd:Value) (outer:List Env) (h₀:Heap) (hu:un+200<cLine),Clr K p loose mean mg mb (ZbG dp un gd qual scope L a ccd (cellsFrom (L+1) scope.names []) outer h₀ hu names) dp un→dp+room<recursionLimit→un+10*room+300<cLine →
   Ss prog w (ZbG dp un gd qual scope L a ccd (cellsFrom (L+1) scope.names []) outer h₀ hu names) body g)
  (hd:callerA.depth+1+room<recursionLimit) (hun:callerA.units+3+10*room+300<cLine) (hk:scope.kind=.function) (h0:names[0]?=some pname)
  (KX:K.In h₀) (T:Top p loose mean mg mb h₀) (w1:Well P h₀ (.ref sa) (ofPy (.list (ns.map PyData.int)))) (hlen:ns.length≤LEN)
  (F:Fr h₀ h₀.objs.size s.heap (bindL (envOfC qual scope h₀.objs.size fa cd).kindOf [(pname,.ref sa)] fun _=>none)) (N:News h₀ h₀.objs.size s.heap cells) (X0:CellsAre (bindC (envOfC qual scope h₀.objs.size fa cd).kindOf [(pname,.ref sa)] fun _=>none) (cellsFrom (h₀.objs.size+1) scope.names []) cells)
  (hg:Z5 1 g [.ref 0] [ns.map V.int]=some (.bool true,H')) (post:∀h' tk' m',Fr h₀ h₀.objs.size h' m'→Q (.ret (.bool true)) { s with heap:=h',toks:=tk' }):
  wpAny (model prog w) (callerA.deeper (envOfC qual scope h₀.objs.size fa cd)) (execs body (envOfC qual scope h₀.objs.size fa cd)) Q E s:=by
 have hu':(callerA.units+3)+200<cLine:=by omega
 have clr:Clr K p loose mean mg mb (ZbG (callerA.depth+1) (callerA.units+3) callerA.guards qual scope h₀.objs.size fa cd (cellsFrom (h₀.objs.size+1) scope.names []) [] h₀ hu' names) (callerA.depth+1) (callerA.units+3):=
  ⟨callerA.guards,qual,scope,fa,cd,cellsFrom (h₀.objs.size+1) scope.names [],[],_,_,rfl,below_caller h₀,KX,T,hk⟩
 have hb:=hbody (callerA.depth+1) (callerA.units+3) callerA.guards h₀.objs.size fa cd [] h₀ hu' clr hd hun
 obtain⟨vs,hsc,hv⟩:=ZuL w1 ⟨[sa],[],(sa,ZbQ [] 0)⟩
 have hv':VRs ⟨[sa],[],(sa,ZbQ vs 0)⟩ (ns.map V.int) vs:=by
  clear hg post w1 hlen hsc
  generalize ns.map V.int=us at hv
  have key:∀{us:List V} {xs:List Value},VRs ⟨[sa],[],(sa,ZbQ [] 0)⟩ us xs→VRs ⟨[sa],[],(sa,ZbQ vs 0)⟩ us xs:=by
   intro us
   induction us with
   | nil=>intro xs h;cases h;exact .nil
   | cons u us ih=>
    intro xs h
    cases h with
    | cons a b=>
     refine .cons ?_ (ih b)
     cases a with
     | none=>exact .none
     | bool b=>exact .bool b
     | int i t=>exact .int i t
     | str s t=>exact .str s t
     | tup hm _ _=>exact nomatch hm
     | ref e=>exact .ref e
  exact key hv
 have far:=Zku (lo:=h₀.objs.size) scope.names (h₀.objs.size+1) [] .nil (fun q hq=>nomatch hq) (Nat.lt_succ_self _)
 unfold Z5 at hg
 rw[if_pos (show([V.ref 0]:List V).length=1 from rfl)]at hg
 obtain⟨res,e1,e2⟩:=Zz1.mp hg
 obtain⟨o,ρ',K'⟩:=res
 have eo:o=some (.bool true):=by
  cases o with
  | none=>simp at e2
  | some v=>simp at e2;rw[e2.1]
 subst eo
 have pick:∀{i:Nat} {x:Str} {u:V},names[i]?=some x→([V.ref 0]:List V)[i]?=some u→x=pname∧u=.ref 0:=fun {i x u} h1 h2=>by
  have hi:i<1:=(Zz6.mp h2).1
  have:i=0:=by omega
  subst this
  rw[h0]at h1
  simp at h1 h2
  exact⟨h1.symm,h2.symm⟩
 have rep:Rep (ZbG (callerA.depth+1) (callerA.units+3) callerA.guards qual scope h₀.objs.size fa cd (cellsFrom (h₀.objs.size+1) scope.names []) [] h₀ hu' names) ⟨[sa],[],(sa,ZbQ vs 0)⟩ (fun i=>[V.ref 0][i]?) [ns.map V.int] [] s.heap:=by
  refine⟨_,cells,cells,⟨F,N,⟨rfl,by simp,fun i us e=>?_,fun q hq=>(nomatch hq),fun q hq=>(nomatch hq)⟩,hsc,rfl,fun q hq=>(nomatch hq),fun q hq=>(nomatch hq),fun q hq=>hq,fun q hq z=>?_,fun q _ t ht=>(nomatch ht),fun q hq=>(nomatch hq),fun q hq t ht=>(nomatch ht),⟨fun i x u hi hk1 hu1=>?_,fun i x u hi hk1 hu1=>?_,fun x c1 hc=>?_,fun x y c1 h1 h2=>?_⟩⟩⟩
  ·have hi:i<1:=(Zz6.mp e).1
   have:i=0:=by omega
   subst this
   simp at e
   subst e
   exact⟨by simpa using hlen,sa,vs,0,rfl,List.mem_cons_self,hv'⟩
  ·have:=(N q hq).2.2
   rw[List.mem_singleton.mp z,hsc]at this
   cases this
  ·obtain⟨e3,e4⟩:=pick hi hu1
   subst e3 e4
   refine⟨.ref sa,?_,.ref rfl⟩
   show bindL _ _ _ _=_
   unfold bindL bindL
   rw[if_pos (show(envOfC qual scope h₀.objs.size fa cd).kindOf x=some .local from hk1)]
   simp
  ·obtain⟨e3,e4⟩:=pick hi hu1
   subst e3 e4
   have hs:=cellsFrom_some scope.names (h₀.objs.size+1) [] (.inl hk1)
   obtain⟨c1,hc1⟩:=Option.isSome_iff_exists.mp hs
   obtain⟨o1,ho1,hd1⟩:=Zhb X0 (ZdP hc1)
   refine⟨c1,o1,.ref sa,hc1,ho1,?_,.ref rfl⟩
   rw[hd1]
   unfold bindC bindC
   rw[if_neg (show ¬(envOfC qual scope h₀.objs.size fa cd).kindOf x=some .local by show ¬scope.names.lookup x=some .local;rw[hk1];simp)]
   simp
  ·obtain⟨o1,ho1,hd1⟩:=Zhb X0 (ZdP hc)
   exact⟨o1,_,ho1,hd1⟩
  ·exact name_of_addr far.1 (ZdP h1) (ZdP h2)
 refine hb _ _ _ [] s Q E _ rep e1 ?_
 intro W' h' tk' x l' r' x'
 cases x' with
 | bool _=>
  obtain⟨m',c',led',r'⟩:=r'
  exact post h' tk' m' r'.F
end
end PM
end
section
set_option autoImplicit false
namespace PM
open PySem PySem.W PySem.Calls PyProof.Rows PyProof PyProof.Rows.LCg PyProof.Rows.LSm
theorem Rep.listAt{Γ:Cx}{W:Wd}{ρ:Lc}{H:Hp}{fr:List (Addr×Obj)}{h h':Heap}{vs:List V}{xs:List Value}{k:Nat}(r:Rep Γ W ρ H fr h)(up:∀b o,h.get? b=some o→h'.get? b=some o)(hg:h'.get? h.objs.size=some (ZbQ xs k))(hv:VRs W vs xs)(hl:vs.length≤LEN):
  ∃W',W.Le W'∧Rep Γ W' ρ (H++[vs]) fr h'∧VR W' (.ref H.length) (.ref h.objs.size):=by
 obtain⟨r2,ap⟩:=r.more (fs:=[(h.objs.size,ZbQ xs k)]) up (fun q hq=>by rw[List.mem_singleton.mp hq];exact⟨hg,Nat.le_refl _⟩)
 exact ZgP r2 (fun t ht=>ap _ Zz5 t ht) hv hl
noncomputable def Zeq: List V→Hp→Option (V×Hp)
 | [.ref a],H=>H[a]?.map fun vs=>(.ref H.length,H++[vs])
 | [.tup vs],H=>some (.ref H.length,H++[vs])
 | _,_=>none
noncomputable def ZfQ: List V→Hp→Option (V×Hp)
 | [.ref a],H=>H[a]?.map fun vs=>(.tup vs,H)
 | [.tup vs],H=>some (.tup vs,H)
 | _,_=>none
noncomputable def ZfR: List V→Option (List Bool)
 | []=>some []
 | .bool b::vs=>(ZfR vs).map fun bs=>b::bs
 | _::_=>none
noncomputable def ZyY: List V→Hp→Option (V×Hp)
 | [.ref a],H=>H[a]?.bind fun vs=>(ZfR vs).map fun bs=>(.bool (bs.all id),H)
 | _,_=>none
noncomputable def ZhG: List V→Hp→Option (V×Hp)
 | [.ref a],H=>H[a]?.bind fun vs=>(ZfR vs).map fun bs=>(.bool (bs.any id),H)
 | _,_=>none
theorem ZtK{W:Wd}: ∀{vs:List V} {xs:List Value} {bs:List Bool},VRs W vs xs→ZfR vs=some bs→BoolsAre xs bs:=by
 intro vs
 induction vs with
 | nil=>intro xs bs h e;cases h;cases e;exact .nil
 | cons v vs ih=>
  intro xs bs h e
  cases h with
  | cons a b=>
   cases v with
   | bool c=>
    obtain⟨cs,e1,e2⟩:=Zz1.mp e
    subst e2
    cases a
    exact .cons _ (ih b e1)
   | none=>cases e
   | int _=>cases e
   | str _=>cases e
   | tup _=>cases e
   | ref _=>cases e
section
variable {prog:Program} {w:World}
theorem Znk: OpN prog w (fun xs=>call (.type "list") xs) Zeq:=by
 intro Γ W ρ H fr s Q E as xs v H' r hx ho post
 unfold Zeq at ho
 split at ho
 ·obtain⟨vs,e1,e2⟩:=Zz1.mp ho
  cases e2
  obtain⟨x,ex,rx⟩:=hx.one
  subst ex
  cases rx with
  | @ref _ a ea=>
   obtain⟨hl,ys,k,hg,hv⟩:=r.at e1 ea
   refine call_list_seq (hsz:=Zc5 (by rw[List.size_toArray,hv.length];exact hl)) a (.inl rfl) hg rfl rfl fun h' c' up hg'=>?_
   obtain⟨W2,l2,r2,v2⟩:=r.listAt up hg' hv hl
   exact post W2 h' s.toks _ l2 r2 v2
 ·cases ho
  obtain⟨x,ex,rx⟩:=hx.one
  subst ex
  cases rx with
  | @tup _ a ys k hm hl hv=>
   refine call_list_seq (hsz:=Zc5 (by rw[List.size_toArray,hv.length];exact hl)) a (.inr rfl) (r.tupAt hm) rfl rfl fun h' c' up hg'=>?_
   obtain⟨W2,l2,r2,v2⟩:=r.listAt up hg' hv hl
   exact post W2 h' s.toks _ l2 r2 v2
 ·cases ho
theorem ZuM: OpN prog w (fun xs=>call (.type "tuple") xs) ZfQ:=by
 intro Γ W ρ H fr s Q E as xs v H' r hx ho post
 unfold ZfQ at ho
 split at ho
 ·obtain⟨vs,e1,e2⟩:=Zz1.mp ho
  cases e2
  obtain⟨x,ex,rx⟩:=hx.one
  subst ex
  cases rx with
  | @ref _ a ea=>
   obtain⟨hl,ys,k,hg,hv⟩:=r.at e1 ea
   have isl:s.heap.IsList a ys.toArray:=⟨_,hg,rfl,k,rfl⟩
   refine call_tuple_list isl (fun h' up=>?_) (Zc5 (by rw[List.size_toArray,hv.length];exact hl))
   obtain⟨W2,l2,r2,v2⟩:=(r.grown up).tuple (k:=0) hv hl
   exact post W2 _ s.toks _ l2 r2 v2
 ·cases ho
  obtain⟨x,ex,rx⟩:=hx.one
  subst ex
  cases rx with
  | @tup _ a ys k hm hl hv=>
   have it:IsTup s.heap a ys.toArray:=⟨_,r.tupAt hm,rfl,k,rfl⟩
   exact call_tuple_tup it (post W s.heap s.toks _ (.refl W) r (.tup hm hl hv))
 ·cases ho
theorem Zxw: OpN prog w (fun xs=>call (.builtin "any") xs) ZhG:=by
 intro Γ W ρ H fr s Q E as xs v H' r hx ho post
 unfold ZhG at ho
 split at ho
 ·obtain⟨vs,e1,e2⟩:=Zz0.mp ho
  obtain⟨bs,e3,e4⟩:=Zz1.mp e2
  cases e4
  obtain⟨x,ex,rx⟩:=hx.one
  subst ex
  cases rx with
  | @ref _ a ea=>
   obtain⟨hl,ys,k,hg,hv⟩:=r.at e1 ea
   have isl:s.heap.IsList a ys.toArray:=⟨_,hg,rfl,k,rfl⟩
   obtain⟨m,c,led,r'⟩:=r
   exact any_bools r'.F r'.N Γ.hh isl (ZtK hv e3) fun h' tk F' N'=>post W h' tk _ (.refl W) (r'.same F' N') (.bool _)
 ·cases ho
end
section
variable {prog:Program} {w:World} {K:Frag} {p:Program} {loose:List Str} {mean:ExcName→Option Value} {mg mb:Str→Option Value} {Γ:Cx} {dp un:Nat}
theorem Zxx{x:Str}{v:Value}(clr:Clr K p loose mean mg mb Γ dp un)(e:nsIn K mainGlobals x=some (some v))(hg:Γ.env.globals=mainGlobals)(hk:Γ.env.scope.kind=.function)(hx:Γ.env.kindOf x=some .globalImplicit)(hd:(x == ("__debug__":Str))=false): Nm prog w Γ x v:=by
 obtain⟨_,_,_,_,_,_,_,_,_,_,_,X,T,_⟩:=clr
 intro pos m s Q E F q
 exact Name_function_global hk hx (loadGlobal_global (env:=Γ.env) (by rw[hg];exact T.g.keeps F.keep) (mg_of X T.g e) q) hd
theorem Zvl{x:Str}{v:Value}(clr:Clr K p loose mean mg mb Γ dp un)(e:nsIn K mainGlobals x=some none)(hv:bootBuiltins x=some v)(hn:x≠"__name__")(hg:Γ.env.globals=mainGlobals)(hb:Γ.env.builtins=builtinsNs)(hk:Γ.env.scope.kind=.function)(hx:Γ.env.kindOf x=some .globalImplicit)(hd:(x == ("__debug__":Str))=false): Nm prog w Γ x v:=by
 obtain⟨_,_,_,_,_,_,_,_,_,_,_,X,T,_⟩:=clr
 intro pos m s Q E F q
 exact Name_function_global hk hx (loadGlobal_builtin (env:=Γ.env) (by rw[hg];exact T.g.keeps F.keep) (mg_none_of X T.g e) (by rw[hb];exact T.b.keeps F.keep) ((T.builtins x hn).trans hv) q) hd
end
section
variable {prog:Program} {w:World} {Γ:Cx} {scope:Scope} {cl:List (Str×Addr)} {C:Addr} {ts:List (Str×Nat)} {ρ0:Lc}
theorem Zwk{x:Str}{t:Nat}(hm:(x,t)∈ts)(hk:scope.kind=.function)(hl:(compEnvC scope cl C Γ.env).kindOf x=some .local)(hd:(x == ("__debug__":Str))=false): Rd prog w (Zbo Γ scope cl C ts ρ0) x t:=by
 intro W ρ H fr s Q E v pos r e q
 obtain⟨m,c,led,r⟩:=r
 obtain⟨oC,m₂,cs,ec,h0,h1,h2,h3,h4⟩:=r.own
 obtain⟨v',y,e1,e2,e3⟩:=h2 _ hm
 rw[e]at e1
 cases e1
 exact LCgL.ld_own r.N (r.clIn _ (by rw[ec];exact Zz5)) h1 e2 (q y e3) hk hl hd
end
section
variable {prog:Program} {w:World} {dp un:Nat} {gd:Option (List Code)} {cn:Str} {cs:Scope} {L a:Addr} {ccd:Value} {clf:List (Str×Addr)} {outer:List Env} {h₀:Heap} {hu:un+200<cLine} {names:List Str} {scope:Scope} {cl:List (Str×Addr)} {C:Addr} {ts:List (Str×Nat)} {ρ0:Lc}
theorem Zwl{x:Str}{i:Nat}(hi:names[i]?=some x)(hx:cs.names.lookup x=some .cell)(hne:∀p∈ts,p.2≠i)(hcl:cl.lookup x=clf.lookup x)(hk:scope.kind=.function)(hl:(compEnvC scope cl C (envX cn cs L a ccd clf)).kindOf x=some .cell)(hd:(x == ("__debug__":Str))=false):
  Rd prog w (Zbo (ZbG dp un gd cn cs L a ccd clf outer h₀ hu names) scope cl C ts ρ0) x i:=by
 intro W ρ H fr s Q E v pos r e q
 obtain⟨m,c,led,r⟩:=r
 obtain⟨oC,m₂,cs',ec,h0,h1,h2,h3,h4⟩:=r.own
 rw[h3 i hne]at e
 obtain⟨d,o,y,g1,g2,g3,g4⟩:=h4.cel i x v hi hx e
 exact kcf_cell r.N (hcl.trans g1) (r.clIn _ (by rw[ec];exact Zz2 _ g2)) g3 (q y g4) hk hl hd
end
end PM
end
section
namespace My
open PySem PySem.W PySem.Calls PyProof.Rows PySem.Spec
structure Cell(v:Int): Prop where
 bits:Builtin.Int.intBits v≤2 ^ 20
theorem bits_zero: Builtin.Int.intBits 0≤2 ^ 20:=by unfold Builtin.Int.intBits;simp
theorem cell_at{ns:List Int}(h:PyData.layable0 (.list (ns.map .int))=true)(i:Int): Cell (cellAt ns i 0):=by
 refine⟨?_⟩
 rw[cellAt_def,List.getD_eq_getElem?_getD]
 cases e:ns[i.toNat]? with
 | none=>exact bits_zero
 | some v=>exact PyData.bits_item_of_ints h (List.mem_of_getElem? e)
section
variable {prog:Program} {w:World} {A:Around} {E:Value→Shared→Prop} {s:Shared} {x y:Int} {t u:Tok} {Q:Value→Shared→Prop}
@[irreducible] noncomputable def T9: Int:=10 ^ 9
theorem T9_eq: T9=1000000000:=by unfold T9;decide +kernel
end
end My
end
section
set_option autoImplicit false
/-! Reckoning with the plain machine. -/
namespace PM
open PySem PySem.W PyProof.Rows
section
variable (ρ:Lc) (H:Hp)
@[simp] theorem Zvm: Zf7 ρ H=some (none,H):=rfl
@[simp] theorem Zvn(f:Ex): Zf8 f ρ H=(f ρ H).map fun p=>(some p.1,p.2):=rfl
end
section
variable (a b:Int) (H:Hp)
end
theorem Zsb{b:Int}(hb:0≤b): Builtin.Range.rangeSize 0 b 1=b:=by
 unfold Builtin.Range.rangeSize
 rw[if_pos (by decide)]
 by_cases h:(0:Int)<b
 ·rw[if_pos h]
  omega
 ·rw[if_neg h]
  omega
theorem Zxy{b:Int}{H:Hp}(hb:0≤b)(hb9:b≤1000): Zcs 0 b 1 H=some (ZfP 0 1 b.toNat,b.toNat+1,H):=by
 unfold Zcs rngN
 rw[Zsb hb,if_pos]
 refine⟨by decide,?_,hb,by rw[Zbm];omega,?_⟩
 ·unfold Builtin.Range.small
  rw[Zsb hb]
  simp only[Builtin.Range.rangeFitsLong,Bool.and_eq_true,Bool.or_eq_true,decide_eq_true_eq,beq_iff_eq]
  rw[if_pos (by decide)]
  simp only[Bool.and_eq_true,decide_eq_true_eq]
  by_cases h:(0:Int)<b
  ·refine⟨⟨⟨⟨?_,?_⟩,?_⟩,?_⟩,Or.inr ?_⟩ <;> omega
  ·refine⟨⟨⟨⟨?_,?_⟩,?_⟩,?_⟩,?_⟩ <;> first | omega | (left;omega)
 ·exact PyProof.noPylong_small (by omega)
end PM
end
section
set_option autoImplicit false
namespace PM
open PySem PySem.W PyProof.Rows My
theorem Zqe{a b:Int}(h:IntMulOk a b): mulOk a b=true:=by
 unfold IntMulOk at h
 unfold mulOk
 cases e:(decide (Builtin.Int.intBits a>shortFactorBits) && decide (Builtin.Int.intBits b>shortFactorBits) && Builtin.Int.intTooBig (Builtin.Int.intBits a+Builtin.Int.intBits b))with
 | true=>exact absurd e h
 | false=>rfl
theorem Zot{a b:Int}{H:Hp}(h:0≤b∧(Builtin.Int.intBits a:Int)*b≤2 ^ 27): oPow (.int a) (.int b) H=some (.int (a ^ b.toNat),H):=by simp only[oPow];rw[if_pos h]
theorem Zyw(H:Hp): oPow (.int 10) (.int 9) H=some (.int T9,H):=by rw[Zot (by decide +kernel)];unfold T9;rfl
end PM
end
section
set_option autoImplicit false
namespace PM
open PySem PySem.W PyProof.Rows My
section
variable {ρ ρ1 ρ2:Lc} {H H1 H2 H3:Hp}
theorem Zxz{k:Int}: Zn k ρ H=some (.int k,H):=rfl
theorem Zwm{f g:Ex}{a:Nat}{k:Int}{n:Nat}{vs:List V}(h1:f ρ H=some (.ref a,H1))(h2:g ρ H1=some (.int k,H2))(e:H2[a]?=some vs)(hk:k=(n:Int)): Zeo f (Zf8 g) Zf7 ρ H=some (.ref H2.length,H2++[vs.drop n]):=by
 simp only[Zeo,h1,Option.bind_some,Zvn,h2,Option.map_some,Zvm,Zhx,e]
 rw[ZpR vs hk]
end
end PM
end
section
set_option autoImplicit false
namespace PM
open PySem PySem.W PyProof.Rows PyProof
noncomputable def Zd3(f:Ex)(k:Nat): Ex:=fun ρ H=>(f ρ H).bind fun p=>match p.1 with
 | .ref i=>p.2[i]?.bind fun vs=>some (.ref p.2.length,p.2++[vs.drop k])
 | .tup vs=>if 1≤k∧k≤vs.length then some (.tup (vs.drop k),p.2)else none
 | _=>none
section
variable {prog:Program} {w:World} {Γ:Cx}
theorem Zjl{e lo:Expr}{p pos:Pos}{f:Ex}{k:Nat}(h:J prog w Γ e f)(hlo:J prog w Γ lo (Zn k))(ht:∀o r,letTemporaryGo e o r=pure ():=by intro _ _;rfl): J prog w Γ (.Subscript e (.Slice (Option.some lo) Option.none Option.none p) pos) (Zd3 f k):=by
 intro W ρ H fr s Q E v H' r hf post
 obtain⟨⟨v1,H1⟩,e1,hf⟩:=Zz0.mp hf
 cases v1 with
 | none=>cases hf
 | bool _=>cases hf
 | int _=>cases hf
 | str _=>cases hf
 | ref i=>
  obtain⟨vs,e2,e3⟩:=Zz0.mp hf
  refine Zwc h (JP.some hlo) JP.none ht W ρ H fr s Q E v H' r ?_ post
  rw[Zwm (n:=k) e1 Zxz e2 rfl]
  exact e3
 | tup vs=>
  simp only at hf
  by_cases c:1≤k∧k≤vs.length
  ·rw[if_pos c]at hf
   cases hf
   refine wpAny_Subscript_Slice (T:="tuple") slot_tuple_getitem.lookup (h W ρ H fr s _ E _ _ r e1 fun W1 k1 t1 x l1 r1 x1=>?_) ht
   refine wpAny_Slice ?_
   refine wpAny_evalPart_some (hlo W1 ρ _ fr _ _ E _ _ r1 rfl fun W2 k2 t2 y l2 r2 y2=>?_)
   refine wpAny_evalPart_none ?_
   refine wpAny_evalPart_none ?_
   cases y2 with
   | int _ u=>
    have x2:=x1.mono l2
    cases x2 with
    | @tup _ a ys kk hm hl hs=>
     have it:IsTup k2 a ys.toArray:=⟨_,r2.tupAt hm,rfl,kk,rfl⟩
     have it':IsTup (k2.push { cls:=.type "slice",data:=.fields #[.int k u,.none,.none] }) a ys.toArray:=it.keeps fun _ _ e=>Heap.get?_push_of_some _ e
     have hlen:=hs.length
     rw[Zbm]at hl
     refine⟨it'.typeIs,getItem_tuple_from it' (Heap.IsSliceOf.new ..) c.1 (by simp[hlen];exact c.2) ?_ (Zc5 (by simp[hlen];rw[Zbm];exact hl))⟩
     obtain⟨W4,l4,r4,v4⟩:=(r2.push { cls:=.type "slice",data:=.fields #[.int k u,.none,.none] }).tuple (k:=0) (hs.drop k) (by rw[Zbm];simp;omega)
     have:=post W4 _ t2 _ ((l1.trans l2).trans l4) r4 v4
     simpa using this
  ·rw[if_neg c]at hf
   cases hf
end
section
variable {ρ:Lc} {H:Hp} {Q:V→Hp→Prop}
theorem Zsc{a b c:Int}(hc:0<c)(hb:a<b): Builtin.Range.rangeSize a b c=(b-a-1) / c+1:=by
 unfold Builtin.Range.rangeSize
 rw[if_pos hc,if_pos hb]
theorem ZxA{a b c:Int}{H:Hp}(ha:0≤a)(hb:a<b)(hb9:b≤1000)(hc:0<c)(hc9:c≤1000): Zcs a b c H=some (ZfP a c (rngN a b c),rngN a b c+1,H):=by
 have e:=Zsc hc hb
 have h0:0≤(b-a-1) / c:=Int.ediv_nonneg (by omega) (by omega)
 have h2:(b-a-1) / c≤b-a-1:=Int.ediv_le_self _ (by omega)
 unfold Zcs
 rw[if_pos]
 refine⟨by omega,?_,by omega,by unfold rngN;rw[Zbm];omega,PyProof.noPylong_small (by omega)⟩
 unfold Builtin.Range.small
 rw[e]
 simp only[Builtin.Range.rangeFitsLong,Bool.and_eq_true,Bool.or_eq_true,decide_eq_true_eq,beq_iff_eq]
 rw[if_pos hc]
 simp only[Bool.and_eq_true,decide_eq_true_eq]
 refine⟨⟨⟨⟨?_,?_⟩,?_⟩,?_⟩,?_⟩ <;> first | omega | (left;omega) | (right;omega)
end
end PM
end
section
set_option autoImplicit false
namespace PM
open PySem PySem.W PyProof.Rows PyProof My
section
variable {ρ:Lc} {H:Hp} {Q:V→Hp→Prop} {L:List V→Hp→Prop}
end
noncomputable def od: Option Int→PyData
 | none=>.none
 | some k=>.int k
theorem Zpe{a:Int}{k:Nat}(h:Builtin.Int.intBits a≤k): a.natAbs<2 ^ k:=by
 unfold Builtin.Int.intBits at h
 by_cases z:a=0
 ·subst z
  exact Nat.two_pow_pos k
 ·rw[if_neg (by simpa using z)]at h
  exact Nat.lt_of_lt_of_le Nat.lt_log2_self (Nat.pow_le_pow_right (by decide) h)
theorem Zvo{a b:Int}{k:Nat}(ha:Builtin.Int.intBits a≤k)(hb:Builtin.Int.intBits b≤k): Builtin.Int.intBits (a+b)≤k+1:=by
 refine PyProof.Rows.intBits_le ?_
 have h1:=Zpe ha
 have h2:=Zpe hb
 rw[Nat.pow_succ]
 omega
theorem Zqf{a b:Int}(ha:Builtin.Int.intBits a≤2 ^ 21)(hb:Builtin.Int.intBits b≤2 ^ 21): mulOk a b=true:=by
 have e:(2:Nat) ^ 21=2097152:=by decide
 have h:Builtin.Int.intTooBig (Builtin.Int.intBits a+Builtin.Int.intBits b)=false:=by
  unfold Builtin.Int.intTooBig bitsLine
  exact decide_eq_false (by omega)
 unfold mulOk
 rw[h]
 simp
theorem ZuN{a b:Int}(h1:-(2 ^ 64)<b)(h2:b<2 ^ 64): mulOk a b=true:=Zqe (IntMulOk.of_right (intBits_le_64 h1 h2))
theorem Zt8{a b:Int}(h1:-(2 ^ 64)<a)(h2:a<2 ^ 64): mulOk a b=true:=Zqe (IntMulOk.of_left (intBits_le_64 h1 h2))
@[irreducible] noncomputable def M9: Int:=48271 ^ Int.toNat 9
@[irreducible] noncomputable def T40: Int:=10 ^ Int.toNat 40
theorem ZxB(H:Hp): oPow (.int 48271) (.int 9) H=some (.int M9,H):=by rw[Zot (by decide +kernel)];unfold M9;rfl
theorem ZxC(H:Hp): oPow (.int 10) (.int 40) H=some (.int T40,H):=by rw[Zot (by decide +kernel)];unfold T40;rfl
theorem Zjm: T40=10000000000000000000000000000000000000000:=by unfold T40;decide +kernel
theorem Zwn: Builtin.Int.intBits M9≤2 ^ 21:=by
 unfold M9
 exact Nat.le_trans (PyProof.Rows.intBits_le (k:=256) (by decide +kernel)) (by decide)
section
variable {H:Hp} {Q:V→Hp→Prop} {a b:Int}
end
end PM
end
section
set_option autoImplicit false
/-! The tree machine: values without places; lists that nobody else holds may be changed. -/
namespace TM
open PySem PM
inductive T where
 | none
 | bool (b:Bool)
 | int (i:Int)
 | str (s:Str)
 | tup (ts:List T)
 | lst (ts:List T)
mutual
inductive RF(H:Hp): V→T→List Nat→Prop where
 | none:RF H .none .none []
 | bool (b:Bool):RF H (.bool b) (.bool b) []
 | int (i:Int):RF H (.int i) (.int i) []
 | str (s:Str):RF H (.str s) (.str s) []
 | tup {vs:List V} {ts:List T} {F:List Nat}:RFs H vs ts F→RF H (.tup vs) (.tup ts) F
 | ref {a:Nat} {vs:List V} {ts:List T} {F:List Nat}:H[a]?=some vs→RFs H vs ts F→RF H (.ref a) (.lst ts) (a::F)
inductive RFs(H:Hp): List V→List T→List Nat→Prop where
 | nil:RFs H [] [] []
 | cons {v:V} {t:T} {F:List Nat} {vs:List V} {ts:List T} {G:List Nat}:RF H v t F→RFs H vs ts G→RFs H (v::vs) (t::ts) (F++G)
end
mutual
theorem RF.frame{H H':Hp}{v:V}{t:T}{F:List Nat}(r:RF H v t F)(h:∀a∈F,H'[a]?=H[a]?): RF H' v t F:=by
 cases r with
 | none=>exact .none
 | bool b=>exact .bool b
 | int i=>exact .int i
 | str s=>exact .str s
 | tup hs=>exact .tup (RFs.frame hs h)
 | ref e hs=>exact .ref ((h _ Zz5).trans e) (RFs.frame hs fun a m=>h a (Zz2 _ m))
theorem RFs.frame{H H':Hp}{vs:List V}{ts:List T}{F:List Nat}(r:RFs H vs ts F)(h:∀a∈F,H'[a]?=H[a]?): RFs H' vs ts F:=by
 cases r with
 | nil=>exact .nil
 | cons a b=>exact .cons (RF.frame a fun x m=>h x (Zz4 _ m)) (RFs.frame b fun x m=>h x (Zz3 _ m))
end
mutual
theorem RF.lt{H:Hp}{v:V}{t:T}{F:List Nat}(r:RF H v t F): ∀a∈F,a<H.length:=by
 cases r with
 | none=>intro a m;cases m
 | bool b=>intro a m;cases m
 | int i=>intro a m;cases m
 | str s=>intro a m;cases m
 | tup hs=>exact RFs.lt hs
 | ref e hs=>
  intro x m
  rcases Zz7.mp m with rfl | m
  ·exact(Zz6.mp e).1
  ·exact RFs.lt hs x m
theorem RFs.lt{H:Hp}{vs:List V}{ts:List T}{F:List Nat}(r:RFs H vs ts F): ∀a∈F,a<H.length:=by
 cases r with
 | nil=>intro a m;cases m
 | cons a b=>
  intro x m
  rcases Zz8.mp m with m | m
  ·exact RF.lt a x m
  ·exact RFs.lt b x m
end
theorem RF.ext{H:Hp}{v:V}{t:T}{F:List Nat}(r:RF H v t F)(X:Hp): RF (H++X) v t F:=r.frame fun a m=>List.getElem?_append_left (r.lt a m)
theorem RFs.ext{H:Hp}{vs:List V}{ts:List T}{F:List Nat}(r:RFs H vs ts F)(X:Hp): RFs (H++X) vs ts F:=r.frame fun a m=>List.getElem?_append_left (r.lt a m)
theorem RFs.length{H:Hp}: ∀{vs:List V} {ts:List T} {F:List Nat},RFs H vs ts F→vs.length=ts.length
 | _,_,_,.nil=>rfl
 | _,_,_,.cons _ r=>by rw[List.length_cons,List.length_cons,r.length]
theorem RFs.append{H:Hp}: ∀{vs us:List V} {ts ss:List T} {F G:List Nat},RFs H vs ts F→RFs H us ss G→RFs H (vs++us) (ts++ss) (F++G)
 | _,_,_,_,_,_,.nil,h=>h
 | _,_,_,_,_,_,.cons a r,h=>by rw[List.append_assoc];exact .cons a (r.append h)
theorem RFs.one{H:Hp}{v:V}{t:T}{F:List Nat}(r:RF H v t F): RFs H [v] [t] F:=by
 have:=RFs.cons r RFs.nil
 rwa [List.append_nil]at this
theorem RFs.snoc{H:Hp}{vs:List V}{ts:List T}{F G:List Nat}{v:V}{t:T}(r:RFs H vs ts F)(x:RF H v t G): RFs H (vs++[v]) (ts++[t]) (F++G):=r.append (.one x)
theorem RFs.at{H:Hp}: ∀{vs:List V} {ts:List T} {F:List Nat} {i:Nat} {t:T},RFs H vs ts F→ts[i]?=some t→∃v G,vs[i]?=some v∧RF H v t G∧G.Sublist F
 | _,_,_,_,_,.nil,e=>by simp at e
 | _,_,_,0,_,.cons a _,e=>by
  simp at e
  exact⟨_,_,by simp,e▸a,List.sublist_append_left _ _⟩
 | _,_,_,i+1,_,.cons _ r,e=>by
  simp at e
  obtain⟨x,G,hx,hr,hs⟩:=r.at e
  exact⟨x,G,by simpa using hx,hr,hs.trans (List.sublist_append_right _ _)⟩
theorem RFs.drop{H:Hp}: ∀{vs:List V} {ts:List T} {F:List Nat} (i:Nat),RFs H vs ts F→∃G,RFs H (vs.drop i) (ts.drop i) G∧G.Sublist F
 | _,_,_,0,h=>⟨_,h,List.Sublist.refl _⟩
 | _,_,_,_+1,.nil=>⟨_,.nil,List.Sublist.refl _⟩
 | _,_,_,i+1,.cons _ r=>by
  obtain⟨G,h1,h2⟩:=r.drop i
  exact⟨G,h1,h2.trans (List.sublist_append_right _ _)⟩
theorem RFs.split{H:Hp}: ∀{vs:List V} {ts:List T} {F:List Nat} {i:Nat} {t:T},RFs H vs ts F→ts[i]?=some t →
  ∃v G F1 F2,vs[i]?=some v∧RF H v t G∧F=F1++(G++F2)∧∀(H':Hp) (w:V) (t':T) (G':List Nat),RF H' w t' G'→(∀a∈F1,H'[a]?=H[a]?)→(∀a∈F2,H'[a]?=H[a]?)→RFs H' (vs.set i w) (ts.set i t') (F1++(G'++F2))
 | _,_,_,_,_,.nil,e=>by simp at e
 | _,_,_,0,_,.cons (G:=G1) a r,e=>by
  simp at e
  subst e
  exact⟨_,_,[],G1,by simp,a,by simp,fun H' w t' G' x _ h2=>by simpa using RFs.cons x (r.frame h2)⟩
 | _,_,_,i+1,_,.cons (F:=F0) a r,e=>by
  simp at e
  obtain⟨v,G,F1,F2,h1,h2,h3,h4⟩:=r.split e
  refine⟨v,G,F0++F1,F2,by simpa using h1,h2,by rw[h3];simp,fun H' w t' G' x k1 k2=>?_⟩
  have:=RFs.cons (a.frame fun b m=>k1 b (Zz4 _ m)) (h4 H' w t' G' x (fun b m=>k1 b (Zz3 _ m)) k2)
  simpa using this
theorem Zqg{α:Type}{xs:List α}{i:Nat}{x:α}(h:xs[i]?=some x): xs.set i x=xs:=by
 obtain⟨hi,e⟩:=Zz6.mp h
 rw[←e]
 exact List.set_getElem_self hi
theorem nd3{F1 G F2 G' Gn:List Nat}(nd:(F1++(G++F2)).Nodup)(n':G'.Nodup)(sub:∀a∈G',a∈G∨a∈Gn)(ds:∀a∈Gn,a∉F1++(G++F2)): (F1++(G'++F2)).Nodup:=by
 rw[List.nodup_append,List.nodup_append]at nd ⊢
 obtain⟨a1,⟨a2,a3,a4⟩,a5⟩:=nd
 refine⟨a1,⟨n',a3,fun x hx y hy e=>?_⟩,fun x hx y hy e=>?_⟩
 ·rcases sub x hx with m | m
  ·exact a4 x m y hy e
  ·exact ds x m (Zz3 _ (Zz3 _ (e▸hy)))
 ·rcases Zz8.mp hy with m | m
  ·rcases sub y m with q | q
   ·exact a5 x hx y (Zz4 _ q) e
   ·exact ds y q (Zz4 _ (e▸hx))
  ·exact a5 x hx y (Zz3 _ m) e
theorem in3{F1 G F2 G' Gn:List Nat}(sub:∀a∈G',a∈G∨a∈Gn): ∀a∈F1++(G'++F2),a∈F1++(G++F2)∨a∈Gn:=by
 intro a m
 rcases Zz8.mp m with m | m
 ·exact .inl (Zz4 _ m)
 ·rcases Zz8.mp m with m | m
  ·exact(sub a m).imp (fun q=>List.mem_append_right _ (Zz4 _ q)) id
  ·exact .inl (Zz3 _ (Zz3 _ m))
mutual
noncomputable def T.flat: T→Bool
 | .lst _=>false
 | .tup ts=>T.flats ts
 | .none=>true
 | .bool _=>true
 | .int _=>true
 | .str _=>true
noncomputable def T.flats: List T→Bool
 | []=>true
 | t::ts=>t.flat && T.flats ts
end
mutual
theorem RF.flat{H:Hp}{v:V}{t:T}{F:List Nat}(r:RF H v t F)(h:t.flat=true): F=[]:=by
 cases r with
 | none=>rfl
 | bool b=>rfl
 | int i=>rfl
 | str s=>rfl
 | tup hs=>exact RFs.flats hs (by simpa [T.flat]using h)
 | ref e hs=>simp[T.flat]at h
theorem RFs.flats{H:Hp}{vs:List V}{ts:List T}{F:List Nat}(r:RFs H vs ts F)(h:T.flats ts=true): F=[]:=by
 cases r with
 | nil=>rfl
 | cons a b=>
  simp only[T.flats,Bool.and_eq_true]at h
  rw[RF.flat a h.1,RFs.flats b h.2]
  rfl
end
noncomputable def T.flatIn: T→Bool
 | .lst ts=>T.flats ts
 | t=>t.flat
noncomputable def Zd6(f:List T→Option (List T)): List Int→T→Option T
 | [],.lst ts=>(f ts).map .lst
 | k::ks,.lst ts=>(seqIndex? k ts.length).bind fun j=>ts[j]?.bind fun t=>(Zd6 f ks t).map fun u=>.lst (ts.set j u)
 | k::ks,.tup ts=>(seqIndex? k ts.length).bind fun j=>ts[j]?.bind fun t=>(Zd6 f ks t).map fun u=>.tup (ts.set j u)
 | _,_=>none
inductive Lead(H:Hp): List Int→V→Nat→Prop where
 | nil {a:Nat}:Lead H [] (.ref a) a
 | ref {k:Int} {ks:List Int} {b:Nat} {vs:List V} {j:Nat} {v:V} {a:Nat}:H[b]?=some vs→seqIndex? k vs.length=some j→vs[j]?=some v→Lead H ks v a→Lead H (k::ks) (.ref b) a
 | tup {k:Int} {ks:List Int} {vs:List V} {j:Nat} {v:V} {a:Nat}:seqIndex? k vs.length=some j→vs[j]?=some v→Lead H ks v a→Lead H (k::ks) (.tup vs) a
theorem ZfX{H:Hp}{Gn:List Nat}{f:List T→Option (List T)}: ∀(ks:List Int) {v:V} {t t':T} {F:List Nat},RF H v t F→F.Nodup→(∀a∈Gn,a∉F)→Zd6 f ks t=some t' →
  ∃a vs ts ts' G,Lead H ks v a∧a∈F∧H[a]?=some vs∧RFs H vs ts G∧f ts=some ts'∧G.Nodup∧a∉G∧(∀x∈G,x∈F) ∧
   ∀vs' G',RFs H vs' ts' G'→G'.Nodup→a∉G'→(∀x∈G',x∈G∨x∈Gn)→∃F',RF (H.set a vs') v t' F'∧F'.Nodup∧∀x∈F',x∈F∨x∈Gn
 | [],v,t,t',F,r,nd,ds,e=>by
  cases r with
  | @ref a vs ts G e1 hs=>
   obtain⟨ts',h1,h2⟩:=Zz1.mp e
   subst h2
   rw[List.nodup_cons]at nd
   refine⟨a,vs,ts,ts',G,.nil,List.mem_cons_self,e1,hs,h1,nd.2,nd.1,fun x m=>List.mem_cons_of_mem _ m,fun vs' G' r' n' na sub=>⟨a::G',?_,?_,?_⟩⟩
   ·have ha:=(Zz6.mp e1).1
    refine .ref (List.getElem?_set_self ha) (r'.frame fun b m=>List.getElem?_set_ne ?_)
    intro q
    subst q
    exact na m
   ·exact List.nodup_cons.mpr ⟨na,n'⟩
   ·intro x m
    rcases Zz7.mp m with rfl | m
    ·exact .inl Zz5
    ·exact(sub x m).imp (Zz2 _) id
  | none=>cases e
  | bool _=>cases e
  | int _=>cases e
  | str _=>cases e
  | tup _=>cases e
 | k::ks,v,t,t',F,r,nd,ds,e=>by
  cases r with
  | none=>cases e
  | bool _=>cases e
  | int _=>cases e
  | str _=>cases e
  | @tup vs ts _ hs=>
   obtain⟨j,e1,e⟩:=Zz0.mp e
   obtain⟨u,e2,e⟩:=Zz0.mp e
   obtain⟨u',e3,e⟩:=Zz1.mp e
   subst e
   obtain⟨w,G1,F1,F2,e4,g1,eF,rb⟩:=hs.split e2
   subst eF
   have nd1:G1.Nodup:=(List.nodup_append.mp (List.nodup_append.mp nd).2.1).1
   have hin:∀x∈G1,x∈F1++(G1++F2):=fun x m=>List.mem_append_right _ (Zz4 _ m)
   obtain⟨a,us,qs,qs',G,l,am,ea,hq,hf,gn,na,gs,go⟩:=ZfX ks g1 nd1 (fun b m q=>ds b m (hin b q)) e3
   refine⟨a,us,qs,qs',G,.tup (by rw[hs.length];exact e1) e4 l,hin a am,ea,hq,hf,gn,na,fun x m=>hin x (gs x m),fun vs' G' r' n' na' sub=>?_⟩
   obtain⟨G2,f1,f2,f3⟩:=go vs' G' r' n' na' sub
   obtain⟨a1,a2,a5⟩:=List.nodup_append.mp nd
   obtain⟨_,a3,a4⟩:=List.nodup_append.mp a2
   have:=rb (H.set a vs') w u' G2 f1 (fun b m=>List.getElem?_set_ne fun q=>a5 b m a (Zz4 _ am) q.symm) (fun b m=>List.getElem?_set_ne fun q=>a4 a am b m q)
   rw[Zqg e4]at this
   exact⟨_,.tup this,nd3 nd f2 f3 ds,in3 f3⟩
  | @ref b vs ts F' e0 hs=>
   obtain⟨j,e1,e⟩:=Zz0.mp e
   obtain⟨u,e2,e⟩:=Zz0.mp e
   obtain⟨u',e3,e⟩:=Zz1.mp e
   subst e
   obtain⟨w,G1,F1,F2,e4,g1,eF,rb⟩:=hs.split e2
   subst eF
   rw[List.nodup_cons]at nd
   obtain⟨nb,nd⟩:=nd
   have nd1:G1.Nodup:=(List.nodup_append.mp (List.nodup_append.mp nd).2.1).1
   have hin:∀x∈G1,x∈F1++(G1++F2):=fun x m=>List.mem_append_right _ (Zz4 _ m)
   have ds':∀a∈Gn,a∉F1++(G1++F2):=fun a m q=>ds a m (Zz2 _ q)
   obtain⟨a,us,qs,qs',G,l,am,ea,hq,hf,gn,na,gs,go⟩:=ZfX ks g1 nd1 (fun b m q=>ds' b m (hin b q)) e3
   refine⟨a,us,qs,qs',G,.ref e0 (by rw[hs.length];exact e1) e4 l,List.mem_cons_of_mem _ (hin a am),ea,hq,hf,gn,na,fun x m=>List.mem_cons_of_mem _ (hin x (gs x m)),fun vs' G' r' n' na' sub=>?_⟩
   obtain⟨G2,f1,f2,f3⟩:=go vs' G' r' n' na' sub
   obtain⟨a1,a2,a5⟩:=List.nodup_append.mp nd
   obtain⟨_,a3,a4⟩:=List.nodup_append.mp a2
   have:=rb (H.set a vs') w u' G2 f1 (fun b m=>List.getElem?_set_ne fun q=>a5 b m a (Zz4 _ am) q.symm) (fun b m=>List.getElem?_set_ne fun q=>a4 a am b m q)
   rw[Zqg e4]at this
   have hab:a≠b:=fun q=>nb (hin b (q▸am))
   refine⟨_,.ref ((List.getElem?_set_ne hab).trans e0) this,List.nodup_cons.mpr ⟨fun q=>?_,nd3 nd f2 f3 ds'⟩,fun x m=>?_⟩
   ·rcases in3 f3 b q with m | m
    ·exact nb m
    ·exact ds b m Zz5
   ·rcases Zz7.mp m with rfl | m
    ·exact .inl Zz5
    ·exact(in3 f3 x m).imp (Zz2 _) id
end TM
end
section
set_option autoImplicit false
namespace TM
open PySem PM
noncomputable abbrev TL:=Nat→Option T
noncomputable abbrev PE:=TL→Option T
noncomputable abbrev PEs:=TL→Option (List T)
noncomputable abbrev PB:=TL→Option Bool
noncomputable abbrev PG:=TL→Option (List T)
noncomputable def Z1(σ:TL)(i:Nat)(t:T): TL:=fun j=>if j=i then some t else σ j
structure Ctx where
 H0:Hp
 F0:List Nat
 P:Nat→Prop
structure St(c:Ctx)(O:List Nat)(ρ:Lc)(σ:TL)(H:Hp)(Φ:Nat→List Nat): Prop where
 slot:∀i t,σ i=some t→∃v,ρ i=some v∧RF H v t (Φ i)
 src:∀i t,σ i=some t→∀a∈Φ i,c.H0.length≤a∨c.P a
 own:∀i∈O,∀t,σ i=some t→(Φ i).Nodup∧(∀a∈Φ i,c.H0.length≤a∨a∈c.F0)∧∀j u,j≠i→σ j=some u→∀a∈Φ i,a∉Φ j
 len:c.H0.length≤H.length
 keep:∀a,a<c.H0.length→a∉c.F0→H[a]?=c.H0[a]?
 pos:0<c.H0.length
 f0:0∉c.F0
theorem St.ext{c:Ctx}{O:List Nat}{ρ:Lc}{σ:TL}{H:Hp}{Φ:Nat→List Nat}(s:St c O ρ σ H Φ)(X:Hp): St c O ρ σ (H++X) Φ:=
 ⟨fun i t e=>by obtain⟨v,h1,h2⟩:=s.slot i t e;exact⟨v,h1,h2.ext X⟩,s.src,s.own,by have:=s.len;rw[List.length_append];omega,fun a ha hn=>by
  rw[List.getElem?_append_left (Nat.lt_of_lt_of_le ha s.len)];exact s.keep a ha hn,s.pos,s.f0⟩
theorem St.less{c:Ctx}{O O':List Nat}{ρ:Lc}{σ:TL}{H:Hp}{Φ:Nat→List Nat}(s:St c O ρ σ H Φ)(h:∀i∈O',i∈O): St c O' ρ σ H Φ:=⟨s.slot,s.src,fun i hi=>s.own i (h i hi),s.len,s.keep,s.pos,s.f0⟩
noncomputable def From(H:Hp)(N:List Nat)(σ:TL)(Φ:Nat→List Nat)(a:Nat): Prop:=H.length≤a∨∃i∈N,(∃t,σ i=some t)∧a∈Φ i
theorem From.mono{H:Hp}{N N':List Nat}{σ:TL}{Φ:Nat→List Nat}{a:Nat}(f:From H N σ Φ a)(h:∀i∈N,i∈N'): From H N' σ Φ a:=f.imp id fun⟨i,hi,q⟩=>⟨i,h i hi,q⟩
theorem From.back{H X:Hp}{N:List Nat}{σ:TL}{Φ:Nat→List Nat}{a:Nat}(f:From (H++X) N σ Φ a): From H N σ Φ a:=f.imp (fun h=>by rw[List.length_append]at h;omega) id
theorem From.nil{H:Hp}{σ:TL}{Φ:Nat→List Nat}{a:Nat}(f:From H [] σ Φ a): H.length≤a:=f.elim id fun⟨_,hi,_⟩=>by cases hi
noncomputable def E(O N:List Nat)(u:Bool)(e:Ex)(p:PE): Prop:=∀(c:Ctx) (ρ:Lc) (σ:TL) (H:Hp) (Φ:Nat→List Nat) (t:T),St c O ρ σ H Φ→p σ=some t →
 ∃v X F,e ρ H=some (v,H++X)∧RF (H++X) v t F∧(∀a∈F,From H N σ Φ a)∧(u=true→F.Nodup)
noncomputable def Es(O N:List Nat)(u:Bool)(n:Nat)(e:Exs)(p:PEs): Prop:=∀(c:Ctx) (ρ:Lc) (σ:TL) (H:Hp) (Φ:Nat→List Nat) (ts:List T),St c O ρ σ H Φ→p σ=some ts →
 ts.length=n∧∃vs X F,e ρ H=some (vs,H++X)∧RFs (H++X) vs ts F∧(∀a∈F,From H N σ Φ a)∧(u=true→F.Nodup)
noncomputable def Bt(O:List Nat)(e:Ts)(p:PB): Prop:=∀(c:Ctx) (ρ:Lc) (σ:TL) (H:Hp) (Φ:Nat→List Nat) (b:Bool),St c O ρ σ H Φ→p σ=some b→∃X,e ρ H=some (b,H++X)
section
variable {O N:List Nat} {u:Bool}
theorem Zcy{O':List Nat}{e:Ex}{p:PE}(x:E O' N u e p)(h:∀i∈O',i∈O:=by decide): E O N u e p:=fun c ρ σ H Φ t s=>x c ρ σ H Φ t (s.less h)
theorem E.sh{e:Ex}{p:PE}(x:E O N u e p): E O N false e p:=fun c ρ σ H Φ t s q=>by
 obtain⟨v,X,F,a1,a2,a3,a4⟩:=x c ρ σ H Φ t s q
 exact⟨v,X,F,a1,a2,a3,by simp⟩
noncomputable def Zj(k:Int): PE:=fun _=>some (.int k)
noncomputable def ZU: PE:=fun _=>some .none
noncomputable def ZaX(b:Bool): PE:=fun _=>some (.bool b)
noncomputable def Zc2(x:Str): PE:=fun _=>some (.str x)
noncomputable def Za(i:Nat): PE:=fun σ=>σ i
theorem Zo(k:Int): E O [] true (Zn k) (Zj k):=fun c ρ σ H Φ t s q=>by
 cases q;exact⟨_,[],[],by simp[Zn],.int k,by simp,by simp⟩
theorem Zap: E O [] true Zac ZU:=fun c ρ σ H Φ t s q=>by
 cases q;exact⟨_,[],[],by simp[Zac],.none,by simp,by simp⟩
theorem E.bool(k:Bool): E O [] true (Za3 k) (ZaX k):=fun c ρ σ H Φ t s q=>by
 cases q;exact⟨_,[],[],by simp[Za3],.bool k,by simp,by simp⟩
theorem E.str(k:Str): E O [] true (ZcB k) (Zc2 k):=fun c ρ σ H Φ t s q=>by
 cases q;exact⟨_,[],[],by simp[ZcB],.str k,by simp,by simp⟩
theorem Ze(i:Nat): E O [i] false (Zb i) (Za i):=fun c ρ σ H Φ t s q=>by
 obtain⟨v,h1,h2⟩:=s.slot i t q
 exact⟨v,[],Φ i,by simp[Zb,h1],by simpa using h2,fun a m=>.inr ⟨i,List.mem_cons_self,⟨t,q⟩,m⟩,by simp⟩
theorem E.own{i:Nat}(hi:i∈O): E O [i] true (Zb i) (Za i):=fun c ρ σ H Φ t s q=>by
 obtain⟨v,h1,h2⟩:=s.slot i t q
 exact⟨v,[],Φ i,by simp[Zb,h1],by simpa using h2,fun a m=>.inr ⟨i,List.mem_cons_self,⟨t,q⟩,m⟩,fun _=>(s.own i hi t q).1⟩
noncomputable def ZbP(p:PE): PE:=fun σ=>(p σ).bind fun t=>if t.flat then some t else none
theorem E.flat{e:Ex}{p:PE}(x:E O N u e p): E O [] true e (ZbP p):=fun c ρ σ H Φ t s q=>by
 obtain⟨t',e1,e2⟩:=Zz0.mp q
 by_cases h:t'.flat=true
 ·rw[if_pos h]at e2
  cases e2
  obtain⟨v,X,F,a1,a2,a3,a4⟩:=x c ρ σ H Φ t s e1
  have:=a2.flat h
  subst this
  exact⟨v,X,[],a1,a2,by simp,by simp⟩
 ·rw[if_neg h]at e2;cases e2
noncomputable def Zl: PEs:=fun _=>some []
noncomputable def Zd(p:PE)(q:PEs): PEs:=fun σ=>(p σ).bind fun t=>(q σ).bind fun ts=>some (t::ts)
theorem Zs: Es O [] true 0 Zq Zl:=fun c ρ σ H Φ ts s q=>by
 cases q;exact⟨rfl,[],[],[],by simp[Zq],.nil,by simp,by simp⟩
theorem Zh{M:List Nat}{u':Bool}{n:Nat}{e:Ex}{p:PE}{es:Exs}{ps:PEs}(x:E O N u e p)(y:Es O M u' n es ps): Es O (N++M) false (n+1) (Zf e es) (Zd p ps):=fun c ρ σ H Φ ts s q=>by
 obtain⟨t,e1,q⟩:=Zz0.mp q
 obtain⟨rs,e2,q⟩:=Zz0.mp q
 cases q
 obtain⟨v,X,F,a1,a2,a3,a4⟩:=x c ρ σ H Φ t s e1
 obtain⟨hl,vs,Y,G,b1,b2,b3,b4⟩:=y c ρ σ (H++X) Φ rs (s.ext X) e2
 refine⟨by simp[hl],v::vs,X++Y,F++G,by simp[Zf,a1,b1],?_,fun a m=>?_,by simp⟩
 ·rw[←List.append_assoc];exact .cons (a2.ext Y) b2
 ·rcases Zz8.mp m with m | m
  ·exact(a3 a m).mono fun i hi=>List.mem_append_left _ hi
  ·exact(b3 a m).back.mono fun i hi=>List.mem_append_right _ hi
theorem Znl{M:List Nat}{n:Nat}{e:Ex}{p:PE}{es:Exs}{ps:PEs}(x:E O N true e p)(y:Es O M true n es ps)(hN:∀i∈N,i∈O)(hM:∀i∈N,i∉M): Es O (N++M) true (n+1) (Zf e es) (Zd p ps):=fun c ρ σ H Φ ts s q=>by
 obtain⟨t,e1,q⟩:=Zz0.mp q
 obtain⟨rs,e2,q⟩:=Zz0.mp q
 cases q
 obtain⟨v,X,F,a1,a2,a3,a4⟩:=x c ρ σ H Φ t s e1
 obtain⟨hl,vs,Y,G,b1,b2,b3,b4⟩:=y c ρ σ (H++X) Φ rs (s.ext X) e2
 refine⟨by simp[hl],v::vs,X++Y,F++G,by simp[Zf,a1,b1],?_,fun a m=>?_,fun _=>?_⟩
 ·rw[←List.append_assoc];exact .cons (a2.ext Y) b2
 ·rcases Zz8.mp m with m | m
  ·exact(a3 a m).mono fun i hi=>List.mem_append_left _ hi
  ·exact(b3 a m).back.mono fun i hi=>List.mem_append_right _ hi
 ·rw[List.nodup_append]
  refine⟨a4 rfl,b4 rfl,fun a ha b hb e=>?_⟩
  subst e
  have hlt:=a2.lt a ha
  rcases b3 a hb with h | ⟨j,hj,⟨tj,ej⟩,mj⟩
  ·omega
  ·obtain⟨vj,_,rj⟩:=s.slot j tj ej
   have:=rj.lt a mj
   rcases a3 a ha with h | ⟨i,hi,⟨ti,ei⟩,mi⟩
   ·omega
   ·exact(s.own i (hN i hi) ti ei).2.2 j tj (fun q=>hM i hi (q▸hj)) ej a mi mj
noncomputable def ZaS(p:PEs): PE:=fun σ=>(p σ).map .tup
noncomputable def ZbB(p:PEs): PE:=fun σ=>(p σ).map .lst
theorem E.tup{n:Nat}{e:Exs}{p:PEs}(x:Es O N u n e p)(hn:n≤LEN:=by decide): E O N u (ZaV e) (ZaS p):=fun c ρ σ H Φ t s q=>by
 obtain⟨ts,e1,e2⟩:=Zz1.mp q
 subst e2
 obtain⟨hl,vs,Y,G,b1,b2,b3,b4⟩:=x c ρ σ H Φ ts s e1
 have:=b2.length
 refine⟨.tup vs,Y,G,?_,.tup b2,b3,b4⟩
 simp only[ZaV,b1,Option.bind_some]
 rw[if_pos (by omega)]
theorem E.list{n:Nat}{e:Exs}{p:PEs}(x:Es O N u n e p)(hn:n≤LEN:=by decide): E O N u (Zca e) (ZbB p):=fun c ρ σ H Φ t s q=>by
 obtain⟨ts,e1,e2⟩:=Zz1.mp q
 subst e2
 obtain⟨hl,vs,Y,G,b1,b2,b3,b4⟩:=x c ρ σ H Φ ts s e1
 have:=b2.length
 refine⟨.ref (H++Y).length,Y++[vs],(H++Y).length::G,?_,?_,fun a m=>?_,fun hu=>?_⟩
 ·simp only[Zca,b1,Option.bind_some]
  rw[if_pos (by omega),List.append_assoc]
 ·rw[←List.append_assoc];exact .ref (by simp) (b2.ext _)
 ·rcases Zz7.mp m with rfl | m
  ·exact .inl (by simp)
  ·exact b3 a m
 ·rw[List.nodup_cons]
  exact⟨fun m=>Nat.lt_irrefl _ (b2.lt _ m),b4 hu⟩
noncomputable def OA2(o:V→V→Hp→Option (V×Hp))(q:T→T→Option T): Prop:=∀(H:Hp) (v1 v2:V) (t1 t2 t:T) (F1 F2:List Nat),RF H v1 t1 F1→RF H v2 t2 F2→q t1 t2=some t→∃v,o v1 v2 H=some (v,H)∧RF H v t []
noncomputable def OI2(o:V→V→Hp→Option (V×Hp))(q:T→T→Option T): Prop:=∀(H:Hp) (v1 v2:V) (t1 t2 t:T) (F1 F2:List Nat),RF H v1 t1 F1→RF H v2 t2 F2→q t1 t2=some t→∃v F,o v1 v2 H=some (v,H)∧RF H v t F∧F.Sublist F1
noncomputable def OC2(o:V→V→Hp→Option (V×Hp))(q:T→T→Option T): Prop:=∀(H:Hp) (v1 v2:V) (t1 t2 t:T) (F1 F2:List Nat),RF H v1 t1 F1→RF H v2 t2 F2→q t1 t2=some t→∃v X F,o v1 v2 H=some (v,H++X)∧RF (H++X) v t F∧(∀a∈F,H.length≤a∨a∈F1∨a∈F2)∧(t.flatIn=true→F.Nodup∧∀a∈F,H.length≤a)
noncomputable def OA1(o:V→Hp→Option (V×Hp))(q:T→Option T): Prop:=∀(H:Hp) (v1:V) (t1 t:T) (F1:List Nat),RF H v1 t1 F1→q t1=some t→∃v,o v1 H=some (v,H)∧RF H v t []
noncomputable def OAn(o:List V→Hp→Option (V×Hp))(q:List T→Option T): Prop:=∀(H:Hp) (vs:List V) (ts:List T) (t:T) (F:List Nat),RFs H vs ts F→q ts=some t→∃v,o vs H=some (v,H)∧RF H v t []
noncomputable def OCn(o:List V→Hp→Option (V×Hp))(q:List T→Option T): Prop:=∀(H:Hp) (vs:List V) (ts:List T) (t:T) (F1:List Nat),0<H.length→RFs H vs ts F1→q ts=some t→∃v X F,o vs H=some (v,H++X)∧RF (H++X) v t F∧(∀a∈F,H.length≤a∨a∈F1)∧(t.flatIn=true→F.Nodup∧∀a∈F,H.length≤a)
noncomputable def Zc(q:T→T→Option T)(p1 p2:PE): PE:=fun σ=>(p1 σ).bind fun x=>(p2 σ).bind fun y=>q x y
noncomputable def pUn(q:T→Option T)(p1:PE): PE:=fun σ=>(p1 σ).bind fun x=>q x
noncomputable def Zp(q:List T→Option T)(ps:PEs): PE:=fun σ=>(ps σ).bind fun xs=>q xs
noncomputable def pFl(p:PE): PE:=fun σ=>(p σ).bind fun t=>if t.flatIn then some t else none
theorem ZiG{M:List Nat}{u':Bool}{e1 e2:Ex}{p1 p2:PE}{q:T→T→Option T}{o:V→V→Hp→Option (V×Hp)}{c:Ctx}{ρ:Lc}{σ:TL}{H:Hp}{Φ:Nat→List Nat}{t:T}(x:E O N u e1 p1)(y:E O M u' e2 p2)(s:St c O ρ σ H Φ)(h:Zc q p1 p2 σ=some t):
  ∃t1 t2 v1 v2 X F1 F2,q t1 t2=some t∧RF (H++X) v1 t1 F1∧RF (H++X) v2 t2 F2∧(∀a∈F1,From H N σ Φ a)∧(∀a∈F2,From H M σ Φ a)∧(u=true→F1.Nodup)∧Zk o e1 e2 ρ H=o v1 v2 (H++X):=by
 obtain⟨t1,h1,h⟩:=Zz0.mp h
 obtain⟨t2,h2,h⟩:=Zz0.mp h
 obtain⟨v,X,F,a1,a2,a3,a4⟩:=x c ρ σ H Φ t1 s h1
 obtain⟨w,Y,G,b1,b2,b3,b4⟩:=y c ρ σ (H++X) Φ t2 (s.ext X) h2
 rw[List.append_assoc]at b1 b2
 refine⟨t1,t2,v,w,X++Y,F,G,h,?_,b2,a3,fun a m=>(b3 a m).back,a4,by simp only[Zk,a1,b1,Option.bind_some]⟩
 rw[←List.append_assoc];exact a2.ext Y
theorem ZF{M:List Nat}{u':Bool}{e1 e2:Ex}{p1 p2:PE}{q:T→T→Option T}{o:V→V→Hp→Option (V×Hp)}(k:OA2 o q)(x:E O N u e1 p1)(y:E O M u' e2 p2): E O [] true (Zk o e1 e2) (Zc q p1 p2):=fun c ρ σ H Φ t s h=>by
 obtain⟨t1,t2,v1,v2,X,F1,F2,hq,r1,r2,_,_,_,e⟩:=ZiG (o:=o) x y s h
 obtain⟨v,h1,h2⟩:=k _ v1 v2 t1 t2 t F1 F2 r1 r2 hq
 exact⟨v,X,[],e.trans h1,h2,by simp,by simp⟩
theorem ZD{M:List Nat}{u':Bool}{e1 e2:Ex}{p1 p2:PE}{q:T→T→Option T}{o:V→V→Hp→Option (V×Hp)}(k:OI2 o q)(x:E O N u e1 p1)(y:E O M u' e2 p2): E O N u (Zk o e1 e2) (Zc q p1 p2):=fun c ρ σ H Φ t s h=>by
 obtain⟨t1,t2,v1,v2,X,F1,F2,hq,r1,r2,h1,_,hu,e⟩:=ZiG (o:=o) x y s h
 obtain⟨v,F,k1,k2,k3⟩:=k _ v1 v2 t1 t2 t F1 F2 r1 r2 hq
 exact⟨v,X,F,e.trans k1,k2,fun a m=>h1 a (k3.subset m),fun h=>(hu h).sublist k3⟩
theorem Zal{M:List Nat}{u':Bool}{e1 e2:Ex}{p1 p2:PE}{q:T→T→Option T}{o:V→V→Hp→Option (V×Hp)}(k:OC2 o q)(x:E O N u e1 p1)(y:E O M u' e2 p2): E O (N++M) false (Zk o e1 e2) (Zc q p1 p2):=fun c ρ σ H Φ t s h=>by
 obtain⟨t1,t2,v1,v2,X,F1,F2,hq,r1,r2,h1,h2,hu,e⟩:=ZiG (o:=o) x y s h
 obtain⟨v,Y,F,k1,k2,k3,k4⟩:=k _ v1 v2 t1 t2 t F1 F2 r1 r2 hq
 rw[List.append_assoc]at k1 k2
 refine⟨v,X++Y,F,e.trans k1,k2,fun a m=>?_,by simp⟩
 rcases k3 a m with h | h | h
 ·exact .inl (by rw[List.length_append]at h;omega)
 ·exact(h1 a h).mono fun i hi=>List.mem_append_left _ hi
 ·exact(h2 a h).mono fun i hi=>List.mem_append_right _ hi
theorem ZxD{M:List Nat}{u':Bool}{e1 e2:Ex}{p1 p2:PE}{q:T→T→Option T}{o:V→V→Hp→Option (V×Hp)}(k:OC2 o q)(x:E O N u e1 p1)(y:E O M u' e2 p2): E O [] true (Zk o e1 e2) (pFl (Zc q p1 p2)):=fun c ρ σ H Φ t s h=>by
 obtain⟨t',h,hf⟩:=Zz0.mp h
 by_cases fl:t'.flatIn=true
 ·rw[if_pos fl]at hf
  cases hf
  obtain⟨t1,t2,v1,v2,X,F1,F2,hq,r1,r2,h1,h2,hu,e⟩:=ZiG (o:=o) x y s h
  obtain⟨v,Y,F,k1,k2,k3,k4⟩:=k _ v1 v2 t1 t2 t F1 F2 r1 r2 hq
  rw[List.append_assoc]at k1 k2
  exact⟨v,X++Y,F,e.trans k1,k2,fun a m=>.inl (by have:=(k4 fl).2 a m;rw[List.length_append]at this;omega),fun _=>(k4 fl).1⟩
 ·rw[if_neg fl]at hf;cases hf
theorem Zcz{e1:Ex}{p1:PE}{q:T→Option T}{o:V→Hp→Option (V×Hp)}(k:OA1 o q)(x:E O N u e1 p1): E O [] true (eUn o e1) (pUn q p1):=fun c ρ σ H Φ t s h=>by
 obtain⟨t1,h1,h⟩:=Zz0.mp h
 obtain⟨v,X,F,a1,a2,a3,a4⟩:=x c ρ σ H Φ t1 s h1
 obtain⟨w,b1,b2⟩:=k _ v t1 t F a2 h
 exact⟨w,X,[],by simp only[eUn,a1,Option.bind_some,b1],b2,by simp,by simp⟩
theorem ZaF{n:Nat}{es:Exs}{ps:PEs}{q:List T→Option T}{o:List V→Hp→Option (V×Hp)}(k:OAn o q)(x:Es O N u n es ps): E O [] true (Zu o es) (Zp q ps):=fun c ρ σ H Φ t s h=>by
 obtain⟨ts,h1,h⟩:=Zz0.mp h
 obtain⟨_,vs,X,F,a1,a2,a3,a4⟩:=x c ρ σ H Φ ts s h1
 obtain⟨w,b1,b2⟩:=k _ vs ts t F a2 h
 exact⟨w,X,[],by simp only[Zu,a1,Option.bind_some,b1],b2,by simp,by simp⟩
theorem Zi1{n:Nat}{es:Exs}{ps:PEs}{q:List T→Option T}{o:List V→Hp→Option (V×Hp)}(k:OCn o q)(x:Es O N u n es ps): E O N false (Zu o es) (Zp q ps):=fun c ρ σ H Φ t s h=>by
 obtain⟨ts,h1,h⟩:=Zz0.mp h
 obtain⟨_,vs,X,F,a1,a2,a3,a4⟩:=x c ρ σ H Φ ts s h1
 have hp:0<(H++X).length:=by have:=s.pos;have:=s.len;rw[List.length_append];omega
 obtain⟨w,Y,G,b1,b2,b3,b4⟩:=k _ vs ts t F hp a2 h
 rw[List.append_assoc]at b1 b2
 refine⟨w,X++Y,G,by simp only[Zu,a1,Option.bind_some,b1],b2,fun a m=>?_,by simp⟩
 rcases b3 a m with h | h
 ·exact .inl (by rw[List.length_append]at h;omega)
 ·exact a3 a h
theorem Zwo{n:Nat}{es:Exs}{ps:PEs}{q:List T→Option T}{o:List V→Hp→Option (V×Hp)}(k:OCn o q)(x:Es O N u n es ps): E O [] true (Zu o es) (pFl (Zp q ps)):=fun c ρ σ H Φ t s h=>by
 obtain⟨t',h,hf⟩:=Zz0.mp h
 by_cases fl:t'.flatIn=true
 ·rw[if_pos fl]at hf
  cases hf
  obtain⟨ts,h1,h⟩:=Zz0.mp h
  obtain⟨_,vs,X,F,a1,a2,a3,a4⟩:=x c ρ σ H Φ ts s h1
  have hp:0<(H++X).length:=by have:=s.pos;have:=s.len;rw[List.length_append];omega
  obtain⟨w,Y,G,b1,b2,b3,b4⟩:=k _ vs ts t F hp a2 h
  rw[List.append_assoc]at b1 b2
  exact⟨w,X++Y,G,by simp only[Zu,a1,Option.bind_some,b1],b2,fun a m=>.inl (by have:=(b4 fl).2 a m;rw[List.length_append]at this;omega),fun _=>(b4 fl).1⟩
 ·rw[if_neg fl]at hf;cases hf
noncomputable def SimF(fr:Bool)(f:List V→Hp→Option (V×Hp))(p:List T→Option T): Prop:=∀(H:Hp) (vs:List V) (ts:List T) (t:T) (F1:List Nat),0<H.length→RFs H vs ts F1→p ts=some t→∃v X F,f vs H=some (v,H++X)∧RF (H++X) v t F∧(∀a∈F,H.length≤a∨a∈F1)∧(fr=true→F.Nodup∧∀a∈F,H.length≤a)
theorem ZO{fr:Bool}{n:Nat}{es:Exs}{ps:PEs}{q:List T→Option T}{o:List V→Hp→Option (V×Hp)}(k:SimF fr o q)(x:Es O N u n es ps): E O N false (Zu o es) (Zp q ps):=fun c ρ σ H Φ t s h=>by
 obtain⟨ts,h1,h⟩:=Zz0.mp h
 obtain⟨_,vs,X,F,a1,a2,a3,a4⟩:=x c ρ σ H Φ ts s h1
 have hp:0<(H++X).length:=by have:=s.pos;have:=s.len;rw[List.length_append];omega
 obtain⟨w,Y,G,b1,b2,b3,b4⟩:=k _ vs ts t F hp a2 h
 rw[List.append_assoc]at b1 b2
 refine⟨w,X++Y,G,by simp only[Zu,a1,Option.bind_some,b1],b2,fun a m=>?_,by simp⟩
 rcases b3 a m with h | h
 ·exact .inl (by rw[List.length_append]at h;omega)
 ·exact a3 a h
theorem ZbA{n:Nat}{es:Exs}{ps:PEs}{q:List T→Option T}{o:List V→Hp→Option (V×Hp)}(k:SimF true o q)(x:Es O N u n es ps): E O [] true (Zu o es) (Zp q ps):=fun c ρ σ H Φ t s h=>by
 obtain⟨ts,h1,h⟩:=Zz0.mp h
 obtain⟨_,vs,X,F,a1,a2,a3,a4⟩:=x c ρ σ H Φ ts s h1
 have hp:0<(H++X).length:=by have:=s.pos;have:=s.len;rw[List.length_append];omega
 obtain⟨w,Y,G,b1,b2,b3,b4⟩:=k _ vs ts t F hp a2 h
 rw[List.append_assoc]at b1 b2
 exact⟨w,X++Y,G,by simp only[Zu,a1,Option.bind_some,b1],b2,fun a m=>.inl (by have:=(b4 rfl).2 a m;rw[List.length_append]at this;omega),fun _=>(b4 rfl).1⟩
noncomputable def ZbN: T→Option Bool
 | .bool b=>some b
 | .none=>some false
 | .int i=>some (i != 0)
 | _=>none
theorem Zek{H:Hp}{v:V}{t:T}{F:List Nat}{b:Bool}(r:RF H v t F)(h:ZbN t=some b): ZcY v H=some b:=by
 cases r <;> first | (cases h;rfl) | cases h
noncomputable def Zv(p:PE): PB:=fun σ=>(p σ).bind ZbN
noncomputable def Zbp(p:PB): PB:=fun σ=>(p σ).map fun b=>!b
noncomputable def Zaa: PB:=fun _=>some true
noncomputable def ZbO: PB:=fun _=>some false
noncomputable def Zah(p q:PB): PB:=fun σ=>(p σ).bind fun b=>if b then q σ else some false
noncomputable def bOr(p q:PB): PB:=fun σ=>(p σ).bind fun b=>if b then some true else q σ
theorem ZQ{e:Ex}{p:PE}(x:E O N u e p): Bt O (ZM e) (Zv p):=fun c ρ σ H Φ b s h=>by
 obtain⟨t,h1,h⟩:=Zz0.mp h
 obtain⟨v,X,F,a1,a2,a3,a4⟩:=x c ρ σ H Φ t s h1
 exact⟨X,by simp only[ZM,a1,Option.bind_some,Zek a2 h,Option.map_some]⟩
theorem ZbW{e:Ts}{p:PB}(x:Bt O e p): Bt O (ZbC e) (Zbp p):=fun c ρ σ H Φ b s h=>by
 obtain⟨t,h1,h⟩:=Zz1.mp h
 subst h
 obtain⟨X,a1⟩:=x c ρ σ H Φ t s h1
 exact⟨X,by simp only[ZbC,a1,Option.map_some]⟩
theorem Zba: Bt O ZaM Zaa:=fun c ρ σ H Φ b s h=>by
 cases h;exact⟨[],by simp[ZaM]⟩
theorem ZcK: Bt O Zb9 ZbO:=fun c ρ σ H Φ b s h=>by
 cases h;exact⟨[],by simp[Zb9]⟩
theorem Zbn{e f:Ts}{p q:PB}(x:Bt O e p)(y:Bt O f q): Bt O (Zbe e f) (Zah p q):=fun c ρ σ H Φ b s h=>by
 obtain⟨t,h1,h⟩:=Zz0.mp h
 obtain⟨X,a1⟩:=x c ρ σ H Φ t s h1
 cases t with
 | true=>
  obtain⟨Y,b1⟩:=y c ρ σ (H++X) Φ b (s.ext X) (by simpa using h)
  exact⟨X++Y,by simp[Zbe,a1,b1]⟩
 | false=>cases h;exact⟨X,by simp[Zbe,a1]⟩
theorem Zbh{e f:Ts}{p q:PB}(x:Bt O e p)(y:Bt O f q): Bt O (tOr e f) (bOr p q):=fun c ρ σ H Φ b s h=>by
 obtain⟨t,h1,h⟩:=Zz0.mp h
 obtain⟨X,a1⟩:=x c ρ σ H Φ t s h1
 cases t with
 | false=>
  obtain⟨Y,b1⟩:=y c ρ σ (H++X) Φ b (s.ext X) (by simpa using h)
  exact⟨X++Y,by simp[tOr,a1,b1]⟩
 | true=>cases h;exact⟨X,by simp[tOr,a1]⟩
noncomputable def pIf(b:PB)(p q:PE): PE:=fun σ=>(b σ).bind fun x=>if x then p σ else q σ
noncomputable def Zge(p:PE): PE:=fun σ=>(p σ).bind fun t=>(ZbN t).map fun b=>.bool !b
noncomputable def ZcS(p q:PE): PE:=fun σ=>(p σ).bind fun t=>(ZbN t).bind fun b=>if b then q σ else some t
noncomputable def pOr(p q:PE): PE:=fun σ=>(p σ).bind fun t=>(ZbN t).bind fun b=>if b then some t else q σ
theorem Ze8{M:List Nat}{b:Ts}{pb:PB}{e f:Ex}{p q:PE}(z:Bt O b pb)(x:E O N u e p)(y:E O M u f q): E O (N++M) u (eIf b e f) (pIf pb p q):=fun c ρ σ H Φ t s h=>by
 obtain⟨b',h1,h⟩:=Zz0.mp h
 obtain⟨X,a1⟩:=z c ρ σ H Φ b' s h1
 cases b' with
 | true=>
  obtain⟨v,Y,F,b1,b2,b3,b4⟩:=x c ρ σ (H++X) Φ t (s.ext X) (by simpa using h)
  exact⟨v,X++Y,F,by simp[eIf,a1,b1],by rw[←List.append_assoc];exact b2,fun a m=>(b3 a m).back.mono fun i hi=>List.mem_append_left _ hi,b4⟩
 | false=>
  obtain⟨v,Y,F,b1,b2,b3,b4⟩:=y c ρ σ (H++X) Φ t (s.ext X) (by simpa using h)
  exact⟨v,X++Y,F,by simp[eIf,a1,b1],by rw[←List.append_assoc];exact b2,fun a m=>(b3 a m).back.mono fun i hi=>List.mem_append_right _ hi,b4⟩
theorem Zou{e:Ex}{p:PE}(x:E O N u e p): E O [] true (Zgc e) (Zge p):=fun c ρ σ H Φ t s h=>by
 obtain⟨t1,h1,h⟩:=Zz0.mp h
 obtain⟨b,h2,h⟩:=Zz1.mp h
 subst h
 obtain⟨v,X,F,a1,a2,a3,a4⟩:=x c ρ σ H Φ t1 s h1
 exact⟨.bool !b,X,[],by simp only[Zgc,a1,Option.bind_some,Zek a2 h2,Option.map_some],.bool _,by simp,by simp⟩
theorem ZdG{M:List Nat}{e f:Ex}{p q:PE}(x:E O N u e p)(y:E O M u f q): E O (N++M) u (ZcC e f) (ZcS p q):=fun c ρ σ H Φ t s h=>by
 obtain⟨t1,h1,h⟩:=Zz0.mp h
 obtain⟨b,h2,h⟩:=Zz0.mp h
 obtain⟨v,X,F,a1,a2,a3,a4⟩:=x c ρ σ H Φ t1 s h1
 cases b with
 | true=>
  obtain⟨w,Y,F',b1,b2,b3,b4⟩:=y c ρ σ (H++X) Φ t (s.ext X) (by simpa using h)
  exact⟨w,X++Y,F',by simp[ZcC,a1,Zek a2 h2,b1],by rw[←List.append_assoc];exact b2,fun a m=>(b3 a m).back.mono fun i hi=>List.mem_append_right _ hi,b4⟩
 | false=>
  cases h
  exact⟨v,X,F,by simp[ZcC,a1,Zek a2 h2],a2,fun a m=>(a3 a m).mono fun i hi=>List.mem_append_left _ hi,a4⟩
theorem ZhH{M:List Nat}{e f:Ex}{p q:PE}(x:E O N u e p)(y:E O M u f q): E O (N++M) u (eOr e f) (pOr p q):=fun c ρ σ H Φ t s h=>by
 obtain⟨t1,h1,h⟩:=Zz0.mp h
 obtain⟨b,h2,h⟩:=Zz0.mp h
 obtain⟨v,X,F,a1,a2,a3,a4⟩:=x c ρ σ H Φ t1 s h1
 cases b with
 | false=>
  obtain⟨w,Y,F',b1,b2,b3,b4⟩:=y c ρ σ (H++X) Φ t (s.ext X) (by simpa using h)
  exact⟨w,X++Y,F',by simp[eOr,a1,Zek a2 h2,b1],by rw[←List.append_assoc];exact b2,fun a m=>(b3 a m).back.mono fun i hi=>List.mem_append_right _ hi,b4⟩
 | true=>
  cases h
  exact⟨v,X,F,by simp[eOr,a1,Zek a2 h2],a2,fun a m=>(a3 a m).mono fun i hi=>List.mem_append_left _ hi,a4⟩
noncomputable def ZnF: T→String
 | .none=>"NoneType"
 | .bool _=>"bool"
 | .int _=>"int"
 | .str _=>"str"
 | .tup _=>"tuple"
 | .lst _=>"list"
end
end TM
end
section
set_option autoImplicit false
namespace TM
open PySem PM
section
variable {O N:List Nat} {u:Bool}
noncomputable def Zi2(K:String)(t:T): Bool:=ZnF t == K || (K == "int" && ZnF t == "bool")
noncomputable def pIs(K:String)(p:PE): PE:=fun σ=>(p σ).map fun t=>.bool (Zi2 K t)
theorem Zwp{H:Hp}{v:V}{t:T}{F:List Nat}(r:RF H v t F): ZnE v=ZnF t:=by cases r <;> rfl
theorem Zd7{K:String}{e:Ex}{p:PE}(x:E O N u e p): E O [] true (eIs K e) (pIs K p):=fun c ρ σ H Φ t s h=>by
 obtain⟨t1,h1,h⟩:=Zz1.mp h
 subst h
 obtain⟨v,X,F,a1,a2,a3,a4⟩:=x c ρ σ H Φ t1 s h1
 exact⟨.bool (Zi2 K t1),X,[],by simp only[eIs,a1,Option.map_some,Zoa,Zi2,Zwp a2],.bool _,by simp,by simp⟩
noncomputable def ZaZ: T→T→Option T
 | .int a,.int b=>some (.int (a-b))
 | _,_=>none
noncomputable def Zcm: T→T→Option T
 | .int a,.int b=>if b≠0∧Builtin.divisionGoesByPylong a b=false then some (.int (a.fdiv b))else none
 | _,_=>none
noncomputable def ZaW: T→T→Option T
 | .int a,.int b=>if b≠0 then some (.int (a.fmod b))else none
 | _,_=>none
noncomputable def Zdt: T→T→Option T
 | .int a,.int b=>if 0≤b∧(Builtin.Int.intBits a:Int)*b≤2 ^ 27 then some (.int (a ^ b.toNat))else none
 | _,_=>none
noncomputable def Za0: T→Option T
 | .int a=>some (.int (-a))
 | _=>none
noncomputable def ZjN(p:Int→Int→Bool): T→T→Option T
 | .int a,.int b=>some (.bool (p a b))
 | _,_=>none
noncomputable def qLt:=ZjN fun a b=>decide (a<b)
noncomputable def qLe:=ZjN fun a b=>decide (a≤b)
noncomputable def qGt:=ZjN fun a b=>decide (b<a)
theorem Zb2: OA2 ZbR ZaZ:=fun H v1 v2 t1 t2 t F1 F2 r1 r2 h=>by
 cases r1 <;> first | (cases h;done) | (cases r2 <;> first | (cases h;done) | (cases h;exact⟨_,rfl,.int _⟩))
theorem Ze9: OA2 oDiv Zcm:=fun H v1 v2 t1 t2 t F1 F2 r1 r2 h=>by
 cases r1 <;> first | (cases h;done) | skip
 cases r2 <;> first | (cases h;done) | skip
 simp only[Zcm]at h
 split at h
 ·rename_i hc;cases h;exact⟨_,by simp only[oDiv];rw[if_pos hc],.int _⟩
 ·cases h
theorem Zbk: OA2 oMod ZaW:=fun H v1 v2 t1 t2 t F1 F2 r1 r2 h=>by
 cases r1 <;> first | (cases h;done) | skip
 cases r2 <;> first | (cases h;done) | skip
 simp only[ZaW]at h
 split at h
 ·rename_i hc;cases h;exact⟨_,by simp only[oMod];rw[if_pos hc],.int _⟩
 ·cases h
theorem Zov: OA2 oPow Zdt:=fun H v1 v2 t1 t2 t F1 F2 r1 r2 h=>by
 cases r1 <;> first | (cases h;done) | skip
 cases r2 <;> first | (cases h;done) | skip
 simp only[Zdt]at h
 split at h
 ·rename_i hc;cases h;exact⟨_,by simp only[oPow];rw[if_pos hc],.int _⟩
 ·cases h
theorem ZcA: OA1 Zcb Za0:=fun H v1 t1 t F1 r1 h=>by
 cases r1 <;> first | (cases h;done) | (cases h;exact⟨_,rfl,.int _⟩)
theorem Zow(p:Int→Int→Bool): OA2 (ZjL p) (ZjN p):=fun H v1 v2 t1 t2 t F1 F2 r1 r2 h=>by
 cases r1 <;> first | (cases h;done) | (cases r2 <;> first | (cases h;done) | (cases h;exact⟨_,rfl,.bool _⟩))
theorem ZdH: OA2 oLt qLt:=Zow _
theorem ZjO: OA2 oLe qLe:=Zow _
theorem Zd8: OA2 oGt qGt:=Zow _
noncomputable def Zfa(f:T→Option PyData): List T→Option (List PyData)
 | []=>some []
 | v::vs=>(f v).bind fun d=>(Zfa f vs).bind fun ds=>some (d::ds)
noncomputable def ZcT: Nat→T→Option PyData
 | _,.none=>some .none
 | _,.bool b=>some (.bool b)
 | _,.int i=>some (.int i)
 | _,.str x=>some (.str x)
 | n+1,.tup vs=>(Zfa (ZcT n) vs).map .tuple
 | n+1,.lst vs=>(Zfa (ZcT n) vs).map .list
 | 0,.tup _=>none
 | 0,.lst _=>none
theorem ZnG{H:Hp}{f:V→Option PyData}{g:T→Option PyData}(h:∀v t F,RF H v t F→f v=g t): ∀{vs:List V} {ts:List T} {F:List Nat},RFs H vs ts F→Zgd f vs=Zfa g ts
 | _,_,_,.nil=>rfl
 | _,_,_,.cons a b=>by simp only[Zgd,Zfa,h _ _ _ a,ZnG h b]
theorem Zjn{H:Hp}: ∀(n:Nat) (v:V) (t:T) (F:List Nat),RF H v t F→toD H n v=ZcT n t:=by
 intro n
 induction n with
 | zero=>intro v t F r;cases r <;> rfl
 | succ n ih=>
  intro v t F r
  cases r with
  | none=>rfl
  | bool=>rfl
  | int=>rfl
  | str=>rfl
  | tup hs=>simp only[toD,ZcT,ZnG ih hs]
  | ref e hs=>simp only[toD,ZcT,e,Option.bind_some,ZnG ih hs]
noncomputable def ZdI(a b:T): Option Bool:=(ZcT ZbS a).bind fun d=>(ZcT ZbS b).bind fun e=>if SeqAt.shaped d=true∧SeqAt.shaped e=true then some (PyData.eqv d e)else none
noncomputable def qEq(a b:T): Option T:=(ZdI a b).map .bool
noncomputable def qNe(a b:T): Option T:=(ZdI a b).map fun c=>.bool !c
theorem ZrE{H:Hp}{v1 v2:V}{t1 t2:T}{F1 F2:List Nat}(r1:RF H v1 t1 F1)(r2:RF H v2 t2 F2): ZjM v1 v2 H=ZdI t1 t2:=by
 simp only[ZjM,ZdI,Zjn ZbS _ _ _ r1,Zjn ZbS _ _ _ r2]
theorem Zat: OA2 oEq qEq:=fun H v1 v2 t1 t2 t F1 F2 r1 r2 h=>by
 obtain⟨c,h1,h⟩:=Zz1.mp h
 subst h
 exact⟨_,by simp only[oEq,ZrE r1 r2,h1,Option.map_some],.bool _⟩
theorem ZcF: OA2 oNe qNe:=fun H v1 v2 t1 t2 t F1 F2 r1 r2 h=>by
 obtain⟨c,h1,h⟩:=Zz1.mp h
 subst h
 exact⟨_,by simp only[oNe,ZrE r1 r2,h1,Option.map_some],.bool _⟩
noncomputable def qIs: T→T→Option T
 | .none,.none=>some (.bool true)
 | _,.none=>some (.bool false)
 | _,_=>none
noncomputable def ZaU: T→T→Option T
 | .none,.none=>some (.bool false)
 | _,.none=>some (.bool true)
 | _,_=>none
theorem Zcc: OA2 oIs qIs:=fun H v1 v2 t1 t2 t F1 F2 r1 r2 h=>by
 cases r1 <;> cases r2 <;> first | (cases h;done) | (cases h;exact⟨_,rfl,.bool _⟩)
theorem Zda: OA2 ZcO ZaU:=fun H v1 v2 t1 t2 t F1 F2 r1 r2 h=>by
 cases r1 <;> cases r2 <;> first | (cases h;done) | (cases h;exact⟨_,rfl,.bool _⟩)
noncomputable def Zm: T→T→Option T
 | .lst ts,.int k=>(seqIndex? k ts.length).bind fun j=>ts[j]?
 | .tup ts,.int k=>(seqIndex? k ts.length).bind fun j=>ts[j]?
 | _,_=>none
theorem ZC: OI2 Zw Zm:=fun H v1 v2 t1 t2 t F1 F2 r1 r2 h=>by
 cases r1 with
 | none=>cases h
 | bool=>cases h
 | int=>cases h
 | str=>cases h
 | tup hs=>
  cases r2 <;> first | (cases h;done) | skip
  obtain⟨j,h1,h2⟩:=Zz0.mp h
  obtain⟨v,G,e1,e2,e3⟩:=hs.at h2
  exact⟨v,G,by simp only[Zw,hs.length,h1,Option.bind_some,e1,Option.map_some],e2,e3⟩
 | ref e hs=>
  cases r2 <;> first | (cases h;done) | skip
  obtain⟨j,h1,h2⟩:=Zz0.mp h
  obtain⟨v,G,e1,e2,e3⟩:=hs.at h2
  exact⟨v,G,by simp only[Zw,e,Option.bind_some,hs.length,h1,e1,Option.map_some],e2,e3.trans (List.sublist_cons_self _ _)⟩
noncomputable def Zaj: List T→Option T
 | [.lst ts]=>some (.int ts.length)
 | [.tup ts]=>some (.int ts.length)
 | _=>none
theorem RFs.one_inv{H:Hp}{vs:List V}{t:T}{F:List Nat}(r:RFs H vs [t] F): ∃v,vs=[v]∧RF H v t F:=by
 cases r with
 | cons a b=>cases b;rw[List.append_nil];exact⟨_,rfl,a⟩
theorem RFs.two_inv{H:Hp}{vs:List V}{t t':T}{F:List Nat}(r:RFs H vs [t,t'] F): ∃v v' F1 F2,vs=[v,v']∧RF H v t F1∧RF H v' t' F2∧F=F1++F2:=by
 cases r with
 | cons a b=>obtain⟨v',h1,h2⟩:=b.one_inv;subst h1;exact⟨_,_,_,_,rfl,a,h2,rfl⟩
theorem Za5: OAn ZaP Zaj:=fun H vs ts t F r h=>by
 unfold Zaj at h
 split at h
 ·obtain⟨v,rfl,r'⟩:=r.one_inv
  cases r' with
  | ref e hs=>cases h;exact⟨_,by simp only[ZaP,e,Option.map_some,hs.length],.int _⟩
 ·obtain⟨v,rfl,r'⟩:=r.one_inv
  cases r' with
  | tup hs=>cases h;exact⟨_,by simp only[ZaP,hs.length],.int _⟩
 ·cases h
noncomputable def ZcG: List T→Option T
 | [.int a]=>some (.int (if a<0 then -a else a))
 | _=>none
theorem Zd4: OAn Zdi ZcG:=fun H vs ts t F r h=>by
 unfold ZcG at h
 split at h
 ·obtain⟨v,rfl,r'⟩:=r.one_inv
  cases r';cases h;exact⟨_,rfl,.int _⟩
 ·cases h
noncomputable def ZjD: List T→Option T
 | [.int a,.int b]=>some (.int (if b>a then b else a))
 | _=>none
noncomputable def Zsd: List T→Option T
 | [.int a,.int b]=>some (.int (if b<a then b else a))
 | _=>none
theorem ZxE: OAn ZjB ZjD:=fun H vs ts t F r h=>by
 unfold ZjD at h
 split at h
 ·obtain⟨v,w,F1,F2,rfl,r1,r2,_⟩:=r.two_inv
  cases r1;cases r2;cases h;exact⟨_,rfl,.int _⟩
 ·cases h
noncomputable def Zdr: List T→Option (List Int)
 | []=>some []
 | .int k::vs=>(Zdr vs).map fun ks=>k::ks
 | _::_=>none
noncomputable def ZfY: List T→Option (List Bool)
 | []=>some []
 | .bool k::vs=>(ZfY vs).map fun ks=>k::ks
 | _::_=>none
theorem Zi3{H:Hp}: ∀{vs:List V} {ts:List T} {F:List Nat} {ks:List Int},RFs H vs ts F→Zdr ts=some ks→ZdB vs=some ks
 | _,_,_,_,.nil,h=>h
 | _,_,_,_,.cons a b,h=>by
  cases a <;> first | (cases h;done) | skip
  obtain⟨js,h1,h2⟩:=Zz1.mp h
  subst h2
  simp only[ZdB,Zi3 b h1,Option.map_some]
theorem Zqh{H:Hp}: ∀{vs:List V} {ts:List T} {F:List Nat} {ks:List Bool},RFs H vs ts F→ZfY ts=some ks→ZfR vs=some ks
 | _,_,_,_,.nil,h=>h
 | _,_,_,_,.cons a b,h=>by
  cases a <;> first | (cases h;done) | skip
  obtain⟨js,h1,h2⟩:=Zz1.mp h
  subst h2
  simp only[ZfR,Zqh b h1,Option.map_some]
noncomputable def ZjP: List T→Option T
 | [.lst ts]=>(Zdr ts).map fun ks=>.int ks.sum
 | _=>none
noncomputable def ZhI: List T→Option T
 | [.lst ts]=>(ZfY ts).map fun bs=>.bool (bs.any id)
 | _=>none
theorem Zyx: OAn ZhE ZjP:=fun H vs ts t F r h=>by
 unfold ZjP at h
 split at h
 ·obtain⟨v,rfl,r'⟩:=r.one_inv
  cases r' with
  | ref e hs=>
   obtain⟨ks,h1,h2⟩:=Zz1.mp h
   subst h2
   exact⟨_,by simp only[ZhE,e,Option.bind_some,Zi3 hs h1,Option.map_some],.int _⟩
 ·cases h
theorem Zyy: OAn ZhG ZhI:=fun H vs ts t F r h=>by
 unfold ZhI at h
 split at h
 ·obtain⟨v,rfl,r'⟩:=r.one_inv
  cases r' with
  | ref e hs=>
   obtain⟨ks,h1,h2⟩:=Zz1.mp h
   subst h2
   exact⟨_,by simp only[ZhG,e,Option.bind_some,Zqh hs h1,Option.map_some],.bool _⟩
 ·cases h
theorem Zey{H:Hp}{vs:List V}{ts:List T}{F:List Nat}(r:RFs H vs ts F): RF (H++[vs]) (.ref H.length) (.lst ts) (H.length::F):=.ref (by simp) (r.ext _)
theorem ZfC{H:Hp}{vs:List V}{ts:List T}{F:List Nat}(r:RFs H vs ts F)(h:T.flatIn (.lst ts)=true): (H.length::F).Nodup∧∀a∈H.length::F,H.length≤a:=by
 rw[r.flats (by simpa [T.flatIn]using h)]
 simp
theorem Zvp{H:Hp}{v:V}{t:T}{F:List Nat}(r:RF H v t F)(h:F=[]): F.Nodup∧∀a∈F,H.length≤a:=by subst h;simp
noncomputable def ZhJ(ts:List T): Nat→List T
 | 0=>[]
 | n+1=>ZhJ ts n++ts
noncomputable def Zad: T→T→Option T
 | .int a,.int b=>some (.int (a+b))
 | .lst a,.lst b=>if(a++b).length≤LEN then some (.lst (a++b))else none
 | .tup a,.tup b=>if(a++b).length≤LEN then some (.tup (a++b))else none
 | _,_=>none
noncomputable def ZaH: T→T→Option T
 | .int a,.int b=>if mulOk a b=true then some (.int (a*b))else none
 | .lst a,.int k=>if a.length*k.toNat≤LEN∧-(2 ^ 63:Int)≤k∧k<2 ^ 63 then some (.lst (ZhJ a k.toNat))else none
 | _,_=>none
theorem ZrF{H:Hp}{vs:List V}{ts:List T}{F:List Nat}(r:RFs H vs ts F): ∀n,∃G,RFs H (Zfe vs n) (ZhJ ts n) G∧∀a∈G,a∈F
 | 0=>⟨_,.nil,by simp⟩
 | n+1=>by
  obtain⟨G,h1,h2⟩:=ZrF r n
  exact⟨_,h1.append r,fun a m=>(Zz8.mp m).elim (h2 a) id⟩
theorem ZaL: OC2 Zax Zad:=fun H v1 v2 t1 t2 t F1 F2 r1 r2 h=>by
 cases r1 with
 | none=>cases h
 | bool=>cases h
 | str=>cases h
 | int a=>
  cases r2 <;> first | (cases h;done) | skip
  cases h;exact⟨_,[],[],by simp[Zax],.int _,by simp,by simp⟩
 | tup hs1=>
  cases r2 with
  | none=>cases h
  | bool=>cases h
  | str=>cases h
  | int=>cases h
  | ref=>cases h
  | tup hs2=>
   simp only[Zad]at h
   split at h
   ·rename_i hl
    cases h
    refine⟨_,[],_,?_,.tup (by simpa using hs1.append hs2),fun a m=>.inr (Zz8.mp m),fun hf=>Zvp (H:=H) (.tup (hs1.append hs2)) ((RF.tup (hs1.append hs2)).flat (by simpa [T.flatIn]using hf))⟩
    simp only[Zax,List.append_nil]
    rw[if_pos (by rw[List.length_append]at hl ⊢;rw[hs1.length,hs2.length];exact hl)]
   ·cases h
 | ref e1 hs1=>
  cases r2 with
  | none=>cases h
  | bool=>cases h
  | str=>cases h
  | int=>cases h
  | tup=>cases h
  | ref e2 hs2=>
   simp only[Zad]at h
   split at h
   ·rename_i hl
    cases h
    refine⟨_,_,_,?_,Zey (hs1.append hs2),fun a m=>?_,ZfC (hs1.append hs2)⟩
    ·simp only[Zax,e1,e2,Option.bind_some]
     rw[if_pos (by rw[List.length_append]at hl ⊢;rw[hs1.length,hs2.length];exact hl)]
    ·rcases Zz7.mp m with rfl | m
     ·exact .inl (Zz10 _)
     ·rcases Zz8.mp m with m | m
      ·exact .inr (.inl (Zz2 _ m))
      ·exact .inr (.inr (Zz2 _ m))
   ·cases h
theorem ZbY: OC2 Zbw ZaH:=fun H v1 v2 t1 t2 t F1 F2 r1 r2 h=>by
 cases r1 with
 | none=>cases h
 | bool=>cases h
 | str=>cases h
 | tup=>cases h
 | int a=>
  cases r2 <;> first | (cases h;done) | skip
  simp only[ZaH]at h
  split at h
  ·rename_i hm
   cases h;exact⟨_,[],[],by simp only[Zbw];rw[if_pos hm];simp,.int _,by simp,by simp⟩
  ·cases h
 | ref e1 hs1=>
  cases r2 with
  | none=>cases h
  | bool=>cases h
  | str=>cases h
  | tup=>cases h
  | ref=>cases h
  | int k=>
   simp only[ZaH]at h
   split at h
   ·rename_i hl
    cases h
    obtain⟨G,h1,h2⟩:=ZrF hs1 k.toNat
    refine⟨_,_,_,?_,Zey h1,fun a m=>?_,ZfC h1⟩
    ·simp only[Zbw,e1,Option.bind_some]
     rw[if_pos (by rw[hs1.length];exact hl)]
    ·rcases Zz7.mp m with rfl | m
     ·exact .inl (Zz10 _)
     ·exact .inr (.inl (Zz2 _ (h2 a m)))
   ·cases h
noncomputable def Zch: List T→Option T
 | [.lst ts]=>some (.lst ts)
 | [.tup ts]=>some (.lst ts)
 | _=>none
noncomputable def Zi4: List T→Option T
 | [.lst ts]=>some (.tup ts)
 | [.tup ts]=>some (.tup ts)
 | _=>none
theorem ZnH: OCn Zeq Zch:=fun H vs ts t F hp r h=>by
 unfold Zch at h
 split at h
 ·obtain⟨v,rfl,r'⟩:=r.one_inv
  cases r' with
  | ref e hs=>cases h;exact⟨_,_,_,by simp only[Zeq,e,Option.map_some],Zey hs,fun a m=>(Zz7.mp m).imp (fun q=>Nat.le_of_eq q.symm) (Zz2 _),ZfC hs⟩
 ·obtain⟨v,rfl,r'⟩:=r.one_inv
  cases r' with
  | tup hs=>cases h;exact⟨_,_,_,by simp only[Zeq],Zey hs,fun a m=>(Zz7.mp m).imp (fun q=>Nat.le_of_eq q.symm) id,ZfC hs⟩
 ·cases h
end
end TM
end
section
set_option autoImplicit false
namespace TM
open PySem PM
theorem St.from_src{c:Ctx}{O N:List Nat}{ρ:Lc}{σ:TL}{H:Hp}{Φ:Nat→List Nat}(s:St c O ρ σ H Φ){a:Nat}(f:From H N σ Φ a): c.H0.length≤a∨c.P a:=by
 rcases f with h | ⟨i,hi,⟨t,e⟩,m⟩
 ·exact .inl (Nat.le_trans s.len h)
 ·exact s.src i t e a m
theorem St.from_off{c:Ctx}{O N:List Nat}{ρ:Lc}{σ:TL}{H:Hp}{Φ:Nat→List Nat}(s:St c O ρ σ H Φ)(hN:∀i∈N,i∉O){a:Nat}(f:From H N σ Φ a){i:Nat}(hi:i∈O){t:T}(e:σ i=some t): a∉Φ i:=by
 intro m
 obtain⟨v,_,r⟩:=s.slot i t e
 have hl:=r.lt a m
 rcases f with h | ⟨j,hj,⟨t',e'⟩,m'⟩
 ·omega
 ·exact(s.own i hi t e).2.2 j t' (fun q=>hN j hj (q▸hi)) e' a m m'
noncomputable abbrev PPt:=TL→Option (Option Int)
noncomputable def Zhi: PPt:=fun _=>some none
noncomputable def Zhj(p:PE): PPt:=fun σ=>(p σ).bind fun t=>match t with
 | .int k=>some (some k)
 | _=>none
noncomputable def Pe(O:List Nat)(f:Pt)(p:PPt): Prop:=∀(c:Ctx) (ρ:Lc) (σ:TL) (H:Hp) (Φ:Nat→List Nat) (k:Option Int),St c O ρ σ H Φ→p σ=some k→∃o X,f ρ H=some (o,H++X)∧Zhx o=some k
section
variable {O N:List Nat} {u:Bool}
theorem Pe.none: Pe O PM.Zf7 Zhi:=fun c ρ σ H Φ k s h=>by
 cases h;exact⟨Option.none,[],by simp[PM.Zf7],rfl⟩
theorem Pe.some{e:Ex}{p:PE}(x:E O N u e p): Pe O (Zf8 e) (Zhj p):=fun c ρ σ H Φ k s h=>by
 obtain⟨t,h1,h⟩:=Zz0.mp h
 obtain⟨v,X,F,a1,a2,a3,a4⟩:=x c ρ σ H Φ t s h1
 cases a2 <;> first | (cases h;done) | skip
 rename_i k'
 cases h
 exact⟨Option.some (.int k'),X,by simp only[Zf8,a1,Option.map_some],rfl⟩
noncomputable def ZfZ(p:PE)(lo hi:PPt): PE:=fun σ=>(p σ).bind fun t=>(lo σ).bind fun a=>(hi σ).bind fun b=>match t with
 | .lst ts=>Option.some (.lst (ZbE ts a b))
 | _=>Option.none
theorem RFs.pick{H:Hp}{vs:List V}{ts:List T}{F:List Nat}(h:RFs H vs ts F)(l:List Nat): ∃G,RFs H (l.filterMap fun i=>vs[i]?) (l.filterMap fun i=>ts[i]?) G∧∀a∈G,a∈F:=by
 induction l with
 | nil=>exact⟨_,.nil,by simp⟩
 | cons i l ih=>
  obtain⟨G,h1,h2⟩:=ih
  simp only[List.filterMap_cons]
  have hl:=h.length
  cases e:ts[i]? with
  | none=>
   have:vs[i]?=none:=by rw[List.getElem?_eq_none_iff]at e ⊢;omega
   rw[this]
   exact⟨G,h1,h2⟩
  | some t=>
   obtain⟨x,G',hx,hr,hs⟩:=h.at e
   rw[hx]
   exact⟨_,.cons hr h1,fun a m=>(Zz8.mp m).elim (fun q=>hs.subset q) (h2 a)⟩
theorem Zt9{c:Ctx}{ρ:Lc}{σ:TL}{H:Hp}{Φ:Nat→List Nat}{t:T}{e:Ex}{p:PE}{lo hi:Pt}{plo phi:PPt}(x:E O N u e p)(y:Pe O lo plo)(z:Pe O hi phi)(s:St c O ρ σ H Φ)(h:ZfZ p plo phi σ=Option.some t):
  ∃v X F,Zeo e lo hi ρ H=Option.some (v,H++X)∧RF (H++X) v t F∧(∀a∈F,From H N σ Φ a)∧(t.flatIn=true→F.Nodup∧∀a∈F,H.length≤a):=by
 obtain⟨t1,h1,h⟩:=Zz0.mp h
 obtain⟨a,h2,h⟩:=Zz0.mp h
 obtain⟨b,h3,h⟩:=Zz0.mp h
 obtain⟨v,X,F,a1,a2,a3,a4⟩:=x c ρ σ H Φ t1 s h1
 obtain⟨o1,Y,b1,b2⟩:=y c ρ σ (H++X) Φ a (s.ext X) h2
 obtain⟨o2,Z,c1,c2⟩:=z c ρ σ (H++X++Y) Φ b ((s.ext X).ext Y) h3
 cases a2 with
 | none=>cases h
 | bool=>cases h
 | int=>cases h
 | str=>cases h
 | tup=>cases h
 | @ref i vs ts F e1 hs=>
 cases h
 have e3:((H++X)++(Y++Z))[i]?=Option.some vs:=by rw[List.getElem?_append_left (Zz6.mp e1).1];exact e1
 have hs':=hs.ext (Y++Z)
 have hlen:=hs.length
 obtain⟨G,g1,g2⟩:=hs'.pick (sliceRange (sliceBounds a b none vs.length).1 (sliceBounds a b none vs.length).2.1 (sliceBounds a b none vs.length).2.2)
 have g1':RFs (H++X++(Y++Z)) (ZbE vs a b) (ZbE ts a b) G:=by unfold ZbE;rw[←hlen];exact g1
 refine⟨.ref (H++X++(Y++Z)).length,X++(Y++Z)++[ZbE vs a b],(H++X++(Y++Z)).length::G,?_,?_,fun q m=>?_,fun hf=>?_⟩
 ·simp only[Zeo,a1,Option.bind_some,b1,c1,b2,c2]
  rw[List.append_assoc (H++X),e3]
  simp
 ·have:=Zey g1'
  simpa using this
 ·rcases Zz7.mp m with rfl | m
  ·exact .inl (by simp)
  ·exact a3 q (Zz2 _ (g2 q m))
 ·have:=ZfC g1' hf
  exact⟨this.1,fun q m=>by have:=this.2 q m;simp at this;omega⟩
theorem Zwq{e:Ex}{p:PE}{lo hi:Pt}{plo phi:PPt}(x:E O N u e p)(y:Pe O lo plo)(z:Pe O hi phi): E O N false (Zeo e lo hi) (ZfZ p plo phi):=fun c ρ σ H Φ t s h=>by
 obtain⟨v,X,F,a1,a2,a3,a4⟩:=Zt9 x y z s h
 exact⟨v,X,F,a1,a2,a3,by simp⟩
noncomputable def Zds(p:PE)(k:Nat): PE:=fun σ=>(p σ).bind fun t=>match t with
 | .lst ts=>Option.some (.lst (ts.drop k))
 | .tup ts=>if 1≤k∧k≤ts.length then Option.some (.tup (ts.drop k))else Option.none
 | _=>Option.none
theorem ZuO{c:Ctx}{ρ:Lc}{σ:TL}{H:Hp}{Φ:Nat→List Nat}{t:T}{e:Ex}{p:PE}{k:Nat}(x:E O N u e p)(s:St c O ρ σ H Φ)(h:Zds p k σ=Option.some t):
  ∃v X F,Zd3 e k ρ H=Option.some (v,H++X)∧RF (H++X) v t F∧(∀a∈F,From H N σ Φ a)∧(t.flatIn=true→F.Nodup∧∀a∈F,H.length≤a):=by
 obtain⟨t1,h1,h⟩:=Zz0.mp h
 obtain⟨v,X,F,a1,a2,a3,a4⟩:=x c ρ σ H Φ t1 s h1
 cases a2 with
 | none=>cases h
 | bool=>cases h
 | int=>cases h
 | str=>cases h
 | tup hs=>
  simp only at h
  split at h
  ·rename_i hc
   cases h
   obtain⟨G,g1,g2⟩:=hs.drop k
   refine⟨_,X,G,?_,.tup g1,fun a m=>a3 a (g2.subset m),fun hf=>?_⟩
   ·simp only[Zd3,a1,Option.bind_some]
    rw[if_pos (by rw[hs.length];exact hc)]
   ·rw[g1.flats (by simpa [T.flatIn,T.flat]using hf)]
    simp
  ·cases h
 | @ref b vs1 ts1 F1 e1 hs=>
  cases h
  obtain⟨G,g1,g2⟩:=hs.drop k
  refine⟨.ref (H++X).length,X++[vs1.drop k],(H++X).length::G,?_,?_,fun a m=>?_,fun hf=>?_⟩
  ·simp only[Zd3,a1,Option.bind_some,e1,List.append_assoc]
  ·rw[←List.append_assoc];exact Zey g1
  ·rcases Zz7.mp m with rfl | m
   ·exact .inl (by simp)
   ·exact a3 a (Zz2 _ (g2.subset m))
  ·have:=ZfC g1 hf
   exact⟨this.1,fun q m=>by have:=this.2 q m;simp at this;omega⟩
theorem Zjo{e:Ex}{p:PE}{k:Nat}(x:E O N u e p): E O N false (Zd3 e k) (Zds p k):=fun c ρ σ H Φ t s h=>by
 obtain⟨v,X,F,a1,a2,a3,a4⟩:=ZuO x s h
 exact⟨v,X,F,a1,a2,a3,by simp⟩
end
noncomputable def Gs(O N:List Nat)(g:Src)(q:PG): Prop:=∀(c:Ctx) (ρ:Lc) (σ:TL) (H:Hp) (Φ:Nat→List Nat) (ts:List T),St c O ρ σ H Φ→q σ=some ts →
 ∃(nx:Nx) (X:Hp) (vs:List V) (F G:List Nat),g ρ H=some (nx,ts.length+1,H++X)∧RFs (H++X) vs ts F∧(∀a∈F,a∈G)∧(∀a∈G,a<(H++X).length∧From H N σ Φ a)∧∀K:Hp,(∀a∈G,K[a]?=(H++X)[a]?)→∀i,i≤vs.length→nx i K=some vs[i]?
section
variable {O N M:List Nat} {u u':Bool}
noncomputable def ZaD(p:PE): PG:=fun σ=>(p σ).bind fun t=>match t with
 | .lst ts=>some ts
 | .tup ts=>some ts
 | _=>none
theorem Gs.seq{e:Ex}{p:PE}(x:E O N u e p): Gs O N (ZcR e) (ZaD p):=fun c ρ σ H Φ ts s h=>by
 obtain⟨t1,h1,h⟩:=Zz0.mp h
 obtain⟨v,X,F,a1,a2,a3,a4⟩:=x c ρ σ H Φ t1 s h1
 have hlt:=a2.lt
 cases a2 with
 | none=>cases h
 | bool=>cases h
 | int=>cases h
 | str=>cases h
 | @tup vs _ _ hs=>
  cases h
  exact⟨ZrC vs,X,vs,F,F,by simp only[ZcR,a1,Option.bind_some,hs.length],hs,fun _ m=>m,fun a m=>⟨hlt a m,a3 a m⟩,fun K _ i hi=>rfl⟩
 | @ref b vs _ F' e1 hs=>
  cases h
  refine⟨Zob b,X,vs,F',b::F',by simp only[ZcR,a1,Option.bind_some,e1,Option.map_some,hs.length],hs,fun _ m=>List.mem_cons_of_mem _ m,fun a m=>⟨hlt a m,a3 a m⟩,fun K hK i hi=>?_⟩
  simp only[Zob,hK b Zz5,e1,Option.map_some]
noncomputable def Zcn(a b c:Int): Option (List T):=if c≠0∧Builtin.Range.small a b c=true∧0≤Builtin.Range.rangeSize a b c∧rngN a b c≤LEN∧Builtin.divisionGoesByPylong (b-a) c=false then some ((List.range (rngN a b c)).map fun(i:Nat)=>.int (a+(i:Int)*c))else none
noncomputable def Zaw(p:PEs): PG:=fun σ=>(p σ).bind fun ts=>match ts with
 | [.int b]=>Zcn 0 b 1
 | [.int a,.int b]=>Zcn a b 1
 | [.int a,.int b,.int c]=>Zcn a b c
 | _=>none
theorem Zqi(H:Hp)(a c:Int): ∀(l:List Nat),RFs H (l.map fun(i:Nat)=>.int (a+(i:Int)*c)) (l.map fun(i:Nat)=>.int (a+(i:Int)*c)) []
 | []=>.nil
 | i::l=>by have:=RFs.cons (RF.int (H:=H) (a+i*c)) (Zqi H a c l);exact this
theorem Znm{a b c:Int}{H:Hp}{ts:List T}(h:Zcn a b c=some ts): ∃(nx:Nx) (vs:List V),Zcs a b c H=some (nx,ts.length+1,H)∧RFs H vs ts []∧∀K:Hp,∀i,i≤vs.length→nx i K=some vs[i]?:=by
 unfold Zcn at h
 split at h
 ·rename_i hc
  cases h
  refine⟨ZfP a c (rngN a b c),(List.range (rngN a b c)).map fun(i:Nat)=>.int (a+(i:Int)*c),?_,Zqi H a c _,fun K i hi=>?_⟩
  ·unfold Zcs
   rw[if_pos hc]
   simp
  ·simp only[ZfP,List.getElem?_map]
   by_cases q:i<rngN a b c
   ·rw[if_pos q,List.getElem?_range q];rfl
   ·rw[if_neg q,List.getElem?_eq_none (by simpa using Nat.le_of_not_lt q)];rfl
 ·cases h
theorem RFs.three_inv{H:Hp}{vs:List V}{t t' t'':T}{F:List Nat}(r:RFs H vs [t,t',t''] F): ∃v v' v'' F1 F2 F3,vs=[v,v',v'']∧RF H v t F1∧RF H v' t' F2∧RF H v'' t'' F3:=by
 cases r with
 | cons a b=>obtain⟨v',v'',F2,F3,h1,h2,h3,_⟩:=b.two_inv;subst h1;exact⟨_,_,_,_,_,_,rfl,a,h2,h3⟩
theorem Gs.range{n:Nat}{e:Exs}{p:PEs}(x:Es O N u n e p): Gs O [] (Zbc e) (Zaw p):=fun c ρ σ H Φ ts s h=>by
 obtain⟨t1,h1,h⟩:=Zz0.mp h
 obtain⟨_,vs,X,F,a1,a2,a3,a4⟩:=x c ρ σ H Φ t1 s h1
 split at h
 ·obtain⟨v,rfl,r⟩:=a2.one_inv
  cases r
  obtain⟨nx,us,q1,q2,q3⟩:=Znm (H:=H++X) h
  exact⟨nx,X,us,[],[],by simp only[Zbc,a1,Option.bind_some,q1],q2,by simp,by simp,fun K _=>q3 K⟩
 ·obtain⟨v,v',F1,F2,rfl,r,r',_⟩:=a2.two_inv
  cases r;cases r'
  obtain⟨nx,us,q1,q2,q3⟩:=Znm (H:=H++X) h
  exact⟨nx,X,us,[],[],by simp only[Zbc,a1,Option.bind_some,q1],q2,by simp,by simp,fun K _=>q3 K⟩
 ·obtain⟨v,v',v'',F1,F2,F3,rfl,r,r',r''⟩:=a2.three_inv
  cases r;cases r';cases r''
  obtain⟨nx,us,q1,q2,q3⟩:=Znm (H:=H++X) h
  exact⟨nx,X,us,[],[],by simp only[Zbc,a1,Option.bind_some,q1],q2,by simp,by simp,fun K _=>q3 K⟩
 ·cases h
noncomputable def Zd9(p q:PE): PG:=fun σ=>(p σ).bind fun t=>(q σ).bind fun s=>match t,s with
 | .lst ts,.lst ss=>some (List.zipWith (fun x y=>.tup [x,y]) ts ss)
 | _,_=>none
theorem RFs.zip{H:Hp}: ∀{vs us:List V} {ts ss:List T} {F G:List Nat},RFs H vs ts F→RFs H us ss G→∃D,RFs H (List.zipWith (fun x y=>.tup [x,y]) vs us) (List.zipWith (fun x y=>.tup [x,y]) ts ss) D∧∀a∈D,a∈F∨a∈G
 | _,_,_,_,_,_,.nil,_=>⟨_,.nil,by simp⟩
 | _,_,_,_,_,_,.cons _ _,.nil=>⟨_,.nil,by simp⟩
 | _,_,_,_,_,_,.cons a b,.cons a' b'=>by
  obtain⟨D,h1,h2⟩:=b.zip b'
  refine⟨_,.cons (.tup (.cons a (.one a'))) h1,fun x m=>?_⟩
  rcases Zz8.mp m with m | m
  ·rcases Zz8.mp m with m | m
   ·exact .inl (Zz4 _ m)
   ·exact .inr (Zz4 _ m)
  ·exact(h2 x m).imp (Zz3 _) (Zz3 _)
theorem Gs.zip{e1 e2:Ex}{p1 p2:PE}(x:E O N u e1 p1)(y:E O M u' e2 p2): Gs O (N++M) (Zd5 e1 e2) (Zd9 p1 p2):=fun c ρ σ H Φ ts s h=>by
 obtain⟨t1,h1,h⟩:=Zz0.mp h
 obtain⟨t2,h2,h⟩:=Zz0.mp h
 obtain⟨v,X,F,a1,a2,a3,a4⟩:=x c ρ σ H Φ t1 s h1
 obtain⟨w,Y,G,b1,b2,b3,b4⟩:=y c ρ σ (H++X) Φ t2 (s.ext X) h2
 have a2:=a2.ext Y
 have l1:=a2.lt
 have l2:=b2.lt
 rw[List.append_assoc]at a2 b2 l1 l2 b1
 cases a2 with
 | none=>cases h
 | bool=>cases h
 | int=>cases h
 | str=>cases h
 | tup=>cases b2 <;> cases h
 | @ref a vs _ F' e1 hs=>
  cases b2 with
  | none=>cases h
  | bool=>cases h
  | int=>cases h
  | str=>cases h
  | tup=>cases h
  | @ref b us _ G' e2 hs2=>
   cases h
   obtain⟨D,d1,d2⟩:=hs.zip hs2
   refine⟨Zhy a b,X++Y,_,D,a::b::D,?_,d1,fun q m=>List.mem_cons_of_mem _ (Zz2 _ m),fun q m=>?_,fun K hK i hi=>?_⟩
   ·simp only[Zd5,a1,Option.bind_some,b1,e1,e2,Option.map_some,List.length_zipWith,hs.length,hs2.length]
   ·rcases Zz7.mp m with rfl | m
    ·exact⟨l1 _ Zz5,(a3 _ Zz5).mono fun i hi=>List.mem_append_left _ hi⟩
    ·rcases Zz7.mp m with rfl | m
     ·exact⟨l2 _ Zz5,(b3 _ Zz5).back.mono fun i hi=>List.mem_append_right _ hi⟩
     ·rcases d2 q m with m | m
      ·exact⟨l1 _ (Zz2 _ m),(a3 _ (Zz2 _ m)).mono fun i hi=>List.mem_append_left _ hi⟩
      ·exact⟨l2 _ (Zz2 _ m),(b3 _ (Zz2 _ m)).back.mono fun i hi=>List.mem_append_right _ hi⟩
   ·simp only[Zhy,hK a Zz5,hK b (Zz2 _ Zz5),e1,e2,Option.bind_some,List.getElem?_zipWith]
    rw[List.length_zipWith]at hi
    by_cases q:i<min vs.length us.length
    ·rw[List.getElem?_eq_getElem (show i<vs.length by omega),List.getElem?_eq_getElem (show i<us.length by omega)]
    ·have q':i=min vs.length us.length:=by omega
     by_cases q2:i<vs.length
     ·rw[List.getElem?_eq_getElem q2,List.getElem?_eq_none (show us.length≤i by omega)]
      simp[q']
     ·rw[List.getElem?_eq_none (show vs.length≤i by omega)]
      simp[q']
end
noncomputable def PutOk(O J:List Nat)(put:V→Lc→Option Lc)(q:T→TL→Option TL): Prop:=∀(c:Ctx) (ρ:Lc) (σ:TL) (H:Hp) (Φ:Nat→List Nat) (v:V) (t:T) (F:List Nat) (σ1:TL),St c O ρ σ H Φ→RF H v t F→(∀a∈F,c.H0.length≤a∨c.P a)→(∀i∈O,∀t',σ i=some t'→∀a∈Φ i,a∉F)→q t σ=some σ1 →
 ∃ρ1 Φ1,put v ρ=some ρ1∧St c O ρ1 σ1 H Φ1∧(∀i,i∉J→σ1 i=σ i∧Φ1 i=Φ i)∧∀i∈J,∀a∈Φ1 i,a∈F
noncomputable def Zao(Φ:Nat→List Nat)(j:Nat)(F:List Nat): Nat→List Nat:=fun i=>if i=j then F else Φ i
theorem St.put{c:Ctx}{O:List Nat}{ρ:Lc}{σ:TL}{H:Hp}{Φ:Nat→List Nat}{v:V}{t:T}{F:List Nat}{j:Nat}(s:St c O ρ σ H Φ)(hj:j∉O)(r:RF H v t F)(hs:∀a∈F,c.H0.length≤a∨c.P a)(ho:∀i∈O,∀t',σ i=some t'→∀a∈Φ i,a∉F): St c O (upd ρ j v) (Z1 σ j t) H (Zao Φ j F):=by
 refine⟨fun i u e=>?_,fun i u e=>?_,fun i hi u e=>?_,s.len,s.keep,s.pos,s.f0⟩
 ·by_cases q:i=j
  ·subst q
   simp[Z1]at e
   subst e
   exact⟨v,by simp[upd],by simpa [Zao]using r⟩
  ·simp[Z1,q]at e
   simpa [upd,Zao,q]using s.slot i u e
 ·by_cases q:i=j
  ·subst q;simpa [Zao]using hs
  ·simp[Z1,q]at e
   simpa [Zao,q]using s.src i u e
 ·have q:i≠j:=fun q=>hj (q▸hi)
  simp[Z1,q]at e
  obtain⟨h1,h2,h3⟩:=s.own i hi u e
  refine⟨by simpa [Zao,q]using h1,by simpa [Zao,q]using h2,fun k w hk ek=>?_⟩
  by_cases q2:k=j
  ·subst q2
   simpa [Zao,q]using ho i hi u e
  ·simp[Z1,q2]at ek
   simpa [Zao,q,q2]using h3 k w hk ek
noncomputable def Z2(j:Nat): T→TL→Option TL:=fun t σ=>some (Z1 σ j t)
noncomputable def Zc0(i j:Nat): T→TL→Option TL
 | .tup [a,b],σ=>some (Z1 (Z1 σ i a) j b)
 | _,_=>none
theorem PutOk.one{O:List Nat}{j:Nat}(hj:j∉O:=by decide): PutOk O [j] (put1 j) (Z2 j):=fun c ρ σ H Φ v t F σ1 s r hs ho h=>by
 cases h
 refine⟨_,_,rfl,s.put hj r hs ho,fun i hi=>?_,fun i hi a m=>?_⟩
 ·have:i≠j:=fun q=>hi (by simp[q])
  simp[Z1,Zao,this]
 ·simp at hi;subst hi;simpa [Zao]using m
theorem PutOk.two{O:List Nat}{i j:Nat}(hi:i∉O:=by decide)(hj:j∉O:=by decide)(hij:i≠j:=by decide): PutOk O [i,j] (Zcl i j) (Zc0 i j):=fun c ρ σ H Φ v t F σ1 s r hs ho h=>by
 unfold Zc0 at h
 split at h
 ·cases h
  cases r with
  | tup hh=>
   obtain⟨v1,v2,F1,F2,rfl,r1,r2,rfl⟩:=hh.two_inv
   have s1:=s.put hi r1 (fun a m=>hs a (Zz4 _ m)) (fun k hk t' e a m q=>ho k hk t' e a m (Zz4 _ q))
   have s2:=s1.put hj r2 (fun a m=>hs a (Zz3 _ m)) (fun k hk t' e a m q=>by
    have:k≠i:=fun q=>hi (q▸hk)
    simp[Z1,Zao,this]at e m
    exact ho k hk t' e a m (Zz3 _ q))
   refine⟨_,_,rfl,s2,fun k hk=>?_,fun k hk a m=>?_⟩
   ·simp at hk
    simp[Z1,Zao,hk.1,hk.2]
   ·simp at hk
    rcases hk with rfl | rfl
    ·simp[Zao,hij]at m
     exact Zz4 _ m
    ·simp[Zao]at m
     exact Zz3 _ m
 ·cases h
noncomputable def Zcj(put:T→TL→Option TL)(c:PB)(f:PE)(σ:TL): List T→Option (List T)
 | []=>some []
 | t::ts=>(put t σ).bind fun σ1=>(c σ1).bind fun b=>if b then(f σ1).bind fun x=>(Zcj put c f σ ts).map fun xs=>x::xs else Zcj put c f σ ts
noncomputable def Zan(g:PG)(put:T→TL→Option TL)(c:PB)(f:PE): PE:=fun σ=>(g σ).bind fun ts=>if ts.length≤LEN then(Zcj put c f σ ts).map .lst else none
section
variable {O Ns Ne J:List Nat} {u:Bool}
theorem comp_core{put:V→Lc→Option Lc}{pput:T→TL→Option TL}{tc:Ts}{pc:PB}{f:Ex}{pf:PE}(hj:PutOk O J put pput)(hN:∀i∈Ns,i∉O)(hc:Bt O tc pc)(hf:E O Ne u f pf)(hu:u=true→Ne=[])
  {c:Ctx} {ρ:Lc} {σ:TL} {Φ:Nat→List Nat} {H0 H1:Hp} {nx:Nx} {vs:List V} {G:List Nat} (h0:H0.length≤H1.length)
  (hG:∀a∈G,a<H1.length∧From H0 Ns σ Φ a) (hoff:∀a∈G,∀i∈O,∀t,σ i=some t→a∉Φ i) (hsrc:∀a∈G,c.H0.length≤a∨c.P a) (hnx:∀K:Hp,(∀a∈G,K[a]?=H1[a]?)→∀i,i≤vs.length→nx i K=some vs[i]?):
  ∀(rs:List T) (ws:List V) (i:Nat) (acc:List V) (K:Hp) (Fr:List Nat) (out:List T),(∀j,vs[i+j]?=ws[j]?)→i+ws.length=vs.length→St c O ρ σ K Φ→H1.length≤K.length→(∀a∈G,K[a]?=H1[a]?)→RFs K ws rs Fr→(∀a∈Fr,a∈G)→acc.length+rs.length≤LEN→Zcj pput pc pf σ rs=some out →
   ∃xs X F,ZcZ nx put tc f ρ (rs.length+1) i acc K=some (acc++xs,K++X)∧RFs (K++X) xs out F∧(∀a∈F,(u=true→K.length≤a)∧From H0 (Ns++Ne) σ Φ a)∧(u=true→F.Nodup)
 | [],ws,i,acc,K,Fr,out,hat,hlen,s,hl,hk,r,hfr,hacc,h=>by
  cases r
  cases h
  have e:=hnx K hk i (by simp at hlen;omega)
  have e2:vs[i]?=none:=by have:=hat 0;simpa using this
  refine⟨[],[],[],?_,.nil,by simp,by simp⟩
  simp[ZcZ,e,e2]
 | t::rs,ws0,i,acc,K,Fr0,out,hat,hlen,s,hl,hk,r,hfr,hacc,h=>by
  cases r with
  | @cons v _ F1 ws _ F2 a b=>
  simp only[List.length_cons]at hlen hacc
  obtain⟨σ1,h1,h⟩:=Zz0.mp h
  obtain⟨bb,h2,h⟩:=Zz0.mp h
  have e:=hnx K hk i (by omega)
  have e2:vs[i]?=some v:=by have:=hat 0;simpa using this
  have hat':∀j,vs[i+1+j]?=ws[j]?:=fun j=>by have:=hat (j+1);rw[show i+1+j=i+(j+1)by omega,this];simp
  obtain⟨ρ1,Φ1,p1,s1,p3,p4⟩:=hj c ρ σ K Φ v t F1 σ1 s a (fun x m=>hsrc x (hfr x (Zz4 _ m))) (fun k hk t' e x m q=>hoff x (hfr x (Zz4 _ q)) k hk t' e m) h1
  obtain⟨X1,c1⟩:=hc c ρ1 σ1 K Φ1 bb s1 h2
  cases bb with
  | true=>
   obtain⟨y,h3,h⟩:=Zz0.mp h
   obtain⟨ys,h4,h⟩:=Zz1.mp h
   subst h
   obtain⟨w,X2,Fw,d1,d2,d3,d4⟩:=hf c ρ1 σ1 (K++X1) Φ1 y (s1.ext X1) h3
   have hext:∀a∈G,(K++X1++X2)[a]?=H1[a]?:=fun a m=>by
    have:=(hG a m).1
    rw[List.append_assoc,List.getElem?_append_left (by omega)];exact hk a m
   obtain⟨xs,X3,F3,f1,f2,f3,f4⟩:=comp_core hj hN hc hf hu h0 hG hoff hsrc hnx rs ws (i+1) (acc++[w]) (K++X1++X2) F2 ys hat' (by omega) ((s.ext X1).ext X2) (by simp;omega) hext (by rw[List.append_assoc];exact b.ext _) (fun x m=>hfr x (Zz3 _ m)) (by simp;omega) h4
   refine⟨w::xs,X1++X2++X3,Fw++F3,?_,?_,fun x m=>?_,fun hu'=>?_⟩
   ·rw[List.length_cons,ZcZ,e,e2]
    simp only[Option.bind_some,p1,c1,d1,if_true]
    rw[if_pos (by omega)]
    simpa using f1
   ·have:=RFs.cons (d2.ext X3) f2
    simpa using this
   ·rcases Zz8.mp m with m | m
    ·refine⟨fun hu'=>?_,?_⟩
     ·have hne:=hu hu'
      subst hne
      have:=(d3 x m).nil
      simp at this;omega
     ·rcases d3 x m with q | ⟨k,hk1,⟨tk,ek⟩,mk⟩
      ·exact .inl (by simp at q;omega)
      ·by_cases hkJ:k∈J
       ·exact(hG x (hfr x (Zz4 _ (p4 k hkJ x mk)))).2.mono fun i hi=>List.mem_append_left _ hi
       ·obtain⟨q1,q2⟩:=p3 k hkJ
        exact .inr ⟨k,List.mem_append_right _ hk1,⟨tk,q1▸ek⟩,q2▸mk⟩
    ·obtain⟨g1,g2⟩:=f3 x m
     exact⟨fun hu'=>by have:=g1 hu';simp at this;omega,g2⟩
   ·rw[List.nodup_append]
    refine⟨d4 hu',f4 hu',fun x hx y hy e=>?_⟩
    have l1:=d2.lt x hx
    have l2:=(f3 y hy).1 hu'
    omega
  | false=>
   have hext:∀a∈G,(K++X1)[a]?=H1[a]?:=fun a m=>by
    have:=(hG a m).1
    rw[List.getElem?_append_left (by omega)];exact hk a m
   obtain⟨xs,X3,F3,f1,f2,f3,f4⟩:=comp_core hj hN hc hf hu h0 hG hoff hsrc hnx rs ws (i+1) acc (K++X1) F2 out hat' (by omega) (s.ext X1) (by simp;omega) hext (b.ext _) (fun x m=>hfr x (Zz3 _ m)) (by omega) (by simpa using h)
   refine⟨xs,X1++X3,F3,?_,by simpa using f2,fun x m=>?_,f4⟩
   ·rw[List.length_cons,ZcZ,e,e2]
    simp only[Option.bind_some,p1,c1]
    simpa using f1
   ·obtain⟨g1,g2⟩:=f3 x m
    exact⟨fun hu'=>by have:=g1 hu';simp at this;omega,g2⟩
theorem ZrG{g:Src}{q:PG}{put:V→Lc→Option Lc}{pput:T→TL→Option TL}{tc:Ts}{pc:PB}{f:Ex}{pf:PE}(hg:Gs O Ns g q)(hj:PutOk O J put pput)(hN:∀i∈Ns,i∉O)(hc:Bt O tc pc)(hf:E O Ne u f pf)(hu:u=true→Ne=[]): E O (if u then []else Ns++Ne) u (Za4 g put tc f) (Zan q pput pc pf):=fun c ρ σ H Φ t s h=>by
 obtain⟨ts,h1,h⟩:=Zz0.mp h
 split at h
 ·rename_i hl
  obtain⟨out,h2,h⟩:=Zz1.mp h
  subst h
  obtain⟨nx,X,vs,F,G,g1,g2,g3,g4,g5⟩:=hg c ρ σ H Φ ts s h1
  obtain⟨xs,Y,F',d1,d2,d3,d4⟩:=comp_core hj hN hc hf hu (H0:=H) (H1:=H++X) (by simp) g4 (fun a m i hi t e=>s.from_off hN (g4 a m).2 hi e) (fun a m=>s.from_src (g4 a m).2) g5 ts vs 0 [] (H++X) F out (by simp) (by simp) (s.ext X) (Zz10 _) (fun _ _=>rfl) g2 g3 (by simpa using hl) h2
  refine⟨.ref (H++X++Y).length,X++Y++[xs],(H++X++Y).length::F',?_,?_,fun a m=>?_,fun hu'=>?_⟩
  ·simp only[Za4,g1,Option.bind_some,d1,Option.map_some,List.nil_append,List.append_assoc]
  ·have:=Zey d2
   simpa using this
  ·rcases Zz7.mp m with rfl | m
   ·exact .inl (by simp)
   ·obtain⟨q1,q2⟩:=d3 a m
    cases u with
    | true=>exact .inl (by have:=q1 rfl;simp at this;omega)
    | false=>exact q2
  ·rw[List.nodup_cons]
   exact⟨fun m=>Nat.lt_irrefl _ (d2.lt _ m),d4 hu'⟩
 ·cases h
end
end TM
end
section
set_option autoImplicit false
namespace TM
open PySem PM
noncomputable abbrev PS:=TL→Option (Option T×TL)
noncomputable def ZcP(σ:TL)(N:List Nat): TL:=fun j=>if j∈N then none else σ j
noncomputable def Zc3(O:List Nat)(σ:TL)(Φ:Nat→List Nat)(a:Nat): Prop:=∃j∈O,(∃t,σ j=some t)∧a∈Φ j
noncomputable def Aft(c:Ctx)(O O' R:List Nat)(fr:Bool)(σ:TL)(H:Hp)(Φ:Nat→List Nat)(g:Option (Option V×Lc×Hp))(r:Option T×TL): Prop:=
 ∃ρ' H' Φ',H.length≤H'.length∧(∀a,a<H.length→¬Zc3 O σ Φ a→H'[a]?=H[a]?) ∧
  ((r.1=none∧g=some (none,ρ',H')∧St c O' ρ' r.2 H' Φ'∧∀a,Zc3 O' r.2 Φ' a→H.length≤a∨Zc3 O σ Φ a) ∨
  ∃t v F,r.1=some t∧g=some (some v,ρ',H')∧RF H' v t F∧St c R ρ' r.2 H' Φ'∧(∀a∈F,c.H0.length≤a∨c.P a)∧(fr=true→F.Nodup∧∀a∈F,c.H0.length≤a∨a∈c.F0))
noncomputable def S(O O' R:List Nat)(fr:Bool)(g:Sm)(q:PS): Prop:=∀(c:Ctx) (ρ:Lc) (σ:TL) (H:Hp) (Φ:Nat→List Nat) (r:Option T×TL),St c O ρ σ H Φ→q σ=some r→Aft c O O' R fr σ H Φ (g ρ H) r
section
variable {O O' R:List Nat} {fr:Bool}
noncomputable def ZN: PS:=fun σ=>some (none,σ)
theorem Z8: S O O R fr ZZ ZN:=fun c ρ σ H Φ r s e=>by
 cases e
 exact⟨ρ,H,Φ,Nat.le_refl _,fun _ _ _=>rfl,.inl ⟨rfl,rfl,s,fun a m=>.inr m⟩⟩
noncomputable def Zr(a b:PS): PS:=fun σ=>(a σ).bind fun r=>match r.1 with
 | some _=>some r
 | none=>b r.2
theorem ZH{O1:List Nat}{a b:Sm}{p q:PS}(x:S O O1 R fr a p)(y:S O1 O' R fr b q): S O O' R fr (ZB a b) (Zr p q):=fun c ρ σ H Φ r s e=>by
 obtain⟨r1,e1,e⟩:=Zz0.mp e
 obtain⟨ρ1,H1,Φ1,h1,h2,h3⟩:=x c ρ σ H Φ r1 s e1
 rcases h3 with⟨k1,k2,k3,k4⟩ | ⟨t,v,F,k1,k2,k3⟩
 ·rw[k1]at e
  obtain⟨ρ2,H2,Φ2,g1,g2,g3⟩:=y c ρ1 r1.2 H1 Φ1 r k3 e
  refine⟨ρ2,H2,Φ2,Nat.le_trans h1 g1,fun a ha hn=>?_,?_⟩
  ·rw[g2 a (by omega) fun q=>(k4 a q).elim (fun q=>by omega) hn,h2 a ha hn]
  ·have eg:ZB a b ρ H=b ρ1 H1:=by simp only[ZB,k2,Option.bind_some]
   rw[eg]
   rcases g3 with⟨l1,l2,l3,l4⟩ | l
   ·refine .inl ⟨l1,l2,l3,fun a m=>?_⟩
    rcases l4 a m with q | q
    ·exact .inl (by omega)
    ·exact k4 a q
   ·exact .inr l
 ·rw[k1]at e
  cases e
  exact⟨ρ1,H1,Φ1,h1,h2,.inr ⟨t,v,F,k1,by simp only[ZB,k2,Option.bind_some],k3⟩⟩
noncomputable def Zx(p:PE): PS:=fun σ=>(p σ).map fun t=>(some t,σ)
theorem ZV{N:List Nat}{u:Bool}{e:Ex}{p:PE}(x:E O N u e p)(hR:∀i∈R,i∈O:=by decide): S O O' R false (ZI e) (Zx p):=fun c ρ σ H Φ r s q=>by
 obtain⟨t,h1,h⟩:=Zz1.mp q
 subst h
 obtain⟨v,X,F,a1,a2,a3,a4⟩:=x c ρ σ H Φ t s h1
 refine⟨ρ,H++X,Φ,by simp,fun a ha _=>List.getElem?_append_left ha,.inr ⟨t,v,F,rfl,by simp only[ZI,a1,Option.map_some],a2,(s.ext X).less hR,fun a m=>s.from_src (a3 a m),by simp⟩⟩
theorem Za8{N:List Nat}{e:Ex}{p:PE}(x:E O N true e p)(hN:∀i∈N,i∈O:=by decide)(hR:∀i∈R,i∈O:=by decide): S O O' R fr (ZI e) (Zx p):=fun c ρ σ H Φ r s q=>by
 obtain⟨t,h1,h⟩:=Zz1.mp q
 subst h
 obtain⟨v,X,F,a1,a2,a3,a4⟩:=x c ρ σ H Φ t s h1
 refine⟨ρ,H++X,Φ,by simp,fun a ha _=>List.getElem?_append_left ha,.inr ⟨t,v,F,rfl,by simp only[ZI,a1,Option.map_some],a2,(s.ext X).less hR,fun a m=>s.from_src (a3 a m),fun _=>⟨a4 rfl,fun a m=>?_⟩⟩⟩
 rcases a3 a m with q | ⟨i,hi,⟨t',e'⟩,m'⟩
 ·exact .inl (Nat.le_trans s.len q)
 ·exact(s.own i (hN i hi) t' e').2.1 a m'
noncomputable def ZJ(i:Nat)(p:PE): PS:=fun σ=>(p σ).map fun t=>(none,Z1 σ i t)
theorem Zag{N:List Nat}{u:Bool}{i:Nat}{e:Ex}{p:PE}(x:E O N u e p)(hi:i∉O':=by decide)(hN:∀j∈N,j∉O':=by decide)(hO:∀j∈O',j∈O:=by decide): S O O' R fr (Z3 i e) (ZJ i p):=fun c ρ σ H Φ r s q=>by
 obtain⟨t,h1,h⟩:=Zz1.mp q
 subst h
 obtain⟨v,X,F,a1,a2,a3,a4⟩:=x c ρ σ H Φ t s h1
 have s':=s.less hO
 refine⟨upd ρ i v,H++X,Zao Φ i F,by simp,fun a ha _=>List.getElem?_append_left ha,.inl ⟨rfl,by simp only[Z3,a1,Option.map_some],(s'.ext X).put hi a2 (fun a m=>s.from_src (a3 a m)) (fun k hk t' e' a m q=>?_),fun a m=>?_⟩⟩
 ·exact s'.from_off hN (a3 a q) hk e' m
 ·obtain⟨k,hk,⟨t',e'⟩,m⟩:=m
  have:k≠i:=fun q=>hi (q▸hk)
  simp[Z1,this]at e'
  simp[Zao,this]at m
  exact .inr ⟨k,hO k hk,⟨t',e'⟩,m⟩
theorem ZdZ{i:Nat}{e:Ex}{p:PE}(x:E O [] true e p)(hO:∀j∈O',j∈O∨j=i:=by decide): S O O' R fr (Z3 i e) (ZJ i p):=fun c ρ σ H Φ r s q=>by
 obtain⟨t,h1,h⟩:=Zz1.mp q
 subst h
 obtain⟨v,X,F,a1,a2,a3,a4⟩:=x c ρ σ H Φ t s h1
 have hnew:∀a∈F,H.length≤a:=fun a m=>(a3 a m).nil
 have hold:∀k t',σ k=some t'→∀a∈Φ k,a<H.length:=fun k t' e a m=>by
  obtain⟨_,_,r⟩:=s.slot k t' e
  exact r.lt a m
 refine⟨upd ρ i v,H++X,Zao Φ i F,by simp,fun a ha _=>List.getElem?_append_left ha,.inl ⟨rfl,by simp only[Z3,a1,Option.map_some],⟨fun k t' e'=>?_,fun k t' e'=>?_,fun k hk t' e'=>?_,(s.ext X).len,(s.ext X).keep,s.pos,s.f0⟩,fun a m=>?_⟩⟩
 ·by_cases q:k=i
  ·subst q
   simp[Z1]at e'
   subst e'
   exact⟨v,by simp[upd],by simpa [Zao]using a2⟩
  ·simp[Z1,q]at e'
   simpa [upd,Zao,q]using (s.ext X).slot k t' e'
 ·by_cases q:k=i
  ·subst q;simpa [Zao]using fun a m=>s.from_src (a3 a m)
  ·simp[Z1,q]at e'
   simpa [Zao,q]using s.src k t' e'
 ·by_cases q:k=i
  ·subst q
   simp only[Zao,if_true]
   refine⟨a4 rfl,fun a m=>.inl (Nat.le_trans s.len (hnew a m)),fun j w hj ej a m q=>?_⟩
   simp[Z1,hj]at ej
   rw[if_neg hj]at q
   have:=hold j w ej a q
   have:=hnew a m
   omega
  ·have hk':=(hO k hk).resolve_right q
   simp[Z1,q]at e'
   obtain⟨o1,o2,o3⟩:=s.own k hk' t' e'
   refine⟨by simpa [Zao,q]using o1,by simpa [Zao,q]using o2,fun j w hj ej a m=>?_⟩
   simp[Zao,q]at m
   by_cases q2:j=i
   ·subst q2
    simp only[Zao,if_true]
    intro m2
    have:=hold k t' e' a m
    have:=hnew a m2
    omega
   ·simp[Z1,q2]at ej
    simpa [Zao,q2]using o3 j w hj ej a m
 ·obtain⟨k,hk,⟨t',e'⟩,m⟩:=m
  by_cases q:k=i
  ·subst q
   simp[Zao]at m
   exact .inl (hnew a m)
  ·simp[Z1,q]at e'
   simp[Zao,q]at m
   exact .inr ⟨k,(hO k hk).resolve_right q,⟨t',e'⟩,m⟩
noncomputable def ZL(b:PB)(p q:PS): PS:=fun σ=>(b σ).bind fun x=>if x then p σ else q σ
theorem Aft.grow{c:Ctx}{σ:TL}{H X:Hp}{Φ:Nat→List Nat}{g:Option (Option V×Lc×Hp)}{r:Option T×TL}(h:Aft c O O' R fr σ (H++X) Φ g r): Aft c O O' R fr σ H Φ g r:=by
 obtain⟨ρ',H',Φ',h1,h2,h3⟩:=h
 rw[List.length_append]at h1
 refine⟨ρ',H',Φ',by omega,fun a ha hn=>?_,?_⟩
 ·rw[h2 a (by rw[List.length_append];omega) hn,List.getElem?_append_left ha]
 ·rcases h3 with⟨k1,k2,k3,k4⟩ | k
  ·exact .inl ⟨k1,k2,k3,fun a m=>(k4 a m).imp (fun q=>by rw[List.length_append]at q;omega) id⟩
  ·exact .inr k
theorem Z9{t:Ts}{pb:PB}{a b:Sm}{p q:PS}(z:Bt O t pb)(x:S O O' R fr a p)(y:S O O' R fr b q): S O O' R fr (ZY t a b) (ZL pb p q):=fun c ρ σ H Φ r s e=>by
 obtain⟨bb,e1,e⟩:=Zz0.mp e
 obtain⟨X,h1⟩:=z c ρ σ H Φ bb s e1
 cases bb with
 | true=>
  have:=x c ρ σ (H++X) Φ r (s.ext X) (by simpa using e)
  have eg:ZY t a b ρ H=a ρ (H++X):=by simp[ZY,h1]
  rw[eg]
  exact this.grow
 | false=>
  have:=y c ρ σ (H++X) Φ r (s.ext X) (by simpa using e)
  have eg:ZY t a b ρ H=b ρ (H++X):=by simp[ZY,h1]
  rw[eg]
  exact this.grow
noncomputable def qNo: PS:=fun _=>none
noncomputable def sNo: Sm:=fun _ _=>none
theorem ZyU{g:Sm}: S O O' R fr g qNo:=fun c ρ σ H Φ r s q=>by cases q
noncomputable def follow(H:Hp): List Int→V→Option V
 | [],v=>some v
 | k::ks,v=>(Zw v (.int k) H).bind fun q=>follow H ks q.1
theorem Lead.follow{H:Hp}{ks:List Int}{v:V}{a:Nat}(l:Lead H ks v a): follow H ks v=some (.ref a):=by
 induction l with
 | nil=>rfl
 | ref h1 h2 h3 _ ih=>simp only[TM.follow,Zw,h1,Option.bind_some,h2,h3,Option.map_some,ih]
 | tup h2 h3 _ ih=>simp only[TM.follow,Zw,Option.bind_some,h2,h3,Option.map_some,ih]
theorem ZmK{H:Hp}{v w z:V}{K:Hp}(h:Zw v z H=some (w,K))(X:Hp): K=H∧Zw v z (H++X)=some (w,H++X):=by
 unfold Zw at h
 split at h
 ·obtain⟨vs,e1,h⟩:=Zz0.mp h
  obtain⟨j,e2,h⟩:=Zz0.mp h
  obtain⟨x,e3,h⟩:=Zz1.mp h
  cases h
  exact⟨rfl,by simp only[Zw,List.getElem?_append_left (Zz6.mp e1).1,e1,Option.bind_some,e2,e3,Option.map_some]⟩
 ·obtain⟨j,e2,h⟩:=Zz0.mp h
  obtain⟨x,e3,h⟩:=Zz1.mp h
  cases h
  exact⟨rfl,by simp only[Zw,Option.bind_some,e2,e3,Option.map_some]⟩
 ·cases h
theorem Zpf{H:Hp}{k:Int}: ∀{ks:List Int} {v:V},follow H (ks++[k]) v=(follow H ks v).bind fun w=>(Zw w (.int k) H).map (·.1)
 | [],v=>by
  simp only[List.nil_append,follow,Option.bind_some]
  cases Zw v (.int k) H <;> rfl
 | j::ks,v=>by
  simp only[List.cons_append,follow]
  cases Zw v (.int j) H with
  | none=>rfl
  | some q=>simp only[Option.bind_some];exact Zpf
noncomputable abbrev PPa:=TL→Option (List Int)
noncomputable def ZaY: PPa:=fun _=>some []
noncomputable def ZdC(p:PPa)(i:PE): PPa:=fun σ=>(p σ).bind fun ks=>(i σ).bind fun t=>match t with
 | .int k=>some (ks++[k])
 | _=>none
noncomputable def Pa(O:List Nat)(x:Nat)(e:Ex)(p:PPa): Prop:=∀(c:Ctx) (ρ:Lc) (σ:TL) (H:Hp) (Φ:Nat→List Nat) (ks:List Int) (v w:V),St c O ρ σ H Φ→p σ=some ks→ρ x=some v→follow H ks v=some w→∃X,e ρ H=some (w,H++X)
theorem Zdc{x:Nat}: Pa O x (Zb x) ZaY:=fun c ρ σ H Φ ks v w s h e f=>by
 cases h;cases f
 exact⟨[],by simp[Zb,e]⟩
theorem ZxF{x:Nat}{N:List Nat}{u:Bool}{e i:Ex}{p:PPa}{pi:PE}(y:Pa O x e p)(z:E O N u i pi): Pa O x (Zk Zw e i) (ZdC p pi):=fun c ρ σ H Φ ks v w s h ev f=>by
 obtain⟨ks0,h1,h⟩:=Zz0.mp h
 obtain⟨t,h2,h⟩:=Zz0.mp h
 cases t <;> first | (cases h;done) | skip
 rename_i k
 cases h
 rw[Zpf]at f
 obtain⟨w0,f1,f⟩:=Zz0.mp f
 obtain⟨⟨w1,K⟩,f2,f⟩:=Zz1.mp f
 cases f
 obtain⟨X,a1⟩:=y c ρ σ H Φ ks0 v w0 s h1 ev f1
 obtain⟨vi,Y,F,b1,b2,b3,b4⟩:=z c ρ σ (H++X) Φ _ (s.ext X) h2
 cases b2
 refine⟨X++Y,?_⟩
 simp only[Zk,a1,Option.bind_some,b1]
 have:=(ZmK f2 (X++Y)).2
 rw[List.append_assoc]
 exact this
theorem ZrH{c:Ctx}{ρ:Lc}{σ:TL}{H:Hp}{Φ:Nat→List Nat}{N:List Nat}{x a b:Nat}{t t':T}{v:V}{Fw F':List Nat}{vs':List V}(s:St c O ρ σ H Φ)(hx:x∈O)(ex:σ x=some t)(ev:ρ x=some v)(hb:c.H0.length≤b)(hlow:∀k t,σ k=some t→∀a∈Φ k,a<b)
  (hFw:∀a∈Fw,b≤a∨∃j∈N,(∃t,σ j=some t)∧a∈Φ j) (hN:∀j∈N,j∈O∧j≠x) (ha:a∈Φ x) (r:RF (H.set a vs') v t' F') (nd:F'.Nodup) (sub:∀y∈F',y∈Φ x∨y∈Fw) (hO:∀j∈O',j∈O∧j∉N):
  St c O' ρ (ZcP (Z1 σ x t') N) (H.set a vs') (Zao Φ x F')∧(∀y,Zc3 O' (ZcP (Z1 σ x t') N) (Zao Φ x F') y→b≤y∨Zc3 O σ Φ y):=by
 obtain⟨o1,o2,o3⟩:=s.own x hx t ex
 have old:∀k u,k≠x→ZcP (Z1 σ x t') N k=some u→σ k=some u∧k∉N:=fun k u hk e=>by
  unfold ZcP at e
  split at e
  ·cases e
  ·rename_i hn
   simp[Z1,hk]at e
   exact⟨e,hn⟩
 have self:∀u,ZcP (Z1 σ x t') N x=some u→u=t':=fun u e=>by
  unfold ZcP at e
  split at e
  ·cases e
  ·simp[Z1]at e;exact e.symm
 have foff:∀y∈F',∀k u,k≠x→σ k=some u→k∉N→y∉Φ k:=fun y hy k u hk e hkn m=>by
  rcases sub y hy with q | q
  ·exact o3 k u hk e y q m
  ·rcases hFw y q with q | ⟨j,hj,⟨tj,ej⟩,mj⟩
   ·have:=hlow k u e y m;omega
   ·exact(s.own j (hN j hj).1 tj ej).2.2 k u (fun q=>hkn (q▸hj)) e y mj m
 refine⟨⟨fun k u e=>?_,fun k u e=>?_,fun k hk u e=>?_,by simpa using s.len,fun y hy hn=>?_,s.pos,s.f0⟩,fun y hy=>?_⟩
 ·by_cases q:k=x
  ·subst q
   have:=self u e
   subst this
   exact⟨v,ev,by simpa [Zao]using r⟩
  ·obtain⟨e1,e2⟩:=old k u q e
   obtain⟨w,h1,h2⟩:=s.slot k u e1
   refine⟨w,h1,?_⟩
   simp only[Zao,q,if_false]
   refine h2.frame fun y hy=>List.getElem?_set_ne fun q'=>?_
   exact o3 k u q e1 a ha (q'▸hy)
 ·by_cases q:k=x
  ·subst q
   simp only[Zao,if_true]
   intro y hy
   rcases sub y hy with q | q
   ·exact s.src k t ex y q
   ·rcases hFw y q with q | ⟨j,hj,⟨tj,ej⟩,mj⟩
    ·exact .inl (by omega)
    ·exact s.src j tj ej y mj
  ·obtain⟨e1,e2⟩:=old k u q e
   simpa [Zao,q]using s.src k u e1
 ·by_cases q:k=x
  ·subst q
   simp only[Zao,if_true]
   refine⟨nd,fun y hy=>?_,fun j w hj ej y hy=>?_⟩
   ·rcases sub y hy with q | q
    ·exact o2 y q
    ·rcases hFw y q with q | ⟨j,hj,⟨tj,ej⟩,mj⟩
     ·exact .inl (by omega)
     ·exact(s.own j (hN j hj).1 tj ej).2.1 y mj
   ·obtain⟨e1,e2⟩:=old j w hj ej
    simpa [hj]using foff y hy j w hj e1 e2
  ·obtain⟨e1,e2⟩:=old k u q e
   obtain⟨p1,p2,p3⟩:=s.own k (hO k hk).1 u e1
   simp only[Zao,q,if_false]
   refine⟨p1,p2,fun j w hj ej y hy=>?_⟩
   by_cases q2:j=x
   ·subst q2
    simp only[if_true]
    exact fun m=>foff y m k u q e1 e2 hy
   ·obtain⟨f1,f2⟩:=old j w q2 ej
    simpa [q2]using p3 j w hj f1 y hy
 ·have:a≠y:=fun q=>by
   subst q
   rcases o2 a ha with q | q
   ·omega
   ·exact hn q
  rw[List.getElem?_set_ne this]
  exact s.keep y hy hn
 ·obtain⟨k,hk,⟨u,e⟩,m⟩:=hy
  by_cases q:k=x
  ·subst q
   simp only[Zao,if_true]at m
   rcases sub y m with q | q
   ·exact .inr ⟨k,hx,⟨t,ex⟩,q⟩
   ·rcases hFw y q with q | ⟨j,hj,q⟩
    ·exact .inl q
    ·exact .inr ⟨j,(hN j hj).1,q⟩
  ·obtain⟨e1,e2⟩:=old k u q e
   simp only[Zao,q,if_false]at m
   exact .inr ⟨k,(hO k hk).1,⟨u,e1⟩,m⟩
theorem ZnI{c:Ctx}{ρ:Lc}{σ:TL}{H:Hp}{Φ:Nat→List Nat}{x a:Nat}{t:T}(s:St c O ρ σ H Φ)(hx:x∈O)(ex:σ x=some t)(ha:a∈Φ x): a≠0:=by
 have:=s.pos
 rcases(s.own x hx t ex).2.1 a ha with q | q
 ·omega
 ·exact fun e=>s.f0 (e▸q)
noncomputable def ZjQ(w:T)(ts:List T): Option (List T):=if ts.length<LEN then some (ts++[w])else none
noncomputable def ZjR(k:Int)(w:T)(ts:List T): Option (List T):=if 0≤k∧k<ts.length then some (ts.set k.toNat w)else none
noncomputable def Zez(x:Nat)(N:List Nat)(po:PPa)(p:PE): PS:=fun σ=>(po σ).bind fun ks=>(p σ).bind fun w=>(σ x).bind fun t=>(Zd6 (ZjQ w) ks t).map fun t'=>(none,ZcP (Z1 σ x t') N)
noncomputable def Zbq(x:Nat)(N:List Nat)(p:PE)(po:PPa)(pi:PE): PS:=fun σ=>(p σ).bind fun w=>(po σ).bind fun ks=>(pi σ).bind fun k=>match k with
 | .int k=>(σ x).bind fun t=>(Zd6 (ZjR k w) ks t).map fun t'=>(none,ZcP (Z1 σ x t') N)
 | _=>none
theorem ZgC{H:Hp}(X:Hp): ∀{ks:List Int} {v w:V},follow H ks v=some w→follow (H++X) ks v=some w
 | [],_,_,h=>h
 | k::ks,v,w,h=>by
  obtain⟨⟨w1,K⟩,h1,h2⟩:=Zz0.mp h
  simp only[follow,(ZmK h1 X).2,Option.bind_some]
  exact ZgC X h2
theorem Zox{x:Nat}{N:List Nat}{o e:Ex}{po:PPa}{p:PE}(hx:x∈O)(y:Pa O x o po)(z:E O N true e p)(hN:∀j∈N,j∈O∧j≠x)(hO:∀j∈O',j∈O∧j∉N): S O O' R fr (ZcE (ZfO o e)) (Zez x N po p):=fun c ρ σ H Φ r s q=>by
 obtain⟨ks,h1,q⟩:=Zz0.mp q
 obtain⟨w,h2,q⟩:=Zz0.mp q
 obtain⟨t,h3,q⟩:=Zz0.mp q
 obtain⟨t',h4,q⟩:=Zz1.mp q
 subst q
 obtain⟨v,ev,rv⟩:=s.slot x t h3
 have hlow:∀k t,σ k=some t→∀a∈Φ k,a<H.length:=fun k t e a m=>by
  obtain⟨_,_,r⟩:=s.slot k t e
  exact r.lt a m
 obtain⟨o1,o2,o3⟩:=s.own x hx t h3
 obtain⟨a,vs0,ts0,ts0',G0,l0,_⟩:=ZfX (Gn:=[]) ks rv o1 (by simp) h4
 obtain⟨X,a1⟩:=y c ρ σ H Φ ks v (.ref a) s h1 ev l0.follow
 obtain⟨vw,Y,Fw,b1,b2,b3,b4⟩:=z c ρ σ (H++X) Φ w (s.ext X) h2
 have s2:=(s.ext X).ext Y
 have rv2:RF (H++X++Y) v t (Φ x):=(rv.ext X).ext Y
 have hFw:∀a∈Fw,H.length≤a∨∃j∈N,(∃t,σ j=some t)∧a∈Φ j:=fun a m=>(b3 a m).back
 have dsj:∀a∈Fw,a∉Φ x:=fun a m q=>by
  rcases hFw a m with h | ⟨j,hj,⟨tj,ej⟩,mj⟩
  ·have:=hlow x t h3 a q;omega
  ·exact o3 j tj (hN j hj).2 ej a q mj
 obtain⟨a',vs,ts,ts',G,l,am,ea,hs,hf,gn,na,gs,go⟩:=ZfX (Gn:=Fw) ks rv2 o1 dsj h4
 have haa:a'=a:=by
  have f2:=ZgC Y (ZgC X l0.follow)
  rw[l.follow]at f2
  cases f2
  rfl
 subst haa
 unfold ZjQ at hf
 split at hf
 ·rename_i hl
  cases hf
  obtain⟨F',r',n',sub'⟩:=go (vs++[vw]) (G++Fw) (hs.snoc b2) (by
   rw[List.nodup_append]
   exact⟨gn,b4 rfl,fun y hy z hz e=>dsj z hz (e▸gs y hy)⟩) (fun m=>(Zz8.mp m).elim na fun m=>dsj _ m am) (fun y m=>List.mem_append.mp m)
  obtain⟨st,com⟩:=ZrH (O':=O') (b:=H.length) s2 hx h3 ev s.len hlow hFw hN am r' n' sub' hO
  refine⟨ρ,(H++X++Y).set a' (vs++[vw]),Zao Φ x F',by simp,fun y hy hn=>?_,.inl ⟨rfl,?_,st,com⟩⟩
  ·have:a'≠y:=fun q=>hn ⟨x,hx,⟨t,h3⟩,q▸am⟩
   rw[List.getElem?_set_ne this,List.append_assoc,List.getElem?_append_left hy]
  ·simp only[ZcE,ZfO,a1,Option.bind_some,b1,Zha,ea]
   rw[if_pos ⟨ZnI s hx h3 am,by rw[hs.length];exact hl⟩]
   rfl
 ·cases hf
theorem S.put{x:Nat}{N M:List Nat}{u:Bool}{o e i:Ex}{po:PPa}{p pi:PE}(hx:x∈O)(z:E O N true e p)(y:Pa O x o po)(zi:E O M u i pi)(hN:∀j∈N,j∈O∧j≠x)(hO:∀j∈O',j∈O∧j∉N): S O O' R fr (Zc1 e o i) (Zbq x N p po pi):=fun c ρ σ H Φ r s q=>by
 obtain⟨w,h2,q⟩:=Zz0.mp q
 obtain⟨ks,h1,q⟩:=Zz0.mp q
 obtain⟨tk,h5,q⟩:=Zz0.mp q
 cases tk <;> first | (cases q;done) | skip
 rename_i k
 obtain⟨t,h3,q⟩:=Zz0.mp q
 obtain⟨t',h4,q⟩:=Zz1.mp q
 subst q
 obtain⟨v,ev,rv⟩:=s.slot x t h3
 have hlow:∀k t,σ k=some t→∀a∈Φ k,a<H.length:=fun k t e a m=>by
  obtain⟨_,_,r⟩:=s.slot k t e
  exact r.lt a m
 obtain⟨o1,o2,o3⟩:=s.own x hx t h3
 obtain⟨vw,X,Fw,b1,b2,b3,b4⟩:=z c ρ σ H Φ w s h2
 obtain⟨a,vs0,ts0,ts0',G0,l0,_⟩:=ZfX (Gn:=[]) ks (rv.ext X) o1 (by simp) h4
 obtain⟨Y,a1⟩:=y c ρ σ (H++X) Φ ks v (.ref a) (s.ext X) h1 ev l0.follow
 obtain⟨vk,Z,Fk,d1,d2,d3,d4⟩:=zi c ρ σ (H++X++Y) Φ _ ((s.ext X).ext Y) h5
 cases d2
 have s2:=((s.ext X).ext Y).ext Z
 have rv2:RF (H++X++Y++Z) v t (Φ x):=((rv.ext X).ext Y).ext Z
 have hFw:∀a∈Fw,H.length≤a∨∃j∈N,(∃t,σ j=some t)∧a∈Φ j:=b3
 have dsj:∀a∈Fw,a∉Φ x:=fun a m q=>by
  rcases hFw a m with h | ⟨j,hj,⟨tj,ej⟩,mj⟩
  ·have:=hlow x t h3 a q;omega
  ·exact o3 j tj (hN j hj).2 ej a q mj
 obtain⟨a',vs,ts,ts',G,l,am,ea,hs,hf,gn,na,gs,go⟩:=ZfX (Gn:=Fw) ks rv2 o1 dsj h4
 have haa:a'=a:=by
  have f2:=ZgC Z (ZgC Y l0.follow)
  rw[l.follow]at f2
  cases f2
  rfl
 subst haa
 unfold ZjR at hf
 split at hf
 ·rename_i hl
  cases hf
  have hk:k.toNat<ts.length:=by omega
  obtain⟨v0,Gk,F1,F2,e0,r0,eG,rb⟩:=hs.split (List.getElem?_eq_getElem hk)
  have b2':RF (H++X++Y++Z) vw w Fw:=(b2.ext Y).ext Z
  have rs:=rb (H++X++Y++Z) vw w Fw b2' (fun _ _=>rfl) (fun _ _=>rfl)
  have sub0:∀a∈Fw,a∈Gk∨a∈Fw:=fun a m=>.inr m
  subst eG
  obtain⟨F',r',n',sub'⟩:=go _ _ rs (nd3 gn (b4 rfl) sub0 fun a m q=>dsj a m (gs a q)) (fun m=>by
   rcases in3 (G:=Gk) sub0 _ m with m | m
   ·exact na m
   ·exact dsj _ m am) (in3 sub0)
  obtain⟨st,com⟩:=ZrH (O':=O') (b:=H.length) s2 hx h3 ev s.len hlow hFw hN am r' n' sub' hO
  refine⟨ρ,(H++X++Y++Z).set a' (vs.set k.toNat vw),Zao Φ x F',by simp,fun y hy hn=>?_,.inl ⟨rfl,?_,st,com⟩⟩
  ·have:a'≠y:=fun q=>hn ⟨x,hx,⟨t,h3⟩,q▸am⟩
   rw[List.getElem?_set_ne this,List.append_assoc,List.append_assoc,List.getElem?_append_left hy]
  ·simp only[Zc1,b1,Option.bind_some,a1,d1,ZoE,ea]
   rw[if_pos ⟨ZnI s hx h3 am,by rw[hs.length];exact hl⟩]
   rfl
 ·cases hf
noncomputable def Zff(put:T→TL→Option TL)(b:PS): TL→List T→Option (Option T×TL)
 | σ,[]=>some (none,σ)
 | σ,t::ts=>(put t σ).bind fun σ1=>(b σ1).bind fun r=>match r.1 with
  | some _=>some r
  | none=>Zff put b r.2 ts
noncomputable def Zav(g:PG)(put:T→TL→Option TL)(b:PS): PS:=fun σ=>(g σ).bind fun ts=>Zff put b σ ts
theorem Znn{J:List Nat}{put:V→Lc→Option Lc}{pput:T→TL→Option TL}{b:Sm}{qb:PS}(hj:PutOk O J put pput)(hJ:∀i∈J,i∉O)(hb:S O O R fr b qb){c:Ctx}{nx:Nx}{vs:List V}{G:List Nat}{H1:Hp}(hG:∀a∈G,a<H1.length)(hsrc:∀a∈G,c.H0.length≤a∨c.P a)(hnx:∀K:Hp,(∀a∈G,K[a]?=H1[a]?)→∀i,i≤vs.length→nx i K=some vs[i]?):
  ∀(rs:List T) (ws:List V) (i:Nat) (ρ:Lc) (σ:TL) (K:Hp) (Φ:Nat→List Nat) (Fr:List Nat) (r:Option T×TL),(∀j,vs[i+j]?=ws[j]?)→i+ws.length=vs.length→St c O ρ σ K Φ→H1.length≤K.length→(∀a∈G,K[a]?=H1[a]?)→(∀a∈G,¬Zc3 O σ Φ a)→RFs K ws rs Fr→(∀a∈Fr,a∈G)→Zff pput qb σ rs=some r →
   Aft c O O R fr σ K Φ (Zdq nx put b (rs.length+1) i ρ K) r
 | [],ws,i,ρ,σ,K,Φ,Fr,r,hat,hlen,s,hl,hk,hoff,rr,hfr,h=>by
  cases rr
  cases h
  have e:=hnx K hk i (by simp at hlen;omega)
  have e2:vs[i]?=none:=by have:=hat 0;simpa using this
  exact⟨ρ,K,Φ,Nat.le_refl _,fun _ _ _=>rfl,.inl ⟨rfl,by simp[Zdq,e,e2],s,fun a m=>.inr m⟩⟩
 | t::rs,ws0,i,ρ,σ,K,Φ,Fr0,r,hat,hlen,s,hl,hk,hoff,rr,hfr,h=>by
  cases rr with
  | @cons v _ F1 ws _ F2 a b'=>
  simp only[List.length_cons]at hlen
  obtain⟨σ1,h1,h⟩:=Zz0.mp h
  obtain⟨r1,h2,h⟩:=Zz0.mp h
  have e:=hnx K hk i (by omega)
  have e2:vs[i]?=some v:=by have:=hat 0;simpa using this
  have hat':∀j,vs[i+1+j]?=ws[j]?:=fun j=>by have:=hat (j+1);rw[show i+1+j=i+(j+1)by omega,this];simp
  obtain⟨ρ1,Φ1,p1,s1,p3,p4⟩:=hj c ρ σ K Φ v t F1 σ1 s a (fun x m=>hsrc x (hfr x (Zz4 _ m))) (fun k hk t' e x m q=>hoff x (hfr x (Zz4 _ q)) ⟨k,hk,⟨t',e⟩,m⟩) h1
  have hh:∀x,Zc3 O σ1 Φ1 x→Zc3 O σ Φ x:=fun x ⟨k,hk,⟨t',e⟩,m⟩=>by
   obtain⟨q1,q2⟩:=p3 k fun q=>hJ k q hk
   exact⟨k,hk,⟨t',q1▸e⟩,q2▸m⟩
  obtain⟨ρ2,K2,Φ2,g1,g2,g3⟩:=hb c ρ1 σ1 K Φ1 r1 s1 h2
  have estep:Zdq nx put b ((t::rs).length+1) i ρ K=(b ρ1 K).bind fun q=>match q.1 with
    | some _=>some q
    | none=>Zdq nx put b (rs.length+1) (i+1) q.2.1 q.2.2:=by
   rw[List.length_cons]
   show(nx i K).bind _=_
   rw[e,e2]
   first | (simp only[Option.bind_some,p1];done) | (simp only[Option.bind_some,p1];rfl)
  rcases g3 with⟨k1,k2,k3,k4⟩ | ⟨t',v',F',k1,k2,k3⟩
  ·rw[k1]at h
   have hG2:∀a∈G,K2[a]?=K[a]?:=fun x m=>g2 x (by have:=hG x m;omega) fun q=>hoff x m (hh x q)
   have hoff2:∀a∈G,¬Zc3 O r1.2 Φ2 a:=fun x m q=>by
    rcases k4 x q with q | q
    ·have:=hG x m;omega
    ·exact hoff x m (hh x q)
   have ih:=Znn hj hJ hb hG hsrc hnx rs ws (i+1) ρ2 r1.2 K2 Φ2 F2 r hat' (by omega) k3 (by omega) (fun x m=>(hG2 x m).trans (hk x m)) hoff2 (b'.frame fun x m=>hG2 x (hfr x (Zz3 _ m))) (fun x m=>hfr x (Zz3 _ m)) h
   rw[estep,k2]
   simp only[Option.bind_some]
   obtain⟨ρ3,K3,Φ3,l1,l2,l3⟩:=ih
   refine⟨ρ3,K3,Φ3,by omega,fun x hx hn=>?_,?_⟩
   ·rw[l2 x (by omega) fun q=>(k4 x q).elim (fun q=>by omega) fun q=>hn (hh x q),g2 x hx fun q=>hn (hh x q)]
   ·rcases l3 with⟨m1,m2,m3,m4⟩ | l
    ·refine .inl ⟨m1,m2,m3,fun x q=>?_⟩
     rcases m4 x q with q | q
     ·exact .inl (by omega)
     ·exact(k4 x q).imp id (hh x)
    ·exact .inr l
  ·rw[k1]at h
   cases h
   refine⟨ρ2,K2,Φ2,g1,fun x hx hn=>g2 x hx fun q=>hn (hh x q),.inr ⟨t',v',F',k1,?_,k3⟩⟩
   rw[estep,k2]
   rfl
theorem ZbF{J Ns:List Nat}{g:Src}{q:PG}{put:V→Lc→Option Lc}{pput:T→TL→Option TL}{b:Sm}{qb:PS}(hg:Gs O Ns g q)(hj:PutOk O J put pput)(hJ:∀i∈J,i∉O)(hN:∀i∈Ns,i∉O)(hb:S O O R fr b qb): S O O R fr (Za9 g put b) (Zav q pput qb):=fun c ρ σ H Φ r s h=>by
 obtain⟨ts,h1,h⟩:=Zz0.mp h
 obtain⟨nx,X,vs,F,G,g1,g2,g3,g4,g5⟩:=hg c ρ σ H Φ ts s h1
 have:=Znn hj hJ hb (H1:=H++X) (fun a m=>(g4 a m).1) (fun a m=>s.from_src (g4 a m).2) g5 ts vs 0 ρ σ (H++X) Φ F r (by simp) (by simp) (s.ext X) (Zz10 _) (fun _ _=>rfl) (fun a m ⟨k,hk,⟨t,e⟩,q⟩=>s.from_off hN (g4 a m).2 hk e q) g2 g3 h
 have eg:Za9 g put b ρ H=Zdq nx put b (ts.length+1) 0 ρ (H++X):=by simp only[Za9,g1,Option.bind_some]
 rw[eg]
 exact this.grow
noncomputable def Zdo(t:PB)(b:PS): Nat→PS
 | 0=>fun _=>none
 | n+1=>fun σ=>(t σ).bind fun p=>if p then(b σ).bind fun q=>(match q.1 with
   | some _=>some q
   | none=>Zdo t b n q.2)else some (none,σ)
theorem ZnJ{t:Ts}{pt:PB}{b:Sm}{qb:PS}(z:Bt O t pt)(y:S O O R fr b qb): ∀n,S O O R fr (ZdY t b n) (Zdo pt qb n)
 | 0=>fun c ρ σ H Φ r s h=>by cases h
 | n+1=>fun c ρ σ H Φ r s h=>by
  obtain⟨p,h1,h⟩:=Zz0.mp h
  obtain⟨X,a1⟩:=z c ρ σ H Φ p s h1
  cases p with
  | false=>
   cases h
   exact⟨ρ,H++X,Φ,by simp,fun a ha _=>List.getElem?_append_left ha,.inl ⟨rfl,by simp[ZdY,a1],s.ext X,fun a m=>.inr m⟩⟩
  | true=>
   simp only[if_true]at h
   obtain⟨r1,h2,h⟩:=Zz0.mp h
   have b1:=(y c ρ σ (H++X) Φ r1 (s.ext X) h2).grow
   have eg:ZdY t b (n+1) ρ H=(b ρ (H++X)).bind fun q=>(match q.1 with
    | some _=>some q
    | none=>ZdY t b n q.2.1 q.2.2):=by
    show(t ρ H).bind _=_
    rw[a1]
    rfl
   rw[eg]
   obtain⟨ρ1,H1,Φ1,g1,g2,g3⟩:=b1
   rcases g3 with⟨k1,k2,k3,k4⟩ | ⟨t',v',F',k1,k2,k3⟩
   ·rw[k1]at h
    obtain⟨ρ3,K3,Φ3,l1,l2,l3⟩:=ZnJ z y n c ρ1 r1.2 H1 Φ1 r k3 h
    rw[k2]
    simp only[Option.bind_some]
    refine⟨ρ3,K3,Φ3,by omega,fun x hx hn=>?_,?_⟩
    ·rw[l2 x (by omega) fun q=>(k4 x q).elim (fun q=>by omega) hn,g2 x hx hn]
    ·rcases l3 with⟨m1,m2,m3,m4⟩ | l
     ·refine .inl ⟨m1,m2,m3,fun x q=>?_⟩
      rcases m4 x q with q | q
      ·exact .inl (by omega)
      ·exact k4 x q
     ·exact .inr l
   ·rw[k1]at h
    cases h
    exact⟨ρ1,H1,Φ1,g1,g2,.inr ⟨t',v',F',k1,by rw[k2];rfl,k3⟩⟩
end
noncomputable def Z0(n:Nat)(q:PS): List T→Option T:=fun ts=>if ts.length=n then(q fun i=>ts[i]?).map fun r=>r.1.getD .none else none
theorem RFs.slots{H:Hp}: ∀{vs:List V} {ts:List T} {F:List Nat},RFs H vs ts F→∃Φ:Nat→List Nat,∀i t,ts[i]?=some t→∃v,vs[i]?=some v∧RF H v t (Φ i)∧∀a∈Φ i,a∈F
 | _,_,_,.nil=>⟨fun _=>[],fun i t e=>by simp at e⟩
 | _,_,_,.cons (F:=F1) a b=>by
  obtain⟨Φ,h⟩:=b.slots
  refine⟨fun i=>match i with | 0=>F1 | i+1=>Φ i,fun i t e=>?_⟩
  cases i with
  | zero=>simp at e;subst e;exact⟨_,by simp,a,fun x m=>List.mem_append_left _ m⟩
  | succ i=>
   simp at e
   obtain⟨v,h1,h2,h3⟩:=h i t e
   exact⟨v,by simpa using h1,h2,fun x m=>List.mem_append_right _ (h3 x m)⟩
theorem Zpx{H H':Hp}(hl:H.length≤H'.length)(h:∀a,a<H.length→H'[a]?=H[a]?): H'=H++H'.drop H.length:=by
 conv=>lhs;rw[←List.take_append_drop H.length H']
 congr 1
 refine List.ext_getElem? fun i=>?_
 by_cases q:i<H.length
 ·rw[List.getElem?_take_of_lt q,h i q]
 ·rw[List.getElem?_eq_none (by simp;omega),List.getElem?_eq_none (by omega)]
theorem Zaf{O':List Nat}{fr:Bool}{n:Nat}{g:Sm}{q:PS}(h:S [] O' [] fr g q): SimF fr (Z5 n g) (Z0 n q):=fun H vs ts t F1 hp r e=>by
 unfold Z0 at e
 split at e
 ·rename_i hl
  obtain⟨r1,e1,e2⟩:=Zz1.mp e
  obtain⟨Φ,hΦ⟩:=r.slots
  have st:St ⟨H,[],fun a=>a∈F1⟩ [] (fun i=>vs[i]?) (fun i=>ts[i]?) H Φ:=
   ⟨(fun i t e=>by obtain⟨v,h1,h2,_⟩:=hΦ i t e;exact⟨v,h1,h2⟩),fun i t e a m=>(by obtain⟨v,h1,h2,h3⟩:=hΦ i t e;exact .inr (h3 a m)),(fun i hi=>nomatch hi),Nat.le_refl _,fun a _ _=>rfl,hp,by simp⟩
  obtain⟨ρ',H',Φ',h1,h2,h3⟩:=h _ _ _ _ _ _ st e1
  rcases h3 with⟨k1,k2,k3,k4⟩ | ⟨t',v',F',k1,k2,k3,k4,k5,k6⟩
  ·have eh:=Zpx k3.len fun a ha=>k3.keep a ha (by simp)
   refine⟨.none,H'.drop H.length,[],?_,?_,by simp,by simp⟩
   ·have hv:vs.length=n:=r.length.trans hl
    simp only[Z5,hv,if_true,k2,Option.map_some,Option.getD_none]
    rw[←eh]
   ·rw[k1]at e2
    subst e2
    exact .none
  ·have eh:=Zpx k4.len fun a ha=>k4.keep a ha (by simp)
   refine⟨v',H'.drop H.length,F',?_,?_,k5,fun hf=>⟨(k6 hf).1,fun a m=>((k6 hf).2 a m).elim id fun q=>by cases q⟩⟩
   ·have hv:vs.length=n:=r.length.trans hl
    simp only[Z5,hv,if_true,k2,Option.map_some,Option.getD_some]
    rw[←eh]
   ·rw[k1]at e2
    subst e2
    rw[←eh]
    exact k3
 ·cases e
theorem ZuP{f:List V→Hp→Option (V×Hp)}{p:List T→Option T}{fr:Bool}(h:SimF fr f p)(ns:List Int)(e:p [.lst (ns.map T.int)]=some (.bool true)): ∃H',f [.ref 0] [ns.map V.int]=some (.bool true,H'):=by
 have intsAre:∀l:List Int,RFs [ns.map V.int] (l.map V.int) (l.map T.int) []:=fun l=>by
  induction l with
  | nil=>exact .nil
  | cons a l ih=>exact .cons (.int a) ih
 obtain⟨v,X,F,h1,h2,_⟩:=h [ns.map V.int] [.ref 0] [.lst (ns.map T.int)] _ _ (by simp) (.one (.ref rfl (intsAre ns))) e
 cases h2
 exact⟨_,h1⟩
end TM
end
section
set_option autoImplicit false
namespace TM
open PySem PM
section
variable {O Ns Ne J:List Nat}
theorem ZcW{u:Bool}{g:Src}{q:PG}{put:V→Lc→Option Lc}{pput:T→TL→Option TL}{tc:Ts}{pc:PB}{f:Ex}{pf:PE}(hg:Gs O Ns g q)(hj:PutOk O J put pput)(hN:∀i∈Ns,i∉O)(hc:Bt O tc pc)(hf:E O Ne u f pf): E O (Ns++Ne) false (Za4 g put tc f) (Zan q pput pc pf):=
 ZrG hg hj hN hc hf.sh (by simp)
theorem ZfS{g:Src}{q:PG}{put:V→Lc→Option Lc}{pput:T→TL→Option TL}{tc:Ts}{pc:PB}{f:Ex}{pf:PE}(hg:Gs O Ns g q)(hj:PutOk O J put pput)(hN:∀i∈Ns,i∉O)(hc:Bt O tc pc)(hf:E O [] true f pf): E O [] true (Za4 g put tc f) (Zan q pput pc pf):=
 ZrG hg hj hN hc hf (by simp)
end
end TM
end
section
set_option autoImplicit false
/-! Forward reckoning over trees. -/
namespace TM
open PySem PM
noncomputable def dec(P:Prop): Bool:=@decide P (Classical.propDecidable P)
theorem dec_iff{P:Prop}: dec P=true↔P:=by unfold dec;exact @decide_eq_true_iff P (Classical.propDecidable P)
theorem ZaB{P:Prop}(h:P): dec P=true:=dec_iff.mpr h
theorem ZaC{P:Prop}(h:¬P): dec P=false:=by
 cases e:dec P with
 | true=>exact absurd (dec_iff.mp e) h
 | false=>rfl
theorem Zej{P Q:Prop}(h:P↔Q): dec P=dec Q:=by
 by_cases p:P
 ·rw[ZaB p,ZaB (h.mp p)]
 ·rw[ZaC p,ZaC fun q=>p (h.mpr q)]
theorem Zod{P:Prop}{b:Bool}(h:b=true↔P): dec P=b:=by
 cases b with
 | true=>exact ZaB (h.mp rfl)
 | false=>exact ZaC fun p=>by simpa using h.mpr p
theorem Zfs{P:Prop}[i:Decidable P]: decide P=dec P:=by
 unfold dec;congr
noncomputable def tab{α:Type}(n:Nat)(f:Nat→α): List α:=(List.range n).map f
theorem Zau{α:Type}{n:Nat}{f:Nat→α}: (tab n f).length=n:=by simp[tab]
theorem Zbx{α:Type}{n:Nat}{f:Nat→α}{i:Nat}(h:i<n): (tab n f)[i]?=some (f i):=by simp[tab,h]
theorem ZxG{α:Type}{n:Nat}{f:Nat→α}{i:Nat}(h:n≤i): (tab n f)[i]?=none:=by simp[tab,h]
theorem ZdT{α:Type}{n:Nat}{f:Nat→α}: tab n f++[f n]=tab (n+1) f:=by simp[tab,List.range_succ]
theorem Zi5{α:Type}{n:Nat}{xs:List α}{f:Nat→α}(hl:xs.length=n)(h:∀i,i<n→xs[i]?=some (f i)): xs=tab n f:=by
 refine List.ext_getElem? fun i=>?_
 by_cases q:i<n
 ·rw[h i q,Zbx q]
 ·rw[List.getElem?_eq_none (by omega),ZxG (by omega)]
theorem Zbg{α:Type}{n:Nat}{f g:Nat→α}(h:∀i,i<n→f i=g i): tab n f=tab n g:=by
 refine Zi5 Zau fun i hi=>?_
 rw[Zbx hi,h i hi]
theorem Zi6{α:Type}{n k:Nat}{f:Nat→α}{v:α}: (tab n f).set k v=tab n fun i=>if i=k then v else f i:=by
 refine Zi5 (by rw[List.length_set,Zau]) fun i hi=>?_
 by_cases q:i=k
 ·subst q
  rw[List.getElem?_set_self (by rw[Zau];exact hi),if_pos rfl]
 ·rw[List.getElem?_set_ne (Ne.symm q),Zbx hi,if_neg q]
theorem tab_map{α β:Type}{n:Nat}{f:Nat→α}{g:α→β}: (tab n f).map g=tab n fun i=>g (f i):=by simp[tab]
noncomputable def cn{α:Type}(a:α)(f:Nat→α): Nat→α
 | 0=>a
 | i+1=>f i
theorem Zvq{α:Type}{n:Nat}{a:α}{f:Nat→α}: a::tab n f=tab (n+1) (cn a f):=by
 refine Zi5 (by rw[List.length_cons,Zau]) fun i hi=>?_
 cases i with
 | zero=>rfl
 | succ i=>rw[List.getElem?_cons_succ,Zbx (by omega)];rfl
theorem ZqT{α β γ:Type}{n m:Nat}{f:Nat→α}{g:Nat→β}{h:α→β→γ}: List.zipWith h (tab n f) (tab m g)=tab (min n m) fun i=>h (f i) (g i):=by
 refine Zi5 (by rw[List.length_zipWith,Zau,Zau]) fun i hi=>?_
 rw[List.getElem?_zipWith,Zbx (show i<n by omega),Zbx (show i<m by omega)]
noncomputable def Pk(c:Option T)(Q:T→Prop): Prop:=∃t,c=some t∧Q t
noncomputable def Pl(c:Option (List T))(Q:List T→Prop): Prop:=∃t,c=some t∧Q t
noncomputable def Pb(c:Option Bool)(Q:Bool→Prop): Prop:=∃t,c=some t∧Q t
noncomputable def Psk(c:Option (Option T×TL))(R:T→Prop)(N:TL→Prop): Prop:=∃o σ,c=some (o,σ)∧(∀t,o=some t→R t)∧(o=none→N σ)
theorem Zy{c:Option T}{Q:T→Prop}{t:T}(h:c=some t)(k:Q t): Pk c Q:=⟨t,h,k⟩
theorem Pk.eq{c:Option T}{t:T}(h:Pk c fun v=>v=t): c=some t:=by obtain⟨v,e,rfl⟩:=h;exact e
theorem Pk.mono{c:Option T}{Q Q':T→Prop}(h:Pk c Q)(k:∀t,Q t→Q' t): Pk c Q':=by obtain⟨v,e,q⟩:=h;exact⟨v,e,k v q⟩
section
variable {σ:TL} {Q:T→Prop} {L:List T→Prop} {B:Bool→Prop} {R:T→Prop} {N:TL→Prop}
theorem ZxH{k:Int}(h:Q (.int k)): Pk (Zj k σ) Q:=⟨_,rfl,h⟩
theorem ZxI(h:Q .none): Pk (ZU σ) Q:=⟨_,rfl,h⟩
theorem Zwr{k:Bool}(h:Q (.bool k)): Pk (ZaX k σ) Q:=⟨_,rfl,h⟩
theorem ZxJ{k:Str}(h:Q (.str k)): Pk (Zc2 k σ) Q:=⟨_,rfl,h⟩
theorem ZxK{i:Nat}{t:T}(e:σ i=some t)(h:Q t): Pk (Za i σ) Q:=⟨_,e,h⟩
theorem ZxL{q:T→T→Option T}{f g:PE}(h:Pk (f σ) fun x=>Pk (g σ) fun y=>Pk (q x y) Q): Pk (Zc q f g σ) Q:=by
 obtain⟨x,a,y,b,z,c,k⟩:=h
 exact⟨z,by simp only[Zc,a,b,Option.bind_some,c],k⟩
theorem Zyz{q:T→Option T}{f:PE}(h:Pk (f σ) fun x=>Pk (q x) Q): Pk (pUn q f σ) Q:=by
 obtain⟨x,a,z,c,k⟩:=h
 exact⟨z,by simp only[pUn,a,Option.bind_some,c],k⟩
theorem Zws{q:List T→Option T}{f:PEs}(h:Pl (f σ) fun x=>Pk (q x) Q): Pk (Zp q f σ) Q:=by
 obtain⟨x,a,z,c,k⟩:=h
 exact⟨z,by simp only[Zp,a,Option.bind_some,c],k⟩
theorem ZxM(h:L []): Pl (Zl σ) L:=⟨_,rfl,h⟩
theorem Zwt{f:PE}{g:PEs}(h:Pk (f σ) fun x=>Pl (g σ) fun xs=>L (x::xs)): Pl (Zd f g σ) L:=by
 obtain⟨x,a,y,b,k⟩:=h
 exact⟨_,by simp only[Zd,a,b,Option.bind_some],k⟩
theorem ZxN{g:PEs}(h:Pl (g σ) fun xs=>Q (.tup xs)): Pk (ZaS g σ) Q:=by
 obtain⟨x,a,k⟩:=h;exact⟨_,by simp only[ZaS,a,Option.map_some],k⟩
theorem Zwu{g:PEs}(h:Pl (g σ) fun xs=>Q (.lst xs)): Pk (ZbB g σ) Q:=by
 obtain⟨x,a,k⟩:=h;exact⟨_,by simp only[ZbB,a,Option.map_some],k⟩
theorem Zwv{f:PE}(h:Pk (f σ) fun t=>t.flat=true∧Q t): Pk (ZbP f σ) Q:=by
 obtain⟨x,a,b,k⟩:=h;exact⟨_,by simp only[ZbP,a,Option.bind_some,b,if_true],k⟩
theorem ZyA{f:PE}(h:Pk (f σ) fun t=>t.flatIn=true∧Q t): Pk (pFl f σ) Q:=by
 obtain⟨x,a,b,k⟩:=h;exact⟨_,by simp only[pFl,a,Option.bind_some,b,if_true],k⟩
theorem ZyB{b:PB}{f g:PE}(h:Pb (b σ) fun x=>(x=true→Pk (f σ) Q)∧(x=false→Pk (g σ) Q)): Pk (pIf b f g σ) Q:=by
 obtain⟨x,a,h1,h2⟩:=h
 cases x with
 | true=>obtain⟨t,c,q⟩:=h1 rfl;exact⟨t,by simp[pIf,a,c],q⟩
 | false=>obtain⟨t,c,q⟩:=h2 rfl;exact⟨t,by simp[pIf,a,c],q⟩
theorem ZxO{f:PE}(h:Pk (f σ) fun x=>Pb (ZbN x) fun b=>Q (.bool (!b))): Pk (Zge f σ) Q:=by
 obtain⟨x,a,b,e,q⟩:=h;exact⟨_,by simp only[Zge,a,Option.bind_some,e,Option.map_some],q⟩
theorem ZxP{f g:PE}(h:Pk (f σ) fun x=>Pb (ZbN x) fun b=>(b=true→Pk (g σ) Q)∧(b=false→Q x)): Pk (ZcS f g σ) Q:=by
 obtain⟨x,a,b,e,h1,h2⟩:=h
 cases b with
 | true=>obtain⟨t,c,q⟩:=h1 rfl;exact⟨t,by simp[ZcS,a,e,c],q⟩
 | false=>exact⟨x,by simp[ZcS,a,e],h2 rfl⟩
theorem ZyC{f g:PE}(h:Pk (f σ) fun x=>Pb (ZbN x) fun b=>(b=true→Q x)∧(b=false→Pk (g σ) Q)): Pk (pOr f g σ) Q:=by
 obtain⟨x,a,b,e,h1,h2⟩:=h
 cases b with
 | false=>obtain⟨t,c,q⟩:=h2 rfl;exact⟨t,by simp[pOr,a,e,c],q⟩
 | true=>exact⟨x,by simp[pOr,a,e],h1 rfl⟩
theorem ZyD{K:String}{f:PE}(h:Pk (f σ) fun x=>Q (.bool (Zi2 K x))): Pk (pIs K f σ) Q:=by
 obtain⟨x,a,q⟩:=h;exact⟨_,by simp only[pIs,a,Option.map_some],q⟩
theorem ZxQ{f:PE}(h:Pk (f σ) fun x=>Pb (ZbN x) B): Pb (Zv f σ) B:=by
 obtain⟨x,a,b,e,q⟩:=h;exact⟨_,by simp only[Zv,a,Option.bind_some,e],q⟩
theorem Zww{f:PB}(h:Pb (f σ) fun b=>B (!b)): Pb (Zbp f σ) B:=by
 obtain⟨x,a,q⟩:=h;exact⟨_,by simp only[Zbp,a,Option.map_some],q⟩
theorem Zwx(h:B true): Pb (Zaa σ) B:=⟨_,rfl,h⟩
theorem Zvr(h:B false): Pb (ZbO σ) B:=⟨_,rfl,h⟩
theorem Zwy{f g:PB}(h:Pb (f σ) fun b=>(b=true→Pb (g σ) B)∧(b=false→B false)): Pb (Zah f g σ) B:=by
 obtain⟨x,a,h1,h2⟩:=h
 cases x with
 | true=>obtain⟨t,c,q⟩:=h1 rfl;exact⟨t,by simp[Zah,a,c],q⟩
 | false=>exact⟨_,by simp[Zah,a],h2 rfl⟩
theorem ZxR{f g:PB}(h:Pb (f σ) fun b=>(b=true→B true)∧(b=false→Pb (g σ) B)): Pb (bOr f g σ) B:=by
 obtain⟨x,a,h1,h2⟩:=h
 cases x with
 | false=>obtain⟨t,c,q⟩:=h2 rfl;exact⟨t,by simp[bOr,a,c],q⟩
 | true=>exact⟨_,by simp[bOr,a],h1 rfl⟩
theorem Zua{b:Bool}(h:B b): Pb (ZbN (.bool b)) B:=⟨_,rfl,h⟩
theorem Zwz(h:N σ): Psk (ZN σ) R N:=⟨_,_,rfl,by simp,fun _=>h⟩
theorem ZxS{f:PE}(h:Pk (f σ) R): Psk (Zx f σ) R N:=by
 obtain⟨x,a,q⟩:=h;exact⟨some x,σ,by simp only[Zx,a,Option.map_some],fun t e=>by cases e;exact q,by simp⟩
theorem Ze1{i:Nat}{f:PE}(h:Pk (f σ) fun t=>N (Z1 σ i t)): Psk (ZJ i f σ) R N:=by
 obtain⟨x,a,q⟩:=h;exact⟨none,Z1 σ i x,by simp only[ZJ,a,Option.map_some],by simp,fun _=>q⟩
theorem Zdd{a b:PS}(h:Psk (a σ) R fun σ1=>Psk (b σ1) R N): Psk (Zr a b σ) R N:=by
 obtain⟨o,σ1,e,h1,h2⟩:=h
 cases o with
 | some t=>exact⟨some t,σ1,by simp only[Zr,e,Option.bind_some],h1,by simp⟩
 | none=>
  obtain⟨o2,σ2,e2,k1,k2⟩:=h2 rfl
  exact⟨o2,σ2,by simp only[Zr,e,Option.bind_some,e2],k1,k2⟩
theorem Zoe{b:PB}{f g:PS}(h:Pb (b σ) fun x=>(x=true→Psk (f σ) R N)∧(x=false→Psk (g σ) R N)): Psk (ZL b f g σ) R N:=by
 obtain⟨x,a,h1,h2⟩:=h
 cases x with
 | true=>obtain⟨o,s,c,q⟩:=h1 rfl;exact⟨o,s,by simp[ZL,a,c],q⟩
 | false=>obtain⟨o,s,c,q⟩:=h2 rfl;exact⟨o,s,by simp[ZL,a,c],q⟩
theorem Ze2{n:Nat}{q:PS}{ts:List T}(hn:ts.length=n)(h:Psk (q fun i=>ts[i]?) Q fun _=>Q .none): Pk (Z0 n q ts) Q:=by
 obtain⟨o,s,e,h1,h2⟩:=h
 cases o with
 | some t=>exact⟨t,by simp only[Z0,hn,if_true,e,Option.map_some,Option.getD_some],h1 t rfl⟩
 | none=>exact⟨.none,by simp only[Z0,hn,if_true,e,Option.map_some,Option.getD_none],h2 rfl⟩
theorem ZxT{b:Bool}{A C:Prop}(h:b=true)(k:A): (b=true→A)∧(b=false→C):=⟨fun _=>k,fun e=>(by rw[h]at e;cases e)⟩
theorem ZxU{b:Bool}{A C:Prop}(h:b=false)(k:C): (b=true→A)∧(b=false→C):=⟨fun e=>(by rw[h]at e;cases e),fun _=>k⟩
theorem ZrI{a b:Int}(h:Q (.int (a+b))): Pk (Zad (.int a) (.int b)) Q:=⟨_,rfl,h⟩
theorem ZxV{a b:Int}(h:Q (.int (a-b))): Pk (ZaZ (.int a) (.int b)) Q:=⟨_,rfl,h⟩
theorem ZxW{a:Int}(h:Q (.int (-a))): Pk (Za0 (.int a)) Q:=⟨_,rfl,h⟩
theorem ZyE{a b:Int}(h:Q (.bool (decide (a<b)))): Pk (qLt (.int a) (.int b)) Q:=⟨_,rfl,h⟩
theorem ZyF{a b:Int}(h:Q (.bool (decide (a≤b)))): Pk (qLe (.int a) (.int b)) Q:=⟨_,rfl,h⟩
theorem ZyG{a b:Int}(h:Q (.bool (decide (b<a)))): Pk (qGt (.int a) (.int b)) Q:=⟨_,rfl,h⟩
theorem ZxX{a b:Int}(hb:b≠0)(h:Q (.int (a.fmod b))): Pk (ZaW (.int a) (.int b)) Q:=⟨_,by simp only[ZaW];rw[if_pos hb],h⟩
theorem Zde{a b:Int}(hb:b≠0)(hd:Builtin.divisionGoesByPylong a b=false)(h:Q (.int (a.fdiv b))): Pk (Zcm (.int a) (.int b)) Q:=⟨_,by simp only[Zcm];rw[if_pos ⟨hb,hd⟩],h⟩
theorem Zby{a b:Int}(hm:mulOk a b=true)(h:Q (.int (a*b))): Pk (ZaH (.int a) (.int b)) Q:=⟨_,by simp only[ZaH];rw[if_pos hm],h⟩
theorem ZxY{a:Int}(h:Q (.int (if a<0 then -a else a))): Pk (ZcG [.int a]) Q:=⟨_,rfl,h⟩
theorem ZxZ{a b:Int}(h:Q (.int (if b>a then b else a))): Pk (ZjD [.int a,.int b]) Q:=⟨_,rfl,h⟩
theorem Zx0{a b:Int}(h:Q (.int (if b<a then b else a))): Pk (Zsd [.int a,.int b]) Q:=⟨_,rfl,h⟩
theorem Zi7(a b:Int): ZdI (.int a) (.int b)=some (decide (a=b)):=by
 simp[ZdI,ZcT,SeqAt.shaped,PyData.canLay0,PyData.depth,PyData.eqv]
 by_cases h:a=b <;> simp[h]
theorem ZyH{a b:Int}(h:Q (.bool (decide (a=b)))): Pk (qEq (.int a) (.int b)) Q:=⟨_,by simp only[qEq,Zi7,Option.map_some],h⟩
theorem ZyI{a b:Int}(h:Q (.bool (decide (a≠b)))): Pk (qNe (.int a) (.int b)) Q:=⟨.bool (decide (a≠b)),by simp only[qNe,Zi7,Option.map_some];simp,h⟩
theorem Zvs(a b:Bool): ZdI (.bool a) (.bool b)=some (a == b):=by
 cases a <;> cases b <;> simp[ZdI,ZcT,SeqAt.shaped,PyData.canLay0,PyData.depth,PyData.eqv]
theorem Zx1{a b:Bool}(h:Q (.bool (a == b))): Pk (qEq (.bool a) (.bool b)) Q:=⟨_,by simp only[qEq,Zvs,Option.map_some],h⟩
theorem Zx2(h:Q (.bool true)): Pk (qIs .none .none) Q:=⟨_,rfl,h⟩
theorem Zx3{a:Int}(h:Q (.bool false)): Pk (qIs (.int a) .none) Q:=⟨_,rfl,h⟩
theorem Zx4{a:List T}(h:Q (.bool false)): Pk (qIs (.lst a) .none) Q:=⟨_,rfl,h⟩
theorem Zx5{a:List T}(h:Q (.bool false)): Pk (qIs (.tup a) .none) Q:=⟨_,rfl,h⟩
theorem ZwA(h:Q (.bool false)): Pk (ZaU .none .none) Q:=⟨_,rfl,h⟩
theorem ZwB{a:Int}(h:Q (.bool true)): Pk (ZaU (.int a) .none) Q:=⟨_,rfl,h⟩
theorem ZwC{a:List T}(h:Q (.bool true)): Pk (ZaU (.tup a) .none) Q:=⟨_,rfl,h⟩
theorem ZwD{n:Nat}{f:Nat→T}(h:Q (.int n)): Pk (Zaj [.lst (tab n f)]) Q:=⟨_,by simp only[Zaj,Zau],h⟩
theorem Zx6{ts:List T}(h:Q (.int ts.length)): Pk (Zaj [.lst ts]) Q:=⟨_,rfl,h⟩
theorem ZwE{ts:List T}(h:Q (.int ts.length)): Pk (Zaj [.tup ts]) Q:=⟨_,rfl,h⟩
theorem Zhz{k:Int}{n:Nat}(h0:0≤k)(h1:k<n): seqIndex? k n=some k.toNat:=by
 unfold seqIndex?
 have:¬k<0:=by omega
 simp[this]
 omega
theorem ZwF{n i:Nat}{f:Nat→T}(hi:i<n)(h:Q (f i)): Pk (Zm (.lst (tab n f)) (.int (i:Nat))) Q:=⟨_,by
 simp only[Zm,Zau,Zhz (show(0:Int)≤(i:Int)by omega) (show(i:Int)<(n:Int)by omega),Option.bind_some,Int.toNat_natCast]
 exact Zbx hi,h⟩
theorem ZwG{n:Nat}{k:Int}{f:Nat→T}(h0:0≤k)(h1:k<n)(h:Q (f k.toNat)): Pk (Zm (.lst (tab n f)) (.int k)) Q:=⟨_,by
 simp only[Zm,Zau,Zhz h0 h1,Option.bind_some]
 exact Zbx (by omega),h⟩
theorem Zi8{ts:List T}{k:Int}{t:T}(h0:0≤k)(e:ts[k.toNat]?=some t)(h:Q t): Pk (Zm (.lst ts) (.int k)) Q:=⟨_,by
 simp only[Zm]
 rw[Zhz h0 (by have:=(Zz6.mp e).1;omega)]
 exact e,h⟩
theorem ZwH{ts:List T}{k:Int}{t:T}(h0:0≤k)(e:ts[k.toNat]?=some t)(h:Q t): Pk (Zm (.tup ts) (.int k)) Q:=⟨_,by
 simp only[Zm]
 rw[Zhz h0 (by have:=(Zz6.mp e).1;omega)]
 exact e,h⟩
theorem ZqU{n:Nat}{a:T}{f:Nat→T}(hn:n<10000)(h:Q (.lst (tab (n+1) (cn a f)))): Pk (Zad (.lst [a]) (.lst (tab n f))) Q:=⟨_,by
 simp only[Zad]
 rw[if_pos (by rw[Zbm,List.length_append,Zau];simp;omega),List.singleton_append,Zvq],h⟩
theorem Zvt{ts:List T}(h:Q (.lst ts)): Pk (Zch [.lst ts]) Q:=⟨_,rfl,h⟩
theorem ZwI{ts:List T}(h:Q (.tup ts)): Pk (Zi4 [.lst ts]) Q:=⟨_,rfl,h⟩
theorem ZuQ{n:Nat}{f:Nat→Bool}: ZfY (tab n fun i=>.bool (f i))=some (tab n f):=by
 have:∀l:List Bool,ZfY (l.map T.bool)=some l:=fun l=>by
  induction l with
  | nil=>rfl
  | cons a l ih=>simp only[List.map_cons,ZfY,ih,Option.map_some]
 rw[show(tab n fun i=>T.bool (f i))=(tab n f).map T.bool from tab_map.symm]
 exact this _
theorem Zvu{n:Nat}{f:Nat→Int}: Zdr (tab n fun i=>.int (f i))=some (tab n f):=by
 have:∀l:List Int,Zdr (l.map T.int)=some l:=fun l=>by
  induction l with
  | nil=>rfl
  | cons a l ih=>simp only[List.map_cons,Zdr,ih,Option.map_some]
 rw[show(tab n fun i=>T.int (f i))=(tab n f).map T.int from tab_map.symm]
 exact this _
theorem Zx7{n:Nat}{P:Nat→Prop}(h:Q (.bool (dec (∃i,i<n∧P i)))): Pk (ZhI [.lst (tab n fun i=>.bool (dec (P i)))]) Q:=⟨_,by
 simp only[ZhI,ZuQ,Option.map_some]
 congr 2
 symm
 apply Zod
 rw[List.any_eq_true]
 constructor
 ·rintro⟨x,hx,h⟩
  obtain⟨i,hi,e⟩:=List.getElem_of_mem hx
  rw[Zau]at hi
  have:=Zbx (f:=fun i=>dec (P i)) hi
  rw[List.getElem?_eq_getElem (by rw[Zau];exact hi)]at this
  rw[←e,Option.some.inj this]at h
  exact⟨i,hi,dec_iff.mp h⟩
 ·rintro⟨i,hi,h⟩
  exact⟨_,List.mem_of_getElem? (Zbx hi),ZaB h⟩,h⟩
noncomputable def SqP(x:T)(L:List T→Prop): Prop:=∃ts,(x=.lst ts∨x=.tup ts)∧L ts
theorem Zhc{f:PE}(h:Pk (f σ) fun t=>SqP t L): Pl (ZaD f σ) L:=by
 obtain⟨t,a,ts,rfl | rfl,q⟩:=h <;> exact⟨_,by simp only[ZaD,a,Option.bind_some],q⟩
theorem Sq.lst{ts:List T}(h:L ts): SqP (.lst ts) L:=⟨ts,.inl rfl,h⟩
theorem ZrJ{a b c:Int}{H:Hp}{z:Nx×Nat×Hp}(h:Zcs a b c H=some z): Zcn a b c=some ((List.range (rngN a b c)).map fun(i:Nat)=>.int (a+(i:Int)*c)):=by
 unfold Zcs at h
 split at h
 ·rename_i hc
  unfold Zcn
  rw[if_pos hc]
 ·cases h
theorem Zvv{n:Nat}(hn:n≤1000): Zcn 0 n 1=some (tab n fun i=>.int i):=by
 rw[ZrJ (Zxy (H:=[]) (b:=n) (by omega) (by omega))]
 have e:rngN 0 n 1=n:=by
  unfold rngN Builtin.Range.rangeSize
  by_cases q:(0:Int)<n
  ·rw[if_pos (by decide),if_pos (by omega)];omega
  ·rw[if_pos (by decide),if_neg (by omega)];omega
 rw[e]
 simp[tab]
theorem ZqV{a n:Nat}(ha:0<n)(hn:a+n≤1000): Zcn a (a+n) 1=some (tab n fun i=>.int (a+i)):=by
 rw[ZrJ (ZxA (H:=[]) (a:=a) (b:=a+n) (c:=1) (by omega) (by omega) (by omega) (by omega) (by omega))]
 have e:rngN a (a+n) 1=n:=by
  unfold rngN
  rw[Zsc (by omega) (by omega)]
  omega
 rw[e]
 simp[tab]
theorem ZwJ{g:PEs}{b:Int}{o:Option (List T)}(e:g σ=some [.int b])(h:Zcn 0 b 1=o): Zaw g σ=o:=by
 subst h;unfold Zaw;rw[e];rfl
theorem Zhd{g:PEs}{a b:Int}{o:Option (List T)}(e:g σ=some [.int a,.int b])(h:Zcn a b 1=o): Zaw g σ=o:=by
 subst h;unfold Zaw;rw[e];rfl
noncomputable def RnP(xs:List T)(L:List T→Prop): Prop:=(∃n:Nat,xs=[.int n]∧n≤1000∧L (tab n fun i=>.int i))∨∃(a:Nat) (n:Nat),xs=[.int a,.int (a+n)]∧0<n∧a+n≤1000∧L (tab n fun i=>.int (a+i))
theorem Zvw{g:PEs}(h:Pl (g σ) fun xs=>RnP xs L): Pl (Zaw g σ) L:=by
 obtain⟨xs,e,h⟩:=h
 rcases h with⟨n,h0,h1,q⟩ | ⟨a,n,h0,h1,h2,q⟩
 ·subst h0;exact⟨_,ZwJ e (Zvv h1),q⟩
 ·subst h0;exact⟨_,Zhd e (ZqV h1 h2),q⟩
theorem Rn.one{n:Nat}(hn:n≤1000)(h:L (tab n fun i=>.int i)): RnP [.int n] L:=.inl ⟨n,rfl,hn,h⟩
theorem ZjE{k:Int}(n:Nat)(e:k=n)(hn:n≤1000)(h:L (tab n fun i=>.int i)): RnP [.int k] L:=.inl ⟨n,by rw[e],hn,h⟩
theorem Rn.two{k l:Int}(a n:Nat)(e0:l=a)(e:k=a+n)(ha:0<n)(hn:a+n≤1000)(h:L (tab n fun i=>.int (a+i))): RnP [.int l,.int k] L:=.inr ⟨a,n,by rw[e,e0],ha,hn,h⟩
noncomputable def ZiP(x y:T)(L:List T→Prop): Prop:=∃xs ys,x=.lst xs∧y=.lst ys∧L (List.zipWith (fun a b=>.tup [a,b]) xs ys)
theorem Zof{f g:PE}(h:Pk (f σ) fun x=>Pk (g σ) fun y=>ZiP x y L): Pl (Zd9 f g σ) L:=by
 obtain⟨x,a,y,b,xs,ys,rfl,rfl,q⟩:=h;exact⟨_,by simp only[Zd9,a,b,Option.bind_some],q⟩
theorem Zi.eq{n:Nat}{f g:Nat→T}(h:L (tab n fun i=>.tup [f i,g i])): ZiP (.lst (tab n f)) (.lst (tab n g)) L:=⟨_,_,rfl,rfl,by rw[ZqT,Nat.min_self];exact h⟩
theorem ZpT{j:Nat}{f:PE}{h:T→T}: ∀{ts:List T},(∀t∈ts,f (Z1 σ j t)=some (h t))→Zcj (Z2 j) Zaa f σ ts=some (ts.map h)
 | [],_=>rfl
 | t::ts,k=>by
  simp only[Zcj,Z2,Zaa,Option.bind_some,if_true,k t Zz5,ZpT fun t m=>k t (Zz2 _ m),Option.map_some,List.map_cons]
theorem ZnK{put:T→TL→Option TL}{f:PE}: ∀{ts us:List T},us.length=ts.length→(∀(i:Nat) t u,ts[i]?=some t→us[i]?=some u→∃σ1,put t σ=some σ1∧f σ1=some u)→Zcj put Zaa f σ ts=some us
 | [],us,hl,_=>by cases us with
  | nil=>rfl
  | cons _ _=>simp at hl
 | t::ts,us,hl,k=>by
  cases us with
  | nil=>simp at hl
  | cons u us=>
   obtain⟨σ1,h1,h2⟩:=k 0 t u (by simp) (by simp)
   have:=ZnK (ts:=ts) (us:=us) (f:=f) (put:=put) (by simpa using hl) fun i t' u' h3 h4=>k (i+1) t' u' (by simpa using h3) (by simpa using h4)
   simp only[Zcj,h1,Zaa,Option.bind_some,if_true,h2,this,Option.map_some]
theorem Zb8{g:PG}{j n:Nat}{a b:Nat→T}{f:PE}(hn:n<10000)(hg:Pl (g σ) fun ts=>ts=tab n a)(hf:∀i,i<n→Pk (f (Z1 σ j (a i))) fun t=>t=b i)(h:Q (.lst (tab n b))): Pk (Zan g (Z2 j) Zaa f σ) Q:=by
 obtain⟨ts,e,rfl⟩:=hg
 refine⟨_,?_,h⟩
 simp only[Zan,e,Option.bind_some,Zau]
 rw[if_pos (by rw[Zbm];omega),ZnK (us:=tab n b) (by rw[Zau,Zau]) fun i t u h1 h2=>?_]
 ·rfl
 ·have hi:i<n:=by have:=(Zz6.mp h1).1;rwa [Zau]at this
  rw[Zbx hi]at h1 h2
  cases h1;cases h2
  exact⟨_,rfl,(hf i hi).eq⟩
theorem Zno{g:PG}{j k n:Nat}{a b c:Nat→T}{f:PE}(hn:n<10000)(hg:Pl (g σ) fun ts=>ts=tab n fun i=>.tup [a i,b i])(hf:∀i,i<n→Pk (f (Z1 (Z1 σ j (a i)) k (b i))) fun t=>t=c i)(h:Q (.lst (tab n c))): Pk (Zan g (Zc0 j k) Zaa f σ) Q:=by
 obtain⟨ts,e,rfl⟩:=hg
 refine⟨_,?_,h⟩
 simp only[Zan,e,Option.bind_some,Zau]
 rw[if_pos (by rw[Zbm];omega),ZnK (us:=tab n c) (by rw[Zau,Zau]) fun i t u h1 h2=>?_]
 ·rfl
 ·have hi:i<n:=by have:=(Zz6.mp h1).1;rwa [Zau]at this
  rw[Zbx hi]at h1 h2
  cases h1;cases h2
  exact⟨_,rfl,(hf i hi).eq⟩
theorem Zjp{put:T→TL→Option TL}{b:PS}: ∀{ts:List T} (P:Nat→TL→Prop) {σ:TL},P 0 σ→(∀(i:Nat) t σ,ts[i]?=some t→P i σ→∃σ1,put t σ=some σ1∧Psk (b σ1) R (P (i+1)))→(∀σ,P ts.length σ→N σ)→Psk (Zff put b σ ts) R N
 | [],P,σ,h0,_,h2=>⟨_,_,rfl,by simp,fun _=>h2 _ h0⟩
 | t::ts,P,σ,h0,h1,h2=>by
  obtain⟨σ1,e1,o,σ2,e2,k1,k2⟩:=h1 0 t σ (by simp) h0
  cases o with
  | some v=>exact⟨some v,σ2,by simp only[Zff,e1,Option.bind_some,e2],k1,by simp⟩
  | none=>
   obtain⟨o3,σ3,e3,l1,l2⟩:=Zjp (ts:=ts) (fun i=>P (i+1)) (k2 rfl) (fun i t' σ' h3 h4=>h1 (i+1) t' σ' (by simpa using h3) h4) (fun σ' h=>h2 σ' (by simpa using h))
   exact⟨o3,σ3,by simp only[Zff,e1,Option.bind_some,e2,e3],l1,l2⟩
theorem Za2{g:PG}{j n:Nat}{a:Nat→T}{b:PS}(hg:Pl (g σ) fun ts=>ts=tab n a)(P:Nat→TL→Prop)(h0:P 0 σ)(h1:∀i σ,i<n→P i σ→Psk (b (Z1 σ j (a i))) R (P (i+1)))(h2:∀σ,P n σ→N σ): Psk (Zav g (Z2 j) b σ) R N:=by
 obtain⟨ts,e,rfl⟩:=hg
 have:=Zjp (R:=R) (N:=N) (put:=Z2 j) (b:=b) (ts:=tab n a) P h0 (fun i t σ' h3 h4=>by
  have hi:i<n:=by have:=(Zz6.mp h3).1;rwa [Zau]at this
  rw[Zbx hi]at h3
  cases h3
  exact⟨_,rfl,h1 i σ' hi h4⟩) (by rw[Zau];exact h2)
 obtain⟨o,s,e2,q⟩:=this
 exact⟨o,s,by simp only[Zav,e,Option.bind_some,e2],q⟩
theorem Zi9{g:PG}{j k n:Nat}{a c:Nat→T}{b:PS}(hg:Pl (g σ) fun ts=>ts=tab n fun i=>.tup [a i,c i])(P:Nat→TL→Prop)(h0:P 0 σ)(h1:∀i σ,i<n→P i σ→Psk (b (Z1 (Z1 σ j (a i)) k (c i))) R (P (i+1)))(h2:∀σ,P n σ→N σ): Psk (Zav g (Zc0 j k) b σ) R N:=by
 obtain⟨ts,e,rfl⟩:=hg
 have:=Zjp (R:=R) (N:=N) (put:=Zc0 j k) (b:=b) (ts:=tab n fun i=>.tup [a i,c i]) P h0 (fun i t σ' h3 h4=>by
  have hi:i<n:=by have:=(Zz6.mp h3).1;rwa [Zau]at this
  rw[Zbx hi]at h3
  cases h3
  exact⟨_,rfl,h1 i σ' hi h4⟩) (by rw[Zau];exact h2)
 obtain⟨o,s,e2,q⟩:=this
 exact⟨o,s,by simp only[Zav,e,Option.bind_some,e2],q⟩
theorem ZnL{g:PG}{j:Nat}{ts:List T}{b:PS}(hg:Pl (g σ) fun us=>us=ts)(P:Nat→TL→Prop)(h0:P 0 σ)(h1:∀(i:Nat) t σ,ts[i]?=some t→P i σ→Psk (b (Z1 σ j t)) R (P (i+1)))(h2:∀σ,P ts.length σ→N σ): Psk (Zav g (Z2 j) b σ) R N:=by
 obtain⟨us,e,rfl⟩:=hg
 obtain⟨o,s,e2,q⟩:=Zjp (R:=R) (N:=N) (put:=Z2 j) (b:=b) (ts:=us) P h0 (fun i t σ' h3 h4=>⟨_,rfl,h1 i t σ' h3 h4⟩) h2
 exact⟨o,s,by simp only[Zav,e,Option.bind_some,e2],q⟩
theorem ZfJ{t:PB}{b:PS}(P:Nat→TL→Prop)(R:T→Prop)(N:TL→Prop)(h:∀m σ,P m σ→Pb (t σ) fun x=>(x=true→Psk (b σ) R fun σ1=>∃m',m'<m∧P m' σ1)∧(x=false→N σ)): ∀(n:Nat) {m:Nat} {σ:TL},P m σ→m<n→Psk (Zdo t b n σ) R N
 | 0,_,_,_,hm=>by omega
 | n+1,m,σ,hp,hm=>by
  obtain⟨x,e,h1,h2⟩:=h m σ hp
  cases x with
  | false=>exact⟨none,σ,by simp[Zdo,e],by simp,fun _=>h2 rfl⟩
  | true=>
   obtain⟨o,σ1,e1,k1,k2⟩:=h1 rfl
   cases o with
   | some v=>exact⟨some v,σ1,by simp[Zdo,e,e1],k1,by simp⟩
   | none=>
    obtain⟨m',hm',hp'⟩:=k2 rfl
    obtain⟨o2,σ2,e2,l1,l2⟩:=ZfJ P R N h n hp' (by omega)
    exact⟨o2,σ2,by simp[Zdo,e,e1,e2],l1,l2⟩
theorem ZmL: ZcP σ []=σ:=by funext i;simp[ZcP]
noncomputable def AppP(σ:TL)(x:Nat)(w:T)(N:TL→Prop): Prop:=∃ts,σ x=some (.lst ts)∧ts.length<10000∧N (Z1 σ x (.lst (ts++[w])))
theorem ZwK{x:Nat}{w:T}{ts:List T}(e:σ x=some (.lst ts))(hl:ts.length<10000)(h:N (Z1 σ x (.lst (ts++[w])))): AppP σ x w N:=⟨ts,e,hl,h⟩
theorem Zx8{x:Nat}{f:PE}(h:Pk (f σ) fun w=>AppP σ x w N): Psk (Zez x [] ZaY f σ) R N:=by
 obtain⟨w,e,ts,h1,h2,q⟩:=h
 refine⟨none,_,?_,by simp,fun _=>q⟩
 simp only[Zez,ZaY,Option.bind_some,e,h1,Zd6,ZjQ]
 rw[if_pos (by rw[Zbm];omega)]
 simp only[Option.map_some,ZmL]
noncomputable def AppQ(σ:TL)(x y:Nat)(w:T)(N:TL→Prop): Prop:=∃ts,σ x=some (.lst ts)∧ts.length<10000∧N (ZcP (Z1 σ x (.lst (ts++[w]))) [y])
theorem ZwL{x y:Nat}{w:T}{ts:List T}(e:σ x=some (.lst ts))(hl:ts.length<10000)(h:N (ZcP (Z1 σ x (.lst (ts++[w]))) [y])): AppQ σ x y w N:=⟨ts,e,hl,h⟩
theorem ZwM{x y:Nat}{f:PE}(h:Pk (f σ) fun w=>AppQ σ x y w N): Psk (Zez x [y] ZaY f σ) R N:=by
 obtain⟨w,e,ts,h1,h2,q⟩:=h
 refine⟨none,_,?_,by simp,fun _=>q⟩
 simp only[Zez,ZaY,Option.bind_some,e,h1,Zd6,ZjQ]
 rw[if_pos (by rw[Zbm];omega)]
 simp only[Option.map_some]
noncomputable def PutP(σ:TL)(x:Nat)(w k:T)(N:TL→Prop): Prop:=∃ts m,k=.int m∧σ x=some (.lst ts)∧0≤m∧m<ts.length∧N (Z1 σ x (.lst (ts.set m.toNat w)))
theorem Zvx{x n i:Nat}{w:T}{f:Nat→T}(e:σ x=some (.lst (TM.tab n f)))(hi:i<n)(h:N (Z1 σ x (.lst (TM.tab n fun k=>if k=i then w else f k)))): PutP σ x w (.int i) N:=⟨_,_,rfl,e,by omega,by rw[Zau];omega,by rw[Int.toNat_natCast,Zi6];exact h⟩
theorem ZmM{x n:Nat}{k:Int}{w:T}{f:Nat→T}(e:σ x=some (.lst (TM.tab n f)))(h0:0≤k)(hi:k<n)(h:N (Z1 σ x (.lst (TM.tab n fun i=>if i=k.toNat then w else f i)))): PutP σ x w (.int k) N:=⟨_,_,rfl,e,h0,by rw[Zau];omega,by rw[Zi6];exact h⟩
theorem Zx9{x:Nat}{f i:PE}(h:Pk (f σ) fun w=>Pk (i σ) fun k=>PutP σ x w k N): Psk (Zbq x [] f ZaY i σ) R N:=by
 obtain⟨w,e,k,e2,ts,m,rfl,h1,h2,h3,q⟩:=h
 refine⟨none,_,?_,by simp,fun _=>q⟩
 simp only[Zbq,ZaY,Option.bind_some,e,e2,h1,Zd6,ZjR]
 rw[if_pos ⟨h2,h3⟩]
 simp only[Option.map_some,ZmL]
noncomputable def Put2(σ:TL)(x:Nat)(w a k:T)(N:TL→Prop): Prop:=∃ts us l m,a=.int l∧k=.int m∧σ x=some (.lst ts)∧0≤l∧ts[l.toNat]?=some (.lst us)∧0≤m∧m<us.length∧N (Z1 σ x (.lst (ts.set l.toNat (.lst (us.set m.toNat w)))))
theorem Zqj{x n m i j:Nat}{w:T}{f:Nat→Nat→T}(e:σ x=some (.lst (TM.tab n fun a=>.lst (TM.tab m (f a)))))(hi:i<n)(hj:j<m)(h:N (Z1 σ x (.lst (TM.tab n fun a=>.lst (TM.tab m fun b=>if a=i∧b=j then w else f a b))))): Put2 σ x w (.int i) (.int j) N:=by
 refine⟨_,TM.tab m (f i),i,j,rfl,rfl,e,by omega,?_,by omega,by rw[Zau];omega,?_⟩
 ·rw[Int.toNat_natCast,Zbx hi]
 ·rw[Int.toNat_natCast,Int.toNat_natCast,Zi6,Zi6]
  have:(TM.tab n fun a=>if a=i then T.lst (TM.tab m fun b=>if b=j then w else f i b)else T.lst (TM.tab m (f a)))=TM.tab n fun a=>.lst (TM.tab m fun b=>if a=i∧b=j then w else f a b):=Zbg fun a _=>by
   by_cases q:a=i
   ·subst q;simp
   ·simp[q]
  rw[this];exact h
theorem ZwN{x:Nat}{f i j:PE}(h:Pk (f σ) fun w=>Pk (i σ) fun a=>Pk (j σ) fun k=>Put2 σ x w a k N): Psk (Zbq x [] f (ZdC ZaY i) j σ) R N:=by
 obtain⟨w,e,a,e1,k,e2,ts,us,l,m,rfl,rfl,h1,h0,h4,h2,h3,q⟩:=h
 refine⟨none,_,?_,by simp,fun _=>q⟩
 have hl:=(Zz6.mp h4).1
 simp only[Zbq,ZaY,ZdC,Option.bind_some,e,e1,e2,h1,List.nil_append,Zd6,ZjR,Zhz h0 (show l<ts.length by omega),h4]
 rw[if_pos ⟨h2,h3⟩]
 simp only[Option.map_some,ZmL]
theorem ZwO{i j:Nat}{t:T}{o:Option T}(h:j≠i)(e:σ j=o): Z1 σ i t j=o:=by simp[Z1,h,e]
theorem Zvy{j:Nat}{J:List Nat}{o:Option T}(h:j∉J)(e:σ j=o): ZcP σ J j=o:=by simp[ZcP,h,e]
end
end TM
end
section
set_option autoImplicit false
namespace TM
open PySem PM
inductive Pln: Nat→T→Prop where
 | none {n:Nat}:Pln n .none
 | int {n:Nat} {i:Int}:Pln n (.int i)
 | str {n:Nat} {x:Str}:PyData.strOk x=true→Pln n (.str x)
 | tup {n:Nat} {ts:List T}:(∀t∈ts,Pln n t)→Pln (n+1) (.tup ts)
 | lst {n:Nat} {ts:List T}:(∀t∈ts,Pln n t)→Pln (n+1) (.lst ts)
mutual
noncomputable def dd: T→PyData
 | .none=>.none
 | .bool b=>.bool b
 | .int i=>.int i
 | .str x=>.str x
 | .tup ts=>.tuple (dds ts)
 | .lst ts=>.list (dds ts)
noncomputable def dds: List T→List PyData
 | []=>[]
 | t::ts=>dd t::dds ts
end
theorem Znp{f:T→Option PyData}: ∀{ts:List T},(∀t∈ts,f t=some (dd t))→Zfa f ts=some (dds ts)
 | [],_=>rfl
 | t::ts,h=>by simp only[Zfa,h t Zz5,Znp fun t m=>h t (Zz2 _ m),Option.bind_some,dds]
theorem ZnM: ∀{ts:List T},(∀t∈ts,PyData.canLay0 (dd t)=true)→PyData.canLayAll0 (dds ts)=true
 | [],_=>rfl
 | t::ts,h=>by simp only[dds,PyData.canLayAll0,h t Zz5,ZnM fun t m=>h t (Zz2 _ m),Bool.and_self]
theorem ZnN{n:Nat}: ∀{ts:List T},(∀t∈ts,PyData.depth (dd t)≤n)→PyData.depthAll (dds ts)≤n
 | [],_=>by simp[dds,PyData.depthAll]
 | t::ts,h=>by
  have h1:=h t Zz5
  have h2:=ZnN fun t m=>h t (Zz2 _ m)
  simp only[dds,PyData.depthAll]
  omega
theorem Pln.dat{n:Nat}{t:T}(h:Pln n t): ZcT n t=some (dd t)∧PyData.canLay0 (dd t)=true∧PyData.depth (dd t)≤n:=by
 induction h with
 | @none n=>cases n <;> exact⟨rfl,rfl,by simp[dd,PyData.depth]⟩
 | @int n i=>cases n <;> exact⟨rfl,rfl,by simp[dd,PyData.depth]⟩
 | @str n x h=>cases n <;> exact⟨rfl,by simpa [dd,PyData.canLay0]using h,by simp[dd,PyData.depth]⟩
 | @tup n ts _ ih=>
  refine⟨?_,?_,?_⟩
  ·simp only[ZcT,Znp fun t m=>(ih t m).1,Option.map_some,dd]
  ·simp only[dd,PyData.canLay0];exact ZnM fun t m=>(ih t m).2.1
  ·simp only[dd,PyData.depth]
   have:=ZnN fun t m=>(ih t m).2.2
   omega
 | @lst n ts _ ih=>
  refine⟨?_,?_,?_⟩
  ·simp only[ZcT,Znp fun t m=>(ih t m).1,Option.map_some,dd]
  ·simp only[dd,PyData.canLay0];exact ZnM fun t m=>(ih t m).2.1
  ·simp only[dd,PyData.depth]
   have:=ZnN fun t m=>(ih t m).2.2
   omega
theorem ZnO: ∀{ts us:List T},(∀t∈ts,∀u∈us,(PyData.eqv (dd t) (dd u)=true↔t=u))→(PyData.eqvAll (dds ts) (dds us)=true↔ts=us)
 | [],[],_=>by simp[dds,PyData.eqvAll]
 | [],_::_,_=>by simp[dds,PyData.eqvAll]
 | _::_,[],_=>by simp[dds,PyData.eqvAll]
 | t::ts,u::us,h=>by
  simp only[dds,PyData.eqvAll,Bool.and_eq_true,h t Zz5 u Zz5,ZnO fun t m u n=>h t (Zz2 _ m) u (Zz2 _ n),List.cons.injEq]
theorem Pln.eqv{n:Nat}{t:T}(h:Pln n t): ∀{m:Nat} {u:T},Pln m u→(PyData.eqv (dd t) (dd u)=true↔t=u):=by
 induction h with
 | none=>intro m u h;cases h <;> simp[dd,PyData.eqv]
 | int=>intro m u h;cases h <;> simp[dd,PyData.eqv]
 | str _=>intro m u h;cases h <;> simp[dd,PyData.eqv]
 | tup hs ih=>
  intro m u h
  cases h with
  | tup hu=>simp only[dd,PyData.eqv,T.tup.injEq];exact ZnO fun t a u b=>ih t a (hu u b)
  | none=>simp[dd,PyData.eqv]
  | int=>simp[dd,PyData.eqv]
  | str=>simp[dd,PyData.eqv]
  | lst=>simp[dd,PyData.eqv]
 | lst hs ih=>
  intro m u h
  cases h with
  | lst hu=>simp only[dd,PyData.eqv,T.lst.injEq];exact ZnO fun t a u b=>ih t a (hu u b)
  | none=>simp[dd,PyData.eqv]
  | int=>simp[dd,PyData.eqv]
  | str=>simp[dd,PyData.eqv]
  | tup=>simp[dd,PyData.eqv]
theorem Pln.mono{n:Nat}{t:T}(h:Pln n t): ∀{m:Nat},n≤m→Pln m t:=by
 induction h with
 | none=>intro m _;exact .none
 | int=>intro m _;exact .int
 | str h=>intro m _;exact .str h
 | tup hs ih=>
  intro m hm
  cases m with
  | zero=>omega
  | succ m=>exact .tup fun t a=>ih t a (by omega)
 | lst hs ih=>
  intro m hm
  cases m with
  | zero=>omega
  | succ m=>exact .lst fun t a=>ih t a (by omega)
theorem ZqW{n m:Nat}{a b:T}(ha:Pln n a)(hb:Pln m b)(hn:n≤8:=by decide)(hm:m≤8:=by decide): ZdI a b=some (dec (a=b)):=by
 have ha:=ha.mono hn
 have hb:=hb.mono hm
 obtain⟨a1,a2,a3⟩:=ha.dat
 obtain⟨b1,b2,b3⟩:=hb.dat
 unfold ZdI ZbS
 rw[a1,b1]
 simp only[Option.bind_some]
 rw[if_pos ⟨by simp only[SeqAt.shaped,a2,Bool.true_and,decide_eq_true_eq];omega,by simp only[SeqAt.shaped,b2,Bool.true_and,decide_eq_true_eq];omega⟩,Zod (ha.eqv hb)]
section
variable {Q:T→Prop}
theorem Zbs{n m:Nat}{a b:T}(ha:Pln n a)(hb:Pln m b)(h:Q (.bool (dec (a=b))))(hn:n≤8:=by decide)(hm:m≤8:=by decide): Pk (qEq a b) Q:=⟨_,by simp only[qEq,ZqW ha hb hn hm,Option.map_some],h⟩
theorem Zya{n m:Nat}{a b:T}(ha:Pln n a)(hb:Pln m b)(h:Q (.bool (!dec (a=b))))(hn:n≤8:=by decide)(hm:m≤8:=by decide): Pk (qNe a b) Q:=⟨_,by simp only[qNe,ZqW ha hb hn hm,Option.map_some],h⟩
end
theorem ZcL{α:Type}{n:Nat}{f:Nat→α}{x:α}(h:x∈tab n f): ∃i,i<n∧x=f i:=by
 obtain⟨i,hi,e⟩:=Zz11.mp h
 exact⟨i,List.mem_range.mp hi,e.symm⟩
theorem ZpU{n:Nat}{f:Nat→T}(h:∀i,i<n→(f i).flat=true): T.flats (tab n f)=true:=by
 have key:∀l:List T,(∀t∈l,t.flat=true)→T.flats l=true:=fun l=>by
  induction l with
  | nil=>intro _;rfl
  | cons t l ih=>intro h;simp only[T.flats,h t Zz5,ih fun t m=>h t (Zz2 _ m),Bool.and_self]
 exact key _ fun t m=>by obtain⟨i,hi,rfl⟩:=ZcL m;exact h i hi
theorem Zpy{n:Nat}{f:Nat→T}(h:∀i,i<n→(f i).flat=true): T.flatIn (.lst (tab n f))=true:=ZpU h
noncomputable def oT: Option Int→T
 | none=>.none
 | some x=>.int x
noncomputable def ZT(q:Int×Int): T:=.tup [.int q.1,.int q.2]
noncomputable def Zaz(n:Nat)(x:Nat→Int): T:=.lst (tab n fun i=>.int (x i))
noncomputable def Zaq(n:Nat)(b:Nat→Option Int): T:=.lst (tab n fun j=>oT (b j))
noncomputable def ZW(n:Nat)(G:Nat→Nat→Option Int): T:=.lst (tab n fun i=>Zaq n (G i))
noncomputable def ZaQ(n:Nat)(R:Nat→Int×Int): T:=.lst (tab n fun i=>ZT (R i))
noncomputable def Zz(n:Nat)(G:Nat→Nat→Option Int)(R:Nat→Int×Int): T:=.tup [ZW (n+1) G,ZaQ n R]
theorem Za1: oT none=.none:=rfl
theorem Zam{c:Int}: oT (some c)=.int c:=rfl
theorem ZeS{b:Option Int}: (oT b).flat=true:=by cases b <;> rfl
theorem ZiS{q:Int×Int}: (ZT q).flat=true:=rfl
theorem oT_inj{a b:Option Int}: oT a=oT b↔a=b:=by cases a <;> cases b <;> simp[oT]
theorem ZqX{a b:Int×Int}: ZT a=ZT b↔a=b:=by cases a;cases b;simp[ZT]
theorem Zer{n k:Nat}{f:Nat→T}(h:∀i,i<k→Pln n (f i)): Pln (n+1) (.lst (tab k f)):=.lst fun t m=>by obtain⟨i,hi,rfl⟩:=ZcL m;exact h i hi
theorem ZhA{n:Nat}{b:Option Int}: Pln n (oT b):=by cases b;exact .none;exact .int
theorem Zf0{n:Nat}{q:Int×Int}: Pln (n+1) (ZT q):=.tup fun t m=>by
 simp at m;rcases m with rfl | rfl <;> exact .int
theorem ZqY{n:Nat}{b:Nat→Option Int}: Pln 1 (Zaq n b):=Zer fun _ _=>ZhA
theorem Zvz{n:Nat}{G:Nat→Nat→Option Int}: Pln 2 (ZW n G):=Zer fun _ _=>ZqY
theorem ZvA{n:Nat}{R:Nat→Int×Int}: Pln 2 (ZaQ n R):=Zer fun _ _=>Zf0
theorem ZvB{n:Nat}{G:Nat→Nat→Option Int}{R:Nat→Int×Int}: Pln 3 (Zz n G R):=.tup fun t m=>by
 simp at m;rcases m with rfl | rfl
 ·exact Zvz
 ·exact ZvA
theorem ZbD{σ:TL}{i:Nat}{t:T}: Z1 σ i t i=some t:=by simp[Z1]
end TM
end
section
set_option autoImplicit false
namespace PM
open PySem PySem.W PySem.Calls PyProof.Rows PyProof PyProof.Rows.LCg PyProof.Rows.LCp
noncomputable def sNo: Sm:=fun _ _=>none
noncomputable def inD(d:PyData): PyData→Option Bool
 | .list xs=>if PyData.canLayAll0 xs=true∧d.canLay0=true∧d.depth≤64 then some (xs.any fun y=>PyData.eqv y d)else none
 | .tuple xs=>if PyData.canLayAll0 xs=true∧d.canLay0=true∧d.depth≤64 then some (xs.any fun y=>PyData.eqv y d)else none
 | _=>none
noncomputable def ZoG(a b:V)(H:Hp): Option Bool:=(toD H ZbS a).bind fun d=>(toD H ZbS b).bind fun e=>inD d e
noncomputable def oIn(a b:V)(H:Hp): Option (V×Hp):=(ZoG a b H).map fun c=>(.bool c,H)
noncomputable def Zhk(a:Nat): Nx:=fun i H=>H[a]?.bind fun vs=>match vs[i]? with
 | some x=>some (some (.tup [.int i,x]))
 | none=>if i=vs.length then some none else none
noncomputable def ZjF(f:Ex): Src:=fun ρ H=>(f ρ H).bind fun p=>match p.1 with
 | .ref a=>p.2[a]?.map fun vs=>(Zhk a,vs.length+1,p.2)
 | _=>none
section
variable {prog:Program} {w:World} {Γ:Cx}
theorem ZyJ{st:Stmt}: S1 prog w Γ st sNo:=fun W ρ H fr s Q E r rp hf post=>by cases hf
theorem Zoy: Op2 prog w (compareOp .In) oIn:=by
 intro Γ W ρ H fr s Q E a b x y v H' r hx hy ho post
 obtain⟨c,e1,e2⟩:=Zz1.mp ho
 cases e2
 obtain⟨d,h1,e1⟩:=Zz0.mp e1
 obtain⟨e,h2,e1⟩:=Zz0.mp e1
 obtain⟨as,R1⟩:=ZfB r ZbS a x d hx h1
 obtain⟨bs,R2⟩:=ZfB r ZbS b y e hy h2
 have hu:=Γ.hu
 unfold inD at e1
 split at e1
 ·split at e1
  ·rename_i hs
   cases e1
   exact SeqAt.in_list_reads R2 R1 hs.1 hs.2.1 (by omega) (post W s.heap s.toks _ (.refl W) r (.bool _))
  ·cases e1
 ·split at e1
  ·rename_i hs
   cases e1
   exact SeqAt.in_tuple_reads R2 R1 hs.1 hs.2.1 (by omega) (post W s.heap s.toks _ (.refl W) r (.bool _))
  ·cases e1
 ·cases e1
noncomputable def ES(e it l:Addr)(i:Nat)(h:Heap): Prop:=(∃old,IsEnum h e it i old)∧h.IsListIter it l i
theorem ES.at{e it l:Addr}{i:Nat}{h h':Heap}(x:ES e it l i h)(k:∀a∈[e,it],∀o,h.get? a=some o→h'.get? a=some o): ES e it l i h':=by
 obtain⟨⟨old,h1⟩,h2⟩:=x
 exact⟨⟨old,k e (by simp) _ h1⟩,h2.at fun o x=>k it (by simp) o x⟩
theorem ES.have{e it l:Addr}{i:Nat}{h:Heap}(x:ES e it l i h): ∀a∈[e,it],∃o,h.get? a=some o:=by
 obtain⟨⟨old,h1⟩,o,h2,_⟩:=x
 intro a ha
 simp at ha
 rcases ha with rfl | rfl
 ·exact⟨_,h1⟩
 ·exact⟨_,h2⟩
noncomputable def EIt(e it l:Addr)(i:Nat)(fs:List (Addr×Obj)): Prop:=fs.map (·.1)=[e,it]∧∀h:Heap,(∀q∈fs,h.get? q.1=some q.2)→ES e it l i h
theorem ZqZ{e it l:Addr}{i:Nat}{h:Heap}(x:ES e it l i h): ∃fs,EIt e it l i fs∧∀q∈fs,h.get? q.1=some q.2:=by
 obtain⟨fs,h1,h2⟩:=ZoF h [e,it] x.have
 refine⟨fs,⟨h1,fun h' k=>x.at fun a ha o ho=>?_⟩,h2⟩
 rw[←h1]at ha
 obtain⟨q,hq,eq⟩:=Zz11.mp ha
 have:=h2 q hq
 rw[eq,ho]at this
 cases this
 exact eq▸k q hq
theorem ZwP{W0:Wd}{e it l:Addr}{a:Nat}(ea:W0.pi[a]?=some l)(hei:e≠it)(hle:l≠e)(hli:l≠it):
  Itr2 prog w Γ W0 (.ref e) [e,it] (EIt e it l) (Zhk a):=by
 refine⟨fun i fs h=>h.1,?_,?_,?_,?_⟩
 ·intro i H v hh
  obtain⟨vs,e1,hh⟩:=Zz0.mp hh
  split at hh
  ·cases hh
   exact⟨_,_,rfl⟩
  ·split at hh <;> cases hh
 ·intro i W ρ H fr fs s Q E va vb le r ap hit hn post
  obtain⟨vs,e1,hh⟩:=Zz0.mp hn
  have hv:va=.int i∧vs[i]?=some vb:=by
   split at hh
   ·rename_i x h1
    cases hh
    exact⟨rfl,h1⟩
   ·split at hh <;> cases hh
  obtain⟨_,xs,k1,g1,v1⟩:=r.at e1 (le.at ea)
  obtain⟨x,hx,rx⟩:=v1.at hv.2
  have st:ES e it l i s.heap:=hit.2 _ fun q hq=>r.frAt (Zz4 _ hq)
  have Wk:=WalksT.enumerate (prog:=prog) (w:=w) (A:=Γ.A) Γ.hh e it l hei hle hli xs.toArray
  have isl1:s.heap.IsList l xs.toArray:=⟨_,g1,rfl,k1,rfl⟩
  have hi:i<xs.toArray.size:=by
   have h1:=(Zz6.mp hx).1
   simpa using h1
  refine Wk.item i s Q E hi ⟨st.1,st.2,isl1⟩ fun T vals h1 t1 hp hT hTup hmid keep1=>post T h1 t1 ?_
  intro elts k pos s1 Q1 E1 es1 q1
  subst es1
  have hTw:=Wk.apart i T _ hmid
  refine Wk.go elts k pos i T _ Q1 E1 hmid fun h2 st2 keep2=>?_
  obtain⟨tk,x',hx',ev⟩:=hp
  have ex:x'=x:=by
   have:xs[i]?=some x':=by simpa using hx'
   rw[hx]at this
   exact(Option.some.inj this).symm
  subst ex ev
  obtain⟨fs',hit',at'⟩:=ZqZ (h:=h2) (⟨st2.1,st2.2.1⟩:ES e it l (i+1) h2)
  obtain⟨oT,gT,cT,nT,dT⟩:=hTup
  refine q1 fs' h2 (.int i tk) x' hit' ?_ ⟨oT,keep2 T oT hTw gT,cT,nT,dT⟩ (by rw[hv.1];exact .int _ _) rx
  refine r.swap (fs':=fs') (fun q hq t ht=>?_) (fun c o hc e=>?_) fun q hq=>⟨at' q hq,?_⟩
  ·exact ap _ (hit.1▸List.mem_map_of_mem hq) t ht
  ·rw[hit.1]at hc
   exact keep2 c o hc (keep1 c o hc e)
  ·rw[hit.1,←hit'.1]
   exact List.mem_map_of_mem hq
 ·intro i W ρ H fr fs s Q E le r ap hit hn post
  obtain⟨vs,e1,hh⟩:=Zz0.mp hn
  obtain⟨_,xs,k1,g1,v1⟩:=r.at e1 (le.at ea)
  have hi:i=vs.length:=by
   split at hh
   ·cases hh
   ·split at hh
    ·assumption
    ·cases hh
  have st:ES e it l i s.heap:=hit.2 _ fun q hq=>r.frAt (Zz4 _ hq)
  have Wk:=WalksT.enumerate (prog:=prog) (w:=w) (A:=Γ.A) Γ.hh e it l hei hle hli xs.toArray
  have hm:xs.toArray.size=i:=by simp[v1.length,hi]
  refine Wk.done s Q E (by rw[hm];exact⟨st.1,st.2,⟨_,g1,rfl,k1,rfl⟩⟩) fun h' tk keep=>post h' tk ?_
  have:=r.swap (fs':=[]) (fun q hq t ht=>ap _ (hit.1▸List.mem_map_of_mem hq) t ht) (fun c o hc e=>keep c o (by rw[hit.1]at hc;exact hc) e) (fun q hq=>nomatch hq)
  exact this
 ·intro i W ρ H fr fs s Q E o le r hit hn q
  obtain⟨vs,e1,hh⟩:=Zz0.mp hn
  obtain⟨_,xs,k1,g1,v1⟩:=r.at e1 (le.at ea)
  have st:ES e it l i s.heap:=hit.2 _ fun q hq=>r.frAt (Zz4 _ hq)
  have Wk:=WalksT.enumerate (prog:=prog) (w:=w) (A:=Γ.A) Γ.hh e it l hei hle hli xs.toArray
  exact Wk.self i s Q E ⟨st.1,st.2,⟨_,g1,rfl,k1,rfl⟩⟩ q
theorem ZvC{x:Str}{np pos:Pos}{e1:Expr}{f:Ex}(hn:Nm prog w Γ x (.type "enumerate"))(h1:J prog w Γ e1 f)
  (he:starEach [e1] Γ.env=(false,eval e1 Γ.env)::starEach [] Γ.env:=by rfl) (hp:∀pos,(backTo pos (starEach [] Γ.env)).any (·.1)=false:=by intro _;rfl):JI2 prog w Γ (.Call (.Name x np) [e1] [] pos) (ZjF f):=by
 intro W ρ H fr s Q E nx n H' r hf post
 obtain⟨p,a1,hf⟩:=Zz0.mp hf
 refine wpAny_Call_ofName (hn.use r ?_)
 refine PySem.Pv.callWith_type1 (wpAny_items_cons (h1 W ρ H fr s _ E _ _ r a1 fun W1 k1 t1 y1 l1 r1 v1=>wpAny_items_nil ?_) he) he (hp pos)
 obtain⟨u1,H1⟩:=p
 simp only at hf v1 r1
 cases u1 <;> first | (cases hf;done) | skip
 rename_i b1
 obtain⟨vs,c1,c3⟩:=Zz1.mp hf
 cases c3
 cases v1 with
 | @ref _ m1 ea=>
 obtain⟨_,xs,n1,g1,w1⟩:=r1.at c1 ea
 have isl1:k1.IsList m1 xs.toArray:=⟨_,g1,rfl,n1,rfl⟩
 refine call_enumerate_list (s:={ s with heap:=k1,toks:=t1 }) isl1 fun h₁ hE hI hsz up=>?_
 have hlt:m1<k1.objs.size:=Heap.lt_size g1
 have Wk:=WalksT.enumerate (prog:=prog) (w:=w) (A:=Γ.A) Γ.hh (k1.objs.size+1) k1.objs.size m1 (Nat.succ_ne_self _) (Nat.ne_of_lt (Nat.lt_succ_of_lt hlt)) (Nat.ne_of_lt hlt) xs.toArray
 have zs:ES (k1.objs.size+1) k1.objs.size m1 0 h₁:=⟨⟨_,hE⟩,hI⟩
 refine Wk.self 0 _ _ _ ⟨⟨_,hE⟩,hI,isl1.at fun o e=>up _ o e⟩ ?_
 obtain⟨fs,hit,at'⟩:=ZqZ zs
 obtain⟨r3,ap3⟩:=r1.more (fs:=fs) (h':=h₁) (fun b o e=>up b o e) (fun q hq=>⟨at' q hq,by
  have:q.1∈fs.map (·.1):=List.mem_map_of_mem hq
  rw[hit.1]at this
  simp at this
  rcases this with e | e <;> rw[e] <;> omega⟩)
 refine post W1 h₁ t1 _ _ _ fs l1 hit r3 (fun b hb t ht=>?_) (ZwP ea (Nat.succ_ne_self _) (Nat.ne_of_lt (Nat.lt_succ_of_lt hlt)) (Nat.ne_of_lt hlt)) ?_
 ·rw[←hit.1]at hb
  obtain⟨q,hq,e⟩:=Zz11.mp hb
  exact e▸ap3 q hq t ht
 ·simp only[Zhk,c1,Option.bind_some]
  cases q:vs[0]? with
  | some x=>exact⟨_,rfl⟩
  | none=>
   have:vs.length=0:=by simpa using q
   simp[this]
theorem ZrK{e1 e2 e3:Expr}{es:List Expr}{pos:Pos}{f g:Ex}(h1:J prog w Γ e1 f)(h2:J prog w Γ (.BoolOp .And (e2::e3::es) pos) g) (he:eval (.BoolOp .And (e1::e2::e3::es) pos) Γ.env=(do
  let v ←eval e1 Γ.env
  standAt pos
  let t ←holding [v] (truthy v)
  match BoolOp.And,t with
  | .And,false | .Or,true=>pure v
  | _,_=>eval (.BoolOp .And (e2::e3::es) pos) Γ.env):=by rfl):J prog w Γ (.BoolOp .And (e1::e2::e3::es) pos) (ZcC f g):=by
 intro W ρ H fr s Q E v H' r hf post
 obtain⟨p,a1,hf⟩:=Zz0.mp hf
 obtain⟨b,a2,a3⟩:=Zz0.mp hf
 rw[he]
 refine wpAny_bind (wpAny_mono (h1 W ρ H fr s (fun x s₁=>wpAny (model prog w) Γ.A (truthy x) (fun t s₂=>if t then wpAny (model prog w) Γ.A (eval (.BoolOp .And (e2::e3::es) pos) Γ.env) Q E s₂ else Q x s₂) E s₁) E _ _ r a1 fun W1 k1 t1 x l1 r1 x1=>?_) (fun v s₁ h₁=>wpAny_bind (wpAny_standAt (wpAny_bind (wpAny_holding (wpAny_mono h₁ (fun t s₂ h₂=>?_) fun _ _ x=>x))))) fun _ _ x=>x)
 ·refine truth Γ W1 ρ _ fr _ _ E _ x b r1 x1 a2 fun W2 k2 t2 l2 r2=>?_
  cases b with
  | true=>exact h2 W2 ρ _ fr _ Q E _ H' r2 a3 fun W3 k3 t3 z l3 r3 z3=>post W3 k3 t3 z ((l1.trans l2).trans l3) r3 z3
  | false=>
   cases a3
   exact post W2 k2 t2 x (l1.trans l2) r2 (x1.mono l2)
 ·cases t with
  | false=>exact wpAny_pure h₂
  | true=>exact h₂
theorem ZyK{e1 e2 e3:Expr}{es:List Expr}{pos:Pos}{f g:Ex}(h1:J prog w Γ e1 f)(h2:J prog w Γ (.BoolOp .Or (e2::e3::es) pos) g) (he:eval (.BoolOp .Or (e1::e2::e3::es) pos) Γ.env=(do
  let v ←eval e1 Γ.env
  standAt pos
  let t ←holding [v] (truthy v)
  match BoolOp.Or,t with
  | .And,false | .Or,true=>pure v
  | _,_=>eval (.BoolOp .Or (e2::e3::es) pos) Γ.env):=by rfl):J prog w Γ (.BoolOp .Or (e1::e2::e3::es) pos) (eOr f g):=by
 intro W ρ H fr s Q E v H' r hf post
 obtain⟨p,a1,hf⟩:=Zz0.mp hf
 obtain⟨b,a2,a3⟩:=Zz0.mp hf
 rw[he]
 refine wpAny_bind (wpAny_mono (h1 W ρ H fr s (fun x s₁=>wpAny (model prog w) Γ.A (truthy x) (fun t s₂=>if t then Q x s₂ else wpAny (model prog w) Γ.A (eval (.BoolOp .Or (e2::e3::es) pos) Γ.env) Q E s₂) E s₁) E _ _ r a1 fun W1 k1 t1 x l1 r1 x1=>?_) (fun v s₁ h₁=>wpAny_bind (wpAny_standAt (wpAny_bind (wpAny_holding (wpAny_mono h₁ (fun t s₂ h₂=>?_) fun _ _ x=>x))))) fun _ _ x=>x)
 ·refine truth Γ W1 ρ _ fr _ _ E _ x b r1 x1 a2 fun W2 k2 t2 l2 r2=>?_
  cases b with
  | false=>exact h2 W2 ρ _ fr _ Q E _ H' r2 a3 fun W3 k3 t3 z l3 r3 z3=>post W3 k3 t3 z ((l1.trans l2).trans l3) r3 z3
  | true=>
   cases a3
   exact post W2 k2 t2 x (l1.trans l2) r2 (x1.mono l2)
 ·cases t with
  | false=>exact h₂
  | true=>exact wpAny_pure h₂
end
end PM
end
section
set_option autoImplicit false
namespace TM
open PySem PM
noncomputable def ZhK(a b:T): Option Bool:=(ZcT ZbS a).bind fun d=>(ZcT ZbS b).bind fun e=>inD d e
noncomputable def qIn(a b:T): Option T:=(ZhK a b).map .bool
theorem Zyb{H:Hp}{v1 v2:V}{t1 t2:T}{F1 F2:List Nat}(r1:RF H v1 t1 F1)(r2:RF H v2 t2 F2): ZoG v1 v2 H=ZhK t1 t2:=by
 simp only[ZoG,ZhK,Zjn ZbS _ _ _ r1,Zjn ZbS _ _ _ r2]
theorem ZjS: OA2 oIn qIn:=fun H v1 v2 t1 t2 t F1 F2 r1 r2 h=>by
 obtain⟨c,h1,h⟩:=Zz1.mp h
 subst h
 exact⟨_,by simp only[oIn,Zyb r1 r2,h1,Option.map_some],.bool _⟩
theorem ZrL{d:T}: ∀{ts:List T},(∀t∈ts,(PyData.eqv (dd t) (dd d)=true↔t=d))→((dds ts).any fun y=>PyData.eqv y (dd d))=dec (d∈ts)
 | [],_=>by simp[dds,ZaC]
 | t::ts,h=>by
  have ih:=ZrL (d:=d) (ts:=ts) fun t m=>h t (Zz2 _ m)
  simp only[dds,List.any_cons,ih]
  symm
  apply Zod
  rw[Bool.or_eq_true,h t Zz5,dec_iff]
  simp[eq_comm]
theorem Zyc{n m:Nat}{a:T}{ts:List T}(ha:Pln n a)(hb:Pln m (.lst ts))(hn:n≤8:=by decide)(hm:m≤8:=by decide): ZhK a (.lst ts)=some (dec (a∈ts)):=by
 have ha:=ha.mono hn
 have hb:=hb.mono hm
 obtain⟨a1,a2,a3⟩:=ha.dat
 obtain⟨b1,b2,b3⟩:=hb.dat
 unfold ZhK ZbS
 rw[a1,b1]
 simp only[Option.bind_some,dd,inD]
 simp only[dd,PyData.canLay0]at b2
 rw[if_pos ⟨b2,a2,by omega⟩,ZrL]
 intro t m
 cases hb with
 | lst hs=>exact(hs t m).eqv ha
section
variable {Q:T→Prop}
theorem Zf9{n m:Nat}{a:T}{ts:List T}(ha:Pln n a)(hb:Pln m (.lst ts))(h:Q (.bool (dec (a∈ts))))(hn:n≤8:=by decide)(hm:m≤8:=by decide): Pk (qIn a (.lst ts)) Q:=⟨_,by simp only[qIn,Zyc ha hb hn hm,Option.map_some],h⟩
end
noncomputable def Zfb(ts:List T): List T:=List.zipWith (fun i t=>.tup [.int (i:Nat),t]) (List.range ts.length) ts
noncomputable def ZjG(p:PE): PG:=fun σ=>(p σ).bind fun t=>match t with
 | .lst ts=>some (Zfb ts)
 | _=>none
theorem ZvD{ts:List T}: (Zfb ts).length=ts.length:=by simp[Zfb]
theorem Zqk{H:Hp}: ∀{vs:List V} {ts:List T} {F:List Nat} (k:Nat),RFs H vs ts F→RFs H (List.zipWith (fun i v=>V.tup [.int (i:Nat),v]) (List.range' k ts.length) vs) (List.zipWith (fun i t=>T.tup [.int (i:Nat),t]) (List.range' k ts.length) ts) F
 | _,_,_,_,.nil=>.nil
 | _,_,_,k,.cons a b=>by
  rw[List.length_cons,List.range'_succ]
  have h1:RF H (V.tup [.int (k:Nat),_]) (T.tup [.int (k:Nat),_]) _:=.tup (.cons (.int _) (.one a))
  simpa using RFs.cons h1 (Zqk (k+1) b)
theorem ZwQ{O N:List Nat}{u:Bool}{e:Ex}{p:PE}(x:E O N u e p): Gs O N (ZjF e) (ZjG p):=fun c ρ σ H Φ ts s h=>by
 obtain⟨t1,h1,h⟩:=Zz0.mp h
 obtain⟨v,X,F,a1,a2,a3,a4⟩:=x c ρ σ H Φ t1 s h1
 have hlt:=a2.lt
 cases a2 with
 | none=>cases h
 | bool=>cases h
 | int=>cases h
 | str=>cases h
 | tup=>cases h
 | @ref b vs us F' e1 hs=>
  cases h
  have hl:=hs.length
  refine⟨Zhk b,X,List.zipWith (fun i v=>V.tup [.int (i:Nat),v]) (List.range us.length) vs,F',b::F',by simp only[ZjF,a1,Option.bind_some,e1,Option.map_some,ZvD,hl],?_,fun _ m=>List.mem_cons_of_mem _ m,fun a m=>⟨hlt a m,a3 a m⟩,fun K hK i hi=>?_⟩
  ·have:=Zqk 0 hs
   unfold Zfb
   rw[List.range_eq_range']
   exact this
  ·simp only[Zhk,hK b Zz5,e1,Option.bind_some,List.getElem?_zipWith]
   simp only[List.length_zipWith,List.length_range]at hi
   by_cases q:i<vs.length
   ·rw[List.getElem?_eq_getElem q,List.getElem?_range (by omega)]
   ·rw[List.getElem?_eq_none (by omega),List.getElem?_eq_none (by simp;omega)]
    simp
    omega
theorem ZvE{n:Nat}{f:Nat→T}: Zfb (tab n f)=tab n fun i=>.tup [.int (i:Nat),f i]:=by
 unfold Zfb
 rw[Zau]
 have:List.range n=tab n fun i=>i:=by simp[tab]
 rw[this,ZqT,Nat.min_self]
section
variable {σ:TL} {L:List T→Prop}
noncomputable def EnP(x:T)(L:List T→Prop): Prop:=∃ts,x=.lst ts∧L (Zfb ts)
theorem ZwR{f:PE}(h:Pk (f σ) fun t=>EnP t L): Pl (ZjG f σ) L:=by
 obtain⟨t,a,ts,rfl,q⟩:=h;exact⟨_,by simp only[ZjG,a,Option.bind_some],q⟩
theorem ZwS{n:Nat}{f:Nat→T}(h:L (TM.tab n fun i=>.tup [.int (i:Nat),f i])): EnP (.lst (TM.tab n f)) L:=⟨_,rfl,by rw[ZvE];exact h⟩
end
noncomputable def ZjH(g:PG)(put:T→TL→Option TL)(b:PS): PS:=fun σ=>(g σ).bind fun ts=>if ts=[]then none else Zff put b σ ts
end TM
end
section
set_option autoImplicit false
namespace PM
open PySem PySem.W PySem.Calls PyProof.Rows PyProof
noncomputable def Zhl(o1 o2:V→V→Hp→Option (V×Hp))(f g h:Ex): Ts:=fun ρ H=>(f ρ H).bind fun p=>(g ρ p.2).bind fun q=>(o1 p.1 q.1 q.2).bind fun u=>(ZcY u.1 u.2).bind fun b=>if b then(h ρ u.2).bind fun x=>(o2 q.1 x.1 x.2).bind fun y=>(ZcY y.1 y.2).map fun c=>(c,y.2)else some (false,u.2)
section
variable {prog:Program} {w:World} {Γ:Cx}
theorem ZvF{e1 e2 e3:Expr}{op1 op2:CmpOp}{pos:Pos}{f g h:Ex}{o1 o2:V→V→Hp→Option (V×Hp)}(h1:J prog w Γ e1 f)(h2:J prog w Γ e2 g)(h3:J prog w Γ e3 h)(k1:Op2 prog w (compareOp op1) o1)(k2:Op2 prog w (compareOp op2) o2)(hm:lastMarks [op1,op2] [e2,e3]=false:=by with_unfolding_all rfl): JT prog w Γ (.Compare e1 [op1,op2] [e2,e3] pos) (Zhl o1 o2 f g h):=by
 intro W ρ H fr s Q E b H' r hf post
 obtain⟨p,a1,hf⟩:=Zz0.mp hf
 obtain⟨q,a2,hf⟩:=Zz0.mp hf
 obtain⟨u,a3,hf⟩:=Zz0.mp hf
 obtain⟨c,a4,hf⟩:=Zz0.mp hf
 refine isTrue_chain (h1 W ρ H fr s _ E _ _ r a1 fun W1 n1 t1 x l1 r1 x1=>?_) hm
 refine test_link (h2 W1 ρ _ fr _ _ E _ _ r1 a2 fun W2 n2 t2 y l2 r2 y2=>?_)
 refine k1 Γ W2 ρ _ fr _ _ E _ _ x y _ _ r2 (x1.mono l2) y2 a3 fun W3 n3 t3 z l3 r3 z3=>?_
 refine truth Γ W3 ρ _ fr _ _ E _ z c r3 z3 a4 fun W4 n4 t4 l4 r4=>?_
 cases c with
 | false=>
  cases hf
  exact post W4 n4 t4 (((l1.trans l2).trans l3).trans l4) r4
 | true=>
  simp only[if_true]at hf
  obtain⟨v,a5,hf⟩:=Zz0.mp hf
  obtain⟨v2,a6,hf⟩:=Zz0.mp hf
  obtain⟨d,a7,a8⟩:=Zz1.mp hf
  cases a8
  refine test_last (h3 W4 ρ _ fr _ _ E _ _ r4 a5 fun W5 n5 t5 y5 l5 r5 x5=>?_)
  refine k2 Γ W5 ρ _ fr _ _ E _ _ y y5 _ _ r5 (((y2.mono l3).mono l4).mono l5) x5 a6 fun W6 n6 t6 z6 l6 r6 x6=>?_
  exact truth Γ W6 ρ _ fr _ _ E _ z6 b r6 x6 a7 fun W7 n7 t7 l7 r7=>post W7 n7 t7 ((((((l1.trans l2).trans l3).trans l4).trans l5).trans l6).trans l7) r7
end
end PM
end
section
set_option autoImplicit false
namespace TM
open PySem PM
section
variable {O N M K:List Nat} {u u' u'':Bool}
noncomputable def Zhm(q1 q2:T→T→Option T)(p1 p2 p3:PE): PB:=fun σ=>(p1 σ).bind fun x=>(p2 σ).bind fun y=>(q1 x y).bind fun z=>(ZbN z).bind fun b=>if b then(p3 σ).bind fun v=>(q2 y v).bind ZbN else some false
theorem ZvG{e1 e2 e3:Ex}{p1 p2 p3:PE}{q1 q2:T→T→Option T}{o1 o2:V→V→Hp→Option (V×Hp)}(k1:OA2 o1 q1)(k2:OA2 o2 q2)(x:E O N u e1 p1)(y:E O M u' e2 p2)(z:E O K u'' e3 p3): Bt O (Zhl o1 o2 e1 e2 e3) (Zhm q1 q2 p1 p2 p3):=fun c ρ σ H Φ b s h=>by
 obtain⟨t1,h1,h⟩:=Zz0.mp h
 obtain⟨t2,h2,h⟩:=Zz0.mp h
 obtain⟨t3,h3,h⟩:=Zz0.mp h
 obtain⟨b0,h4,h⟩:=Zz0.mp h
 obtain⟨v1,X,F,a1,a2,_,_⟩:=x c ρ σ H Φ t1 s h1
 obtain⟨v2,Y,G,b1,b2,_,_⟩:=y c ρ σ (H++X) Φ t2 (s.ext X) h2
 obtain⟨v3,c1,c2⟩:=k1 _ v1 v2 t1 t2 t3 F G (a2.ext Y) b2 h3
 have d1:=Zek c2 h4
 cases b0 with
 | false=>
  cases h
  exact⟨X++Y,by simp only[Zhl,a1,b1,Option.bind_some,c1,d1];simp⟩
 | true=>
  simp only[if_true]at h
  obtain⟨t5,h5,h⟩:=Zz0.mp h
  obtain⟨t6,h6,h⟩:=Zz0.mp h
  obtain⟨v5,Z,F5,e1,e2,_,_⟩:=z c ρ σ (H++X++Y) Φ t5 ((s.ext X).ext Y) h5
  obtain⟨v6,f1,f2⟩:=k2 _ v2 v5 t2 t5 t6 G F5 (b2.ext Z) e2 h6
  have g1:=Zek f2 h
  exact⟨X++Y++Z,by simp only[Zhl,a1,b1,Option.bind_some,c1,d1,if_true,e1,f1,g1,Option.map_some];simp⟩
noncomputable def OIn(o:List V→Hp→Option (V×Hp))(q:List T→Option T): Prop:=∀(H:Hp) (vs:List V) (ts:List T) (t:T) (F1:List Nat),RFs H vs ts F1→q ts=some t→∃v F,o vs H=some (v,H)∧RF H v t F∧F.Sublist F1
theorem ZwT{n:Nat}{es:Exs}{ps:PEs}{q:List T→Option T}{o:List V→Hp→Option (V×Hp)}(k:OIn o q)(x:Es O N u n es ps): E O N u (Zu o es) (Zp q ps):=fun c ρ σ H Φ t s h=>by
 obtain⟨ts,h1,h⟩:=Zz0.mp h
 obtain⟨_,vs,X,F,a1,a2,a3,a4⟩:=x c ρ σ H Φ ts s h1
 obtain⟨w,G,b1,b2,b3⟩:=k _ vs ts t F a2 h
 exact⟨w,X,G,by simp only[Zu,a1,Option.bind_some,b1],b2,fun a m=>a3 a (b3.subset m),fun hu=>(a4 hu).sublist b3⟩
theorem ZvH: OIn ZfQ Zi4:=fun H vs ts t F r h=>by
 unfold Zi4 at h
 split at h
 ·obtain⟨v,rfl,r'⟩:=r.one_inv
  cases r' with
  | @ref a vs1 _ F1 e hs=>cases h;exact⟨.tup vs1,F1,by simp only[ZfQ,e,Option.map_some],.tup hs,List.sublist_cons_self _ _⟩
 ·obtain⟨v,rfl,r'⟩:=r.one_inv
  cases r' with
  | @tup vs1 _ _ hs=>cases h;exact⟨.tup vs1,_,by simp only[ZfQ],.tup hs,List.Sublist.refl _⟩
 ·cases h
end
theorem Zyd{O O1 R J Ns:List Nat}{fr:Bool}{g:Src}{q:PG}{put:V→Lc→Option Lc}{pput:T→TL→Option TL}{b:Sm}{qb:PS}(hg:Gs O Ns g q)(hj:PutOk O J put pput)(hj1:PutOk O1 J put pput)(hJ:∀i∈J,i∉O)(hJ1:∀i∈J,i∉O1)(hN:∀i∈Ns,i∉O)(hb:S O O1 R fr b qb)(hb1:S O1 O1 R fr b qb): S O O1 R fr (Za9 g put b) (ZjH q pput qb):=fun c ρ σ H Φ r s h=>by
 obtain⟨ts,h1,h⟩:=Zz0.mp h
 obtain⟨nx,X,vs,F,G,g1,g2,g3,g4,g5⟩:=hg c ρ σ H Φ ts s h1
 split at h
 ·cases h
 ·rename_i hne
  cases ts with
  | nil=>exact absurd rfl hne
  | cons t rs=>
   cases g2 with
   | @cons v _ F1 ws _ F2 a b'=>
   have sx:=s.ext X
   have hsrc:∀a∈G,c.H0.length≤a∨c.P a:=fun a m=>s.from_src (g4 a m).2
   have hoff:∀a∈G,¬Zc3 O σ Φ a:=fun a m ⟨k,hk,⟨t,e⟩,q⟩=>s.from_off hN (g4 a m).2 hk e q
   obtain⟨σ1,p0,h⟩:=Zz0.mp h
   obtain⟨r1,h2,h⟩:=Zz0.mp h
   obtain⟨ρ1,Φ1,p1,s1,p3,p4⟩:=hj c ρ σ (H++X) Φ v t F1 σ1 sx a (fun x m=>hsrc x (g3 x (Zz4 _ m))) (fun k hk t' e x m q=>hoff x (g3 x (Zz4 _ q)) ⟨k,hk,⟨t',e⟩,m⟩) p0
   have hh:∀x,Zc3 O σ1 Φ1 x→Zc3 O σ Φ x:=fun x ⟨k,hk,⟨t',e⟩,m⟩=>by
    obtain⟨q1,q2⟩:=p3 k fun q=>hJ k q hk
    exact⟨k,hk,⟨t',q1▸e⟩,q2▸m⟩
   obtain⟨ρ2,K2,Φ2,w1,w2,w3⟩:=hb c ρ1 σ1 (H++X) Φ1 r1 s1 h2
   have e0:nx 0 (H++X)=some (some v):=by have:=g5 (H++X) (fun _ _=>rfl) 0 (Nat.zero_le _);simpa using this
   have estep:Za9 g put b ρ H=(b ρ1 (H++X)).bind fun q=>match q.1 with
     | some _=>some q
     | none=>Zdq nx put b (rs.length+1) 1 q.2.1 q.2.2:=by
    simp only[Za9,g1,Option.bind_some,List.length_cons]
    show(nx 0 (H++X)).bind _=_
    rw[e0]
    first | (simp only[Option.bind_some,p1];done) | (simp only[Option.bind_some,p1];rfl)
   rw[estep]
   refine Aft.grow (X:=X) ?_
   rcases w3 with⟨k1,k2,k3,k4⟩ | ⟨t',v',F',k1,k2,k3⟩
   ·rw[k1]at h
    have hG2:∀a∈G,K2[a]?=(H++X)[a]?:=fun x m=>w2 x (g4 x m).1 fun q=>hoff x m (hh x q)
    have hoff2:∀a∈G,¬Zc3 O1 r1.2 Φ2 a:=fun x m q=>by
     rcases k4 x q with q | q
     ·have:=(g4 x m).1;omega
     ·exact hoff x m (hh x q)
    have ih:=Znn hj1 hJ1 hb1 (H1:=H++X) (fun a m=>(g4 a m).1) hsrc g5 rs ws 1 ρ2 r1.2 K2 Φ2 F2 r (fun j=>by rw[Nat.add_comm];simp) (by simp;omega) k3 w1 hG2 hoff2 (b'.frame fun x m=>hG2 x (g3 x (Zz3 _ m))) (fun x m=>g3 x (Zz3 _ m)) h
    rw[k2]
    simp only[Option.bind_some]
    obtain⟨ρ3,K3,Φ3,l1,l2,l3⟩:=ih
    refine⟨ρ3,K3,Φ3,by omega,fun x hx hn=>?_,?_⟩
    ·rw[l2 x (by omega) fun q=>(k4 x q).elim (fun q=>by omega) fun q=>hn (hh x q),w2 x hx fun q=>hn (hh x q)]
    ·rcases l3 with⟨m1,m2,m3,m4⟩ | l
     ·refine .inl ⟨m1,m2,m3,fun x q=>?_⟩
      rcases m4 x q with q | q
      ·exact .inl (by omega)
      ·exact(k4 x q).imp id (hh x)
     ·exact .inr l
   ·rw[k1]at h
    cases h
    refine⟨ρ2,K2,Φ2,w1,fun x hx hn=>w2 x hx fun q=>hn (hh x q),.inr ⟨t',v',F',k1,?_,k3⟩⟩
    rw[k2]
    rfl
section
variable {σ:TL} {Q:T→Prop} {B:Bool→Prop} {R:T→Prop} {N:TL→Prop}
theorem ZvI{q1 q2:T→T→Option T}{f g h:PE}(k:Pk (f σ) fun x=>Pk (g σ) fun y=>Pk (q1 x y) fun z=>Pb (ZbN z) fun b=>(b=true→Pk (h σ) fun v=>Pk (q2 y v) fun w=>Pb (ZbN w) B)∧(b=false→B false)): Pb (Zhm q1 q2 f g h σ) B:=by
 obtain⟨x,a1,y,a2,z,a3,b,a4,k1,k2⟩:=k
 cases b with
 | false=>exact⟨false,by simp[Zhm,a1,a2,a3,a4],k2 rfl⟩
 | true=>
  obtain⟨v,b1,w,b2,c,b3,q⟩:=k1 rfl
  exact⟨c,by simp[Zhm,a1,a2,a3,a4,b1,b2,b3],q⟩
theorem ZwU{g:PG}{j n:Nat}{a:Nat→T}{b:PS}(hn:0<n)(hg:Pl (g σ) fun ts=>ts=tab n a)(P:Nat→TL→Prop)(h0:P 0 σ)(h1:∀i σ,i<n→P i σ→Psk (b (Z1 σ j (a i))) R (P (i+1)))(h2:∀σ,P n σ→N σ): Psk (ZjH g (Z2 j) b σ) R N:=by
 obtain⟨o,s,e,q⟩:=Za2 (R:=R) (N:=N) (b:=b) (j:=j) hg P h0 h1 h2
 obtain⟨ts,e1,rfl⟩:=hg
 refine⟨o,s,?_,q⟩
 have hne:tab n a≠[]:=fun h=>by have:=congrArg List.length h;rw[Zau]at this;simp at this;omega
 simp only[ZjH,e1,Option.bind_some,hne,if_false]
 simpa only[Zav,e1,Option.bind_some]using e
end
end TM
end
section
set_option autoImplicit false
namespace TM
open PySem PM
theorem ZuR{fr:Bool}: SimF fr (fun _ _=>none) (fun _=>none):=by
 intro H vs ts t F1 hp r h
 cases h
end TM
end
section
set_option autoImplicit false
namespace TM
open PySem PM
noncomputable def Keep0(g:Sm): Prop:=∀ρ H r,g ρ H=some r→r.2.1 0=ρ 0
theorem Keep0.next: Keep0 ZZ:=fun ρ H r h=>by cases h;rfl
theorem ZmN{e:Ex}: Keep0 (ZcE e):=fun ρ H r h=>by
 obtain⟨_,_,q⟩:=Zz1.mp h
 subst q;rfl
theorem Keep0.ret{e:Ex}: Keep0 (ZI e):=fun ρ H r h=>by
 obtain⟨_,_,q⟩:=Zz1.mp h
 subst q;rfl
theorem Keep0.put{f o i:Ex}: Keep0 (Zc1 f o i):=fun ρ H r h=>by
 obtain⟨_,_,h⟩:=Zz0.mp h
 obtain⟨_,_,h⟩:=Zz0.mp h
 obtain⟨_,_,h⟩:=Zz0.mp h
 obtain⟨_,_,q⟩:=Zz1.mp h
 subst q;rfl
theorem Keep0.seq{a b:Sm}(x:Keep0 a)(y:Keep0 b): Keep0 (ZB a b):=fun ρ H r h=>by
 obtain⟨r1,e1,h⟩:=Zz0.mp h
 have h1:=x ρ H r1 e1
 split at h
 ·cases h;exact h1
 ·exact(y _ _ _ h).trans h1
theorem ZmO{t:Ts}{a b:Sm}(x:Keep0 a)(y:Keep0 b): Keep0 (ZY t a b):=fun ρ H r h=>by
 obtain⟨p,_,h⟩:=Zz0.mp h
 split at h
 ·exact x _ _ _ h
 ·exact y _ _ _ h
theorem Keep0.set{i:Nat}{e:Ex}(hi:0≠i): Keep0 (Z3 i e):=fun ρ H r h=>by
 obtain⟨_,_,q⟩:=Zz1.mp h
 subst q
 simp[upd,hi]
noncomputable def SimM(f:List V→Hp→Option (V×Hp))(p:List T→Option T): Prop:=∀(H:Hp) (v:V) (vs:List V) (t:T) (ts:List T) (t':T) (F0 F1:List Nat),0<H.length→RF H v t F0→F0.Nodup→0∉F0→RFs H vs ts F1→(∀a∈F0,a∉F1)→p (t::ts)=some t' →
 ∃w H' F',f (v::vs) H=some (w,H')∧H.length≤H'.length∧(∀a,a<H.length→a∉F0→H'[a]?=H[a]?)∧RF H' v t' F'∧F'.Nodup∧∀a∈F',H.length≤a∨a∈F0
noncomputable def Zfg(n:Nat)(q:PS): List T→Option T:=fun ts=>if ts.length=n then(q fun i=>ts[i]?).bind fun r=>r.2 0 else none
theorem ZnP{O':List Nat}{n:Nat}{g:Sm}{q:PS}(h:S [0] O' [0] false g q)(h0:0∈O')(hk:Keep0 g): SimM (Z5 n g) (Zfg n q):=fun H v vs t ts t' F0 F1 hp r0 nd n0 rs dj e=>by
 unfold Zfg at e
 split at e
 ·rename_i hl
  obtain⟨r1,e1,e2⟩:=Zz0.mp e
  obtain⟨Φ,hΦ⟩:=rs.slots
  have st:St ⟨H,F0,fun a=>a∈F0∨a∈F1⟩ [0] (fun i=>(v::vs)[i]?) (fun i=>(t::ts)[i]?) H (fun i=>match i with | 0=>F0 | i+1=>Φ i):=by
   refine⟨fun i u e=>?_,fun i u e a m=>?_,fun i hi u e=>?_,Nat.le_refl _,fun a _ _=>rfl,hp,n0⟩
   ·cases i with
    | zero=>simp at e;subst e;exact⟨v,rfl,r0⟩
    | succ i=>
     simp at e
     obtain⟨w,h1,h2,_⟩:=hΦ i u e
     exact⟨w,by simpa using h1,h2⟩
   ·cases i with
    | zero=>exact .inr (.inl m)
    | succ i=>
     simp at e
     obtain⟨w,h1,h2,h3⟩:=hΦ i u e
     exact .inr (.inr (h3 a m))
   ·have:i=0:=by simpa using hi
    subst this
    refine⟨nd,fun a m=>.inr m,fun j u' hj ej a m=>?_⟩
    cases j with
    | zero=>exact absurd rfl hj
    | succ j=>
     simp at ej
     obtain⟨w,h1,h2,h3⟩:=hΦ j u' ej
     exact fun q=>dj a m (h3 a q)
  obtain⟨ρ',H',Φ',h1,h2,h3⟩:=h _ _ _ _ _ _ st e1
  have hv:(v::vs).length=n:=by rw[←hl];simp[rs.length]
  have go:∀(o:Option V) (O2:List Nat),0∈O2→g (fun i=>(v::vs)[i]?) H=some (o,ρ',H')→St ⟨H,F0,fun a=>a∈F0∨a∈F1⟩ O2 ρ' r1.2 H' Φ'→∃w H' F',Z5 n g (v::vs) H=some (w,H')∧H.length≤H'.length∧(∀a,a<H.length→a∉F0→H'[a]?=H[a]?)∧RF H' v t' F'∧F'.Nodup∧∀a∈F',H.length≤a∨a∈F0:=by
   intro o O2 hO eg s2
   obtain⟨v',ev,rv⟩:=s2.slot 0 t' e2
   have kk:=hk _ _ _ eg
   have:v'=v:=by
    have k2:ρ' 0=some v:=kk
    rw[ev]at k2
    cases k2
    rfl
   subst this
   obtain⟨o1,o2,_⟩:=s2.own 0 hO t' e2
   exact⟨o.getD .none,H',Φ' 0,by simp only[Z5,hv,if_true,eg,Option.map_some],h1,s2.keep,rv,o1,o2⟩
  rcases h3 with⟨k1,k2,k3,k4⟩ | ⟨u,v',F',k1,k2,k3,k4,k5,k6⟩
  ·exact go none O' h0 k2 k3
  ·exact go (some v') [0] List.mem_cons_self k2 k4
 ·cases e
noncomputable def ZeA(x:Nat)(p:List T→Option T)(ps:PEs): PS:=fun σ=>(ps σ).bind fun ts=>(σ x).bind fun t=>(p (t::ts)).map fun t'=>(none,Z1 σ x t')
section
variable {O O' R N:List Nat} {fr u:Bool}
theorem Zhn{x n:Nat}{f:List V→Hp→Option (V×Hp)}{p:List T→Option T}{es:Exs}{ps:PEs}(hx:x∈O)(k:SimM f p)(y:Es O N u n es ps)(hN:x∉N)(hO:∀j∈O',j∈O): S O O' R fr (ZcE (Zu f (Zf (Zb x) es))) (ZeA x p ps):=fun c ρ σ H Φ r s q=>by
 obtain⟨ts,h1,q⟩:=Zz0.mp q
 obtain⟨t,h2,q⟩:=Zz0.mp q
 obtain⟨t',h3,q⟩:=Zz1.mp q
 subst q
 obtain⟨v,ev,rv⟩:=s.slot x t h2
 obtain⟨o1,o2,o3⟩:=s.own x hx t h2
 have hlow:∀k t,σ k=some t→∀a∈Φ k,a<H.length:=fun k t e a m=>by
  obtain⟨_,_,r⟩:=s.slot k t e
  exact r.lt a m
 obtain⟨_,vs,X,F,a1,a2,a3,_⟩:=y c ρ σ H Φ ts s h1
 have hp:0<(H++X).length:=by have:=s.pos;have:=s.len;rw[List.length_append];omega
 have hlen:(H++X).length=H.length+X.length:=List.length_append
 have dj:∀a∈Φ x,a∉F:=fun a m q=>by
  rcases a3 a q with h | ⟨j,hj,⟨tj,ej⟩,mj⟩
  ·have:=hlow x t h2 a m;omega
  ·exact o3 j tj (fun e=>hN (e▸hj)) ej a m mj
 obtain⟨w,H',F',b1,b2,b3,b4,b5,b6⟩:=k (H++X) v vs t ts t' (Φ x) F hp (rv.ext X) o1 (fun m=>ZnI s hx h2 m rfl) a2 dj h3
 have same:∀a,a<H.length→a∉Φ x→H'[a]?=H[a]?:=fun a ha hn=>by
  rw[b3 a (by omega) hn,List.getElem?_append_left ha]
 have eg:ZcE (Zu f (Zf (Zb x) es)) ρ H=some (none,ρ,H'):=by
  simp only[ZcE,Zu,Zf,Zb,ev,Option.map_some,Option.bind_some,a1,b1]
 refine⟨ρ,H',Zao Φ x F',by omega,fun a ha hn=>same a ha fun m=>hn ⟨x,hx,⟨t,h2⟩,m⟩,.inl ⟨rfl,eg,⟨fun i u' e=>?_,fun i u' e a m=>?_,fun i hi u' e=>?_,by have:=s.len;omega,fun a ha hn=>?_,s.pos,s.f0⟩,fun a hh=>?_⟩⟩
 ·by_cases c1:i=x
  ·subst c1
   simp only[Z1,if_true,Option.some.injEq]at e
   subst e
   exact⟨v,ev,by simpa [Zao]using b4⟩
  ·simp only[Z1,c1,if_false]at e
   obtain⟨v2,e2,r2⟩:=s.slot i u' e
   refine⟨v2,e2,?_⟩
   simp only[Zao,c1,if_false]
   exact r2.frame fun a m=>same a (hlow i u' e a m) fun q=>o3 i u' c1 e a q m
 ·by_cases c1:i=x
  ·subst c1
   simp only[Zao,if_true]at m
   rcases b6 a m with h | h
   ·exact .inl (by have:=s.len;omega)
   ·exact s.src i t h2 a h
  ·simp only[Z1,c1,if_false]at e
   simp only[Zao,c1,if_false]at m
   exact s.src i u' e a m
 ·by_cases c1:i=x
  ·subst c1
   refine⟨by simpa [Zao]using b5,fun a m=>?_,fun j u2 hj ej a m=>?_⟩
   ·simp only[Zao,if_true]at m
    rcases b6 a m with h | h
    ·exact .inl (by have:=s.len;omega)
    ·exact o2 a h
   ·simp only[Zao,if_true]at m
    simp only[Z1,hj,if_false]at ej
    simp only[Zao,hj,if_false]
    intro q
    have hq:=hlow j u2 ej a q
    rcases b6 a m with h | h
    ·omega
    ·exact o3 j u2 hj ej a h q
  ·simp only[Z1,c1,if_false]at e
   obtain⟨q1,q2,q3⟩:=s.own i (hO i hi) u' e
   refine⟨by simpa [Zao,c1]using q1,fun a m=>?_,fun j u2 hj ej a m=>?_⟩
   ·simp only[Zao,c1,if_false]at m
    exact q2 a m
   ·simp only[Zao,c1,if_false]at m
    by_cases c2:j=x
    ·subst c2
     simp only[Zao,if_true]
     intro q
     have hm:=hlow i u' e a m
     rcases b6 a q with h | h
     ·omega
     ·exact q3 j t hj h2 a m h
    ·simp only[Z1,c2,if_false]at ej
     simp only[Zao,c2,if_false]
     exact q3 j u2 hj ej a m
 ·have hs:=s.keep a ha hn
  rw[same a (by have:=s.len;omega) fun m=>?_]
  ·exact hs
  ·rcases o2 a m with h | h
   ·omega
   ·exact hn h
 ·obtain⟨j,hj,⟨u',e⟩,m⟩:=hh
  by_cases c1:j=x
  ·subst c1
   simp only[Zao,if_true]at m
   rcases b6 a m with h | h
   ·exact .inl (by omega)
   ·exact .inr ⟨j,hx,⟨t,h2⟩,h⟩
  ·simp only[Z1,c1,if_false]at e
   simp only[Zao,c1,if_false]at m
   exact .inr ⟨j,hO j hj,⟨u',e⟩,m⟩
end
section
variable {σ:TL} {R:T→Prop} {N:TL→Prop}
theorem Zho{x:Nat}{p:List T→Option T}{ps:PEs}{t:T}(e:σ x=some t)(h:Pl (ps σ) fun ts=>Pk (p (t::ts)) fun t'=>N (Z1 σ x t')): Psk (ZeA x p ps σ) R N:=by
 obtain⟨ts,e1,t',e2,q⟩:=h
 exact⟨none,Z1 σ x t',by simp only[ZeA,e1,e,Option.bind_some,e2,Option.map_some],by simp,fun _=>q⟩
theorem ZnQ{n:Nat}{q:PS}{ts:List T}{Q:T→Prop}(hn:ts.length=n)(h:Psk (q fun i=>ts[i]?) (fun _=>False) fun σ=>∃t,σ 0=some t∧Q t): Pk (Zfg n q ts) Q:=by
 obtain⟨o,s,e,h1,h2⟩:=h
 cases o with
 | none=>
  obtain⟨t,e2,q2⟩:=h2 rfl
  exact⟨t,by simp only[Zfg,hn,if_true,e,Option.bind_some,e2],q2⟩
 | some u=>exact absurd (h1 u rfl) (by simp)
end
end TM
end
section
set_option autoImplicit false
namespace PM
open PySem PySem.W PySem.Calls PyProof.Rows PyProof PyProof.Rows.LCg PyProof.Rows.LCp
section
variable {prog:Program} {w:World} {Γ:Cx}
theorem ZtL{elt iter:Expr}{x x₂ y:Str}{px px₂ tp py pos spos:Pos}{kt:Nat}{scope:Scope}{cl:List (Str×Addr)}{t t₂ i:Nat}{g:Src}{f:Ex}(hy:Sto prog w Γ y i)(hg:JI2 prog w Γ iter g)(hel:∀C ρ,J prog w (Zbo Γ scope cl C [(x,t),(x₂,t₂)] ρ) elt f)
  (hsw:swapsWith (.ListComp elt [⟨.Tuple [.Name x px,.Name x₂ px₂] kt tp,iter,[],0⟩] scope pos) (some (.Name y py)) spos.line Γ.env=pure true)
  (hclos:closureFor scope Γ.env=pure cl) (hcell:∀y∈scope.names,y.2≠.cell) (hkind:scope.kind=.function) (hnames:∀y∈scope.names,y.2=.local→scope.names.lookup y.1=some .local) (hx:scope.names.lookup x=some .local) (hx₂:scope.names.lookup x₂=some .local) (hxx:x≠x₂) (htt:t≠t₂) (hs:∀x,foldedSetIterable iter Γ.env x=pure x:=by intro _;rfl):
  S1 prog w Γ (.Assign [.Name y py] (.ListComp elt [⟨.Tuple [.Name x px,.Name x₂ px₂] kt tp,iter,[],0⟩] scope pos) spos) (Z3 i (Za4 g (Zcl t t₂) ZaM f)):=by
 intro W ρ H fr s Q E r rp hf post
 obtain⟨p,e0,e9⟩:=Zz1.mp hf
 cases e9
 obtain⟨z,e1,hf⟩:=Zz0.mp e0
 obtain⟨q,e2,e3⟩:=Zz1.mp hf
 cases e3
 rw[exec_Assign_Name_used _ _ _ _ hsw]
 refine wpAny_bind (wpAny_standAt (wpAny_bind ?_))
 show wpAny _ Γ.A (do let _ ←comprehension (.ListComp elt [⟨.Tuple [.Name x px,.Name x₂ px₂] kt tp,iter,[],0⟩] scope pos) scope Γ.env _ (newList []) false (eval iter Γ.env) (some (assign (.Name y py) Γ.env))) _ _ s
 refine wpAny_bind (wpAny_mono (wpAny_comprehension_free (use:=some (assign (.Name y py) Γ.env)) (Q:=fun _ s'=>Q .next s') rfl hs hclos hkind hnames ?_) (fun _ s' h'=>wpAny_pure (wpAny_pure h')) fun _ _ e=>e)
 refine Zpw (RR:=fun acc C=>compPost (model prog w) Γ.A E (some (assign (.Name y py) Γ.env)) (fun _ s'=>Q .next s') acc C) hg hel hcell hkind hx hx₂ hxx htt rp (q:=q) (by rw[e1];exact e2) fun W2 h' tk' C D oC m₂ ys l2 hC hv hl aD aC cd r3=>?_
 have r4:Rep Γ W2 ρ q.2 ((D,lst ys)::(C,oC)::fr) h':=r3.less fun t ht=>by
  rcases Zz7.mp ht with e | ht
  ·exact e▸List.mem_cons_of_mem _ Zz5
  ·rcases Zz7.mp ht with e | ht
   ·exact e▸List.mem_cons_self
   ·exact Zz2 _ (Zz2 _ ht)
 obtain⟨W5,l5,r5,v5⟩:=ZgP r4 (fun t ht=>by
  rcases Zz7.mp ht with e | ht
  ·rw[e]
   exact cd.symm
  ·exact aD t ht) hv hl
 refine wpAny_assign_Name (hy W5 ρ _ _ _ _ _ _ _ r5 v5 fun h6 t6 r6=>?_)
 refine⟨m₂,hC.ns (r6.frAt (q:=(C,oC)) Zz5),fun h'' sb=>?_⟩
 have r7:Rep Γ W5 (upd ρ i (.ref q.2.length)) (q.2++[q.1]) ([]++fr) h'':=
  Rep.swap (fs:=[(C,oC)]) (fs':=[]) r6 (fun q hq t ht=>by rw[List.mem_singleton.mp hq];exact aC t ht) (fun b o hb e=>sb.extBut b o (fun z=>hb (by simp[z])) e) fun q hq=>nomatch hq
 exact post W5 h'' t6 (l2.trans l5) r7
end
end PM
end
section
set_option autoImplicit false
namespace PM
open PySem PySem.W PySem.Calls PyProof.Rows PyProof
noncomputable def Zdg(ns:List Int): List Int:=ns.mergeSort fun a b=>decide (a≤b)
theorem Zql{ns ms:List Int}(h1:ms.Perm ns)(h2:ms.Pairwise (·≤·)): ms=Zdg ns:=by
 refine List.Perm.eq_of_pairwise (le:=fun a b:Int=>a≤b) (fun a b _ _ h h'=>Int.le_antisymm h h') h2 ?_ (h1.trans (List.mergeSort_perm ns _).symm)
 have:=List.pairwise_mergeSort (le:=fun a b:Int=>decide (a≤b)) (fun a b c h h'=>by simp at *;omega) (fun a b=>by simp;omega) ns
 unfold Zdg
 simpa using this
theorem ZuS{ns:List Int}: (Zdg ns).length=ns.length:=(List.mergeSort_perm ns _).length_eq
theorem ZnR{W:Wd}: ∀{vs:List V} {xs:List Value} {ks:List Int},VRs W vs xs→ZdB vs=some ks→IntsAre xs ks:=by
 intro vs
 induction vs with
 | nil=>intro xs ks h e;cases h;cases e;exact .nil
 | cons v vs ih=>
  intro xs ks h e
  cases h with
  | cons a b=>
   cases v with
   | int i=>
    obtain⟨js,e1,e2⟩:=Zz1.mp e
    subst e2
    cases a with
    | int _ t=>exact .cons i t (ih b e1)
   | none=>cases e
   | bool=>cases e
   | str=>cases e
   | tup=>cases e
   | ref=>cases e
theorem Zq0{W:Wd}: ∀{xs:List Value} {ks:List Int},IntsAre xs ks→VRs W (ks.map V.int) xs
 | _,_,.nil=>.nil
 | _,_,.cons n t r=>.cons (.int n t) (Zq0 r)
noncomputable def ZfT: List V→Hp→Option (V×Hp)
 | [.ref a],H=>H[a]?.bind fun vs=>(ZdB vs).bind fun ns=>if vs.length<64 then some (.ref H.length,H++[(Zdg ns).map V.int])else none
 | _,_=>none
section
variable {prog:Program} {w:World}
theorem ZpV: OpN prog w (fun xs=>call (.builtin "sorted") xs) ZfT:=by
 intro Γ W ρ H fr s Q E as xs v H' r hx ho post
 unfold ZfT at ho
 split at ho
 ·obtain⟨vs,e1,ho⟩:=Zz0.mp ho
  obtain⟨ks,e3,ho⟩:=Zz0.mp ho
  split at ho
  ·rename_i h64
   cases ho
   obtain⟨x,ex,rx⟩:=hx.one
   subst ex
   cases rx with
   | @ref _ a ea=>
    obtain⟨hl,ys,k,hg,hv⟩:=r.at e1 ea
    have isl:s.heap.IsList a ys.toArray:=⟨_,hg,rfl,k,rfl⟩
    refine sorted_ints isl (ZnR hv e3) (by rw[hv.length];exact h64) fun out ms a1 a2 a3=>?_
    have em:=Zql a2 a3
    subst em
    obtain⟨q,hq⟩:=sortedAll_at s.heap ys out
    have hlen:ks.length=vs.length:=by rw[←hv.length];exact(ZnR hv e3).length.symm
    obtain⟨r2,ap⟩:=r.more (h':=sortedAll s.heap ys out) (fs:=[(s.heap.objs.size+1,ZbQ out.toList q)]) (fun b o hb=>sortedAll_old hb) (fun u hu=>by
     rw[List.mem_singleton.mp hu]
     refine⟨?_,Nat.le_succ _⟩
     rw[hq])
    obtain⟨W2,l2,r3,v3⟩:=ZgP r2 (fun t ht=>ap _ Zz5 t ht) (Zq0 a1) (by rw[List.length_map,ZuS,hlen];exact hl)
    exact post W2 _ s.toks _ l2 r3 v3
  ·cases ho
 ·cases ho
end
end PM
namespace PM
open PySem PySem.W PySem.Calls PyProof.Rows PyProof PySem.SeqAt
open SeqRoads2 MeetsSeq3 MeetsSeq2 MeetsSeq AutoSeq1
theorem Zub(l:Addr)(its:Array Value)(n:Nat)(dd:Option Addr)(sl:Array (Option Value))(x:Value)(tk:Tok)(e:Value→Bool)(j:Nat)(hj:j<its.size)(h1:1≤j)(small:(j:Int)<2 ^ 63-1)
  (hit:e its[j]=true) (no:∀m (hm:m<its.size),1≤m→m<j→e its[m]=false):
  Meets (Builtin.«list.index» ⟨[.ref l,x,.int 1 tk],[]⟩) fun A R s=>s.heap.get? l=some { cls:=.type "list",dict:=dd,data:=.seq its n,slots:=sl }∧(∀y,y∈its→EqAt A.in1 s y x (e y))∧R (.ok (.ret (.int j s.toks))) { s with toks:=s.toks+1 }:=by
 intro prog w A R s h
 obtain⟨hp,g,d,tk',os⟩:=s
 obtain⟨hq0,he,h⟩:=h
 wp_walk using wpAny_loadPart' hq0
 have b1:((fun i:Int=>if i<0 then max 0 (i+(its.size:Int))else i) ((some (1:Int)).getD 0))=((1:Nat):Int):=by simp
 have b2:((fun i:Int=>if i<0 then max 0 (i+(its.size:Int))else i) ((Option.none:Option Int).getD (2 ^ 63-1)))=2 ^ 63-1:=by simp
 rw[b1,b2]
 refine⟨plainId_quiet plain_index_loop _,codeAny_builtin entry_index_loop ?_⟩
 rw[Around.under_plainId plain_index_loop _];exact index_loopAt l its n dd sl x e (2 ^ 63-1) j hj small hit _ 1 rfl h1 no prog w A R _ ⟨hq0,he,h⟩
section
variable {prog:Program} {w:World} {A:Around} {E:Value→Shared→Prop} {s:Shared}
theorem ZtM{l:Addr}{vs:List Value}{ns:List Int}{k:Int}{t t':Tok}{Q:Value→Shared→Prop}(hl:s.heap.IsList l vs.toArray)(hi:IntsAre vs ns)(hn:ns.length≤100000)(hk:k∈ns.drop 1)
  (h:Q (.int ((1+(ns.drop 1).idxOf k:Nat)) s.toks) { s with toks:=s.toks+1 }):wpAny (model prog w) A (call (.builtin "list.index") [.ref l,.int k t,.int 1 t']) Q E s:=by
 obtain⟨⟨c0,dd,da,sl⟩,ho,ec,n,ed⟩:=id hl
 simp only at ec ed
 subst ec ed
 have hlen:=hi.length
 have hj:(ns.drop 1).idxOf k<(ns.drop 1).length:=List.idxOf_lt_length_iff.mpr hk
 have hj':1+(ns.drop 1).idxOf k<ns.length:=by rw[List.length_drop]at hj;omega
 refine call_meets PySem.F.slot_list_index ⟨_,ho,rfl⟩ PySem.F.entry_list_index (PySem.F.args_list_index_3 _ _ _) (Zub l vs.toArray n dd sl (.int k t) t' (isInt k) (1+(ns.drop 1).idxOf k) (by simpa [hlen]using hj') (by omega) (by omega) ?_ ?_) ⟨ho,fun y hy=>(eq_isInt k t hi y (by simpa using hy)).at _ _,h⟩
 ·show isInt k vs[1+(ns.drop 1).idxOf k]=true
  rw[isInt_at k hi _ (by omega) hj']
  have:=List.getElem_idxOf hj
  rw[List.getElem_drop]at this
  simpa using this
 ·intro m hm h1 h2
  show isInt k vs[m]=false
  rw[isInt_at k hi m (by simpa using hm) (by have:=hm;simp[hlen]at this;omega)]
  have hm':m-1<(ns.drop 1).length:=by rw[List.length_drop];omega
  have:=ne_of_lt_idxOf (k:=k) (ns:=ns.drop 1) (j:=m-1) (by omega) hm'
  rw[List.getElem_drop]at this
  simpa [show 1+(m-1)=m by omega]using this
end
noncomputable def Zjq: V→V→V→Hp→Option (V×Hp)
 | .ref a,.int k,.int b,H=>H[a]?.bind fun vs=>(ZdB vs).bind fun ns=>if b=1∧k∈ns.drop 1 then some (.int ((1+(ns.drop 1).idxOf k:Nat):Int),H)else none
 | _,_,_,_=>none
noncomputable def Zhp(f g h:Ex): Ex:=fun ρ H=>(f ρ H).bind fun p=>(g ρ p.2).bind fun q=>(h ρ q.2).bind fun u=>Zjq p.1 q.1 u.1 u.2
section
variable {prog:Program} {w:World} {Γ:Cx}
theorem ZtN{a b c:V}{H:Hp}{r:V×Hp}(h:Zjq a b c H=some r): ∃i k vs ns,a=.ref i∧b=.int k∧c=.int 1∧H[i]?=some vs∧ZdB vs=some ns∧k∈ns.drop 1∧r=(.int ((1+(ns.drop 1).idxOf k:Nat):Int),H):=by
 unfold Zjq at h
 split at h
 ·obtain⟨vs,e1,h⟩:=Zz0.mp h
  obtain⟨ns,e2,h⟩:=Zz0.mp h
  split at h
  ·rename_i q
   cases h
   obtain⟨rfl,q⟩:=q
   exact⟨_,_,vs,ns,rfl,rfl,rfl,e1,e2,q,rfl⟩
  ·cases h
 ·cases h
theorem J.index{o e1 e2:Expr}{apos pos:Pos}{f g k:Ex}(ho:J prog w Γ o f)(h1:J prog w Γ e1 g)(h2:J prog w Γ e2 k)(hbase:attributeBase o "index" Γ.env (eval o Γ.env)=eval o Γ.env:=by rfl)
  (hline:(apos.endLine == pos.line)=true:=by rfl) (htrees:backTo pos (starEach [e1,e2] Γ.env)=[(false,eval e1 Γ.env),(false,eval e2 Γ.env)]:=by rfl) (hstay:∀ρ H p,f ρ H=some p→∀q,g ρ p.2=some q→p.2=q.2:=by intro _ _ _ _ _ h;cases h;rfl) (hstay2:∀ρ H p,g ρ H=some p→∀q,k ρ p.2=some q→p.2=q.2:=by intro _ _ _ _ _ h;cases h;rfl):J prog w Γ (.Call (.Attribute o "index" apos) [e1,e2] [] pos) (Zhp f g k):=by
 intro W ρ H fr s Q E v H' r hx post
 obtain⟨p,x1,hx⟩:=Zz0.mp hx
 obtain⟨q,x2,hx⟩:=Zz0.mp hx
 obtain⟨u,x3,x4⟩:=Zz0.mp hx
 obtain⟨i,kk,vs,ns,ea,eb,ec,hvs,hns,hmem,er⟩:=ZtN x4
 refine wpAny_Call_method2_late hbase hline htrees (ho W ρ H fr s _ E _ _ r x1 fun W1 k1 t1 x l1 r1 y1=>?_)
 rw[ea]at y1
 have s1:=hstay ρ H p x1 q x2
 have s2:=hstay2 ρ p.2 q x2 u x3
 cases y1 with
 | @ref _ a aa=>
 obtain⟨hl,xs,n,hg,hv⟩:=r1.at (by rw[s1,s2];exact hvs) aa
 refine⟨"list","list.index",PySem.F.plainAttrs_list,PySem.F.slot_list_index,PySem.F.type_list_index,(show k1.IsList a xs.toArray from⟨_,hg,rfl,n,rfl⟩).typeIs,fun b eb=>by cases eb;exact⟨_,hg,rfl⟩,?_⟩
 refine Calls.callWith_builtin rfl (Calls.evalArgs_plain (Calls.spliced_cons ?_))
 refine h1 W1 ρ _ fr _ _ E _ _ r1 x2 fun W2 k2 t2 y l2 r2 y2=>Calls.spliced_cons ?_
 refine h2 W2 ρ _ fr _ _ E _ _ r2 x3 fun W3 k3 t3 z l3 r3 z3=>Calls.spliced_nil ?_
 rw[eb]at y2
 rw[ec]at z3
 cases y2 with
 | int _ ty=>
 cases z3 with
 | int _ tz=>
 obtain⟨hl3,xs3,n3,hg3,hv3⟩:=r3.at hvs (l3.at (l2.at aa))
 rw[Zbm]at hl3
 have hI:=ZnR hv3 hns
 refine ZtM ⟨_,hg3,rfl,n3,rfl⟩ hI (by rw[←hI.length,hv3.length];omega) hmem ?_
 have:=post W3 k3 (t3+1) (.int ((1+(ns.drop 1).idxOf kk:Nat):Int) t3) ((l1.trans l2).trans l3)
 cases er
 exact this r3 (.int _ _)
end
end PM
end
section
set_option autoImplicit false
namespace TM
open PySem PM
theorem Zqm{H:Hp}: ∀ks:List Int,RFs H (ks.map V.int) (ks.map T.int) []
 | []=>.nil
 | k::ks=>.cons (.int k) (Zqm ks)
noncomputable def ZeT: List T→Option T
 | [.lst ts]=>(Zdr ts).bind fun ns=>if ts.length<64 then some (.lst ((Zdg ns).map T.int))else none
 | _=>none
theorem Zqn: OCn ZfT ZeT:=fun H vs ts t F hp r h=>by
 unfold ZeT at h
 split at h
 ·obtain⟨v,rfl,r'⟩:=r.one_inv
  cases r' with
  | ref e hs=>
   obtain⟨ks,h1,h⟩:=Zz0.mp h
   split at h
   ·rename_i h64
    cases h
    refine⟨_,[(Zdg ks).map V.int],_,?_,Zey (Zqm (Zdg ks)),fun a m=>?_,fun _=>?_⟩
    ·simp only[ZfT,e,Option.bind_some,Zi3 hs h1]
     rw[if_pos (by rw[hs.length];exact h64)]
    ·rcases Zz7.mp m with rfl | m
     ·exact .inl (Zz10 _)
     ·cases m
    ·simp
   ·cases h
 ·cases h
noncomputable def Zhq(p q r:PE): PE:=fun σ=>(p σ).bind fun t=>(q σ).bind fun k=>(r σ).bind fun b=>match t,k,b with
 | .lst ts,.int k,.int b=>(Zdr ts).bind fun ns=>if b=1∧k∈ns.drop 1 then some (.int ((1+(ns.drop 1).idxOf k:Nat):Int))else none
 | _,_,_=>none
section
variable {O N M K:List Nat} {u u' u'':Bool}
theorem E.index{e1 e2 e3:Ex}{p1 p2 p3:PE}(x:E O N u e1 p1)(y:E O M u' e2 p2)(z:E O K u'' e3 p3): E O [] true (Zhp e1 e2 e3) (Zhq p1 p2 p3):=fun c ρ σ H Φ t s h=>by
 obtain⟨t1,h1,h⟩:=Zz0.mp h
 obtain⟨t2,h2,h⟩:=Zz0.mp h
 obtain⟨t3,h3,h⟩:=Zz0.mp h
 obtain⟨v1,X,F1,a1,a2,_,_⟩:=x c ρ σ H Φ t1 s h1
 obtain⟨v2,Y,F2,b1,b2,_,_⟩:=y c ρ σ (H++X) Φ t2 (s.ext X) h2
 obtain⟨v3,Z,F3,c1,c2,_,_⟩:=z c ρ σ (H++X++Y) Φ t3 ((s.ext X).ext Y) h3
 have a3:=(a2.ext Y).ext Z
 split at h
 ·obtain⟨ns,e1,h⟩:=Zz0.mp h
  split at h
  ·rename_i hc
   cases h
   cases b2
   cases c2
   cases a3 with
   | ref e hs=>
    refine⟨_,X++Y++Z,[],?_,.int _,by simp,by simp⟩
    have e':=e
    simp only[Zhp,a1,b1,c1,Option.bind_some,Zjq,e',Zi3 hs e1]
    rw[if_pos hc]
    simp
  ·cases h
 ·cases h
end
section
variable {σ:TL} {Q:T→Prop}
end
end TM
end
section
set_option autoImplicit false
namespace TM
open PySem PM
theorem Zpz{nx:Nx}{put:V→Lc→Option Lc}{b:Sm}(hp:∀v ρ ρ',put v ρ=some ρ'→ρ' 0=ρ 0)(hb:Keep0 b): ∀n i,Keep0 (Zdq nx put b n i)
 | 0,_=>fun _ _ _ h=>by cases h
 | n+1,i=>fun ρ H r h=>by
  obtain⟨o,_,h⟩:=Zz0.mp h
  split at h
  ·cases h;rfl
  ·obtain⟨ρ1,e1,h⟩:=Zz0.mp h
   obtain⟨q,e2,h⟩:=Zz0.mp h
   have k:=(hb _ _ _ e2).trans (hp _ _ _ e1)
   split at h
   ·cases h;exact k
   ·exact(Zpz hp hb n (i+1) _ _ _ h).trans k
theorem ZpW{g:Src}{put:V→Lc→Option Lc}{b:Sm}(hp:∀v ρ ρ',put v ρ=some ρ'→ρ' 0=ρ 0)(hb:Keep0 b): Keep0 (Za9 g put b):=fun ρ H r h=>by
 obtain⟨z,_,h⟩:=Zz0.mp h
 exact Zpz hp hb _ _ _ _ _ h
theorem ZpA{i:Nat}(hi:0≠i): ∀v ρ ρ',PM.put1 i v ρ=some ρ'→ρ' 0=ρ 0:=fun v ρ ρ' h=>by
 cases h
 simp[upd,hi]
end TM
end
section
set_option autoImplicit false
open PySem PySem.W PySem.Calls PyProof.Rows
namespace PM
section
variable {prog:Program} {w:World} {Γ:Cx}
theorem ZvJ{e:Expr}{lo hi:Option Expr}{p pos:Pos}{f:Ex}{a b:Pt}(h:J prog w Γ e f)(hlo:JP prog w Γ lo a)(hhi:JP prog w Γ hi b)(hs:∀a c,subscripted (.Slice lo hi Option.none p) false (.ref a) (.ref c)=operate [.ref c,.ref a] (getItem (.ref a) (.ref c)):=by intros;with_unfolding_all rfl): J prog w Γ (.Subscript e (.Slice lo hi Option.none p) pos) (Zeo f a b):=by
 intro W ρ H fr s Q E v H' r hf post
 obtain⟨p,e1,hf⟩:=Zz0.mp hf
 obtain⟨q,e2,hf⟩:=Zz0.mp hf
 obtain⟨u,e3,hf⟩:=Zz0.mp hf
 obtain⟨ka,e4,hf⟩:=Zz0.mp hf
 obtain⟨kb,e5,hf⟩:=Zz0.mp hf
 refine Subscript_ (h W ρ H fr s _ E _ _ r e1 fun W1 k1 t1 x l1 r1 x1=>?_)
 refine wpAny_Slice (hlo W1 ρ _ fr _ _ E _ _ r1 e2 fun W2 k2 t2 y l2 r2 y2=>?_)
 refine hhi W2 ρ _ fr _ _ E _ _ r2 e3 fun W3 k3 t3 z l3 r3 z3=>?_
 have x3:=x1.mono (l2.trans l3)
 obtain⟨v1,H1⟩:=p
 simp only at hf x3
 cases x3 with
 | none=>cases hf
 | bool _=>cases hf
 | int _ _=>cases hf
 | str _ _=>cases hf
 | tup _ _ _=>cases hf
 | @ref i a ea=>
  obtain⟨vs,hvs,e6⟩:=Zz0.mp hf
  cases e6
  obtain⟨hl,xs,kk,hg,hv⟩:=r3.at hvs ea
  have isl:k3.IsList a xs.toArray:=⟨_,hg,rfl,kk,rfl⟩
  have hp:VRs W3 (ZbE vs ka kb) (ZbE xs ka kb):=by
   unfold ZbE
   rw[hv.length]
   exact hv.pick _
  have hx:slicePick xs.toArray ka kb Option.none=(ZbE xs ka kb).toArray:=by
   unfold slicePick ZbE
   simp
  obtain⟨W4,l4,r4,v4⟩:=(r3.push { cls:=.type "slice",data:=.fields #[y,z,.none] }).list (k:=0) hp (Nat.le_trans (Zqa vs ka kb) hl)
  have hQ:=post W4 _ t3 _ (((l1.trans l2).trans l3).trans l4) r4 v4
  rw[evalPart_none]
  refine wpAny_pure (kba_turn (value':=.Name (Str.ofString "_") ⟨0,0,0,0⟩) (fun _=>rfl) ?_)
  refine subscriptTail_ops (T:="list") ((isl.push _).typeIs) list_getitem_lookup ?_ (hs _ _) (fun _=>rfl)
  refine wpAny_getItem_list_slice (isl.push _) (Heap.IsSliceOf.new ..) ((y2.mono l3).part e4) (z3.part e5) .none (by simp) ?_ (Zc5 (by simp[hv.length];exact hl))
  rw[hx]
  exact hQ
end
end PM
end
section
set_option autoImplicit false
namespace PM
open PySem PySem.W PySem.Calls PyProof.Rows PyProof PySem.Spec
section
variable {prog:Program} {w:World} {Γ:Cx}
theorem ln1{α:Type _}: ∀{xs:List α},xs.length=1→∃x0,xs=[x0]
 | [x0],_=>⟨x0,rfl⟩
theorem ln2{α:Type _}: ∀{xs:List α},xs.length=2→∃x0 x1,xs=[x0,x1]
 | [x0,x1],_=>⟨x0,x1,rfl⟩
theorem ln3{α:Type _}: ∀{xs:List α},xs.length=3→∃x0 x1 x2,xs=[x0,x1,x2]
 | [x0,x1,x2],_=>⟨x0,x1,x2,rfl⟩
theorem ln4{α:Type _}: ∀{xs:List α},xs.length=4→∃x0 x1 x2 x3,xs=[x0,x1,x2,x3]
 | [x0,x1,x2,x3],_=>⟨x0,x1,x2,x3,rfl⟩
theorem ln5{α:Type _}: ∀{xs:List α},xs.length=5→∃x0 x1 x2 x3 x4,xs=[x0,x1,x2,x3,x4]
 | [x0,x1,x2,x3,x4],_=>⟨x0,x1,x2,x3,x4,rfl⟩
theorem ln6{α:Type _}: ∀{xs:List α},xs.length=6→∃x0 x1 x2 x3 x4 x5,xs=[x0,x1,x2,x3,x4,x5]
 | [x0,x1,x2,x3,x4,x5],_=>⟨x0,x1,x2,x3,x4,x5,rfl⟩
theorem ln7{α:Type _}: ∀{xs:List α},xs.length=7→∃x0 x1 x2 x3 x4 x5 x6,xs=[x0,x1,x2,x3,x4,x5,x6]
 | [x0,x1,x2,x3,x4,x5,x6],_=>⟨x0,x1,x2,x3,x4,x5,x6,rfl⟩
theorem jI{k:Int}{n:Nat}{pos:Pos}: J prog w Γ (.Constant (.int k) n pos) (Zn k):=J.int _ _ _
theorem jN{n:Nat}{pos:Pos}: J prog w Γ (.Constant .none n pos) Zac:=J.none _ _
theorem jB{b:Bool}{n:Nat}{pos:Pos}: J prog w Γ (.Constant (.bool b) n pos) (Za3 b):=J.bool _ _ _
theorem jS{x:Str}{n:Nat}{pos:Pos}: J prog w Γ (.Constant (.str x) n pos) (ZcB x):=J.str _ _ _
theorem cO{elt iter:Expr}{x:Str}{px:Pos}{ifs:List Expr}{scope:Scope}{pos:Pos}{cl:List (Str×Addr)}{t:Nat}{g:Src}{c:Ts}{f:Ex}(hg:JI prog w Γ iter g)(hel:∀C ρ,J prog w (Zbo Γ scope cl C [(x,t)] ρ) elt f)(hif:∀C ρ,JF prog w (Zbo Γ scope cl C [(x,t)] ρ) ifs c)
  (hclos:closureFor scope Γ.env=pure cl:=by with_unfolding_all rfl) (hcell:∀y∈scope.names,y.2≠.cell:=by decide) (hkind:scope.kind=.function:=by exact rfl) (hnames:∀y∈scope.names,y.2=.local→scope.names.lookup y.1=some .local:=by decide) (hx:scope.names.lookup x=some .local:=by exact rfl) (hs:∀x,foldedSetIterable iter Γ.env x=pure x:=by intro _;rfl):
  J prog w Γ (.ListComp elt [⟨.Name x px,iter,ifs,0⟩] scope pos) (Za4 g (put1 t) c f):=Zxt hg hel hif hclos hcell hkind hnames hx hs
theorem cT{elt iter:Expr}{x x₂:Str}{px px₂ tp:Pos}{kt:Nat}{scope:Scope}{pos:Pos}{cl:List (Str×Addr)}{t t₂:Nat}{g:Src}{f:Ex}(hg:JI2 prog w Γ iter g)(hel:∀C ρ,J prog w (Zbo Γ scope cl C [(x,t),(x₂,t₂)] ρ) elt f)
  (hclos:closureFor scope Γ.env=pure cl:=by with_unfolding_all rfl) (hcell:∀y∈scope.names,y.2≠.cell:=by decide) (hkind:scope.kind=.function:=by exact rfl) (hnames:∀y∈scope.names,y.2=.local→scope.names.lookup y.1=some .local:=by decide) (hx:scope.names.lookup x=some .local:=by exact rfl) (hx₂:scope.names.lookup x₂=some .local:=by exact rfl) (hxx:x≠x₂:=by decide) (htt:t≠t₂:=by decide) (hs:∀x,foldedSetIterable iter Γ.env x=pure x:=by intro _;rfl):
  J prog w Γ (.ListComp elt [⟨.Tuple [.Name x px,.Name x₂ px₂] kt tp,iter,[],0⟩] scope pos) (Za4 g (Zcl t t₂) ZaM f):=Zwh hg hel hclos hcell hkind hnames hx hx₂ hxx htt hs
theorem sO{elt iter:Expr}{x y:Str}{px py pos spos:Pos}{ifs:List Expr}{scope:Scope}{cl:List (Str×Addr)}{t i:Nat}{g:Src}{c:Ts}{f:Ex}(hy:Sto prog w Γ y i)(hg:JI prog w Γ iter g)(hel:∀C ρ,J prog w (Zbo Γ scope cl C [(x,t)] ρ) elt f)(hif:∀C ρ,JF prog w (Zbo Γ scope cl C [(x,t)] ρ) ifs c)
  (hsw:swapsWith (.ListComp elt [⟨.Name x px,iter,ifs,0⟩] scope pos) (some (.Name y py)) spos.line Γ.env=pure true:=by rfl)
  (hclos:closureFor scope Γ.env=pure cl:=by with_unfolding_all rfl) (hcell:∀y∈scope.names,y.2≠.cell:=by decide) (hkind:scope.kind=.function:=by exact rfl) (hnames:∀y∈scope.names,y.2=.local→scope.names.lookup y.1=some .local:=by decide) (hx:scope.names.lookup x=some .local:=by exact rfl) (hs:∀x,foldedSetIterable iter Γ.env x=pure x:=by intro _;rfl):
  S1 prog w Γ (.Assign [.Name y py] (.ListComp elt [⟨.Name x px,iter,ifs,0⟩] scope pos) spos) (Z3 i (Za4 g (put1 t) c f)):=Zt7 hy hg hel hif hsw hclos hcell hkind hnames hx hs
theorem sT{elt iter:Expr}{x x₂ y:Str}{px px₂ tp py pos spos:Pos}{kt:Nat}{scope:Scope}{cl:List (Str×Addr)}{t t₂ i:Nat}{g:Src}{f:Ex}(hy:Sto prog w Γ y i)(hg:JI2 prog w Γ iter g)(hel:∀C ρ,J prog w (Zbo Γ scope cl C [(x,t),(x₂,t₂)] ρ) elt f)
  (hsw:swapsWith (.ListComp elt [⟨.Tuple [.Name x px,.Name x₂ px₂] kt tp,iter,[],0⟩] scope pos) (some (.Name y py)) spos.line Γ.env=pure true:=by rfl)
  (hclos:closureFor scope Γ.env=pure cl:=by with_unfolding_all rfl) (hcell:∀y∈scope.names,y.2≠.cell:=by decide) (hkind:scope.kind=.function:=by exact rfl) (hnames:∀y∈scope.names,y.2=.local→scope.names.lookup y.1=some .local:=by decide) (hx:scope.names.lookup x=some .local:=by exact rfl) (hx₂:scope.names.lookup x₂=some .local:=by exact rfl) (hxx:x≠x₂:=by decide) (htt:t≠t₂:=by decide) (hs:∀x,foldedSetIterable iter Γ.env x=pure x:=by intro _;rfl):
  S1 prog w Γ (.Assign [.Name y py] (.ListComp elt [⟨.Tuple [.Name x px,.Name x₂ px₂] kt tp,iter,[],0⟩] scope pos) spos) (Z3 i (Za4 g (Zcl t t₂) ZaM f)):=ZtL hy hg hel hsw hclos hcell hkind hnames hx hx₂ hxx htt hs
end
section
variable {prog:Program} {w:World} {dp un:Nat} {gd:Option (List Code)} {cn:Str} {cs:Scope} {L a:Addr} {ccd:Value} {cl:List (Str×Addr)} {outer:List Env} {h₀:Heap} {hu:un+200<cLine} {names:List Str}
theorem vL{x:Str}{i:Nat}{pos:Pos}(hi:names[i]?=some x:=by rfl)(hx:cs.names.lookup x=some .local:=by exact rfl)(hk:cs.kind=.function:=by exact rfl)(hd:(x == ("__debug__":Str))=false:=by exact rfl): J prog w (ZbG dp un gd cn cs L a ccd cl outer h₀ hu names) (.Name x pos) (Zb i):=ZjC (Zxr hi hx hk hd)
theorem vC{x:Str}{i:Nat}{pos:Pos}(hi:names[i]?=some x:=by rfl)(hx:cs.names.lookup x=some .cell:=by exact rfl)(hk:cs.kind=.function:=by exact rfl)(hd:(x == ("__debug__":Str))=false:=by exact rfl): J prog w (ZbG dp un gd cn cs L a ccd cl outer h₀ hu names) (.Name x pos) (Zb i):=ZjC (Zxs hi hx hk hd)
theorem sL{x:Str}{i:Nat}(nd:names.Nodup:=by decide)(hi:names[i]?=some x:=by rfl)(hx:cs.names.lookup x=some .local:=by exact rfl)(hk:cs.kind=.function:=by exact rfl): Sto prog w (ZbG dp un gd cn cs L a ccd cl outer h₀ hu names) x i:=Zwe nd hi hx hk
theorem sC{x:Str}{i:Nat}(nd:names.Nodup:=by decide)(hi:names[i]?=some x:=by rfl)(hx:cs.names.lookup x=some .cell:=by exact rfl)(hk:cs.kind=.function:=by exact rfl)(hcl:(cl.lookup x).isSome=true:=by exact rfl): Sto prog w (ZbG dp un gd cn cs L a ccd cl outer h₀ hu names) x i:=Zwf nd hi hx hk hcl
end
section
variable {prog:Program} {w:World} {K:Frag} {p:Program} {loose:List Str} {mean:ExcName→Option Value} {mg mb:Str→Option Value} {Γ:Cx} {dp un:Nat}
theorem nB{x:Str}{v:Value}(clr:Clr K p loose mean mg mb Γ dp un)(e:nsIn K mainGlobals x=some Option.none:=by k_is)(hv:bootBuiltins x=some v:=by boot_by_name)(hn:x≠"__name__":=by decide)(hg:Γ.env.globals=mainGlobals:=by exact rfl)(hb:Γ.env.builtins=builtinsNs:=by exact rfl)(hk:Γ.env.scope.kind=.function:=by exact rfl)(hx:Γ.env.kindOf x=some .globalImplicit:=by exact rfl)(hd:(x == ("__debug__":Str))=false:=by exact rfl): Nm prog w Γ x v:=Zvl clr e hv hn hg hb hk hx hd
theorem cF{x:Str}{np pos:Pos}{f:Addr}{room:Nat}{e:Expr}{es:List Expr}{g:Exs}{o:List V→Hp→Option (V×Hp)}(clr:Clr K p loose mean mg mb Γ dp un)(D:Def prog w K p loose mean mg mb f room o)(h:Js prog w Γ (e::es) g)
  (en:nsIn K mainGlobals x=some (some (.ref f)):=by k_is) (hg:Γ.env.globals=mainGlobals:=by exact rfl) (hk:Γ.env.scope.kind=.function:=by exact rfl) (hx:Γ.env.kindOf x=some .globalImplicit:=by exact rfl) (hd0:(x == ("__debug__":Str))=false:=by exact rfl)
  (hkeep:keepIn K (.ref f)=true:=by k_is) (hd:dp+room<recursionLimit:=by omega) (hu:un+10*room+300<cLine:=by omega)
  (he:starEach (e::es) Γ.env=(false,eval e Γ.env)::starEach es Γ.env:=by rfl) (hp:∀pos,(backTo pos (starEach es Γ.env)).any (·.1)=false:=by intro _;rfl):J prog w Γ (.Call (.Name x np) (e::es) [] pos) (Zu o g):=Zwi clr (Zxx clr en hg hk hx hd0) hkeep D hd hu h he hp
theorem Dof{name qual:Str}{params:Arguments}{body:List Stmt}{scope:Scope}{dV kV doc pm cdv ct oc:Value}{an od:Option Addr}{osl:Array (Option Value)}{f:Addr}{names:List Str}{n room:Nat}{g:Sm}
  (hbody:∀(dp un:Nat) (gd:Option (List Code)) (L:Addr) (outer:List Env) (h₀:Heap) (hu:un+200<cLine),Clr K p loose mean mg mb (ZbG dp un gd qual scope L f cdv (cellsFrom (L+1) scope.names []) outer h₀ hu names) dp un→dp+room<recursionLimit→un+10*room+300<cLine →
   Ss prog w (ZbG dp un gd qual scope L f cdv (cellsFrom (L+1) scope.names []) outer h₀ hu names) body g)
  (ho:K.lookup f=some ⟨oc,od,.func (fnOf name qual params body scope dV kV doc pm an cdv ct),osl⟩:=by k_is) (hcd:codeIn K cdv qual=true:=by k_is) (nd:names.Nodup:=by decide) (hn:n≤names.length:=by decide)
  (hbind:∀s xs,xs.length=n→BindsTo s (fnOf name qual params body scope dV kV doc pm an cdv ct) ⟨xs,[]⟩ ((names.take n).zip xs):=by
   intro s xs hx
   first
   | (obtain⟨x0,rfl⟩:=ln1 hx;exact BindsTo.of_eq rfl)
   | (obtain⟨x0,x1,rfl⟩:=ln2 hx;exact BindsTo.of_eq rfl)
   | (obtain⟨x0,x1,x2,rfl⟩:=ln3 hx;exact BindsTo.of_eq rfl)
   | (obtain⟨x0,x1,x2,x3,rfl⟩:=ln4 hx;exact BindsTo.of_eq rfl)
   | (obtain⟨x0,x1,x2,x3,x4,rfl⟩:=ln5 hx;exact BindsTo.of_eq rfl)
   | (obtain⟨x0,x1,x2,x3,x4,x5,rfl⟩:=ln6 hx;exact BindsTo.of_eq rfl)
   | (obtain⟨x0,x1,x2,x3,x4,x5,x6,rfl⟩:=ln7 hx;exact BindsTo.of_eq rfl)) (hkinds:∀x∈names.take n,scope.names.lookup x=some .local∨scope.names.lookup x=some .cell:=by decide) (hone:((cellsFrom 0 scope.names []).map (·.1)).Nodup:=by decide +kernel)
  (hco:scope.isCoroutine=false:=by exact rfl) (hgen:scope.isGenerator=false:=by exact rfl) (hk:scope.kind=.function:=by exact rfl):
  Def prog w K p loose mean mg mb f (room+1) (Z5 n g):=ZrD ho hcd nd hn hbind hkinds hone hco hgen hk hbody
end
section
variable {prog:Program} {w:World} {Γ:Cx} {scope:Scope} {cl:List (Str×Addr)} {C:Addr} {ts:List (Str×Nat)} {ρ0:Lc}
theorem vO{x:Str}{t:Nat}{pos:Pos}(hm:(x,t)∈ts:=by first | exact Zz5 | exact Zz2 _ Zz5)(hk:scope.kind=.function:=by exact rfl)(hl:(compEnvC scope cl C Γ.env).kindOf x=some .local:=by exact rfl)(hd:(x == ("__debug__":Str))=false:=by exact rfl): J prog w (Zbo Γ scope cl C ts ρ0) (.Name x pos) (Zb t):=ZjC (Zwk hm hk hl hd)
end
section
variable {prog:Program} {w:World} {dp un:Nat} {gd:Option (List Code)} {cn:Str} {cs:Scope} {L a:Addr} {ccd:Value} {clf:List (Str×Addr)} {outer:List Env} {h₀:Heap} {hu:un+200<cLine} {names:List Str} {scope:Scope} {cl:List (Str×Addr)} {C:Addr} {ts:List (Str×Nat)} {ρ0:Lc}
theorem vD{x:Str}{i:Nat}{pos:Pos}(hi:names[i]?=some x:=by rfl)(hx:cs.names.lookup x=some .cell:=by exact rfl)(hne:∀p∈ts,p.2≠i:=by decide)(hcl:cl.lookup x=clf.lookup x:=by exact rfl)(hk:scope.kind=.function:=by exact rfl)(hl:(compEnvC scope cl C (envX cn cs L a ccd clf)).kindOf x=some .cell:=by exact rfl)(hd:(x == ("__debug__":Str))=false:=by exact rfl):
  J prog w (Zbo (ZbG dp un gd cn cs L a ccd clf outer h₀ hu names) scope cl C ts ρ0) (.Name x pos) (Zb i):=ZjC (Zwl hi hx hne hcl hk hl hd)
end
end PM
end
section
open PySem PM TM
namespace L
variable {H:Hp} {a:V} {t:T} {F:List Nat} {ρ:Lc} {σ:TL}
noncomputable def Zlh: Sm:=ZB (Z3 2 (Zk Zax (Zk Zbw (Zk Zbw (Zb 1) (Zb 1)) (Zn 7919)) (Zn 11))) (ZB (ZY (ZM (Zk oGt (Zu ZaP (Zf (Zb 0) Zq)) (Zn 0))) (Z3 2 (Zk Zax (Zb 2) (Zk Zw (Zb 0) (Zk oMod (Zb 1) (Zu ZaP (Zf (Zb 0) Zq)))))) ZZ) (ZI (Zb 2)))
noncomputable def Zig:=Z5 2 Zlh
noncomputable def Zli: PS:=(Zr (ZJ 2 (Zc Zad (Zc ZaH (Zc ZaH (Za 1) (Za 1)) (Zj 7919)) (Zj 11))) (Zr (ZL (Zv (Zc qGt (Zp Zaj (Zd (Za 0) Zl)) (Zj 0))) (ZJ 2 (Zc Zad (Za 2) (Zc Zm (Za 0) (Zc ZaW (Za 1) (Zp Zaj (Zd (Za 0) Zl)))))) ZN) (Zx (Za 2))))
noncomputable def Zgw:=Z0 2 Zli
theorem Zpg: SimF false Zig Zgw:=Zaf (show S [] [] [] false Zlh Zli from(ZH (Zag (O':=[]) (Zal ZaL (Zal ZbY (Zal ZbY (Ze 1) (Ze 1)) (Zo _)) (Zo _))) (ZH (Z9 (ZQ (ZF Zd8 (ZaF Za5 (Zh (Ze 0) Zs)) (Zo _))) (Zag (O':=[]) (Zal ZaL (Ze 2) (ZD ZC (Ze 0) (ZF Zbk (Ze 1) (ZaF Za5 (Zh (Ze 0) Zs)))))) Z8) (ZV (Ze 2)))))
noncomputable def Zl0: Sm:=ZI (Zk oMod (Zk oMod (Zk Zbw (Zu Zig (Zf (Zb 0) (Zf (Zb 1) Zq))) (Zn 48271)) (Zn 2147483647)) (Zb 2))
noncomputable def Zb5:=Z5 3 Zl0
noncomputable def Zl1: PS:=(Zx (Zc ZaW (Zc ZaW (Zc ZaH (Zp Zgw (Zd (Za 0) (Zd (Za 1) Zl))) (Zj 48271)) (Zj 2147483647)) (Za 2)))
noncomputable def ZbK:=Z0 3 Zl1
theorem Zcr: SimF false Zb5 ZbK:=Zaf (show S [] [] [] false Zl0 Zl1 from(ZV (ZF Zbk (ZF Zbk (Zal ZbY (ZO Zpg (Zh (Ze 0) (Zh (Ze 1) Zs))) (Zo _)) (Zo _)) (Ze 2))))
noncomputable def ZkV: Sm:=ZB (Z3 2 (Zu Zig (Zf (Zb 0) (Zf (Zb 1) Zq)))) (ZB (Z3 3 (Zk Zw (Zca (Zf (Zn 3) (Zf (Zn 9) (Zf (Zk oPow (Zn 10) (Zn 9)) (Zf (Zk oPow (Zn 10) (Zn 40)) Zq))))) (Zk oMod (Zk oMod (Zk Zbw (Zb 2) (Zn 69621)) (Zn 2147483629)) (Zn 4)))) (ZI (Zk ZbR (Zk oMod (Zk Zbw (Zb 2) (Zk oPow (Zn 48271) (Zn 9))) (Zk Zax (Zk Zbw (Zn 2) (Zb 3)) (Zn 1))) (Zb 3))))
noncomputable def ZeD:=Z5 2 ZkV
noncomputable def ZkW: PS:=(Zr (ZJ 2 (Zp Zgw (Zd (Za 0) (Zd (Za 1) Zl)))) (Zr (ZJ 3 (Zc Zm (ZbB (Zd (Zj 3) (Zd (Zj 9) (Zd (Zc Zdt (Zj 10) (Zj 9)) (Zd (Zc Zdt (Zj 10) (Zj 40)) Zl))))) (Zc ZaW (Zc ZaW (Zc ZaH (Za 2) (Zj 69621)) (Zj 2147483629)) (Zj 4)))) (Zx (Zc ZaZ (Zc ZaW (Zc ZaH (Za 2) (Zc Zdt (Zj 48271) (Zj 9))) (Zc Zad (Zc ZaH (Zj 2) (Za 3)) (Zj 1))) (Za 3)))))
noncomputable def Zed:=Z0 2 ZkW
theorem Zgp: SimF false ZeD Zed:=Zaf (show S [] [] [] false ZkV ZkW from(ZH (Zag (O':=[]) (ZO Zpg (Zh (Ze 0) (Zh (Ze 1) Zs)))) (ZH (Zag (O':=[]) (ZD ZC (E.list (Zh (Zo _) (Zh (Zo _) (Zh (ZF Zov (Zo _) (Zo _)) (Zh (ZF Zov (Zo _) (Zo _)) Zs))))) (ZF Zbk (ZF Zbk (Zal ZbY (Ze 2) (Zo _)) (Zo _)) (Zo _)))) (ZV (ZF Zb2 (ZF Zbk (Zal ZbY (Ze 2) (ZF Zov (Zo _) (Zo _))) (Zal ZaL (Zal ZbY (Zo _) (Ze 3)) (Zo _))) (Ze 3))))))
noncomputable def Zlj: Sm:=ZB (Z3 2 (Zu Zb5 (Zf (Zb 0) (Zf (Zb 1) (Zf (Zn 42) Zq))))) (ZB (ZY (ZM (Zk oLt (Zk oMod (Zb 2) (Zn 6)) (Zn 2))) (ZI (Zac)) ZZ) (ZB (ZY (ZM (Zk oLt (Zk oMod (Zb 2) (Zn 6)) (Zn 4))) (ZI (Zn 0)) ZZ) (ZB (ZY (ZM (Zk oEq (Zk oMod (Zb 2) (Zn 6)) (Zn 4))) (ZI (Zk oDiv (Zb 2) (Zn 6))) ZZ) (ZI (Zu Zdi (Zf (Zu ZeD (Zf (Zb 0) (Zf (Zb 1) Zq))) Zq))))))
noncomputable def Zlk:=Z5 2 Zlj
noncomputable def Zll: PS:=(Zr (ZJ 2 (Zp ZbK (Zd (Za 0) (Zd (Za 1) (Zd (Zj 42) Zl))))) (Zr (ZL (Zv (Zc qLt (Zc ZaW (Za 2) (Zj 6)) (Zj 2))) (Zx (ZU)) ZN) (Zr (ZL (Zv (Zc qLt (Zc ZaW (Za 2) (Zj 6)) (Zj 4))) (Zx (Zj 0)) ZN) (Zr (ZL (Zv (Zc qEq (Zc ZaW (Za 2) (Zj 6)) (Zj 4))) (Zx (Zc Zcm (Za 2) (Zj 6))) ZN) (Zx (Zp ZcG (Zd (Zp Zed (Zd (Za 0) (Zd (Za 1) Zl))) Zl)))))))
noncomputable def Zih:=Z0 2 Zll
theorem ZtO: SimF false Zlk Zih:=Zaf (show S [] [] [] false Zlj Zll from(ZH (Zag (O':=[]) (ZO Zcr (Zh (Ze 0) (Zh (Ze 1) (Zh (Zo _) Zs))))) (ZH (Z9 (ZQ (ZF ZdH (ZF Zbk (Ze 2) (Zo _)) (Zo _))) (ZV (Zap)) Z8) (ZH (Z9 (ZQ (ZF ZdH (ZF Zbk (Ze 2) (Zo _)) (Zo _))) (ZV (Zo _)) Z8) (ZH (Z9 (ZQ (ZF Zat (ZF Zbk (Ze 2) (Zo _)) (Zo _))) (ZV (ZF Ze9 (Ze 2) (Zo _))) Z8) (ZV (ZaF Zd4 (Zh (ZO Zgp (Zh (Ze 0) (Zh (Ze 1) Zs))) Zs))))))))
noncomputable def Zkv: Sm:=ZB (ZY (ZM (Zk oEq (Zb 0) (Zn 0))) (ZI (ZaV (Zf (Zn 0) (Zf (Zb 1) Zq)))) ZZ) (ZI (ZaV (Zf (Zb 0) (Zf (Zk oMod (Zb 1) (Zb 0)) Zq))))
noncomputable def ZhX:=Z5 2 Zkv
noncomputable def Zkw: PS:=(Zr (ZL (Zv (Zc qEq (Za 0) (Zj 0))) (Zx (ZaS (Zd (Zj 0) (Zd (Za 1) Zl)))) ZN) (Zx (ZaS (Zd (Za 0) (Zd (Zc ZaW (Za 1) (Za 0)) Zl)))))
noncomputable def ZdL:=Z0 2 Zkw
theorem ZoY: SimF false ZhX ZdL:=Zaf (show S [] [] [] false Zkv Zkw from(ZH (Z9 (ZQ (ZF Zat (Ze 0) (Zo _))) (ZV (E.tup (Zh (Zo _) (Zh (Ze 1) Zs)))) Z8) (ZV (E.tup (Zh (Ze 0) (Zh (ZF Zbk (Ze 1) (Ze 0)) Zs))))))
noncomputable def Zl2: Sm:=ZB (Z3 3 (Zu Zb5 (Zf (Zb 0) (Zf (Zb 1) (Zf (Zn 60) Zq))))) (ZB (ZY (ZM (Zk oLt (Zk oMod (Zb 3) (Zn 5)) (Zn 2))) (ZI (ZaV (Zf (Zn 1) (Zf (Zn 0) Zq)))) ZZ) (ZB (ZY (ZM (Zk oEq (Zk oMod (Zb 3) (Zn 5)) (Zn 2))) (ZI (ZaV (Zf (Zn 0) (Zf (Zb 2) Zq)))) ZZ) (ZB (ZY (ZM (Zk oEq (Zk oMod (Zb 3) (Zn 5)) (Zn 3))) (ZI (Zu ZhX (Zf (Zk Zax (Zk oDiv (Zb 3) (Zn 5)) (Zn 1)) (Zf (Zb 2) Zq)))) ZZ) (ZI (Zu ZhX (Zf (Zu Zdi (Zf (Zu ZeD (Zf (Zb 0) (Zf (Zb 1) Zq))) Zq)) (Zf (Zb 2) Zq)))))))
noncomputable def Zl3:=Z5 3 Zl2
noncomputable def Zl4: PS:=(Zr (ZJ 3 (Zp ZbK (Zd (Za 0) (Zd (Za 1) (Zd (Zj 60) Zl))))) (Zr (ZL (Zv (Zc qLt (Zc ZaW (Za 3) (Zj 5)) (Zj 2))) (Zx (ZaS (Zd (Zj 1) (Zd (Zj 0) Zl)))) ZN) (Zr (ZL (Zv (Zc qEq (Zc ZaW (Za 3) (Zj 5)) (Zj 2))) (Zx (ZaS (Zd (Zj 0) (Zd (Za 2) Zl)))) ZN) (Zr (ZL (Zv (Zc qEq (Zc ZaW (Za 3) (Zj 5)) (Zj 3))) (Zx (Zp ZdL (Zd (Zc Zad (Zc Zcm (Za 3) (Zj 5)) (Zj 1)) (Zd (Za 2) Zl)))) ZN) (Zx (Zp ZdL (Zd (Zp ZcG (Zd (Zp Zed (Zd (Za 0) (Zd (Za 1) Zl))) Zl)) (Zd (Za 2) Zl))))))))
noncomputable def Ziv:=Z0 3 Zl4
theorem Zuc: SimF false Zl3 Ziv:=Zaf (show S [] [] [] false Zl2 Zl4 from(ZH (Zag (O':=[]) (ZO Zcr (Zh (Ze 0) (Zh (Ze 1) (Zh (Zo _) Zs))))) (ZH (Z9 (ZQ (ZF ZdH (ZF Zbk (Ze 3) (Zo _)) (Zo _))) (ZV (E.tup (Zh (Zo _) (Zh (Zo _) Zs)))) Z8) (ZH (Z9 (ZQ (ZF Zat (ZF Zbk (Ze 3) (Zo _)) (Zo _))) (ZV (E.tup (Zh (Zo _) (Zh (Ze 2) Zs)))) Z8) (ZH (Z9 (ZQ (ZF Zat (ZF Zbk (Ze 3) (Zo _)) (Zo _))) (ZV (ZO ZoY (Zh (Zal ZaL (ZF Ze9 (Ze 3) (Zo _)) (Zo _)) (Zh (Ze 2) Zs)))) Z8) (ZV (ZO ZoY (Zh (ZaF Zd4 (Zh (ZO Zgp (Zh (Ze 0) (Zh (Ze 1) Zs))) Zs)) (Zh (Ze 2) Zs)))))))))
noncomputable def Zl5: Sm:=ZB (Z3 3 (Zk Zax (Zca (Zf (Zn 0) Zq)) (Zb 2))) (ZB (Z3 4 (Zu ZaP (Zf (Zb 3) Zq))) (ZB (Z3 5 (Zca Zq)) (ZB (Za9 (Zbc (Zf (Zb 4) Zq)) (put1 6) (ZB (Z3 7 (Zca Zq)) (ZB (Za9 (Zbc (Zf (Zb 4) Zq)) (put1 8) (ZB (Z3 9 (Zu Zlk (Zf (Zb 0) (Zf (Zk Zax (Zk Zax (Zb 1) (Zk Zbw (Zb 6) (Zb 4))) (Zb 8)) Zq)))) (ZB (ZY (ZM (Zk ZcO (Zb 9) (Zac))) (Z3 9 (Zk Zax (Zk ZbR (Zk Zw (Zb 3) (Zb 6)) (Zk Zw (Zb 3) (Zb 8))) (Zb 9))) ZZ) (ZcE (ZfO (Zb 7) (Zb 9)))))) (ZB (Zc1 (Zn 0) (Zb 7) (Zb 6)) (ZcE (ZfO (Zb 5) (Zb 7))))))) (ZI (ZaV (Zf (Zb 5) (Zf (Za4 (Zbc (Zf (Zk ZbR (Zb 4) (Zn 1)) Zq)) (put1 100) ZaM (Zu Zl3 (Zf (Zb 0) (Zf (Zk Zax (Zk Zax (Zb 1) (Zk Zbw (Zb 4) (Zb 4))) (Zb 100)) (Zf (Zk Zw (Zb 2) (Zb 100)) Zq))))) Zq)))))))
noncomputable def Zl6:=Z5 3 Zl5
noncomputable def Zl7: PS:=(Zr (ZJ 3 (Zc Zad (ZbB (Zd (Zj 0) Zl)) (Za 2))) (Zr (ZJ 4 (Zp Zaj (Zd (Za 3) Zl))) (Zr (ZJ 5 (ZbB Zl)) (Zr (Zav (Zaw (Zd (Za 4) Zl)) (Z2 6) (Zr (ZJ 7 (ZbB Zl)) (Zr (Zav (Zaw (Zd (Za 4) Zl)) (Z2 8) (Zr (ZJ 9 (Zp Zih (Zd (Za 0) (Zd (Zc Zad (Zc Zad (Za 1) (Zc ZaH (Za 6) (Za 4))) (Za 8)) Zl)))) (Zr (ZL (Zv (Zc ZaU (Za 9) (ZU))) (ZJ 9 (Zc Zad (Zc ZaZ (Zc Zm (Za 3) (Za 6)) (Zc Zm (Za 3) (Za 8))) (Za 9))) ZN) (Zez 7 [] ZaY (ZbP (Za 9)))))) (Zr (Zbq 7 [] (Zj 0) ZaY (Za 6)) (Zez 5 [7] ZaY (Za 7)))))) (Zx (ZaS (Zd (Za 5) (Zd (Zan (Zaw (Zd (Zc ZaZ (Za 4) (Zj 1)) Zl)) (Z2 100) Zaa (ZbP (Zp Ziv (Zd (Za 0) (Zd (Zc Zad (Zc Zad (Za 1) (Zc ZaH (Za 4) (Za 4))) (Za 100)) (Zd (Zc Zm (Za 2) (Za 100)) Zl)))))) Zl))))))))
noncomputable def Ziw:=Z0 3 Zl7
theorem Zud: SimF true Zl6 Ziw:=Zaf (show S [] [5] [] true Zl5 Zl7 from(ZH (Zag (O':=[]) (Zal ZaL (E.list (Zh (Zo _) Zs)) (Ze 2))) (ZH (Zag (O':=[]) (ZaF Za5 (Zh (Ze 3) Zs))) (ZH (ZdZ (O':=[5]) (E.list Zs)) (ZH (ZbF (Gs.range (Zh (Ze 4) Zs)) PutOk.one (by decide) (by decide) (ZH (ZdZ (O':=[5,7]) (Zcy (O':=[]) (E.list Zs))) (ZH (ZbF (Gs.range (Zh (Ze 4) Zs)) PutOk.one (by decide) (by decide) (ZH (Zag (O':=[5,7]) (ZO ZtO (Zh (Ze 0) (Zh (Zal ZaL (Zal ZaL (Ze 1) (Zal ZbY (Ze 6) (Ze 4))) (Ze 8)) Zs)))) (ZH (Z9 (ZQ (ZF Zda (Ze 9) (Zap))) (Zag (O':=[5,7]) (Zal ZaL (ZF Zb2 (ZD ZC (Ze 3) (Ze 6)) (ZD ZC (Ze 3) (Ze 8))) (Ze 9))) Z8) (Zox (O':=[5,7]) (by decide) Zdc (Zcy (O':=[5]) (E.flat (Ze 9))) (by decide) (by decide))))) (ZH (S.put (O':=[5,7]) (by decide) (Zcy (O':=[5]) (Zo _)) Zdc (Ze 6) (by decide) (by decide)) (Zox (O':=[5]) (by decide) Zdc (Zcy (O':=[7]) (E.own (by decide))) (by decide) (by decide)))))) (Za8 (E.tup (Znl (E.own (by decide)) (Znl (ZfS (Gs.range (Zh (ZF Zb2 (Ze 4) (Zo _)) Zs)) PutOk.one (by decide) Zba (Zcy (O':=[]) (E.flat (ZO Zuc (Zh (Ze 0) (Zh (Zal ZaL (Zal ZaL (Ze 1) (Zal ZbY (Ze 4) (Ze 4))) (Ze 100)) (Zh (ZD ZC (Ze 2) (Ze 100)) Zs))))))) Zs (by decide) (by decide)) (by decide) (by decide)))))))))
noncomputable def Zl8: Sm:=ZB (ZY (ZM (Zk oIs (Zb 0) (Zac))) (ZI (Zac)) ZZ) (ZI (ZaV (Zf (Za4 (ZcR (Zk Zw (Zb 0) (Zn 0))) (put1 100) ZaM (Zu Zeq (Zf (Zb 100) Zq))) (Zf (Zu Zeq (Zf (Zk Zw (Zb 0) (Zn 1)) Zq)) Zq))))
noncomputable def Zl9:=Z5 1 Zl8
noncomputable def Zma: PS:=(Zr (ZL (Zv (Zc qIs (Za 0) (ZU))) (Zx (ZU)) ZN) (Zx (ZaS (Zd (Zan (ZaD (Zc Zm (Za 0) (Zj 0))) (Z2 100) Zaa (Zp Zch (Zd (Za 100) Zl))) (Zd (Zp Zch (Zd (Zc Zm (Za 0) (Zj 1)) Zl)) Zl)))))
noncomputable def ZgD:=Z0 1 Zma
theorem Zue: SimF false Zl9 ZgD:=Zaf (show S [] [] [] false Zl8 Zma from(ZH (Z9 (ZQ (ZF Zcc (Ze 0) (Zap))) (ZV (Zap)) Z8) (ZV (E.tup (Zh (ZcW (Gs.seq (ZD ZC (Ze 0) (Zo _))) PutOk.one (by decide) Zba (Zi1 ZnH (Zh (Ze 100) Zs))) (Zh (Zi1 ZnH (Zh (ZD ZC (Ze 0) (Zo _)) Zs)) Zs))))))
noncomputable def Zlm: Sm:=ZI (eOr (Zk oIs (Zb 1) (Zac)) (ZcC (Zk ZcO (Zb 0) (Zac)) (Zk oLe (Zb 0) (Zb 1))))
noncomputable def Zii:=Z5 2 Zlm
noncomputable def Zln: PS:=(Zx ((pOr (Zc qIs (Za 1) (ZU)) ((ZcS (Zc ZaU (Za 0) (ZU)) (Zc qLe (Za 0) (Za 1)))))))
noncomputable def Zgx:=Z0 2 Zln
theorem Zph: SimF false Zii Zgx:=Zaf (show S [] [] [] false Zlm Zln from(ZV ((ZhH (E.sh (ZF Zcc (Ze 1) (Zap))) (E.sh ((ZdG (E.sh (ZF Zda (Ze 0) (Zap))) (E.sh (ZF ZjO (Ze 0) (Ze 1))))))))))
noncomputable def Zmb: Sm:=ZB (ZY (ZM (Zk oEq (Zk Zw (Zb 0) (Zn 0)) (Zn 0))) (ZI (Zk oEq (Zb 1) (Zk Zw (Zb 0) (Zn 1)))) ZZ) (ZI (Zk oEq (Zk oMod (Zb 1) (Zk Zw (Zb 0) (Zn 0))) (Zk Zw (Zb 0) (Zn 1))))
noncomputable def ZeL:=Z5 2 Zmb
noncomputable def Zmc: PS:=(Zr (ZL (Zv (Zc qEq (Zc Zm (Za 0) (Zj 0)) (Zj 0))) (Zx (Zc qEq (Za 1) (Zc Zm (Za 0) (Zj 1)))) ZN) (Zx (Zc qEq (Zc ZaW (Za 1) (Zc Zm (Za 0) (Zj 0))) (Zc Zm (Za 0) (Zj 1)))))
noncomputable def Zeh:=Z0 2 Zmc
theorem ZgE: SimF false ZeL Zeh:=Zaf (show S [] [] [] false Zmb Zmc from(ZH (Z9 (ZQ (ZF Zat (ZD ZC (Ze 0) (Zo _)) (Zo _))) (ZV (ZF Zat (Ze 1) (ZD ZC (Ze 0) (Zo _)))) Z8) (ZV (ZF Zat (ZF Zbk (Ze 1) (ZD ZC (Ze 0) (Zo _))) (ZD ZC (Ze 0) (Zo _))))))
noncomputable def Zkx: Sm:=ZB (ZY (ZM (Zk oEq (Zk Zw (Zb 1) (Zn 0)) (Zn 0))) (ZI (Zk oEq (Zb 0) (Zb 1))) ZZ) (ZI (ZcC (Zk oEq (Zk oMod (Zk Zw (Zb 0) (Zn 0)) (Zk Zw (Zb 1) (Zn 0))) (Zn 0)) (Zu ZeL (Zf (Zb 1) (Zf (Zk Zw (Zb 0) (Zn 1)) Zq)))))
noncomputable def Zky:=Z5 2 Zkx
noncomputable def Zkz: PS:=(Zr (ZL (Zv (Zc qEq (Zc Zm (Za 1) (Zj 0)) (Zj 0))) (Zx (Zc qEq (Za 0) (Za 1))) ZN) (Zx ((ZcS (Zc qEq (Zc ZaW (Zc Zm (Za 0) (Zj 0)) (Zc Zm (Za 1) (Zj 0))) (Zj 0)) (Zp Zeh (Zd (Za 1) (Zd (Zc Zm (Za 0) (Zj 1)) Zl)))))))
noncomputable def ZhY:=Z0 2 Zkz
theorem Zs4: SimF false Zky ZhY:=Zaf (show S [] [] [] false Zkx Zkz from(ZH (Z9 (ZQ (ZF Zat (ZD ZC (Ze 1) (Zo _)) (Zo _))) (ZV (ZF Zat (Ze 0) (Ze 1))) Z8) (ZV ((ZdG (E.sh (ZF Zat (ZF Zbk (ZD ZC (Ze 0) (Zo _)) (ZD ZC (Ze 1) (Zo _))) (Zo _))) (E.sh (ZO ZgE (Zh (Ze 1) (Zh (ZD ZC (Ze 0) (Zo _)) Zs)))))))))
noncomputable def ZkA: Sm:=ZB (ZY (ZM (Zk oEq (Zk Zw (Zb 1) (Zn 0)) (Zn 0))) (ZI (Zk oEq (Zb 0) (Zb 1))) ZZ) (ZI (ZcC (Zk oEq (Zk oMod (Zk Zw (Zb 0) (Zn 0)) (Zk Zw (Zb 1) (Zn 0))) (Zn 0)) (Zk oEq (Zk oMod (Zk ZbR (Zk Zw (Zb 0) (Zn 1)) (Zk Zw (Zb 1) (Zn 1))) (Zk Zw (Zb 1) (Zn 0))) (Zn 0))))
noncomputable def ZkB:=Z5 2 ZkA
noncomputable def ZkC: PS:=(Zr (ZL (Zv (Zc qEq (Zc Zm (Za 1) (Zj 0)) (Zj 0))) (Zx (Zc qEq (Za 0) (Za 1))) ZN) (Zx ((ZcS (Zc qEq (Zc ZaW (Zc Zm (Za 0) (Zj 0)) (Zc Zm (Za 1) (Zj 0))) (Zj 0)) (Zc qEq (Zc ZaW (Zc ZaZ (Zc Zm (Za 0) (Zj 1)) (Zc Zm (Za 1) (Zj 1))) (Zc Zm (Za 1) (Zj 0))) (Zj 0))))))
noncomputable def ZhZ:=Z0 2 ZkC
theorem Zs5: SimF false ZkB ZhZ:=Zaf (show S [] [] [] false ZkA ZkC from(ZH (Z9 (ZQ (ZF Zat (ZD ZC (Ze 1) (Zo _)) (Zo _))) (ZV (ZF Zat (Ze 0) (Ze 1))) Z8) (ZV ((ZdG (E.sh (ZF Zat (ZF Zbk (ZD ZC (Ze 0) (Zo _)) (ZD ZC (Ze 1) (Zo _))) (Zo _))) (E.sh (ZF Zat (ZF Zbk (ZF Zb2 (ZD ZC (Ze 0) (Zo _)) (ZD ZC (Ze 1) (Zo _))) (ZD ZC (Ze 1) (Zo _))) (Zo _))))))))
noncomputable def Zlo: Sm:=ZB (ZY (ZM (Zk oIs (Zb 1) (Zac))) (ZI (Za3 true)) ZZ) (ZI (ZcC (Zk ZcO (Zb 0) (Zac)) (Zk oLe (Zb 0) (Zb 1))))
noncomputable def Zlp:=Z5 2 Zlo
noncomputable def Zlq: PS:=(Zr (ZL (Zv (Zc qIs (Za 1) (ZU))) (Zx (ZaX true)) ZN) (Zx ((ZcS (Zc ZaU (Za 0) (ZU)) (Zc qLe (Za 0) (Za 1))))))
noncomputable def Zij:=Z0 2 Zlq
theorem ZtP: SimF false Zlp Zij:=Zaf (show S [] [] [] false Zlo Zlq from(ZH (Z9 (ZQ (ZF Zcc (Ze 1) (Zap))) (ZV (E.bool _)) Z8) (ZV ((ZdG (E.sh (ZF Zda (Ze 0) (Zap))) (E.sh (ZF ZjO (Ze 0) (Ze 1))))))))
noncomputable def ZkX: Sm:=ZB (ZY (tOr (ZM (Zk oIs (Zb 0) (Zac))) (tOr (ZM (Zk oIs (Zb 1) (Zac))) Zb9)) (ZI (Zk oIs (Zb 0) (Zac))) ZZ) (ZB (Za9 (Zbc (Zf (Zu ZaP (Zf (Zk Zw (Zb 0) (Zn 0)) Zq)) Zq)) (put1 2) (Za9 (Zbc (Zf (Zu ZaP (Zf (Zk Zw (Zb 0) (Zn 0)) Zq)) Zq)) (put1 3) (ZY (ZbC (ZM (Zu Zlp (Zf (Zk Zw (Zk Zw (Zk Zw (Zb 0) (Zn 0)) (Zb 2)) (Zb 3)) (Zf (Zk Zw (Zk Zw (Zk Zw (Zb 1) (Zn 0)) (Zb 2)) (Zb 3)) Zq))))) (ZI (Za3 false)) ZZ))) (ZB (Za9 (Zbc (Zf (Zu ZaP (Zf (Zk Zw (Zb 0) (Zn 1)) Zq)) Zq)) (put1 4) (ZY (ZbC (ZM (Zu ZkB (Zf (Zk Zw (Zk Zw (Zb 0) (Zn 1)) (Zb 4)) (Zf (Zk Zw (Zk Zw (Zb 1) (Zn 1)) (Zb 4)) Zq))))) (ZI (Za3 false)) ZZ)) (ZI (Za3 true))))
noncomputable def ZkY:=Z5 2 ZkX
noncomputable def Zh8: PS:=(Zr (ZL (bOr (Zv (Zc qIs (Za 0) (ZU))) (bOr (Zv (Zc qIs (Za 1) (ZU))) ZbO)) (Zx (Zc qIs (Za 0) (ZU))) ZN) (Zr (Zav (Zaw (Zd (Zp Zaj (Zd (Zc Zm (Za 0) (Zj 0)) Zl)) Zl)) (Z2 2) (Zav (Zaw (Zd (Zp Zaj (Zd (Zc Zm (Za 0) (Zj 0)) Zl)) Zl)) (Z2 3) (ZL (Zbp (Zv (Zp Zij (Zd (Zc Zm (Zc Zm (Zc Zm (Za 0) (Zj 0)) (Za 2)) (Za 3)) (Zd (Zc Zm (Zc Zm (Zc Zm (Za 1) (Zj 0)) (Za 2)) (Za 3)) Zl))))) (Zx (ZaX false)) ZN))) (Zr (Zav (Zaw (Zd (Zp Zaj (Zd (Zc Zm (Za 0) (Zj 1)) Zl)) Zl)) (Z2 4) (ZL (Zbp (Zv (Zp ZhZ (Zd (Zc Zm (Zc Zm (Za 0) (Zj 1)) (Za 4)) (Zd (Zc Zm (Zc Zm (Za 1) (Zj 1)) (Za 4)) Zl))))) (Zx (ZaX false)) ZN)) (Zx (ZaX true)))))
noncomputable def Zee:=Z0 2 Zh8
theorem Ztt: SimF false ZkY Zee:=Zaf (show S [] [] [] false ZkX Zh8 from(ZH (Z9 (Zbh (ZQ (ZF Zcc (Ze 0) (Zap))) (Zbh (ZQ (ZF Zcc (Ze 1) (Zap))) ZcK)) (ZV (ZF Zcc (Ze 0) (Zap))) Z8) (ZH (ZbF (Gs.range (Zh (ZaF Za5 (Zh (ZD ZC (Ze 0) (Zo _)) Zs)) Zs)) PutOk.one (by decide) (by decide) (ZbF (Gs.range (Zh (ZaF Za5 (Zh (ZD ZC (Ze 0) (Zo _)) Zs)) Zs)) PutOk.one (by decide) (by decide) (Z9 (ZbW (ZQ (ZO ZtP (Zh (ZD ZC (ZD ZC (ZD ZC (Ze 0) (Zo _)) (Ze 2)) (Ze 3)) (Zh (ZD ZC (ZD ZC (ZD ZC (Ze 1) (Zo _)) (Ze 2)) (Ze 3)) Zs))))) (ZV (E.bool _)) Z8))) (ZH (ZbF (Gs.range (Zh (ZaF Za5 (Zh (ZD ZC (Ze 0) (Zo _)) Zs)) Zs)) PutOk.one (by decide) (by decide) (Z9 (ZbW (ZQ (ZO Zs5 (Zh (ZD ZC (ZD ZC (Ze 0) (Zo _)) (Ze 4)) (Zh (ZD ZC (ZD ZC (Ze 1) (Zo _)) (Ze 4)) Zs))))) (ZV (E.bool _)) Z8)) (ZV (E.bool _))))))
noncomputable def ZpX: PS:=(Zr (ZJ 0 (Zp ZcG (Zd (Za 0) Zl))) (Zr (ZJ 1 (Zp ZcG (Zd (Za 1) Zl))) (Zr (Zdo (Zv (Zc qNe (Za 1) (Zj 0))) (Zr (ZJ 2 (Zc ZaW (Za 0) (Za 1))) (Zr (ZJ 0 (Za 1)) (ZJ 1 (Za 2)))) 1000000) (Zx (Za 0)))))
noncomputable def ZgQ:=Z0 2 ZpX
noncomputable def ZmP: Sm:=ZB (Z3 2 (Zu Zdi (Zf (Zb 0) Zq))) (ZB (Z3 3 (Zu Zdi (Zf (Zb 1) Zq))) (ZB (ZdY (ZM (Zk oNe (Zb 3) (Zn 0))) (ZB (Z3 4 (Zk oMod (Zb 2) (Zb 3))) (ZB (Z3 2 (Zb 3)) (Z3 3 (Zb 4)))) 1000000) (ZI (Zb 2))))
noncomputable def ZgR:=Z5 2 ZmP
noncomputable def ZmQ: PS:=(Zr (ZJ 2 (Zp ZcG (Zd (Za 0) Zl))) (Zr (ZJ 3 (Zp ZcG (Zd (Za 1) Zl))) (Zr (Zdo (Zv (Zc qNe (Za 3) (Zj 0))) (Zr (ZJ 4 (Zc ZaW (Za 2) (Za 3))) (Zr (ZJ 2 (Za 3)) (ZJ 3 (Za 4)))) 1000000) (Zx (Za 2)))))
noncomputable def ZfD:=Z0 2 ZmQ
theorem ZmR: SimF false ZgR ZfD:=Zaf (show S [] [] [] false ZmP ZmQ from(ZH (Zag (O':=[]) (ZaF Zd4 (Zh (Ze 0) Zs))) (ZH (Zag (O':=[]) (ZaF Zd4 (Zh (Ze 1) Zs))) (ZH (ZnJ (ZQ (ZF ZcF (Ze 3) (Zo _))) (ZH (Zag (O':=[]) (ZF Zbk (Ze 2) (Ze 3))) (ZH (Zag (O':=[]) (Ze 3)) (Zag (O':=[]) (Ze 4)))) 1000000) (ZV (Ze 2))))))
noncomputable def Zog: Sm:=ZB (ZY (ZM (Zk oLt (Zb 0) (Zn 0))) (PM.sNo) ZZ) (ZB (ZY (ZM (Zk oEq (Zb 0) (Zn 0))) (ZI (ZaV (Zf (Zn 0) (Zf (Zb 1) Zq)))) ZZ) (ZI (ZaV (Zf (Zb 0) (Zf (Zk oMod (Zb 1) (Zb 0)) Zq)))))
noncomputable def Zf1:=Z5 2 Zog
noncomputable def Zoh: PS:=(Zr (ZL (Zv (Zc qLt (Za 0) (Zj 0))) (qNo) ZN) (Zr (ZL (Zv (Zc qEq (Za 0) (Zj 0))) (Zx (ZaS (Zd (Zj 0) (Zd (Za 1) Zl)))) ZN) (Zx (ZaS (Zd (Za 0) (Zd (Zc ZaW (Za 1) (Za 0)) Zl))))))
noncomputable def Ze3:=Z0 2 Zoh
theorem Zjr: SimF false Zf1 Ze3:=Zaf (show S [] [] [] false Zog Zoh from(ZH (Z9 (ZQ (ZF ZdH (Ze 0) (Zo _))) (ZyU (O':=[])) Z8) (ZH (Z9 (ZQ (ZF Zat (Ze 0) (Zo _))) (ZV (E.tup (Zh (Zo _) (Zh (Ze 1) Zs)))) Z8) (ZV (E.tup (Zh (Ze 0) (Zh (ZF Zbk (Ze 1) (Ze 0)) Zs)))))))
noncomputable def ZmS: Sm:=ZB (Z3 2 (Zk oMod (Zb 0) (Zb 1))) (ZB (Z3 3 (Zb 1)) (ZB (Z3 4 (Zn 1)) (ZB (Z3 5 (Zn 0)) (ZB (ZdY (ZM (Zk oNe (Zb 3) (Zn 0))) (ZB (Z3 6 (Zk oDiv (Zb 2) (Zb 3))) (ZB (Z3 7 (Zk ZbR (Zb 2) (Zk Zbw (Zb 6) (Zb 3)))) (ZB (Z3 8 (Zk ZbR (Zb 4) (Zk Zbw (Zb 6) (Zb 5)))) (ZB (Z3 2 (Zb 3)) (ZB (Z3 4 (Zb 5)) (ZB (Z3 3 (Zb 7)) (Z3 5 (Zb 8)))))))) 1000000) (ZI (Zk oMod (Zb 4) (Zb 1)))))))
noncomputable def ZmT:=Z5 2 ZmS
noncomputable def ZmU: PS:=(Zr (ZJ 2 (Zc ZaW (Za 0) (Za 1))) (Zr (ZJ 3 (Za 1)) (Zr (ZJ 4 (Zj 1)) (Zr (ZJ 5 (Zj 0)) (Zr (Zdo (Zv (Zc qNe (Za 3) (Zj 0))) (Zr (ZJ 6 (Zc Zcm (Za 2) (Za 3))) (Zr (ZJ 7 (Zc ZaZ (Za 2) (Zc ZaH (Za 6) (Za 3)))) (Zr (ZJ 8 (Zc ZaZ (Za 4) (Zc ZaH (Za 6) (Za 5)))) (Zr (ZJ 2 (Za 3)) (Zr (ZJ 4 (Za 5)) (Zr (ZJ 3 (Za 7)) (ZJ 5 (Za 8)))))))) 1000000) (Zx (Zc ZaW (Za 4) (Za 1))))))))
noncomputable def ZiH:=Z0 2 ZmU
theorem ZuT: SimF false ZmT ZiH:=Zaf (show S [] [] [] false ZmS ZmU from(ZH (Zag (O':=[]) (ZF Zbk (Ze 0) (Ze 1))) (ZH (Zag (O':=[]) (Ze 1)) (ZH (Zag (O':=[]) (Zo _)) (ZH (Zag (O':=[]) (Zo _)) (ZH (ZnJ (ZQ (ZF ZcF (Ze 3) (Zo _))) (ZH (Zag (O':=[]) (ZF Ze9 (Ze 2) (Ze 3))) (ZH (Zag (O':=[]) (ZF Zb2 (Ze 2) (Zal ZbY (Ze 6) (Ze 3)))) (ZH (Zag (O':=[]) (ZF Zb2 (Ze 4) (Zal ZbY (Ze 6) (Ze 5)))) (ZH (Zag (O':=[]) (Ze 3)) (ZH (Zag (O':=[]) (Ze 5)) (ZH (Zag (O':=[]) (Ze 7)) (Zag (O':=[]) (Ze 8)))))))) 1000000) (ZV (ZF Zbk (Ze 4) (Ze 1)))))))))
noncomputable def Zmd: Sm:=ZB (ZY (ZM (Zk oEq (Zk Zw (Zb 0) (Zn 0)) (Zn 0))) (ZI (eIf (ZM (Zu ZeL (Zf (Zb 1) (Zf (Zk Zw (Zb 0) (Zn 1)) Zq)))) (Zb 0) (Zac))) ZZ) (ZB (ZY (ZM (Zk oEq (Zk Zw (Zb 1) (Zn 0)) (Zn 0))) (ZI (eIf (ZM (Zu ZeL (Zf (Zb 0) (Zf (Zk Zw (Zb 1) (Zn 1)) Zq)))) (Zb 1) (Zac))) ZZ) (ZB (Z3 2 (Zu ZgR (Zf (Zk Zw (Zb 0) (Zn 0)) (Zf (Zk Zw (Zb 1) (Zn 0)) Zq)))) (ZB (Z3 3 (Zk ZbR (Zk Zw (Zb 1) (Zn 1)) (Zk Zw (Zb 0) (Zn 1)))) (ZB (ZY (ZM (Zk oNe (Zk oMod (Zb 3) (Zb 2)) (Zn 0))) (ZI (Zac)) ZZ) (ZB (Z3 4 (Zk oDiv (Zk Zw (Zb 1) (Zn 0)) (Zb 2))) (ZB (Z3 5 (Zk Zbw (Zk oDiv (Zb 3) (Zb 2)) (Zu ZmT (Zf (Zk oDiv (Zk Zw (Zb 0) (Zn 0)) (Zb 2)) (Zf (Zb 4) Zq))))) (ZI (Zu Zf1 (Zf (Zk Zbw (Zk Zw (Zb 0) (Zn 0)) (Zb 4)) (Zf (Zk Zax (Zk Zw (Zb 0) (Zn 1)) (Zk Zbw (Zk Zw (Zb 0) (Zn 0)) (Zb 5))) Zq))))))))))
noncomputable def Zix:=Z5 2 Zmd
noncomputable def Zme: PS:=(Zr (ZL (Zv (Zc qEq (Zc Zm (Za 0) (Zj 0)) (Zj 0))) (Zx (pIf (Zv (Zp Zeh (Zd (Za 1) (Zd (Zc Zm (Za 0) (Zj 1)) Zl)))) (Za 0) (ZU))) ZN) (Zr (ZL (Zv (Zc qEq (Zc Zm (Za 1) (Zj 0)) (Zj 0))) (Zx (pIf (Zv (Zp Zeh (Zd (Za 0) (Zd (Zc Zm (Za 1) (Zj 1)) Zl)))) (Za 1) (ZU))) ZN) (Zr (ZJ 2 (Zp ZfD (Zd (Zc Zm (Za 0) (Zj 0)) (Zd (Zc Zm (Za 1) (Zj 0)) Zl)))) (Zr (ZJ 3 (Zc ZaZ (Zc Zm (Za 1) (Zj 1)) (Zc Zm (Za 0) (Zj 1)))) (Zr (ZL (Zv (Zc qNe (Zc ZaW (Za 3) (Za 2)) (Zj 0))) (Zx (ZU)) ZN) (Zr (ZJ 4 (Zc Zcm (Zc Zm (Za 1) (Zj 0)) (Za 2))) (Zr (ZJ 5 (Zc ZaH (Zc Zcm (Za 3) (Za 2)) (Zp ZiH (Zd (Zc Zcm (Zc Zm (Za 0) (Zj 0)) (Za 2)) (Zd (Za 4) Zl))))) (Zx (Zp Ze3 (Zd (Zc ZaH (Zc Zm (Za 0) (Zj 0)) (Za 4)) (Zd (Zc Zad (Zc Zm (Za 0) (Zj 1)) (Zc ZaH (Zc Zm (Za 0) (Zj 0)) (Za 5))) Zl)))))))))))
noncomputable def ZgF:=Z0 2 Zme
theorem ZpB: SimF false Zix ZgF:=Zaf (show S [] [] [] false Zmd Zme from(ZH (Z9 (ZQ (ZF Zat (ZD ZC (Ze 0) (Zo _)) (Zo _))) (ZV (Ze8 (ZQ (ZO ZgE (Zh (Ze 1) (Zh (ZD ZC (Ze 0) (Zo _)) Zs)))) (E.sh (Ze 0)) (E.sh (Zap)))) Z8) (ZH (Z9 (ZQ (ZF Zat (ZD ZC (Ze 1) (Zo _)) (Zo _))) (ZV (Ze8 (ZQ (ZO ZgE (Zh (Ze 0) (Zh (ZD ZC (Ze 1) (Zo _)) Zs)))) (E.sh (Ze 1)) (E.sh (Zap)))) Z8) (ZH (Zag (O':=[]) (ZO ZmR (Zh (ZD ZC (Ze 0) (Zo _)) (Zh (ZD ZC (Ze 1) (Zo _)) Zs)))) (ZH (Zag (O':=[]) (ZF Zb2 (ZD ZC (Ze 1) (Zo _)) (ZD ZC (Ze 0) (Zo _)))) (ZH (Z9 (ZQ (ZF ZcF (ZF Zbk (Ze 3) (Ze 2)) (Zo _))) (ZV (Zap)) Z8) (ZH (Zag (O':=[]) (ZF Ze9 (ZD ZC (Ze 1) (Zo _)) (Ze 2))) (ZH (Zag (O':=[]) (Zal ZbY (ZF Ze9 (Ze 3) (Ze 2)) (ZO ZuT (Zh (ZF Ze9 (ZD ZC (Ze 0) (Zo _)) (Ze 2)) (Zh (Ze 4) Zs))))) (ZV (ZO Zjr (Zh (Zal ZbY (ZD ZC (Ze 0) (Zo _)) (Ze 4)) (Zh (Zal ZaL (ZD ZC (Ze 0) (Zo _)) (Zal ZbY (ZD ZC (Ze 0) (Zo _)) (Ze 5))) Zs))))))))))))
noncomputable def Zlr: Sm:=ZI (Zu Zf1 (Zf (Zu ZgR (Zf (Zk Zw (Zb 0) (Zn 0)) (Zf (Zk Zw (Zb 1) (Zn 0)) Zq))) (Zf (Zk Zax (Zk Zw (Zb 0) (Zn 1)) (Zk Zw (Zb 1) (Zn 1))) Zq)))
noncomputable def Zgy:=Z5 2 Zlr
noncomputable def Zls: PS:=(Zx (Zp Ze3 (Zd (Zp ZfD (Zd (Zc Zm (Za 0) (Zj 0)) (Zd (Zc Zm (Za 1) (Zj 0)) Zl))) (Zd (Zc Zad (Zc Zm (Za 0) (Zj 1)) (Zc Zm (Za 1) (Zj 1))) Zl))))
noncomputable def Zfn:=Z0 2 Zls
theorem Zlt: SimF false Zgy Zfn:=Zaf (show S [] [] [] false Zlr Zls from(ZV (ZO Zjr (Zh (ZO ZmR (Zh (ZD ZC (Ze 0) (Zo _)) (Zh (ZD ZC (Ze 1) (Zo _)) Zs))) (Zh (Zal ZaL (ZD ZC (Ze 0) (Zo _)) (ZD ZC (Ze 1) (Zo _))) Zs)))))
noncomputable def ZkZ: Sm:=ZI (Zu Zf1 (Zf (Zk Zbw (Zk Zw (Zb 0) (Zn 0)) (Zu Zdi (Zf (Zb 1) Zq))) (Zf (Zk Zbw (Zk Zw (Zb 0) (Zn 1)) (Zb 1)) Zq)))
noncomputable def Zgq:=Z5 2 ZkZ
noncomputable def Zk0: PS:=(Zx (Zp Ze3 (Zd (Zc ZaH (Zc Zm (Za 0) (Zj 0)) (Zp ZcG (Zd (Za 1) Zl))) (Zd (Zc ZaH (Zc Zm (Za 0) (Zj 1)) (Za 1)) Zl))))
noncomputable def Zfl:=Z0 2 Zk0
theorem Zk1: SimF false Zgq Zfl:=Zaf (show S [] [] [] false ZkZ Zk0 from(ZV (ZO Zjr (Zh (Zal ZbY (ZD ZC (Ze 0) (Zo _)) (ZaF Zd4 (Zh (Ze 1) Zs))) (Zh (Zal ZbY (ZD ZC (Ze 0) (Zo _)) (Ze 1)) Zs)))))
noncomputable def Zk2: Sm:=ZB (ZY (ZM (Zk oEq (Zk Zw (Zb 0) (Zn 0)) (Zn 0))) (ZI (eIf (ZM (Zk oLe (Zk Zw (Zb 0) (Zn 1)) (Zb 1))) (Zk Zw (Zb 0) (Zn 1)) (Zac))) ZZ) (ZI (Zk ZbR (Zb 1) (Zk oMod (Zk ZbR (Zb 1) (Zk Zw (Zb 0) (Zn 1))) (Zk Zw (Zb 0) (Zn 0)))))
noncomputable def Zk3:=Z5 2 Zk2
noncomputable def Zk4: PS:=(Zr (ZL (Zv (Zc qEq (Zc Zm (Za 0) (Zj 0)) (Zj 0))) (Zx (pIf (Zv (Zc qLe (Zc Zm (Za 0) (Zj 1)) (Za 1))) (Zc Zm (Za 0) (Zj 1)) (ZU))) ZN) (Zx (Zc ZaZ (Za 1) (Zc ZaW (Zc ZaZ (Za 1) (Zc Zm (Za 0) (Zj 1))) (Zc Zm (Za 0) (Zj 0))))))
noncomputable def Zh9:=Z0 2 Zk4
theorem Ztu: SimF false Zk3 Zh9:=Zaf (show S [] [] [] false Zk2 Zk4 from(ZH (Z9 (ZQ (ZF Zat (ZD ZC (Ze 0) (Zo _)) (Zo _))) (ZV (Ze8 (ZQ (ZF ZjO (ZD ZC (Ze 0) (Zo _)) (Ze 1))) (E.sh (ZD ZC (Ze 0) (Zo _))) (E.sh (Zap)))) Z8) (ZV (ZF Zb2 (Ze 1) (ZF Zbk (ZF Zb2 (Ze 1) (ZD ZC (Ze 0) (Zo _))) (ZD ZC (Ze 0) (Zo _)))))))
noncomputable def Znq: Sm:=ZI (eIf (ZM (Zu Zii (Zf (Zb 0) (Zf (Zb 1) Zq)))) (Zb 0) (Zb 1))
noncomputable def ZiT:=Z5 2 Znq
noncomputable def Znr: PS:=(Zx (pIf (Zv (Zp Zgx (Zd (Za 0) (Zd (Za 1) Zl)))) (Za 0) (Za 1)))
noncomputable def Zg3:=Z0 2 Znr
theorem Zqo: SimF false ZiT Zg3:=Zaf (show S [] [] [] false Znq Znr from(ZV (Ze8 (ZQ (ZO Zph (Zh (Ze 0) (Zh (Ze 1) Zs)))) (E.sh (Ze 0)) (E.sh (Ze 1)))))
noncomputable def Zmf: Sm:=ZB (ZY (tOr (ZM (Zk oIs (Zb 0) (Zac))) (tOr (ZM (Zk oIs (Zb 1) (Zac))) Zb9)) (ZI (Zac)) ZZ) (ZI (Zk Zax (Zb 0) (Zb 1)))
noncomputable def Zei:=Z5 2 Zmf
noncomputable def Zmg: PS:=(Zr (ZL (bOr (Zv (Zc qIs (Za 0) (ZU))) (bOr (Zv (Zc qIs (Za 1) (ZU))) ZbO)) (Zx (ZU)) ZN) (Zx (Zc Zad (Za 0) (Za 1))))
noncomputable def ZdQ:=Z0 2 Zmg
theorem Zft: SimF false Zei ZdQ:=Zaf (show S [] [] [] false Zmf Zmg from(ZH (Z9 (Zbh (ZQ (ZF Zcc (Ze 0) (Zap))) (Zbh (ZQ (ZF Zcc (Ze 1) (Zap))) ZcK)) (ZV (Zap)) Z8) (ZV (Zal ZaL (Ze 0) (Ze 1)))))
noncomputable def ZjU: Sm:=ZI (Za4 (Zd5 (Zb 0) (Zb 2)) (Zcl 100 101) ZaM (Zu ZiT (Zf (Zb 100) (Zf (Zu Zei (Zf (Zb 1) (Zf (Zb 101) Zq))) Zq))))
noncomputable def ZjV:=Z5 3 ZjU
noncomputable def ZjW: PS:=(Zx (Zan (Zd9 (Za 0) (Za 2)) (Zc0 100 101) Zaa (ZbP (Zp Zg3 (Zd (Za 100) (Zd (Zp ZdQ (Zd (Za 1) (Zd (Za 101) Zl))) Zl))))))
noncomputable def ZhM:=Z0 3 ZjW
theorem Zsv: SimF true ZjV ZhM:=Zaf (show S [] [] [] true ZjU ZjW from(Za8 (ZfS (Gs.zip (Ze 0) (Ze 2)) PutOk.two (by decide) Zba (E.flat (ZO Zqo (Zh (Ze 100) (Zh (ZO Zft (Zh (Ze 1) (Zh (Ze 101) Zs))) Zs)))))))
noncomputable def Zlu: Sm:=ZI (Za4 (ZcR (Zb 0)) (put1 100) ZaM (Zu ZjV (Zf (Zb 100) (Zf (Zk Zw (Zb 100) (Zb 1)) (Zf (Zk Zw (Zb 0) (Zb 1)) Zq)))))
noncomputable def Zlv:=Z5 2 Zlu
noncomputable def Zlw: PS:=(Zx (Zan (ZaD (Za 0)) (Z2 100) Zaa (Zp ZhM (Zd (Za 100) (Zd (Zc Zm (Za 100) (Za 1)) (Zd (Zc Zm (Za 0) (Za 1)) Zl))))))
noncomputable def Zik:=Z0 2 Zlw
theorem Zpi: SimF true Zlv Zik:=Zaf (show S [] [] [] true Zlu Zlw from(Za8 (ZfS (Gs.seq (Ze 0)) PutOk.one (by decide) Zba (ZbA Zsv (Zh (Ze 100) (Zh (ZD ZC (Ze 100) (Ze 1)) (Zh (ZD ZC (Ze 0) (Ze 1)) Zs)))))))
noncomputable def Zkj: Sm:=ZI (Zu ZhG (Zf (Za4 (Zbc (Zf (Zu ZaP (Zf (Zb 0) Zq)) Zq)) (put1 100) ZaM (Zk oLt (Zk Zw (Zk Zw (Zb 0) (Zb 100)) (Zb 100)) (Zn 0))) Zq))
noncomputable def Zkk:=Z5 1 Zkj
noncomputable def Zkl: PS:=(Zx (Zp ZhI (Zd (Zan (Zaw (Zd (Zp Zaj (Zd (Za 0) Zl)) Zl)) (Z2 100) Zaa (Zc qLt (Zc Zm (Zc Zm (Za 0) (Za 100)) (Za 100)) (Zj 0))) Zl)))
noncomputable def ZhT:=Z0 1 Zkl
theorem ZoS: SimF false Zkk ZhT:=Zaf (show S [] [] [] false Zkj Zkl from(ZV (ZaF Zyy (Zh (ZcW (Gs.range (Zh (ZaF Za5 (Zh (Ze 0) Zs)) Zs)) PutOk.one (by decide) Zba (ZF ZdH (ZD ZC (ZD ZC (Ze 0) (Ze 100)) (Ze 100)) (Zo _))) Zs))))
noncomputable def Zns: Sm:=ZB (Z3 1 (Zb 0)) (ZB (Za9 (Zbc (Zf (Zu ZaP (Zf (Zb 0) Zq)) Zq)) (put1 2) (ZB (Z3 1 (Zu Zlv (Zf (Zb 1) (Zf (Zb 2) Zq)))) (ZY (ZM (Zu Zkk (Zf (Zb 1) Zq))) (ZI (Zac)) ZZ))) (ZI (Zb 1)))
noncomputable def ZfK:=Z5 1 Zns
noncomputable def Znt: PS:=(Zr (ZJ 1 (Za 0)) (Zr (ZjH (Zaw (Zd (Zp Zaj (Zd (Za 0) Zl)) Zl)) (Z2 2) (Zr (ZJ 1 (Zp Zik (Zd (Za 1) (Zd (Za 2) Zl)))) (ZL (Zv (Zp ZhT (Zd (Za 1) Zl))) (Zx (ZU)) ZN))) (Zx (Za 1))))
noncomputable def Zg4:=Z0 1 Znt
theorem ZvK: SimF true ZfK Zg4:=Zaf (show S [] [1] [] true Zns Znt from(ZH (Zag (O':=[]) (Ze 0)) (ZH (Zyd (Gs.range (Zh (ZaF Za5 (Zh (Ze 0) Zs)) Zs)) PutOk.one PutOk.one (by decide) (by decide) (by decide) (ZH (ZdZ (O':=[1]) (ZbA Zpi (Zh (Ze 1) (Zh (Ze 2) Zs)))) (Z9 (ZQ (ZO ZoS (Zh (Ze 1) Zs))) (Za8 (Zap)) Z8)) (ZH (ZdZ (O':=[1]) (Zcy (O':=[]) (ZbA Zpi (Zh (Ze 1) (Zh (Ze 2) Zs))))) (Z9 (ZQ (ZO ZoS (Zh (Ze 1) Zs))) (Za8 (Zap)) Z8))) (Za8 (E.own (by decide))))))
noncomputable def Zlx: Sm:=ZI (ZcC (eIs "int" (Zb 0)) (Zgc (eIs "bool" (Zb 0))))
noncomputable def Zgz:=Z5 1 Zlx
noncomputable def Zly: PS:=(Zx ((ZcS (pIs "int" (Za 0)) (Zge (pIs "bool" (Za 0))))))
noncomputable def Zfo:=Z0 1 Zly
theorem Zlz: SimF false Zgz Zfo:=Zaf (show S [] [] [] false Zlx Zly from(ZV ((ZdG (E.sh (Zd7 (Ze 0))) (E.sh (Zou (Zd7 (Ze 0))))))))
noncomputable def Zmh: Sm:=ZB (ZY (tOr (ZbC (ZM (eIs "list" (Zb 0)))) (tOr (ZM (Zk oNe (Zu ZaP (Zf (Zb 0) Zq)) (Zb 1))) Zb9)) (ZI (Za3 false)) ZZ) (ZB (Za9 (Zbc (Zf (Zb 1) Zq)) (put1 2) (ZB (ZY (tOr (ZbC (ZM (eIs "list" (Zk Zw (Zb 0) (Zb 2))))) (tOr (ZM (Zk oNe (Zu ZaP (Zf (Zk Zw (Zb 0) (Zb 2)) Zq)) (Zb 1))) Zb9)) (ZI (Za3 false)) ZZ) (ZB (Za9 (ZcR (Zk Zw (Zb 0) (Zb 2))) (put1 3) (ZY (Zbe (ZM (Zk ZcO (Zb 3) (Zac))) (Zbe (ZbC (ZM (Zu Zgz (Zf (Zb 3) Zq)))) ZaM)) (ZI (Za3 false)) ZZ)) (ZY (ZM (Zk oNe (Zk Zw (Zk Zw (Zb 0) (Zb 2)) (Zb 2)) (Zn 0))) (ZI (Za3 false)) ZZ)))) (ZI (Za3 true)))
noncomputable def Zmi:=Z5 2 Zmh
noncomputable def Zmj: PS:=(Zr (ZL (bOr (Zbp (Zv (pIs "list" (Za 0)))) (bOr (Zv (Zc qNe (Zp Zaj (Zd (Za 0) Zl)) (Za 1))) ZbO)) (Zx (ZaX false)) ZN) (Zr (Zav (Zaw (Zd (Za 1) Zl)) (Z2 2) (Zr (ZL (bOr (Zbp (Zv (pIs "list" (Zc Zm (Za 0) (Za 2))))) (bOr (Zv (Zc qNe (Zp Zaj (Zd (Zc Zm (Za 0) (Za 2)) Zl)) (Za 1))) ZbO)) (Zx (ZaX false)) ZN) (Zr (Zav (ZaD (Zc Zm (Za 0) (Za 2))) (Z2 3) (ZL (Zah (Zv (Zc ZaU (Za 3) (ZU))) (Zah (Zbp (Zv (Zp Zfo (Zd (Za 3) Zl)))) Zaa)) (Zx (ZaX false)) ZN)) (ZL (Zv (Zc qNe (Zc Zm (Zc Zm (Za 0) (Za 2)) (Za 2)) (Zj 0))) (Zx (ZaX false)) ZN)))) (Zx (ZaX true))))
noncomputable def Ziy:=Z0 2 Zmj
theorem Zuf: SimF false Zmi Ziy:=Zaf (show S [] [] [] false Zmh Zmj from(ZH (Z9 (Zbh (ZbW (ZQ (Zd7 (Ze 0)))) (Zbh (ZQ (ZF ZcF (ZaF Za5 (Zh (Ze 0) Zs)) (Ze 1))) ZcK)) (ZV (E.bool _)) Z8) (ZH (ZbF (Gs.range (Zh (Ze 1) Zs)) PutOk.one (by decide) (by decide) (ZH (Z9 (Zbh (ZbW (ZQ (Zd7 (ZD ZC (Ze 0) (Ze 2))))) (Zbh (ZQ (ZF ZcF (ZaF Za5 (Zh (ZD ZC (Ze 0) (Ze 2)) Zs)) (Ze 1))) ZcK)) (ZV (E.bool _)) Z8) (ZH (ZbF (Gs.seq (ZD ZC (Ze 0) (Ze 2))) PutOk.one (by decide) (by decide) (Z9 (Zbn (ZQ (ZF Zda (Ze 3) (Zap))) (Zbn (ZbW (ZQ (ZO Zlz (Zh (Ze 3) Zs)))) Zba)) (ZV (E.bool _)) Z8)) (Z9 (ZQ (ZF ZcF (ZD ZC (ZD ZC (Ze 0) (Ze 2)) (Ze 2)) (Zo _))) (ZV (E.bool _)) Z8)))) (ZV (E.bool _)))))
noncomputable def Zkm: Sm:=ZI (ZaV (Zf (Zu Zei (Zf (Zk Zw (Zb 0) (Zn 0)) (Zf (Zk Zw (Zb 1) (Zn 0)) Zq))) (Zf (Zu Zei (Zf (Zk Zw (Zb 0) (Zn 1)) (Zf (Zk Zw (Zb 1) (Zn 1)) Zq))) Zq)))
noncomputable def Zkn:=Z5 2 Zkm
noncomputable def Zko: PS:=(Zx (ZaS (Zd (Zp ZdQ (Zd (Zc Zm (Za 0) (Zj 0)) (Zd (Zc Zm (Za 1) (Zj 0)) Zl))) (Zd (Zp ZdQ (Zd (Zc Zm (Za 0) (Zj 1)) (Zd (Zc Zm (Za 1) (Zj 1)) Zl))) Zl))))
noncomputable def ZhU:=Z0 2 Zko
theorem ZsM: SimF false Zkn ZhU:=Zaf (show S [] [] [] false Zkm Zko from(ZV (E.tup (Zh (ZO Zft (Zh (ZD ZC (Ze 0) (Zo _)) (Zh (ZD ZC (Ze 1) (Zo _)) Zs))) (Zh (ZO Zft (Zh (ZD ZC (Ze 0) (Zo _)) (Zh (ZD ZC (Ze 1) (Zo _)) Zs))) Zs)))))
noncomputable def ZlA: Sm:=ZB (ZY (ZM (Zk oIs (Zb 0) (Zac))) (ZI (Zac)) ZZ) (ZI (Zk Zbw (Zb 0) (Zb 1)))
noncomputable def Zfp:=Z5 2 ZlA
noncomputable def ZlB: PS:=(Zr (ZL (Zv (Zc qIs (Za 0) (ZU))) (Zx (ZU)) ZN) (Zx (Zc ZaH (Za 0) (Za 1))))
noncomputable def ZeG:=Z0 2 ZlB
theorem Zil: SimF false Zfp ZeG:=Zaf (show S [] [] [] false ZlA ZlB from(ZH (Z9 (ZQ (ZF Zcc (Ze 0) (Zap))) (ZV (Zap)) Z8) (ZV (Zal ZbY (Ze 0) (Ze 1)))))
noncomputable def ZjX: Sm:=ZB (ZY (ZM (Zk oEq (Zb 1) (Zn 0))) (ZI (ZaV (Zf (Zn 0) (Zf (Zn 0) Zq)))) ZZ) (ZB (Z3 2 (Zu Zfp (Zf (Zk Zw (Zb 0) (Zn 0)) (Zf (Zb 1) Zq)))) (ZB (Z3 3 (Zu Zfp (Zf (Zk Zw (Zb 0) (Zn 1)) (Zf (Zb 1) Zq)))) (ZB (ZY (ZM (Zk oLt (Zb 1) (Zn 0))) (ZI (ZaV (Zf (Zb 3) (Zf (Zb 2) Zq)))) ZZ) (ZI (ZaV (Zf (Zb 2) (Zf (Zb 3) Zq)))))))
noncomputable def ZjY:=Z5 2 ZjX
noncomputable def ZjZ: PS:=(Zr (ZL (Zv (Zc qEq (Za 1) (Zj 0))) (Zx (ZaS (Zd (Zj 0) (Zd (Zj 0) Zl)))) ZN) (Zr (ZJ 2 (Zp ZeG (Zd (Zc Zm (Za 0) (Zj 0)) (Zd (Za 1) Zl)))) (Zr (ZJ 3 (Zp ZeG (Zd (Zc Zm (Za 0) (Zj 1)) (Zd (Za 1) Zl)))) (Zr (ZL (Zv (Zc qLt (Za 1) (Zj 0))) (Zx (ZaS (Zd (Za 3) (Zd (Za 2) Zl)))) ZN) (Zx (ZaS (Zd (Za 2) (Zd (Za 3) Zl))))))))
noncomputable def ZhN:=Z0 2 ZjZ
theorem Zsw: SimF false ZjY ZhN:=Zaf (show S [] [] [] false ZjX ZjZ from(ZH (Z9 (ZQ (ZF Zat (Ze 1) (Zo _))) (ZV (E.tup (Zh (Zo _) (Zh (Zo _) Zs)))) Z8) (ZH (Zag (O':=[]) (ZO Zil (Zh (ZD ZC (Ze 0) (Zo _)) (Zh (Ze 1) Zs)))) (ZH (Zag (O':=[]) (ZO Zil (Zh (ZD ZC (Ze 0) (Zo _)) (Zh (Ze 1) Zs)))) (ZH (Z9 (ZQ (ZF ZdH (Ze 1) (Zo _))) (ZV (E.tup (Zh (Ze 3) (Zh (Ze 2) Zs)))) Z8) (ZV (E.tup (Zh (Ze 2) (Zh (Ze 3) Zs)))))))))
noncomputable def ZkD: Sm:=ZB (Z3 2 (ZaV (Zf (Zk Zw (Zb 0) (Zn 0)) (Zf (Zk Zw (Zb 0) (Zn 0)) Zq)))) (ZB (Za9 (Zd5 (Zd3 (Zb 0) 1) (Zb 1)) (Zcl 3 4) (Z3 2 (Zu Zkn (Zf (Zb 2) (Zf (Zu ZjY (Zf (Zb 4) (Zf (Zb 3) Zq))) Zq))))) (ZI (Zb 2)))
noncomputable def ZkE:=Z5 2 ZkD
noncomputable def ZkF: PS:=(Zr (ZJ 2 (ZaS (Zd (Zc Zm (Za 0) (Zj 0)) (Zd (Zc Zm (Za 0) (Zj 0)) Zl)))) (Zr (Zav (Zd9 (Zds (Za 0) 1) (Za 1)) (Zc0 3 4) (ZJ 2 (Zp ZhU (Zd (Za 2) (Zd (Zp ZhN (Zd (Za 4) (Zd (Za 3) Zl))) Zl))))) (Zx (Za 2))))
noncomputable def Zh0:=Z0 2 ZkF
theorem Zs6: SimF false ZkE Zh0:=Zaf (show S [] [] [] false ZkD ZkF from(ZH (Zag (O':=[]) (E.tup (Zh (ZD ZC (Ze 0) (Zo _)) (Zh (ZD ZC (Ze 0) (Zo _)) Zs)))) (ZH (ZbF (Gs.zip (Zjo (Ze 0)) (Ze 1)) PutOk.two (by decide) (by decide) (Zag (O':=[]) (ZO ZsM (Zh (Ze 2) (Zh (ZO Zsw (Zh (Ze 4) (Zh (Ze 3) Zs))) Zs))))) (ZV (Ze 2)))))
noncomputable def Zmk: Sm:=ZB (Z3 2 (ZaV (Zf (Zn 0) (Zf (Zk Zw (Zb 0) (Zn 0)) Zq)))) (ZB (Za9 (Zd5 (Zd3 (Zb 0) 1) (Zb 1)) (Zcl 3 4) (Z3 2 (Zu Zgy (Zf (Zb 2) (Zf (Zu Zgq (Zf (Zb 4) (Zf (Zb 3) Zq))) Zq))))) (ZI (Zb 2)))
noncomputable def Zfu:=Z5 2 Zmk
noncomputable def Zml: PS:=(Zr (ZJ 2 (ZaS (Zd (Zj 0) (Zd (Zc Zm (Za 0) (Zj 0)) Zl)))) (Zr (Zav (Zd9 (Zds (Za 0) 1) (Za 1)) (Zc0 3 4) (ZJ 2 (Zp Zfn (Zd (Za 2) (Zd (Zp Zfl (Zd (Za 4) (Zd (Za 3) Zl))) Zl))))) (Zx (Za 2))))
noncomputable def ZeM:=Z0 2 Zml
theorem Ziz: SimF false Zfu ZeM:=Zaf (show S [] [] [] false Zmk Zml from(ZH (Zag (O':=[]) (E.tup (Zh (Zo _) (Zh (ZD ZC (Ze 0) (Zo _)) Zs)))) (ZH (ZbF (Gs.zip (Zjo (Ze 0)) (Ze 1)) PutOk.two (by decide) (by decide) (Zag (O':=[]) (ZO Zlt (Zh (Ze 2) (Zh (ZO Zk1 (Zh (Ze 4) (Zh (Ze 3) Zs))) Zs))))) (ZV (Ze 2)))))
noncomputable def ZmV: Sm:=ZI (ZcC (Zk ZcO (Zb 0) (Zac)) (ZcC (Zk ZcO (Zb 1) (Zac)) (Zk oGt (Zb 0) (Zb 1))))
noncomputable def ZmW:=Z5 2 ZmV
noncomputable def ZmX: PS:=(Zx ((ZcS (Zc ZaU (Za 0) (ZU)) (ZcS (Zc ZaU (Za 1) (ZU)) (Zc qGt (Za 0) (Za 1))))))
noncomputable def ZfE:=Z0 2 ZmX
theorem ZuU: SimF false ZmW ZfE:=Zaf (show S [] [] [] false ZmV ZmX from(ZV ((ZdG (E.sh (ZF Zda (Ze 0) (Zap))) (ZdG (E.sh (ZF Zda (Ze 1) (Zap))) (E.sh (ZF Zd8 (Ze 0) (Ze 1))))))))
noncomputable def ZkG: Sm:=ZI (Zk Zax (Zca (Zf (ZaV (Zf (Zn 0) (Zf (Zn 0) Zq))) Zq)) (Zb 0))
noncomputable def Zfj:=Z5 1 ZkG
noncomputable def ZkH: PS:=(Zx (Zc Zad (ZbB (Zd (ZaS (Zd (Zj 0) (Zd (Zj 0) Zl))) Zl)) (Za 0)))
noncomputable def Zfk:=Z0 1 ZkH
theorem ZkI: SimF false Zfj Zfk:=Zaf (show S [] [] [] false ZkG ZkH from(ZV (Zal ZaL (E.list (Zh (E.tup (Zh (Zo _) (Zh (Zo _) Zs))) Zs)) (Ze 0))))
noncomputable def Zkp: Sm:=ZB (Z3 3 (Zk Zw (Zb 1) (Zb 2))) (ZB (Za9 (ZjF (Zb 1)) (Zcl 4 5) (ZY (Zbe (ZM (Zk ZcO (Zb 3) (Zac))) (Zbe (ZM (Zk oEq (Zu Zei (Zf (Zk Zw (Zk Zw (Zb 0) (Zb 2)) (Zb 4)) (Zf (Zk Zw (Zk Zw (Zb 0) (Zb 4)) (Zb 2)) Zq))) (Zn 0))) ZaM)) (Z3 3 (Zu Zix (Zf (Zb 3) (Zf (Zu Zgy (Zf (Zb 5) (Zf (ZaV (Zf (Zn 0) (Zf (Zk Zw (Zk Zw (Zb 0) (Zb 2)) (Zb 4)) Zq))) Zq))) Zq)))) ZZ)) (ZI (Zb 3)))
noncomputable def Zgl:=Z5 3 Zkp
noncomputable def Zkq: PS:=(Zr (ZJ 3 (Zc Zm (Za 1) (Za 2))) (Zr (Zav (ZjG (Za 1)) (Zc0 4 5) (ZL (Zah (Zv (Zc ZaU (Za 3) (ZU))) (Zah (Zv (Zc qEq (Zp ZdQ (Zd (Zc Zm (Zc Zm (Za 0) (Za 2)) (Za 4)) (Zd (Zc Zm (Zc Zm (Za 0) (Za 4)) (Za 2)) Zl))) (Zj 0))) Zaa)) (ZJ 3 (Zp ZgF (Zd (Za 3) (Zd (Zp Zfn (Zd (Za 5) (Zd (ZaS (Zd (Zj 0) (Zd (Zc Zm (Zc Zm (Za 0) (Za 2)) (Za 4)) Zl))) Zl))) Zl)))) ZN)) (Zx (Za 3))))
noncomputable def ZeC:=Z0 3 Zkq
theorem ZoT: SimF false Zgl ZeC:=Zaf (show S [] [] [] false Zkp Zkq from(ZH (Zag (O':=[]) (ZD ZC (Ze 1) (Ze 2))) (ZH (ZbF (ZwQ (Ze 1)) PutOk.two (by decide) (by decide) (Z9 (Zbn (ZQ (ZF Zda (Ze 3) (Zap))) (Zbn (ZQ (ZF Zat (ZO Zft (Zh (ZD ZC (ZD ZC (Ze 0) (Ze 2)) (Ze 4)) (Zh (ZD ZC (ZD ZC (Ze 0) (Ze 4)) (Ze 2)) Zs))) (Zo _))) Zba)) (Zag (O':=[]) (ZO ZpB (Zh (Ze 3) (Zh (ZO Zlt (Zh (Ze 5) (Zh (E.tup (Zh (Zo _) (Zh (ZD ZC (ZD ZC (Ze 0) (Ze 2)) (Ze 4)) Zs))) Zs))) Zs)))) Z8)) (ZV (Ze 3)))))
noncomputable def Zgm: Sm:=ZB (ZY (ZM (Zk oIs (Zb 0) (Zac))) (ZI (Zac)) ZZ) (ZB (Z3 1 (Zu Zfj (Zf (Zk Zw (Zb 0) (Zn 1)) Zq))) (ZB (Z3 2 (Za4 (Zbc (Zf (Zn 1) (Zf (Zu ZaP (Zf (Zb 1) Zq)) Zq))) (put1 100) ZaM (Zu Zgl (Zf (Zk Zw (Zb 0) (Zn 0)) (Zf (Zb 1) (Zf (Zb 100) Zq)))))) (ZB (ZY (ZM (Zk oIn (Zac) (Zb 2))) (ZI (Zac)) ZZ) (ZI (ZaV (Zf (Zk Zw (Zb 0) (Zn 0)) (Zf (Zb 2) Zq)))))))
noncomputable def Zec:=Z5 1 Zgm
noncomputable def Zgn: PS:=(Zr (ZL (Zv (Zc qIs (Za 0) (ZU))) (Zx (ZU)) ZN) (Zr (ZJ 1 (Zp Zfk (Zd (Zc Zm (Za 0) (Zj 1)) Zl))) (Zr (ZJ 2 (Zan (Zaw (Zd (Zj 1) (Zd (Zp Zaj (Zd (Za 1) Zl)) Zl))) (Z2 100) Zaa (Zp ZeC (Zd (Zc Zm (Za 0) (Zj 0)) (Zd (Za 1) (Zd (Za 100) Zl)))))) (Zr (ZL (Zv (Zc qIn (ZU) (Za 2))) (Zx (ZU)) ZN) (Zx (ZaS (Zd (Zc Zm (Za 0) (Zj 0)) (Zd (Za 2) Zl))))))))
noncomputable def ZdM:=Z0 1 Zgn
theorem Zs7: SimF false Zec ZdM:=Zaf (show S [] [] [] false Zgm Zgn from(ZH (Z9 (ZQ (ZF Zcc (Ze 0) (Zap))) (ZV (Zap)) Z8) (ZH (Zag (O':=[]) (ZO ZkI (Zh (ZD ZC (Ze 0) (Zo _)) Zs))) (ZH (Zag (O':=[]) (ZcW (Gs.range (Zh (Zo _) (Zh (ZaF Za5 (Zh (Ze 1) Zs)) Zs))) PutOk.one (by decide) Zba (ZO ZoT (Zh (ZD ZC (Ze 0) (Zo _)) (Zh (Ze 1) (Zh (Ze 100) Zs)))))) (ZH (Z9 (ZQ (ZF ZjS (Zap) (Ze 2))) (ZV (Zap)) Z8) (ZV (E.tup (Zh (ZD ZC (Ze 0) (Zo _)) (Zh (Ze 2) Zs)))))))))
noncomputable def Zjs: Sm:=ZB (ZY (ZM (Zk oIs (Zb 0) (Zac))) (ZI (Zac)) ZZ) (ZB (Z3 1 (Zu ZfK (Zf (Zk Zw (Zb 0) (Zn 0)) Zq))) (ZB (ZY (ZM (Zk oIs (Zb 1) (Zac))) (ZI (Zac)) ZZ) (ZI (ZaV (Zf (Zb 1) (Zf (Zk Zw (Zb 0) (Zn 1)) Zq))))))
noncomputable def Zes:=Z5 1 Zjs
noncomputable def Zjt: PS:=(Zr (ZL (Zv (Zc qIs (Za 0) (ZU))) (Zx (ZU)) ZN) (Zr (ZJ 1 (Zp Zg4 (Zd (Zc Zm (Za 0) (Zj 0)) Zl))) (Zr (ZL (Zv (Zc qIs (Za 1) (ZU))) (Zx (ZU)) ZN) (Zx (ZaS (Zd (Za 1) (Zd (Zc Zm (Za 0) (Zj 1)) Zl)))))))
noncomputable def Zet:=Z0 1 Zjt
noncomputable def Zoi: Sm:=ZI (Zu Zec (Zf (Zu Zes (Zf (Zb 0) Zq)) Zq))
noncomputable def Zf2:=Z5 1 Zoi
noncomputable def Zju: PS:=(Zx (Zp ZdM (Zd (Zp Zet (Zd (Za 0) Zl)) Zl)))
noncomputable def Zhe: T→Bool
 | .none=>true
 | .tup [_,.lst ts]=>T.flats ts
 | _=>false
noncomputable def Ze4: List T→Option T:=fun ts=>(Z0 1 Zju ts).bind fun t=>if Zhe t then some t else none
theorem ZrM(hp:0<H.length)(r:RF H a t F): St ⟨H,[],fun x=>x∈F⟩ [] (fun i=>[a][i]?) (fun i=>[t][i]?) H (fun _=>F):=by
 refine⟨fun i u e=>?_,fun i u e x m=>.inr m,fun i hi=>(nomatch hi),Nat.le_refl _,fun x _ _=>rfl,hp,by simp⟩
 cases i with
 | zero=>cases e;exact⟨a,rfl,r⟩
 | succ i=>simp at e
theorem Zq1(e:ρ 0=some a)(r:RF H a t F)(ht:t≠.none): ZY (ZM (Zk oIs (Zb 0) (Zac))) (ZI (Zac)) ZZ ρ H=some (none,ρ,H):=by
 cases r <;> first | exact absurd rfl ht | simp[ZY,ZM,Zk,Zb,e,Zac,oIs,ZcY,ZZ]
theorem Zq2(e:σ 0=some t)(ht:t≠.none): ZL (Zv (Zc qIs (Za 0) (ZU))) (Zx (ZU)) ZN σ=some (none,σ):=by
 cases t <;> first | exact absurd rfl ht | simp[ZL,Zv,Zc,Za,e,ZU,qIs,ZbN,ZN]
theorem Zq3(e:σ 0=some .none): ZL (Zv (Zc qIs (Za 0) (ZU))) (Zx (ZU)) ZN σ=some (some .none,σ):=by
 simp[ZL,Zv,Zc,Za,e,ZU,qIs,ZbN,Zx]
theorem ZoH{a b:PS}{σ1:TL}(h:a σ=some (none,σ1)): Zr a b σ=b σ1:=by simp only[Zr,h,Option.bind_some]
theorem Zsl{a b:PS}{σ1:TL}(h:a σ=some (some t,σ1)): Zr a b σ=some (some t,σ1):=by simp only[Zr,h,Option.bind_some]
theorem Zfc{a b:Sm}{ρ1:Lc}{H1:Hp}(h:a ρ H=some (none,ρ1,H1)): ZB a b ρ H=b ρ1 H1:=by simp only[ZB,h,Option.bind_some]
theorem ZyL{a b:Sm}{ρ1:Lc}{H1:Hp}{v:V}(h:a ρ H=some (some v,ρ1,H1)): ZB a b ρ H=some (some v,ρ1,H1):=by simp only[ZB,h,Option.bind_some]
theorem Zug{u:T}(hp:0<H.length)(r:RF H a t F)(h:Zet [t]=some u):
  (u=.none∧∃X,Zes [a] H=some (.none,H++X))∨∃w0 v1 u0 u1 X F0 F1,u=.tup [u0,u1]∧Zes [a] H=some (.tup [w0,v1],H++X)∧RF (H++X) w0 u0 F0∧F0.Nodup∧(∀x∈F0,H.length≤x)∧RF (H++X) v1 u1 F1:=by
 have st:=ZrM hp r
 unfold Zet Z0 at h
 simp only[List.length_cons,List.length_nil,Nat.zero_add,if_true]at h
 obtain⟨r1,h,h0⟩:=Zz1.mp h
 unfold Zjt at h
 by_cases hn:t=.none
 ·subst hn
  rw[Zsl (Zq3 rfl)]at h
  cases h
  cases h0
  cases r
  exact .inl ⟨rfl,[],by simp[Zes,Z5,Zjs,ZB,ZY,ZM,Zk,Zb,Zac,oIs,ZcY,ZI]⟩
 ·rw[ZoH (Zq2 (σ:=fun i=>[t][i]?) rfl hn)]at h
  have ev:∀b:Sm,ZB (ZY (ZM (Zk oIs (Zb 0) (Zac))) (ZI (Zac)) ZZ) b (fun i=>[a][i]?) H=b (fun i=>[a][i]?) H:=fun b=>Zfc (Zq1 rfl r hn)
  obtain⟨r2,h1',h⟩:=Zz0.mp h
  obtain⟨u0,h1,e1⟩:=Zz1.mp h1'
  subst e1
  have x1:E [] [] true (Zu ZfK (Zf (Zk Zw (Zb 0) (Zn 0)) Zq)) (Zp Zg4 (Zd (Zc Zm (Za 0) (Zj 0)) Zl)):=ZbA ZvK (Zh (ZD ZC (Ze 0) (Zo _)) Zs)
  obtain⟨w0,X,F0,a1,a2,a3,a4⟩:=x1 _ _ _ _ _ _ st h1
  have new:∀x∈F0,H.length≤x:=fun x m=>(a3 x m).nil
  have e2:Z3 1 (Zu ZfK (Zf (Zk Zw (Zb 0) (Zn 0)) Zq)) (fun i=>[a][i]?) H=some (none,upd (fun i=>[a][i]?) 1 w0,H++X):=by simp only[Z3,a1,Option.map_some]
  simp only at h
  have ev2:∀b:Sm,ZB (Z3 1 (Zu ZfK (Zf (Zk Zw (Zb 0) (Zn 0)) Zq))) b (fun i=>[a][i]?) H=b (upd (fun i=>[a][i]?) 1 w0) (H++X):=fun b=>Zfc e2
  have fin:∀o,ZB (ZY (ZM (Zk oIs (Zb 1) (Zac))) (ZI (Zac)) ZZ) (ZI (ZaV (Zf (Zb 1) (Zf (Zk Zw (Zb 0) (Zn 1)) Zq)))) (upd (fun i=>[a][i]?) 1 w0) (H++X)=some o→Zes [a] H=some (o.1.getD .none,o.2.2):=fun o ho=>by
   unfold Zes Z5 Zjs
   simp only[List.length_cons,List.length_nil,Nat.zero_add,if_true]
   rw[ev,ev2,ho]
   rfl
  by_cases hu:u0=.none
  ·subst hu
   cases a2
   obtain⟨r3,h2,h⟩:=Zz0.mp h
   have:r3=(some .none,Z1 (fun i=>[t][i]?) 1 .none):=by
    have:=h2
    simp[ZL,Zv,Zc,Za,Z1,ZU,qIs,ZbN,Zx]at this
    exact this.symm
   subst this
   cases h
   cases h0
   refine .inl ⟨rfl,X,fin (some .none,upd (fun i=>[a][i]?) 1 .none,H++X) ?_⟩
   exact ZyL (by simp[ZY,ZM,Zk,Zb,upd,Zac,oIs,ZcY,ZI])
  ·have e3:ZY (ZM (Zk oIs (Zb 1) (Zac))) (ZI (Zac)) ZZ (upd (fun i=>[a][i]?) 1 w0) (H++X)=some (none,upd (fun i=>[a][i]?) 1 w0,H++X):=by
    cases a2 <;> first | exact(hu rfl).elim | simp[ZY,ZM,Zk,Zb,upd,Zac,oIs,ZcY,ZZ]
   have e4:ZL (Zv (Zc qIs (Za 1) (ZU))) (Zx (ZU)) ZN (Z1 (fun i=>[t][i]?) 1 u0)=some (none,Z1 (fun i=>[t][i]?) 1 u0):=by
    cases u0 <;> first | exact(hu rfl).elim | simp[ZL,Zv,Zc,Za,Z1,ZU,qIs,ZbN,ZN]
   rw[ZoH e4]at h
   obtain⟨u',h5,h6⟩:=Zz1.mp h
   subst h6
   obtain⟨us,h7,h8⟩:=Zz1.mp h5
   subst h8
   obtain⟨q0,g1,h9⟩:=Zz0.mp h7
   obtain⟨qs,g2,h10⟩:=Zz0.mp h9
   cases h10
   obtain⟨q1,g3,g6⟩:=Zz0.mp g2
   obtain⟨qs',g4,g7⟩:=Zz0.mp g6
   cases g7
   cases g4
   have eq0:q0=u0:=by
    have:Z1 (fun i=>[t][i]?) 1 u0 1=some q0:=g1
    simp[Z1]at this
    exact this.symm
   subst eq0
   have g5:Zm t (.int 1)=some q1:=by
    have:=g3
    simpa [Zc,Za,Z1,Zj]using this
   obtain⟨v1,F1,b1,b2,b3⟩:=ZC _ _ _ _ _ _ _ _ (r.ext X) (RF.int (H:=H++X) 1) g5
   cases h0
   refine .inr ⟨w0,v1,q0,q1,X,F0,F1,rfl,fin (some (.tup [w0,v1]),upd (fun i=>[a][i]?) 1 w0,H++X) ?_,a2,a4 rfl,new,b2⟩
   rw[Zfc e3]
   simp[ZI,ZaV,Zf,Zb,upd,Zk,Zn,b1,Zq,Zbm]
theorem ZpY{put:T→TL→Option TL}{f:PE}{σ:TL}: ∀{ts us:List T},Zcj put Zaa f σ ts=some us→T.flats us=true→Zcj put Zaa (ZbP f) σ ts=some us
 | [],_,h,_=>h
 | t::ts,us,h,hf=>by
  obtain⟨σ1,h1,h⟩:=Zz0.mp h
  simp only[Zaa,Option.bind_some,if_true]at h
  obtain⟨x,h2,h⟩:=Zz0.mp h
  obtain⟨xs,h3,h⟩:=Zz1.mp h
  subst h
  simp only[T.flats,Bool.and_eq_true]at hf
  simp only[Zcj,h1,Option.bind_some,Zaa,if_true,ZbP,h2,hf.1,ZpY h3 hf.2,Option.map_some]
theorem ZpC{u:T}(hp:0<H.length)(r:RF H a t F)(h:ZdM [t]=some u)(ok:Zhe u=true):
  (u=.none∧∃X,Zec [a] H=some (.none,H++X))∨∃w0 w1 u0 u1 X F1,u=.tup [u0,u1]∧Zw a (.int 0) H=some (w0,H)∧Zm t (.int 0)=some u0∧Zec [a] H=some (.tup [w0,w1],H++X)∧RF (H++X) w1 u1 F1∧F1.Nodup∧(∀x∈F1,H.length≤x):=by
 have st:=ZrM hp r
 have hfull:=h
 unfold ZdM Z0 at h
 simp only[List.length_cons,List.length_nil,Nat.zero_add,if_true]at h
 obtain⟨r1,h,h0⟩:=Zz1.mp h
 unfold Zgn at h
 by_cases hn:t=.none
 ·subst hn
  rw[Zsl (Zq3 rfl)]at h
  cases h
  cases h0
  cases r
  exact .inl ⟨rfl,[],by simp[Zec,Z5,Zgm,ZB,ZY,ZM,Zk,Zb,Zac,oIs,ZcY,ZI]⟩
 ·rw[ZoH (Zq2 (σ:=fun i=>[t][i]?) rfl hn)]at h
  have ev:∀b:Sm,ZB (ZY (ZM (Zk oIs (Zb 0) (Zac))) (ZI (Zac)) ZZ) b (fun i=>[a][i]?) H=b (fun i=>[a][i]?) H:=fun b=>Zfc (Zq1 rfl r hn)
  obtain⟨r2,h1',h⟩:=Zz0.mp h
  obtain⟨t1,h1,e1⟩:=Zz1.mp h1'
  subst e1
  have x1:E [] ([0]++[]) false (Zu Zfj (Zf (Zk Zw (Zb 0) (Zn 1)) Zq)) (Zp Zfk (Zd (Zc Zm (Za 0) (Zj 1)) Zl)):=ZO ZkI (Zh (ZD ZC (Ze 0) (Zo _)) Zs)
  obtain⟨v1,X1,Fr,a1,a2,a3,_⟩:=x1 _ _ _ _ _ _ st h1
  have st1:=(st.ext X1).put (j:=1) (by simp) a2 (fun x m=>st.from_src (a3 x m)) (fun i hi=>(nomatch hi))
  have ev1:∀b:Sm,ZB (Z3 1 (Zu Zfj (Zf (Zk Zw (Zb 0) (Zn 1)) Zq))) b (fun i=>[a][i]?) H=b (upd (fun i=>[a][i]?) 1 v1) (H++X1):=fun b=>Zfc (by simp only[Z3,a1,Option.map_some])
  simp only at h
  obtain⟨r3,h2',h⟩:=Zz0.mp h
  obtain⟨t2,h2,e2⟩:=Zz1.mp h2'
  subst e2
  simp only at h
  generalize hσ:Z1 (fun i=>[t][i]?) 1 t1=σ1 at *
  generalize hρ:upd (fun i=>[a][i]?) 1 v1=ρ1 at *
  have hρ0:ρ1 0=some a:=by rw[←hρ];simp[upd]
  have hσ0:σ1 0=some t:=by rw[←hσ];simp[Z1]
  have x2:∀ts,T.flats ts=true→Zan (Zaw (Zd (Zj 1) (Zd (Zp Zaj (Zd (Za 1) Zl)) Zl))) (Z2 100) Zaa (Zp ZeC (Zd (Zc Zm (Za 0) (Zj 0)) (Zd (Za 1) (Zd (Za 100) Zl)))) σ1=some (.lst ts)→∃w X G,Za4 (Zbc (Zf (Zn 1) (Zf (Zu ZaP (Zf (Zb 1) Zq)) Zq))) (put1 100) ZaM (Zu Zgl (Zf (Zk Zw (Zb 0) (Zn 0)) (Zf (Zb 1) (Zf (Zb 100) Zq)))) ρ1 (H++X1)=some (w,H++X1++X)∧RF (H++X1++X) w (.lst ts) G∧G.Nodup∧∀x∈G,(H++X1).length≤x:=fun ts hf he=>by
   have y:E [] [] true (Za4 (Zbc (Zf (Zn 1) (Zf (Zu ZaP (Zf (Zb 1) Zq)) Zq))) (put1 100) ZaM (Zu Zgl (Zf (Zk Zw (Zb 0) (Zn 0)) (Zf (Zb 1) (Zf (Zb 100) Zq))))) (Zan (Zaw (Zd (Zj 1) (Zd (Zp Zaj (Zd (Za 1) Zl)) Zl))) (Z2 100) Zaa (ZbP (Zp ZeC (Zd (Zc Zm (Za 0) (Zj 0)) (Zd (Za 1) (Zd (Za 100) Zl)))))):=ZfS (Gs.range (Zh (Zo _) (Zh (ZaF Za5 (Zh (Ze 1) Zs)) Zs))) PutOk.one (by decide) Zba (E.flat (ZO ZoT (Zh (ZD ZC (Ze 0) (Zo _)) (Zh (Ze 1) (Zh (Ze 100) Zs)))))
   have he2:Zan (Zaw (Zd (Zj 1) (Zd (Zp Zaj (Zd (Za 1) Zl)) Zl))) (Z2 100) Zaa (ZbP (Zp ZeC (Zd (Zc Zm (Za 0) (Zj 0)) (Zd (Za 1) (Zd (Za 100) Zl))))) σ1=some (.lst ts):=by
    obtain⟨zs,g1,g2⟩:=Zz0.mp he
    split at g2
    ·rename_i hl
     obtain⟨us,g3,g4⟩:=Zz1.mp g2
     cases g4
     simp only[Zan,g1,Option.bind_some]
     rw[if_pos hl,ZpY g3 hf]
     rfl
    ·cases g2
   obtain⟨w,X,G,b1,b2,b3,b4⟩:=y _ _ _ _ _ _ st1 he2
   exact⟨w,X,G,b1,b2,b4 rfl,fun x m=>(b3 x m).nil⟩
  obtain⟨ts,rfl⟩:∃ts,t2=.lst ts:=by
   obtain⟨zs,g1,g2⟩:=Zz0.mp h2
   split at g2
   ·obtain⟨us,g3,g4⟩:=Zz1.mp g2
    exact⟨us,g4.symm⟩
   ·cases g2
  by_cases hu:u=.none
  ·subst hu
   obtain⟨v,X,G,c1,c2,_⟩:=Zs7 H [a] [t] .none F hp (RFs.one r) hfull
   cases c2
   exact .inl ⟨rfl,X,c1⟩
  ·obtain⟨r4,h3,h⟩:=Zz0.mp h
   obtain⟨b,h4,h5⟩:=Zz0.mp h3
   cases b with
   | true=>
    simp only[if_true]at h5
    cases h5
    cases h
    cases h0
    exact absurd rfl hu
   | false=>
    cases h5
    simp only at h
    obtain⟨u',h6,h7⟩:=Zz1.mp h
    subst h7
    obtain⟨us,h8,h9⟩:=Zz1.mp h6
    subst h9
    obtain⟨q0,g1,h10⟩:=Zz0.mp h8
    obtain⟨qs,g2,h11⟩:=Zz0.mp h10
    cases h11
    obtain⟨q1,g3,g6⟩:=Zz0.mp g2
    obtain⟨qs',g4,g7⟩:=Zz0.mp g6
    cases g7
    cases g4
    have eq1:q1=.lst ts:=by
     have:Z1 σ1 2 (.lst ts) 2=some q1:=g3
     simp[Z1]at this
     exact this.symm
    subst eq1
    have g5:Zm t (.int 0)=some q0:=by
     have:=g1
     simpa [Zc,Za,Z1,Zj,hσ0]using this
    cases h0
    obtain⟨w,X,G,b1,b2,b3,b4⟩:=x2 ts ok h2
    obtain⟨w0,F0,i1,i2,i3⟩:=ZC _ _ _ _ _ _ _ _ r (RF.int (H:=H) 0) g5
    have st2:=(st1.ext X).put (j:=2) (by simp) b2 (fun x m=>.inl (by have:=b4 x m;simp at this;show H.length≤x;omega)) (fun i hi=>(nomatch hi))
    have bt:Bt [] (ZM (Zk oIn (Zac) (Zb 2))) (Zv (Zc qIn (ZU) (Za 2))):=ZQ (ZF ZjS Zap (Ze 2))
    obtain⟨Y,k1⟩:=bt _ _ _ _ _ _ st2 h4
    refine .inr ⟨w0,w,q0,.lst ts,X1++X++Y,G,rfl,i1,g5,?_,by rw[←List.append_assoc,←List.append_assoc];exact b2.ext Y,b3,fun x m=>by have:=b4 x m;simp at this;omega⟩
    unfold Zec Z5 Zgm
    simp only[List.length_cons,List.length_nil,Nat.zero_add,if_true]
    rw[ev,ev1,Zfc (ρ1:=upd ρ1 2 w) (H1:=H++X1++X) (by simp only[Z3,b1,Option.map_some]),Zfc (ρ1:=upd ρ1 2 w) (H1:=H++X1++X++Y) (by simp only[ZY,k1,Option.bind_some];rfl)]
    have hidx:=(ZmK i1 (X1++X++Y)).2
    have hr:(upd ρ1 2 w) 0=some a:=by simp[upd,hρ0]
    have h2w:(upd ρ1 2 w) 2=some w:=by simp[upd]
    simp only[←List.append_assoc]at hidx ⊢
    generalize H++X1++X++Y=K at *
    have e5:ZaV (Zf (Zk Zw (Zb 0) (Zn 0)) (Zf (Zb 2) Zq)) (upd ρ1 2 w) K=some (.tup [w0,w],K):=by
     simp only[ZaV,Zf,Zk,Zb,hr,h2w,Zn,Zq,Option.map_some,Option.bind_some,hidx]
     rw[if_pos (by rw[Zbm];simp)]
    simp only[ZI,e5,Option.map_some]
    rfl
theorem ZrN: SimF true Zf2 Ze4:=fun H vs ts t F1 hp r h=>by
 obtain⟨t',h1,h2⟩:=Zz0.mp h
 by_cases ok:Zhe t'=true
 ·rw[if_pos ok]at h2
  cases h2
  unfold Z0 at h1
  split at h1
  ·rename_i hl
   obtain⟨t0,rfl⟩:∃t0,ts=[t0]:=List.length_eq_one_iff.mp hl
   obtain⟨a,rfl,r0⟩:=r.one_inv
   obtain⟨r1,h3,h4⟩:=Zz1.mp h1
   obtain⟨u,h5,h6⟩:=Zz1.mp h3
   subst h6
   cases h4
   obtain⟨us,h7,h8⟩:=Zz0.mp h5
   obtain⟨q0,g1,h9⟩:=Zz0.mp h7
   obtain⟨qs,g2,h10⟩:=Zz0.mp h9
   cases h10
   cases g2
   have g3:Zet [t0]=some q0:=by
    have:=g1
    simpa [Zp,Zd,Za,Zl]using this
   have g4:ZdM [q0]=some u:=h8
   have run:∀v1 X1 v2 X2,Zes [a] H=some (v1,H++X1)→Zec [v1] (H++X1)=some (v2,H++X1++X2)→Zf2 [a] H=some (v2,H++(X1++X2)):=fun v1 X1 v2 X2 e1 e2=>by
    simp[Zf2,Z5,Zoi,ZI,Zu,Zf,Zb,Zq,e1,e2]
   rcases Zug hp r0 g3 with⟨rfl,X,e1⟩ | ⟨w0,v1,u0,u1,X,F0,F2,rfl,e1,a1,a2,a3,a4⟩
   ·have hp2:0<(H++X).length:=by rw[List.length_append];omega
    rcases ZpC hp2 (.none (H:=H++X)) g4 ok with⟨rfl,Y,e2⟩ | ⟨_,_,_,_,_,_,_,e2,_⟩
    ·exact⟨.none,X++Y,[],run _ _ _ _ e1 e2,.none,by simp,by simp⟩
    ·cases e2
   ·have hp2:0<(H++X).length:=by rw[List.length_append];omega
    rcases ZpC hp2 (.tup (.cons a1 (.one a4))) g4 ok with⟨rfl,Y,e2⟩ | ⟨x0,w1,y0,y1,Y,F1',rfl,e3,e4,e2,b1,b2,b3⟩
    ·exact⟨.none,X++Y,[],run _ _ _ _ e1 e2,.none,by simp,by simp⟩
    ·have ex:x0=w0:=by
      have:Zw (.tup [w0,v1]) (.int 0) (H++X)=some (w0,H++X):=by simp[Zw,seqIndex?]
      rw[this]at e3
      cases e3
      rfl
     have ey:y0=u0:=by
      have:Zm (.tup [u0,u1]) (.int 0)=some u0:=by simp[Zm,seqIndex?]
      rw[this]at e4
      cases e4
      rfl
     subst ex ey
     have nd:(F0++F1').Nodup:=by
      rw[List.nodup_append]
      refine⟨a2,b2,fun x hx y hy e=>?_⟩
      have:=a1.lt x hx
      have:=b3 y hy
      omega
     have nw:∀x∈F0++F1',H.length≤x:=fun x m=>by
      rcases Zz8.mp m with m | m
      ·exact a3 x m
      ·have:=b3 x m;rw[List.length_append]at this;omega
     exact⟨.tup [x0,w1],X++Y,F0++F1',run _ _ _ _ e1 e2,by rw[←List.append_assoc];exact .tup (.cons (a1.ext Y) (.one b1)),fun x m=>.inl (nw x m),fun _=>⟨nd,nw⟩⟩
  ·cases h1
 ·rw[if_neg ok]at h2
  cases h2
noncomputable def Zj0: Sm:=ZB (ZY (ZM (Zk ZcO (Zb 0) (Zac))) (ZI (Zu Zk3 (Zf (Zb 1) (Zf (Zb 0) Zq)))) ZZ) (ZB (ZY (ZM (Zk oEq (Zk Zw (Zb 1) (Zn 0)) (Zn 0))) (ZI (Zk Zw (Zb 1) (Zn 1))) ZZ) (ZI (Zac)))
noncomputable def Zj1:=Z5 2 Zj0
noncomputable def Zj2: PS:=(Zr (ZL (Zv (Zc ZaU (Za 0) (ZU))) (Zx (Zp Zh9 (Zd (Za 1) (Zd (Za 0) Zl)))) ZN) (Zr (ZL (Zv (Zc qEq (Zc Zm (Za 1) (Zj 0)) (Zj 0))) (Zx (Zc Zm (Za 1) (Zj 1))) ZN) (Zx (ZU))))
noncomputable def ZhO:=Z0 2 Zj2
theorem Zsx: SimF false Zj1 ZhO:=Zaf (show S [] [] [] false Zj0 Zj2 from(ZH (Z9 (ZQ (ZF Zda (Ze 0) (Zap))) (ZV (ZO Ztu (Zh (Ze 1) (Zh (Ze 0) Zs)))) Z8) (ZH (Z9 (ZQ (ZF Zat (ZD ZC (Ze 1) (Zo _)) (Zo _))) (ZV (ZD ZC (Ze 1) (Zo _))) Z8) (ZV (Zap)))))
noncomputable def ZkJ: Sm:=ZB (Z3 3 (Zca Zq)) (ZB (Za9 (Zd5 (Zb 0) (Zb 2)) (Zcl 4 5) (ZB (Z3 6 (Zu Zj1 (Zf (Zb 4) (Zf (Zu Zgy (Zf (Zb 1) (Zf (Zu Zgq (Zf (Zb 5) (Zf (eUn Zcb (Zn 1)) Zq))) Zq))) Zq)))) (ZB (ZY (Zbe (ZM (Zk oIs (Zb 6) (Zac))) (Zbe (ZM (Zk ZcO (Zb 4) (Zac))) ZaM)) (ZI (Zac)) ZZ) (ZcE (ZfO (Zb 3) (Zb 6)))))) (ZI (Zb 3)))
noncomputable def ZkK:=Z5 3 ZkJ
noncomputable def ZkL: PS:=(Zr (ZJ 3 (ZbB Zl)) (Zr (Zav (Zd9 (Za 0) (Za 2)) (Zc0 4 5) (Zr (ZJ 6 (Zp ZhO (Zd (Za 4) (Zd (Zp Zfn (Zd (Za 1) (Zd (Zp Zfl (Zd (Za 5) (Zd (pUn Za0 (Zj 1)) Zl))) Zl))) Zl)))) (Zr (ZL (Zah (Zv (Zc qIs (Za 6) (ZU))) (Zah (Zv (Zc ZaU (Za 4) (ZU))) Zaa)) (Zx (ZU)) ZN) (Zez 3 [] ZaY (ZbP (Za 6)))))) (Zx (Za 3))))
noncomputable def Zh1:=Z0 3 ZkL
theorem Zs8: SimF false ZkK Zh1:=Zaf (show S [] [3] [] false ZkJ ZkL from(ZH (ZdZ (O':=[3]) (E.list Zs)) (ZH (ZbF (Gs.zip (Ze 0) (Ze 2)) PutOk.two (by decide) (by decide) (ZH (Zag (O':=[3]) (ZO Zsx (Zh (Ze 4) (Zh (ZO Zlt (Zh (Ze 1) (Zh (ZO Zk1 (Zh (Ze 5) (Zh (Zcz ZcA (Zo _)) Zs))) Zs))) Zs)))) (ZH (Z9 (Zbn (ZQ (ZF Zcc (Ze 6) (Zap))) (Zbn (ZQ (ZF Zda (Ze 4) (Zap))) Zba)) (ZV (Zap)) Z8) (Zox (O':=[3]) (by decide) Zdc (Zcy (O':=[]) (E.flat (Ze 6))) (by decide) (by decide))))) (ZV (Ze 3)))))
noncomputable def ZmY: Sm:=ZB (ZY (ZM (Zk oIs (Zb 0) (Zac))) (ZI (Zac)) ZZ) (ZB (Z3 1 (Zu Zfj (Zf (Zk Zw (Zb 0) (Zn 1)) Zq))) (ZB (Z3 2 (Za4 (Zd5 (Zk Zw (Zb 0) (Zn 0)) (Zb 1)) (Zcl 100 101) ZaM (Zu ZkK (Zf (Zb 100) (Zf (Zb 101) (Zf (Zb 1) Zq)))))) (ZB (ZY (ZM (Zk oIn (Zac) (Zb 2))) (ZI (Zac)) ZZ) (ZI (ZaV (Zf (Zb 2) (Zf (Zk Zw (Zb 0) (Zn 1)) Zq)))))))
noncomputable def ZmZ:=Z5 1 ZmY
noncomputable def ZiI: PS:=(Zr (ZL (Zv (Zc qIs (Za 0) (ZU))) (Zx (ZU)) ZN) (Zr (ZJ 1 (Zp Zfk (Zd (Zc Zm (Za 0) (Zj 1)) Zl))) (Zr (ZJ 2 (Zan (Zd9 (Zc Zm (Za 0) (Zj 0)) (Za 1)) (Zc0 100 101) Zaa (Zp Zh1 (Zd (Za 100) (Zd (Za 101) (Zd (Za 1) Zl)))))) (Zr (ZL (Zv (Zc qIn (ZU) (Za 2))) (Zx (ZU)) ZN) (Zx (ZaS (Zd (Za 2) (Zd (Zc Zm (Za 0) (Zj 1)) Zl))))))))
noncomputable def ZfF:=Z0 1 ZiI
theorem ZuV: SimF false ZmZ ZfF:=Zaf (show S [] [] [] false ZmY ZiI from(ZH (Z9 (ZQ (ZF Zcc (Ze 0) (Zap))) (ZV (Zap)) Z8) (ZH (Zag (O':=[]) (ZO ZkI (Zh (ZD ZC (Ze 0) (Zo _)) Zs))) (ZH (Zag (O':=[]) (ZcW (Gs.zip (ZD ZC (Ze 0) (Zo _)) (Ze 1)) PutOk.two (by decide) Zba (ZO Zs8 (Zh (Ze 100) (Zh (Ze 101) (Zh (Ze 1) Zs)))))) (ZH (Z9 (ZQ (ZF ZjS (Zap) (Ze 2))) (ZV (Zap)) Z8) (ZV (E.tup (Zh (Ze 2) (Zh (ZD ZC (Ze 0) (Zo _)) Zs)))))))))
noncomputable def ZnS: Sm:=ZI (Zu Zf2 (Zf (Zu ZmZ (Zf (Zu Zf2 (Zf (Zb 0) Zq)) Zq)) Zq))
noncomputable def Zja:=Z5 1 ZnS
noncomputable def ZnT: PS:=(Zx (Zp Ze4 (Zd (Zp ZfF (Zd (Zp Ze4 (Zd (Za 0) Zl)) Zl)) Zl)))
noncomputable def ZdU:=Z0 1 ZnT
theorem Zq4: SimF true Zja ZdU:=Zaf (show S [] [] [] true ZnS ZnT from(Za8 (ZbA ZrN (Zh (ZO ZuV (Zh (ZO ZrN (Zh (Ze 0) Zs)) Zs)) Zs))))
noncomputable def ZoK: PS:=(Zr (ZJ 1 (Zp Zaj (Zd (Za 0) Zl))) (Zr (ZJ 2 (Zan (ZaD (Za 0)) (Z2 100) Zaa (pFl (Zp Zch (Zd (Za 100) Zl))))) (Zr (ZJ 3 (Zj 1)) (Zr (Zdo (Zv (Zc qLt (Za 3) (Za 1))) (Zr (ZJ 4 (Zan (ZaD (Za 2)) (Z2 102) Zaa (pFl (Zp Zch (Zd (Za 102) Zl))))) (Zr (Zav (Zaw (Zd (Za 1) Zl)) (Z2 5) (Zav (Zaw (Zd (Za 1) Zl)) (Z2 6) (Zav (Zaw (Zd (Za 1) Zl)) (Z2 7) (ZL (Zah (Zv (Zc ZaU (Zc Zm (Zc Zm (Za 4) (Za 5)) (Za 7)) (ZU))) (Zah (Zv (Zc ZaU (Zc Zm (Zc Zm (Za 4) (Za 7)) (Za 6)) (ZU))) Zaa)) (Zr (ZJ 8 (Zc Zad (Zc Zm (Zc Zm (Za 4) (Za 5)) (Za 7)) (Zc Zm (Zc Zm (Za 4) (Za 7)) (Za 6)))) (ZL (bOr (Zv (Zc qIs (Zc Zm (Zc Zm (Za 2) (Za 5)) (Za 6)) (ZU))) (bOr (Zv (Zc qLt (Za 8) (Zc Zm (Zc Zm (Za 2) (Za 5)) (Za 6)))) ZbO)) (Zbq 2 [] (ZbP (Za 8)) (ZdC ZaY (Za 5)) (Za 6)) ZN)) ZN)))) (ZJ 3 (Zc ZaH (Zj 2) (Za 3))))) 1000000) (Zr (Zav (Zaw (Zd (Za 1) Zl)) (Z2 5) (ZL (Zv (Zc qLt (Zc Zm (Zc Zm (Za 2) (Za 5)) (Za 5)) (Zj 0))) (Zx (ZU)) ZN)) (Zx (Za 2)))))))
noncomputable def Zgg:=Z0 1 ZoK
noncomputable def ZpZ: PS:=(Zr (ZJ 2 (Zc Zm (Za 0) (Zj 0))) (Zr (ZJ 3 (Zc Zm (Za 1) (Zj 0))) (Zr (ZJ 4 (Zj 1)) (Zr (ZJ 5 (Zj 0)) (Zr (Zdo (Zv (Zc qNe (Za 3) (Zj 0))) (Zr (ZJ 6 (Zc Zcm (Za 2) (Za 3))) (Zr (ZJ 7 (Zc ZaZ (Za 2) (Zc ZaH (Za 6) (Za 3)))) (Zr (ZJ 2 (Za 3)) (Zr (ZJ 3 (Za 7)) (Zr (ZJ 7 (Zc ZaZ (Za 4) (Zc ZaH (Za 6) (Za 5)))) (Zr (ZJ 4 (Za 5)) (ZJ 5 (Za 7)))))))) 1000000) (Zr (ZJ 8 (Zc ZaZ (Zc Zm (Za 1) (Zj 1)) (Zc Zm (Za 0) (Zj 1)))) (Zr (ZL (Zv (Zc qEq (Za 2) (Zj 0))) (Zr (ZL (Zv (Zc qNe (Za 8) (Zj 0))) (Zx (ZU)) ZN) (Zx (Za 0))) ZN) (Zr (ZL (Zv (Zc qNe (Zc ZaW (Za 8) (Za 2)) (Zj 0))) (Zx (ZU)) ZN) (Zx (Zp ZdL (Zd (Zc ZaH (Zc Zcm (Zc Zm (Za 0) (Zj 0)) (Za 2)) (Zc Zm (Za 1) (Zj 0))) (Zd (Zc Zad (Zc Zm (Za 0) (Zj 1)) (Zc ZaH (Zc ZaH (Zc Zm (Za 0) (Zj 0)) (Za 4)) (Zc Zcm (Za 8) (Za 2)))) Zl))))))))))))
noncomputable def ZiJ:=Z0 2 ZpZ
noncomputable def Zo5: PS:=(Zr (ZJ 2 (Zc Zad (ZbB (Zd (ZaS (Zd (Zj 0) (Zd (Zj 0) Zl))) Zl)) (Za 1))) (Zr (ZJ 3 (pFl (Zc Zad (ZbB (Zd (ZaS (Zd (Zj 0) (Zd (Zj 0) Zl))) Zl)) (Za 1)))) (Zr (Zav (Zaw (Zd (Zj 1) (Zd (Zp Zaj (Zd (Za 2) Zl)) Zl))) (Z2 4) (Zav (Zaw (Zd (Zp Zaj (Zd (Za 2) Zl)) Zl)) (Z2 5) (Zr (ZJ 6 (Zc Zm (Zc Zm (Za 0) (Za 4)) (Za 5))) (ZL (Zah (Zv (Zc qNe (Za 4) (Za 5))) (Zah (Zv (Zc ZaU (Za 6) (ZU))) (Zah (Zv (Zc qEq (Zc Zm (Zc Zm (Za 0) (Za 5)) (Za 4)) (pUn Za0 (Za 6)))) (Zah (Zv (Zc ZaU (Zc Zm (Za 3) (Za 4)) (ZU))) Zaa)))) (Zbq 3 [] (ZbP (Zp ZiJ (Zd (Zc Zm (Za 3) (Za 4)) (Zd (Zp ZdL (Zd (Zc Zm (Zc Zm (Za 2) (Za 5)) (Zj 0)) (Zd (Zc Zad (Zc Zm (Zc Zm (Za 2) (Za 5)) (Zj 1)) (Za 6)) Zl))) Zl)))) ZaY (Za 4)) ZN)))) (Zr (ZL (Zv (Zc qIn (ZU) (Za 3))) (Zx (ZU)) ZN) (Zx (Zds (Za 3) 1))))))
noncomputable def Zia:=Z0 2 Zo5
noncomputable def ZoZ: PS:=(Zr (ZJ 2 (Zc Zad (ZbB (Zd (ZaS (Zd (Zj 0) (Zd (Zj 0) Zl))) Zl)) (Za 1))) (Zr (ZJ 3 (Zan (ZaD (Za 0)) (Z2 100) Zaa (pFl (Zp Zch (Zd (Za 100) Zl))))) (Zr (Zav (Zaw (Zd (Zp Zaj (Zd (Za 2) Zl)) Zl)) (Z2 4) (Zav (Zaw (Zd (Zp Zaj (Zd (Za 2) Zl)) Zl)) (Z2 5) (Zr (ZJ 6 (Zp ZgQ (Zd (Zc Zm (Zc Zm (Za 2) (Za 4)) (Zj 0)) (Zd (Zc Zm (Zc Zm (Za 2) (Za 5)) (Zj 0)) Zl)))) (Zr (ZJ 7 (Zc ZaZ (Zc Zm (Zc Zm (Za 2) (Za 4)) (Zj 1)) (Zc Zm (Zc Zm (Za 2) (Za 5)) (Zj 1)))) (Zr (ZJ 8 (Zc Zm (Zc Zm (Za 0) (Za 4)) (Za 5))) (ZL (Zah (Zv (Zc qNe (Za 4) (Za 5))) (Zah (Zv (Zc qEq (Za 6) (Zj 0))) Zaa)) (Zr (ZL (Zah (Zv (Zc ZaU (Za 8) (ZU))) (Zah (Zv (Zc qLt (Za 8) (Za 7))) Zaa)) (Zx (ZU)) ZN) (Zbq 3 [] (ZbP (Za 7)) (ZdC ZaY (Za 4)) (Za 5))) (ZL (Zah (Zv (Zc qNe (Za 4) (Za 5))) (Zah (Zv (Zc ZaU (Za 8) (ZU))) Zaa)) (Zbq 3 [] (Zc ZaZ (Za 8) (Zc ZaW (Zc ZaZ (Za 8) (Za 7)) (Za 6))) (ZdC ZaY (Za 4)) (Za 5)) ZN))))))) (Zx (Za 3)))))
noncomputable def ZkM:=Z0 2 ZoZ
noncomputable def Zpj: PS:=(Zr (ZL (Zv (Zc qIs (Za 0) (ZU))) (Zx (ZU)) ZN) (Zr (ZJ 1 (Zp Zgg (Zd (Zc Zm (Za 0) (Zj 0)) Zl))) (Zr (ZL (Zv (Zc qIs (Za 1) (ZU))) (Zx (ZU)) ZN) (Zr (ZJ 2 (Zp Zia (Zd (Za 1) (Zd (Zc Zm (Za 0) (Zj 1)) Zl)))) (Zr (ZL (Zv (Zc qIs (Za 2) (ZU))) (Zx (ZU)) ZN) (Zr (ZJ 1 (Zp ZkM (Zd (Za 1) (Zd (Za 2) Zl)))) (Zr (ZL (Zv (Zc qIs (Za 1) (ZU))) (Zx (ZU)) ZN) (Zr (ZJ 1 (Zp Zgg (Zd (Za 1) Zl))) (Zr (ZL (Zv (Zc qIs (Za 1) (ZU))) (Zx (ZU)) ZN) (Zr (ZJ 2 (Zp Zia (Zd (Za 1) (Zd (Za 2) Zl)))) (Zr (ZL (Zv (Zc qIs (Za 2) (ZU))) (Zx (ZU)) ZN) (Zx (ZaS (Zd (Za 1) (Zd (Za 2) Zl)))))))))))))))
noncomputable def Zef:=Z0 1 Zpj
noncomputable def ZlC: Sm:=ZB (ZY (tOr (ZbC (ZM (eIs "tuple" (Zb 0)))) (tOr (ZM (Zk oNe (Zu ZaP (Zf (Zb 0) Zq)) (Zn 2))) (tOr (ZbC (ZM (Zu Zmi (Zf (Zk Zw (Zb 0) (Zn 0)) (Zf (Zk Zax (Zb 1) (Zn 1)) Zq))))) Zb9))) (ZI (Za3 false)) ZZ) (ZB (ZY (tOr (ZbC (ZM (eIs "list" (Zk Zw (Zb 0) (Zn 1))))) (tOr (ZM (Zk oNe (Zu ZaP (Zf (Zk Zw (Zb 0) (Zn 1)) Zq)) (Zb 1))) Zb9)) (ZI (Za3 false)) ZZ) (ZB (Za9 (ZcR (Zk Zw (Zb 0) (Zn 1))) (put1 2) (ZB (ZY (tOr (ZbC (ZM (eIs "tuple" (Zb 2)))) (tOr (ZM (Zk oNe (Zu ZaP (Zf (Zb 2) Zq)) (Zn 2))) Zb9)) (ZI (Za3 false)) ZZ) (ZB (ZY (tOr (ZbC (ZM (Zu Zgz (Zf (Zk Zw (Zb 2) (Zn 0)) Zq)))) (tOr (ZbC (ZM (Zu Zgz (Zf (Zk Zw (Zb 2) (Zn 1)) Zq)))) Zb9)) (ZI (Za3 false)) ZZ) (ZY (tOr (ZM (Zk oLt (Zk Zw (Zb 2) (Zn 0)) (Zn 0))) (tOr (Zbe (ZM (Zk oGt (Zk Zw (Zb 2) (Zn 0)) (Zn 0))) (Zbe (ZbC (Zhl oLe oLt (Zn 0) (Zk Zw (Zb 2) (Zn 1)) (Zk Zw (Zb 2) (Zn 0)))) ZaM)) Zb9)) (ZI (Za3 false)) ZZ)))) (ZI (Za3 true))))
noncomputable def ZlD:=Z5 2 ZlC
noncomputable def ZlE: PS:=(Zr (ZL (bOr (Zbp (Zv (pIs "tuple" (Za 0)))) (bOr (Zv (Zc qNe (Zp Zaj (Zd (Za 0) Zl)) (Zj 2))) (bOr (Zbp (Zv (Zp Ziy (Zd (Zc Zm (Za 0) (Zj 0)) (Zd (Zc Zad (Za 1) (Zj 1)) Zl))))) ZbO))) (Zx (ZaX false)) ZN) (Zr (ZL (bOr (Zbp (Zv (pIs "list" (Zc Zm (Za 0) (Zj 1))))) (bOr (Zv (Zc qNe (Zp Zaj (Zd (Zc Zm (Za 0) (Zj 1)) Zl)) (Za 1))) ZbO)) (Zx (ZaX false)) ZN) (Zr (Zav (ZaD (Zc Zm (Za 0) (Zj 1))) (Z2 2) (Zr (ZL (bOr (Zbp (Zv (pIs "tuple" (Za 2)))) (bOr (Zv (Zc qNe (Zp Zaj (Zd (Za 2) Zl)) (Zj 2))) ZbO)) (Zx (ZaX false)) ZN) (Zr (ZL (bOr (Zbp (Zv (Zp Zfo (Zd (Zc Zm (Za 2) (Zj 0)) Zl)))) (bOr (Zbp (Zv (Zp Zfo (Zd (Zc Zm (Za 2) (Zj 1)) Zl)))) ZbO)) (Zx (ZaX false)) ZN) (ZL (bOr (Zv (Zc qLt (Zc Zm (Za 2) (Zj 0)) (Zj 0))) (bOr (Zah (Zv (Zc qGt (Zc Zm (Za 2) (Zj 0)) (Zj 0))) (Zah (Zbp (Zhm qLe qLt (Zj 0) (Zc Zm (Za 2) (Zj 1)) (Zc Zm (Za 2) (Zj 0)))) Zaa)) ZbO)) (Zx (ZaX false)) ZN)))) (Zx (ZaX true)))))
noncomputable def Zfq:=Z0 2 ZlE
theorem ZtQ: SimF false ZlD Zfq:=Zaf (show S [] [] [] false ZlC ZlE from(ZH (Z9 (Zbh (ZbW (ZQ (Zd7 (Ze 0)))) (Zbh (ZQ (ZF ZcF (ZaF Za5 (Zh (Ze 0) Zs)) (Zo _))) (Zbh (ZbW (ZQ (ZO Zuf (Zh (ZD ZC (Ze 0) (Zo _)) (Zh (Zal ZaL (Ze 1) (Zo _)) Zs))))) ZcK))) (ZV (E.bool _)) Z8) (ZH (Z9 (Zbh (ZbW (ZQ (Zd7 (ZD ZC (Ze 0) (Zo _))))) (Zbh (ZQ (ZF ZcF (ZaF Za5 (Zh (ZD ZC (Ze 0) (Zo _)) Zs)) (Ze 1))) ZcK)) (ZV (E.bool _)) Z8) (ZH (ZbF (Gs.seq (ZD ZC (Ze 0) (Zo _))) PutOk.one (by decide) (by decide) (ZH (Z9 (Zbh (ZbW (ZQ (Zd7 (Ze 2)))) (Zbh (ZQ (ZF ZcF (ZaF Za5 (Zh (Ze 2) Zs)) (Zo _))) ZcK)) (ZV (E.bool _)) Z8) (ZH (Z9 (Zbh (ZbW (ZQ (ZO Zlz (Zh (ZD ZC (Ze 2) (Zo _)) Zs)))) (Zbh (ZbW (ZQ (ZO Zlz (Zh (ZD ZC (Ze 2) (Zo _)) Zs)))) ZcK)) (ZV (E.bool _)) Z8) (Z9 (Zbh (ZQ (ZF ZdH (ZD ZC (Ze 2) (Zo _)) (Zo _))) (Zbh (Zbn (ZQ (ZF Zd8 (ZD ZC (Ze 2) (Zo _)) (Zo _))) (Zbn (ZbW (ZvG ZjO ZdH (Zo _) (ZD ZC (Ze 2) (Zo _)) (ZD ZC (Ze 2) (Zo _)))) Zba)) ZcK)) (ZV (E.bool _)) Z8)))) (ZV (E.bool _))))))
noncomputable def ZnU(F:List V→Hp→Option (V×Hp)): Sm:=ZB (ZY (ZM (eIs "list" (Zb 0))) (ZI (Za4 (ZcR (Zb 0)) (put1 100) ZaM (Zu F (Zf (Zb 100) Zq)))) ZZ) (ZB (ZY (ZM (eIs "tuple" (Zb 0))) (ZI (Zu ZfQ (Zf (Za4 (ZcR (Zb 0)) (put1 102) ZaM (Zu F (Zf (Zb 102) Zq))) Zq))) ZZ) (ZI (Zb 0)))
noncomputable def ZfL: Nat→List V→Hp→Option (V×Hp)
 | 0=>fun _ _=>none
 | n+1=>Z5 1 (ZnU (ZfL n))
noncomputable def Zhf: List V→Hp→Option (V×Hp):=ZfL 9
noncomputable def ZfU(F:List T→Option T): PS:=(Zr (ZL (Zv (pIs "list" (Za 0))) (Zx (Zan (ZaD (Za 0)) (Z2 100) Zaa (Zp F (Zd (Za 100) Zl)))) ZN) (Zr (ZL (Zv (pIs "tuple" (Za 0))) (Zx (Zp Zi4 (Zd (Zan (ZaD (Za 0)) (Z2 102) Zaa (Zp F (Zd (Za 102) Zl))) Zl))) ZN) (Zx (ZbP (Za 0)))))
noncomputable def ZeR: Nat→List T→Option T
 | 0=>fun _=>none
 | n+1=>Z0 1 (ZfU (ZeR n))
noncomputable def ZeU: List T→Option T:=ZeR 9
theorem Znu: ∀n:Nat,SimF true (ZfL n) (ZeR n)
 | 0=>ZuR
 | n+1=>Zaf (show S [] [] [] true (ZnU (ZfL n)) (ZfU (ZeR n))from(ZH (Z9 (ZQ (Zd7 (Ze 0))) (Za8 (ZfS (Gs.seq (Ze 0)) PutOk.one (by decide) Zba (ZbA (Znu n) (Zh (Ze 100) Zs)))) Z8) (ZH (Z9 (ZQ (Zd7 (Ze 0))) (Za8 (ZwT ZvH (Znl (ZfS (Gs.seq (Ze 0)) PutOk.one (by decide) Zba (ZbA (Znu n) (Zh (Ze 102) Zs))) Zs (by decide) (by decide)))) Z8) (Za8 (E.flat (Ze 0))))))
theorem ZnV: SimF true Zhf ZeU:=Znu 9
noncomputable def Zmm: Sm:=ZB (ZY (ZM (Zk oIs (Zb 0) (Zac))) (ZI (Za3 false)) ZZ) (ZB (Z3 2 (Zk Zax (Zca (Zf (Zn 0) Zq)) (Zb 1))) (ZB (Za9 (Zbc (Zf (Zu ZaP (Zf (Zb 2) Zq)) Zq)) (put1 3) (Za9 (Zbc (Zf (Zu ZaP (Zf (Zb 2) Zq)) Zq)) (put1 4) (ZY (Zbe (ZM (Zk ZcO (Zk Zw (Zk Zw (Zk Zw (Zb 0) (Zn 0)) (Zb 3)) (Zb 4)) (Zac))) (Zbe (ZM (Zk oGt (Zk Zw (Zb 2) (Zb 3)) (Zk Zax (Zk Zw (Zb 2) (Zb 4)) (Zk Zw (Zk Zw (Zk Zw (Zb 0) (Zn 0)) (Zb 3)) (Zb 4))))) ZaM)) (ZI (Za3 false)) ZZ))) (ZB (Za9 (Zbc (Zf (Zu ZaP (Zf (Zb 1) Zq)) Zq)) (put1 5) (ZB (Z3 6 (Zk ZbR (Zk Zw (Zb 1) (Zb 5)) (Zk Zw (Zk Zw (Zk Zw (Zb 0) (Zn 1)) (Zb 5)) (Zn 1)))) (ZB (ZY (Zbe (ZM (Zk oEq (Zk Zw (Zk Zw (Zk Zw (Zb 0) (Zn 1)) (Zb 5)) (Zn 0)) (Zn 0))) (Zbe (ZM (Zk oNe (Zb 6) (Zn 0))) ZaM)) (ZI (Za3 false)) ZZ) (ZY (Zbe (ZM (Zk oGt (Zk Zw (Zk Zw (Zk Zw (Zb 0) (Zn 1)) (Zb 5)) (Zn 0)) (Zn 0))) (Zbe (ZM (Zk oNe (Zk oMod (Zb 6) (Zk Zw (Zk Zw (Zk Zw (Zb 0) (Zn 1)) (Zb 5)) (Zn 0))) (Zn 0))) ZaM)) (ZI (Za3 false)) ZZ)))) (ZI (Za3 true)))))
noncomputable def ZgG:=Z5 2 Zmm
noncomputable def ZgH: PS:=(Zr (ZL (Zv (Zc qIs (Za 0) (ZU))) (Zx (ZaX false)) ZN) (Zr (ZJ 2 (Zc Zad (ZbB (Zd (Zj 0) Zl)) (Za 1))) (Zr (Zav (Zaw (Zd (Zp Zaj (Zd (Za 2) Zl)) Zl)) (Z2 3) (Zav (Zaw (Zd (Zp Zaj (Zd (Za 2) Zl)) Zl)) (Z2 4) (ZL (Zah (Zv (Zc ZaU (Zc Zm (Zc Zm (Zc Zm (Za 0) (Zj 0)) (Za 3)) (Za 4)) (ZU))) (Zah (Zv (Zc qGt (Zc Zm (Za 2) (Za 3)) (Zc Zad (Zc Zm (Za 2) (Za 4)) (Zc Zm (Zc Zm (Zc Zm (Za 0) (Zj 0)) (Za 3)) (Za 4))))) Zaa)) (Zx (ZaX false)) ZN))) (Zr (Zav (Zaw (Zd (Zp Zaj (Zd (Za 1) Zl)) Zl)) (Z2 5) (Zr (ZJ 6 (Zc ZaZ (Zc Zm (Za 1) (Za 5)) (Zc Zm (Zc Zm (Zc Zm (Za 0) (Zj 1)) (Za 5)) (Zj 1)))) (Zr (ZL (Zah (Zv (Zc qEq (Zc Zm (Zc Zm (Zc Zm (Za 0) (Zj 1)) (Za 5)) (Zj 0)) (Zj 0))) (Zah (Zv (Zc qNe (Za 6) (Zj 0))) Zaa)) (Zx (ZaX false)) ZN) (ZL (Zah (Zv (Zc qGt (Zc Zm (Zc Zm (Zc Zm (Za 0) (Zj 1)) (Za 5)) (Zj 0)) (Zj 0))) (Zah (Zv (Zc qNe (Zc ZaW (Za 6) (Zc Zm (Zc Zm (Zc Zm (Za 0) (Zj 1)) (Za 5)) (Zj 0))) (Zj 0))) Zaa)) (Zx (ZaX false)) ZN)))) (Zx (ZaX true))))))
noncomputable def Zc4:=Z0 2 ZgH
theorem Zmn: SimF false ZgG Zc4:=Zaf (show S [] [] [] false Zmm ZgH from(ZH (Z9 (ZQ (ZF Zcc (Ze 0) (Zap))) (ZV (E.bool _)) Z8) (ZH (Zag (O':=[]) (Zal ZaL (E.list (Zh (Zo _) Zs)) (Ze 1))) (ZH (ZbF (Gs.range (Zh (ZaF Za5 (Zh (Ze 2) Zs)) Zs)) PutOk.one (by decide) (by decide) (ZbF (Gs.range (Zh (ZaF Za5 (Zh (Ze 2) Zs)) Zs)) PutOk.one (by decide) (by decide) (Z9 (Zbn (ZQ (ZF Zda (ZD ZC (ZD ZC (ZD ZC (Ze 0) (Zo _)) (Ze 3)) (Ze 4)) (Zap))) (Zbn (ZQ (ZF Zd8 (ZD ZC (Ze 2) (Ze 3)) (Zal ZaL (ZD ZC (Ze 2) (Ze 4)) (ZD ZC (ZD ZC (ZD ZC (Ze 0) (Zo _)) (Ze 3)) (Ze 4))))) Zba)) (ZV (E.bool _)) Z8))) (ZH (ZbF (Gs.range (Zh (ZaF Za5 (Zh (Ze 1) Zs)) Zs)) PutOk.one (by decide) (by decide) (ZH (Zag (O':=[]) (ZF Zb2 (ZD ZC (Ze 1) (Ze 5)) (ZD ZC (ZD ZC (ZD ZC (Ze 0) (Zo _)) (Ze 5)) (Zo _)))) (ZH (Z9 (Zbn (ZQ (ZF Zat (ZD ZC (ZD ZC (ZD ZC (Ze 0) (Zo _)) (Ze 5)) (Zo _)) (Zo _))) (Zbn (ZQ (ZF ZcF (Ze 6) (Zo _))) Zba)) (ZV (E.bool _)) Z8) (Z9 (Zbn (ZQ (ZF Zd8 (ZD ZC (ZD ZC (ZD ZC (Ze 0) (Zo _)) (Ze 5)) (Zo _)) (Zo _))) (Zbn (ZQ (ZF ZcF (ZF Zbk (Ze 6) (ZD ZC (ZD ZC (ZD ZC (Ze 0) (Zo _)) (Ze 5)) (Zo _))) (Zo _))) Zba)) (ZV (E.bool _)) Z8)))) (ZV (E.bool _)))))))
noncomputable def ZiA: Sm:=Zc1 (Zu ZiT (Zf (Zk Zw (Zk Zw (Zb 0) (Zb 1)) (Zb 2)) (Zf (Zb 3) Zq))) (Zk Zw (Zb 0) (Zb 1)) (Zb 2)
noncomputable def ZgI:=Z5 4 ZiA
noncomputable def Zmo: PS:=(Zbq 0 [] (ZbP (Zp Zg3 (Zd (Zc Zm (Zc Zm (Za 0) (Za 1)) (Za 2)) (Zd (Za 3) Zl)))) (ZdC ZaY (Za 1)) (Za 2))
noncomputable def Zfv:=Zfg 4 Zmo
theorem Zmp: SimM ZgI Zfv:=ZnP (show S [0] [0] [0] false ZiA Zmo from(S.put (O':=[0]) (by decide) (Zcy (O':=[]) (E.flat (ZO Zqo (Zh (ZD ZC (ZD ZC (Ze 0) (Ze 1)) (Ze 2)) (Zh (Ze 3) Zs))))) (ZxF Zdc (Ze 1)) (Ze 2) (by decide) (by decide))) (by decide) (by unfold ZiA;repeat' first | exact Keep0.next | exact ZmN | exact Keep0.ret | exact Keep0.put | apply Keep0.seq | apply ZmO | exact Keep0.set (by decide))
noncomputable def Zm0: Sm:=ZB (Z3 3 (Zk Zax (Zca (Zf (Zu ZeD (Zf (Zb 0) (Zf (Zb 1) Zq))) Zq)) (Zk Zbw (Zca (Zf (Zn 0) Zq)) (Zb 2)))) (ZB (Z3 4 (Zu Zb5 (Zf (Zb 0) (Zf (Zb 1) (Zf (Zn 6) Zq))))) (ZB (ZY (tOr (ZM (Zk oEq (Zb 4) (Zn 0))) (tOr (ZM (Zk oEq (Zb 2) (Zn 0))) Zb9)) (ZI (Zb 3)) ZZ) (ZB (Z3 5 (Zk Zax (Zn 1) (Zu Zb5 (Zf (Zb 0) (Zf (Zk Zax (Zb 1) (Zn 1)) (Zf (Zb 2) Zq)))))) (ZB (ZY (ZM (Zk oEq (Zb 4) (Zn 1))) (Zc1 (Zk ZbR (Zu Zb5 (Zf (Zb 0) (Zf (Zk Zax (Zb 1) (Zn 2)) (Zf (Zn 13) Zq)))) (Zn 6)) (Zb 3) (Zb 5)) ZZ) (ZB (ZY (tOr (ZM (Zk oEq (Zb 4) (Zn 2))) (tOr (ZM (Zk oEq (Zb 4) (Zn 3))) Zb9)) (ZB (Z3 6 (Zk Zax (Zn 1) (Zu Zb5 (Zf (Zb 0) (Zf (Zk Zax (Zb 1) (Zn 2)) (Zf (Zb 2) Zq)))))) (ZB (Zc1 (Zn 1) (Zb 3) (Zb 5)) (Zc1 (Zk ZbR (Zk Zw (Zb 3) (Zb 6)) (Zn 1)) (Zb 3) (Zb 6)))) ZZ) (ZB (ZY (ZM (Zk oEq (Zb 4) (Zn 4))) (Za9 (Zbc (Zf (Zb 2) Zq)) (put1 7) (Zc1 (Zk ZbR (Zu Zb5 (Zf (Zb 0) (Zf (Zk Zax (Zk Zax (Zb 1) (Zn 1)) (Zb 7)) (Zf (Zn 7) Zq)))) (Zn 3)) (Zb 3) (Zk Zax (Zb 7) (Zn 1)))) ZZ) (ZB (ZY (ZM (Zk oEq (Zb 4) (Zn 5))) (Za9 (Zbc (Zf (Zb 2) Zq)) (put1 7) (Zc1 (Zk ZbR (Zu Zb5 (Zf (Zb 0) (Zf (Zk Zax (Zk Zax (Zb 1) (Zn 1)) (Zb 7)) (Zf (Zn 2000000001) Zq)))) (Zn 1000000000)) (Zb 3) (Zk Zax (Zb 7) (Zn 1)))) ZZ) (ZI (Zb 3)))))))))
noncomputable def Zm1:=Z5 3 Zm0
noncomputable def Zm2: PS:=(Zr (ZJ 3 (pFl (Zc Zad (ZbB (Zd (Zp Zed (Zd (Za 0) (Zd (Za 1) Zl))) Zl)) (Zc ZaH (ZbB (Zd (Zj 0) Zl)) (Za 2))))) (Zr (ZJ 4 (Zp ZbK (Zd (Za 0) (Zd (Za 1) (Zd (Zj 6) Zl))))) (Zr (ZL (bOr (Zv (Zc qEq (Za 4) (Zj 0))) (bOr (Zv (Zc qEq (Za 2) (Zj 0))) ZbO)) (Zx (Za 3)) ZN) (Zr (ZJ 5 (Zc Zad (Zj 1) (Zp ZbK (Zd (Za 0) (Zd (Zc Zad (Za 1) (Zj 1)) (Zd (Za 2) Zl)))))) (Zr (ZL (Zv (Zc qEq (Za 4) (Zj 1))) (Zbq 3 [] (Zc ZaZ (Zp ZbK (Zd (Za 0) (Zd (Zc Zad (Za 1) (Zj 2)) (Zd (Zj 13) Zl)))) (Zj 6)) ZaY (Za 5)) ZN) (Zr (ZL (bOr (Zv (Zc qEq (Za 4) (Zj 2))) (bOr (Zv (Zc qEq (Za 4) (Zj 3))) ZbO)) (Zr (ZJ 6 (Zc Zad (Zj 1) (Zp ZbK (Zd (Za 0) (Zd (Zc Zad (Za 1) (Zj 2)) (Zd (Za 2) Zl)))))) (Zr (Zbq 3 [] (Zj 1) ZaY (Za 5)) (Zbq 3 [] (Zc ZaZ (Zc Zm (Za 3) (Za 6)) (Zj 1)) ZaY (Za 6)))) ZN) (Zr (ZL (Zv (Zc qEq (Za 4) (Zj 4))) (Zav (Zaw (Zd (Za 2) Zl)) (Z2 7) (Zbq 3 [] (Zc ZaZ (Zp ZbK (Zd (Za 0) (Zd (Zc Zad (Zc Zad (Za 1) (Zj 1)) (Za 7)) (Zd (Zj 7) Zl)))) (Zj 3)) ZaY (Zc Zad (Za 7) (Zj 1)))) ZN) (Zr (ZL (Zv (Zc qEq (Za 4) (Zj 5))) (Zav (Zaw (Zd (Za 2) Zl)) (Z2 7) (Zbq 3 [] (Zc ZaZ (Zp ZbK (Zd (Za 0) (Zd (Zc Zad (Zc Zad (Za 1) (Zj 1)) (Za 7)) (Zd (Zj 2000000001) Zl)))) (Zj 1000000000)) ZaY (Zc Zad (Za 7) (Zj 1)))) ZN) (Zx (Za 3))))))))))
noncomputable def ZiK:=Z0 3 Zm2
theorem ZuW: SimF true Zm1 ZiK:=Zaf (show S [] [3] [] true Zm0 Zm2 from(ZH (ZdZ (O':=[3]) (ZxD ZaL (E.list (Zh (ZO Zgp (Zh (Ze 0) (Zh (Ze 1) Zs))) Zs)) (Zal ZbY (E.list (Zh (Zo _) Zs)) (Ze 2)))) (ZH (Zag (O':=[3]) (ZO Zcr (Zh (Ze 0) (Zh (Ze 1) (Zh (Zo _) Zs))))) (ZH (Z9 (Zbh (ZQ (ZF Zat (Ze 4) (Zo _))) (Zbh (ZQ (ZF Zat (Ze 2) (Zo _))) ZcK)) (Za8 (E.own (by decide))) Z8) (ZH (Zag (O':=[3]) (Zal ZaL (Zo _) (ZO Zcr (Zh (Ze 0) (Zh (Zal ZaL (Ze 1) (Zo _)) (Zh (Ze 2) Zs)))))) (ZH (Z9 (ZQ (ZF Zat (Ze 4) (Zo _))) (S.put (O':=[3]) (by decide) (Zcy (O':=[]) (ZF Zb2 (ZO Zcr (Zh (Ze 0) (Zh (Zal ZaL (Ze 1) (Zo _)) (Zh (Zo _) Zs)))) (Zo _))) Zdc (Ze 5) (by decide) (by decide)) Z8) (ZH (Z9 (Zbh (ZQ (ZF Zat (Ze 4) (Zo _))) (Zbh (ZQ (ZF Zat (Ze 4) (Zo _))) ZcK)) (ZH (Zag (O':=[3]) (Zal ZaL (Zo _) (ZO Zcr (Zh (Ze 0) (Zh (Zal ZaL (Ze 1) (Zo _)) (Zh (Ze 2) Zs)))))) (ZH (S.put (O':=[3]) (by decide) (Zcy (O':=[]) (Zo _)) Zdc (Ze 5) (by decide) (by decide)) (S.put (O':=[3]) (by decide) (Zcy (O':=[]) (ZF Zb2 (ZD ZC (Ze 3) (Ze 6)) (Zo _))) Zdc (Ze 6) (by decide) (by decide)))) Z8) (ZH (Z9 (ZQ (ZF Zat (Ze 4) (Zo _))) (ZbF (Gs.range (Zh (Ze 2) Zs)) PutOk.one (by decide) (by decide) (S.put (O':=[3]) (by decide) (Zcy (O':=[]) (ZF Zb2 (ZO Zcr (Zh (Ze 0) (Zh (Zal ZaL (Zal ZaL (Ze 1) (Zo _)) (Ze 7)) (Zh (Zo _) Zs)))) (Zo _))) Zdc (Zal ZaL (Ze 7) (Zo _)) (by decide) (by decide))) Z8) (ZH (Z9 (ZQ (ZF Zat (Ze 4) (Zo _))) (ZbF (Gs.range (Zh (Ze 2) Zs)) PutOk.one (by decide) (by decide) (S.put (O':=[3]) (by decide) (Zcy (O':=[]) (ZF Zb2 (ZO Zcr (Zh (Ze 0) (Zh (Zal ZaL (Zal ZaL (Ze 1) (Zo _)) (Ze 7)) (Zh (Zo _) Zs)))) (Zo _))) Zdc (Zal ZaL (Ze 7) (Zo _)) (by decide) (by decide))) Z8) (Za8 (E.own (by decide))))))))))))
noncomputable def ZoU: PS:=(Zr (ZJ 2 (Zan (Zaw (Zd (Zj 1) (Zd (Zp Zaj (Zd (Za 1) Zl)) Zl))) (Z2 100) (Zv (Zc qGt (Zc Zm (Za 1) (Za 100)) (Zj 0))) (Za 100))) (Zr (ZJ 3 (Zan (Zaw (Zd (Zj 1) (Zd (Zp Zaj (Zd (Za 1) Zl)) Zl))) (Z2 102) (Zv (Zc qLt (Zc Zm (Za 1) (Za 102)) (Zj 0))) (Za 102))) (Zr (ZL (Zah (Zv (Zc qEq (Zp Zaj (Zd (Za 2) Zl)) (Zj 1))) (Zah (Zv (Zc qEq (Zp Zaj (Zd (Za 3) Zl)) (Zj 1))) (Zah (Zv (Zc qEq (Zc Zm (Za 1) (Zc Zm (Za 2) (Zj 0))) (Zj 1))) (Zah (Zv (Zc qEq (Zc Zm (Za 1) (Zc Zm (Za 3) (Zj 0))) (pUn Za0 (Zj 1)))) Zaa)))) (Zr (ZL (Zv (Zc qIs (Zc Zm (Zc Zm (Zc Zm (Za 0) (Zj 0)) (Zc Zm (Za 2) (Zj 0))) (Zc Zm (Za 3) (Zj 0))) (ZU))) (Zx (ZU)) ZN) (Zx (Zc Zad (Zc Zm (Zc Zm (Zc Zm (Za 0) (Zj 0)) (Zc Zm (Za 2) (Zj 0))) (Zc Zm (Za 3) (Zj 0))) (Zc Zm (Za 1) (Zj 0))))) ZN) (Zr (ZJ 4 (Zc Zad (Zan (ZaD (Za 2)) (Z2 104) Zaa (Zc Zm (Zc Zm (Zc Zm (Za 0) (Zj 0)) (Za 104)) (Zj 0))) (Zan (ZaD (Za 3)) (Z2 106) Zaa (Zc Zm (Zc Zm (Zc Zm (Za 0) (Zj 0)) (Zj 0)) (Za 106))))) (Zr (ZL (Zv (Zc qIn (ZU) (Za 4))) (Zx (ZU)) ZN) (Zr (ZJ 5 (Zc Zm (Za 1) (Zj 0))) (Zr (Zav (ZaD (Za 2)) (Z2 6) (ZJ 5 (Zc Zad (Za 5) (Zc ZaH (Zc Zm (Za 1) (Za 6)) (Zc Zm (Zc Zm (Zc Zm (Za 0) (Zj 0)) (Za 6)) (Zj 0)))))) (Zr (Zav (ZaD (Za 3)) (Z2 6) (ZJ 5 (Zc ZaZ (Za 5) (Zc ZaH (Zc Zm (Za 1) (Za 6)) (Zc Zm (Zc Zm (Zc Zm (Za 0) (Zj 0)) (Zj 0)) (Za 6)))))) (Zx (Za 5))))))))))
noncomputable def Zeb:=Z0 2 ZoU
noncomputable def Zj3: Sm:=ZI (Zk oEq (Zu ZfT (Zf (Za4 (ZcR (Zd3 (Zb 0) 1)) (put1 100) (ZM (Zk oNe (Zb 100) (Zn 0))) (Zb 100)) Zq)) (Zca (Zf (eUn Zcb (Zn 1)) (Zf (Zn 1) Zq))))
noncomputable def Zj4:=Z5 1 Zj3
noncomputable def Zj5: PS:=(Zx (Zc qEq (Zp ZeT (Zd (Zan (ZaD (Zds (Za 0) 1)) (Z2 100) (Zv (Zc qNe (Za 100) (Zj 0))) (Za 100)) Zl)) (ZbB (Zd (pUn Za0 (Zj 1)) (Zd (Zj 1) Zl)))))
noncomputable def ZhP:=Z0 1 Zj5
theorem Zsy: SimF false Zj4 ZhP:=Zaf (show S [] [] [] false Zj3 Zj5 from(ZV (ZF Zat (Zi1 Zqn (Zh (ZcW (Gs.seq (Zjo (Ze 0))) PutOk.one (by decide) (ZQ (ZF ZcF (Ze 100) (Zo _))) (Ze 100)) Zs)) (E.list (Zh (Zcz ZcA (Zo _)) (Zh (Zo _) Zs))))))
noncomputable def Zkr: Sm:=ZB (Z3 1 (Zk Zw (Zb 0) (Zn 0))) (ZI (Za4 (Zbc (Zf (Zn 1) (Zf (Zu ZaP (Zf (Zb 1) Zq)) Zq))) (put1 100) ZaM (ZaV (Zf (Zu Zfp (Zf (Zk Zw (Zk Zw (Zb 1) (Zn 0)) (Zb 100)) (Zf (eUn Zcb (Zn 1)) Zq))) (Zf (Zk Zw (Zk Zw (Zb 1) (Zb 100)) (Zn 0)) Zq)))))
noncomputable def Zks:=Z5 1 Zkr
noncomputable def Zkt: PS:=(Zr (ZJ 1 (Zc Zm (Za 0) (Zj 0))) (Zx (Zan (Zaw (Zd (Zj 1) (Zd (Zp Zaj (Zd (Za 1) Zl)) Zl))) (Z2 100) Zaa (ZaS (Zd (Zp ZeG (Zd (Zc Zm (Zc Zm (Za 1) (Zj 0)) (Za 100)) (Zd (pUn Za0 (Zj 1)) Zl))) (Zd (Zc Zm (Zc Zm (Za 1) (Za 100)) (Zj 0)) Zl))))))
noncomputable def ZhV:=Z0 1 Zkt
theorem ZsN: SimF false Zks ZhV:=Zaf (show S [] [] [] false Zkr Zkt from(ZH (Zag (O':=[]) (ZD ZC (Ze 0) (Zo _))) (ZV (ZcW (Gs.range (Zh (Zo _) (Zh (ZaF Za5 (Zh (Ze 1) Zs)) Zs))) PutOk.one (by decide) Zba (E.tup (Zh (ZO Zil (Zh (ZD ZC (ZD ZC (Ze 1) (Zo _)) (Ze 100)) (Zh (Zcz ZcA (Zo _)) Zs))) (Zh (ZD ZC (ZD ZC (Ze 1) (Ze 100)) (Zo _)) Zs)))))))
noncomputable def Zmq: Sm:=ZB (ZY (ZM (Zu Zj4 (Zf (Zb 1) Zq))) (ZI (Zu Zei (Zf (Zk Zw (Zk Zw (Zk Zw (Zb 0) (Zn 0)) (Zhp (Zb 1) (Zn 1) (Zn 1))) (Zhp (Zb 1) (eUn Zcb (Zn 1)) (Zn 1))) (Zf (Zk Zw (Zb 1) (Zn 0)) Zq)))) ZZ) (ZI (Zk Zw (Zu ZkE (Zf (Zb 1) (Zf (Zu Zks (Zf (Zb 0) Zq)) Zq))) (Zn 1)))
noncomputable def ZgJ:=Z5 2 Zmq
noncomputable def Zmr: PS:=(Zr (ZL (Zv (Zp ZhP (Zd (Za 1) Zl))) (Zx (Zp ZdQ (Zd (Zc Zm (Zc Zm (Zc Zm (Za 0) (Zj 0)) (Zhq (Za 1) (Zj 1) (Zj 1))) (Zhq (Za 1) (pUn Za0 (Zj 1)) (Zj 1))) (Zd (Zc Zm (Za 1) (Zj 0)) Zl)))) ZN) (Zx (Zc Zm (Zp Zh0 (Zd (Za 1) (Zd (Zp ZhV (Zd (Za 0) Zl)) Zl))) (Zj 1))))
noncomputable def Zfw:=Z0 2 Zmr
theorem Zms: SimF false ZgJ Zfw:=Zaf (show S [] [] [] false Zmq Zmr from(ZH (Z9 (ZQ (ZO Zsy (Zh (Ze 1) Zs))) (ZV (ZO Zft (Zh (ZD ZC (ZD ZC (ZD ZC (Ze 0) (Zo _)) (E.index (Ze 1) (Zo _) (Zo _))) (E.index (Ze 1) (Zcz ZcA (Zo _)) (Zo _))) (Zh (ZD ZC (Ze 1) (Zo _)) Zs)))) Z8) (ZV (ZD ZC (ZO Zs6 (Zh (Ze 1) (Zh (ZO ZsN (Zh (Ze 0) Zs)) Zs))) (Zo _)))))
noncomputable def ZlF: Sm:=ZI (Za4 (ZcR (Zb 0)) (put1 100) ZaM (Zk Zbw (Zb 100) (Zb 1)))
noncomputable def ZdN:=Z5 2 ZlF
noncomputable def ZlG: PS:=(Zx (Zan (ZaD (Za 0)) (Z2 100) Zaa (Zc ZaH (Za 100) (Za 1))))
noncomputable def Zdu:=Z0 2 ZlG
theorem ZeH: SimF false ZdN Zdu:=Zaf (show S [] [] [] false ZlF ZlG from(ZV (ZcW (Gs.seq (Ze 0)) PutOk.one (by decide) Zba (Zal ZbY (Ze 100) (Ze 1)))))
noncomputable def ZnW: Sm:=ZI (Zu Zfp (Zf (Zu ZgJ (Zf (Zb 0) (Zf (Zu ZdN (Zf (Zb 1) (Zf (eUn Zcb (Zn 1)) Zq))) Zq))) (Zf (eUn Zcb (Zn 1)) Zq)))
noncomputable def ZnX:=Z5 2 ZnW
noncomputable def ZnY: PS:=(Zx (Zp ZeG (Zd (Zp Zfw (Zd (Za 0) (Zd (Zp Zdu (Zd (Za 1) (Zd (pUn Za0 (Zj 1)) Zl))) Zl))) (Zd (pUn Za0 (Zj 1)) Zl))))
noncomputable def Zhg:=Z0 2 ZnY
theorem ZwV: SimF false ZnX Zhg:=Zaf (show S [] [] [] false ZnW ZnY from(ZV (ZO Zil (Zh (ZO Zms (Zh (Ze 0) (Zh (ZO ZeH (Zh (Ze 1) (Zh (Zcz ZcA (Zo _)) Zs))) Zs))) (Zh (Zcz ZcA (Zo _)) Zs)))))
noncomputable def ZlH: Sm:=ZI (Zk Zax (Zk Zw (Zb 0) (Zn 0)) (Zu ZhE (Zf (Za4 (Zbc (Zf (Zu ZaP (Zf (Zb 1) Zq)) Zq)) (put1 100) ZaM (Zk Zbw (Zk Zw (Zb 0) (Zk Zax (Zb 100) (Zn 1))) (Zk Zw (Zb 1) (Zb 100)))) Zq)))
noncomputable def Zim:=Z5 2 ZlH
noncomputable def ZlI: PS:=(Zx (Zc Zad (Zc Zm (Za 0) (Zj 0)) (Zp ZjP (Zd (Zan (Zaw (Zd (Zp Zaj (Zd (Za 1) Zl)) Zl)) (Z2 100) Zaa (Zc ZaH (Zc Zm (Za 0) (Zc Zad (Za 100) (Zj 1))) (Zc Zm (Za 1) (Za 100)))) Zl))))
noncomputable def ZdO:=Z0 2 ZlI
theorem Zpk: SimF false Zim ZdO:=Zaf (show S [] [] [] false ZlH ZlI from(ZV (Zal ZaL (ZD ZC (Ze 0) (Zo _)) (ZaF Zyx (Zh (ZcW (Gs.range (Zh (ZaF Za5 (Zh (Ze 1) Zs)) Zs)) PutOk.one (by decide) Zba (Zal ZbY (ZD ZC (Ze 0) (Zal ZaL (Ze 100) (Zo _))) (ZD ZC (Ze 1) (Ze 100)))) Zs)))))
noncomputable def Zmt: Sm:=ZI (Za4 (Zd5 (Zb 0) (Zb 1)) (Zcl 100 101) ZaM (Zk Zax (Zb 100) (Zb 101)))
noncomputable def Zmu:=Z5 2 Zmt
noncomputable def Zmv: PS:=(Zx (Zan (Zd9 (Za 0) (Za 1)) (Zc0 100 101) Zaa (Zc Zad (Za 100) (Za 101))))
noncomputable def ZiB:=Z0 2 Zmv
theorem Zuh: SimF false Zmu ZiB:=Zaf (show S [] [] [] false Zmt Zmv from(ZV (ZcW (Gs.zip (Ze 0) (Ze 1)) PutOk.two (by decide) Zba (Zal ZaL (Ze 100) (Ze 101)))))
noncomputable def Zmw: Sm:=ZI (Zu Zmu (Zf (Zb 0) (Zf (Zu ZdN (Zf (Zb 1) (Zf (eUn Zcb (Zn 1)) Zq))) Zq)))
noncomputable def ZgK:=Z5 2 Zmw
noncomputable def Zmx: PS:=(Zx (Zp ZiB (Zd (Za 0) (Zd (Zp Zdu (Zd (Za 1) (Zd (pUn Za0 (Zj 1)) Zl))) Zl))))
noncomputable def Zfx:=Z0 2 Zmx
theorem Zmy: SimF false ZgK Zfx:=Zaf (show S [] [] [] false Zmw Zmx from(ZV (ZO Zuh (Zh (Ze 0) (Zh (ZO ZeH (Zh (Ze 1) (Zh (Zcz ZcA (Zo _)) Zs))) Zs)))))
noncomputable def Zm3: Sm:=ZI (Za4 (Zbc (Zf (Zk Zax (Zb 1) (Zn 1)) Zq)) (put1 100) ZaM (eIf (Zbe (ZM (Zk oGt (Zb 0) (Zn 0))) (Zbe (ZM (Zk oEq (Zb 100) (Zb 0))) ZaM)) (Zn 1) (Zn 0)))
noncomputable def ZfG:=Z5 2 Zm3
noncomputable def Zm4: PS:=(Zx (Zan (Zaw (Zd (Zc Zad (Za 1) (Zj 1)) Zl)) (Z2 100) Zaa (pIf (Zah (Zv (Zc qGt (Za 0) (Zj 0))) (Zah (Zv (Zc qEq (Za 100) (Za 0))) Zaa)) (Zj 1) (Zj 0))))
noncomputable def ZeP:=Z0 2 Zm4
theorem ZiL: SimF false ZfG ZeP:=Zaf (show S [] [] [] false Zm3 Zm4 from(ZV (ZcW (Gs.range (Zh (Zal ZaL (Ze 1) (Zo _)) Zs)) PutOk.one (by decide) Zba (Ze8 (Zbn (ZQ (ZF Zd8 (Ze 0) (Zo _))) (Zbn (ZQ (ZF Zat (Ze 100) (Ze 0))) Zba)) (E.sh (Zo _)) (E.sh (Zo _))))))
noncomputable def ZoV: PS:=(Zr (ZJ 2 (Zj 0)) (Zr (ZJ 3 (Zc Zm (Za 0) (Zj 0))) (Zr (Zav (Zaw (Zd (Zp Zaj (Zd (Za 1) Zl)) Zl)) (Z2 4) (Zr (ZJ 2 (Zp ZgQ (Zd (Za 2) (Zd (Zc ZaH (Zc Zm (Za 0) (Zc Zad (Za 4) (Zj 1))) (Zc Zm (Zc Zm (Za 1) (Za 4)) (Zj 0))) Zl)))) (ZJ 3 (Zc Zad (Za 3) (Zc ZaH (Zc Zm (Za 0) (Zc Zad (Za 4) (Zj 1))) (Zc Zm (Zc Zm (Za 1) (Za 4)) (Zj 1))))))) (Zx (Zp ZdL (Zd (Za 2) (Zd (Za 3) Zl)))))))
noncomputable def ZhW:=Z0 2 ZoV
noncomputable def Zk5: Sm:=ZI (Zu Zei (Zf (Zu ZgJ (Zf (Zb 0) (Zf (Zu ZgK (Zf (Zb 1) (Zf (Zb 2) Zq))) Zq))) (Zf (Zb 3) Zq)))
noncomputable def Zib:=Z5 4 Zk5
noncomputable def Zk6: PS:=(Zx (Zp ZdQ (Zd (Zp Zfw (Zd (Za 0) (Zd (Zp Zfx (Zd (Za 1) (Zd (Za 2) Zl))) Zl))) (Zd (Za 3) Zl))))
noncomputable def Zgr:=Z0 4 Zk6
theorem Zo6: SimF false Zib Zgr:=Zaf (show S [] [] [] false Zk5 Zk6 from(ZV (ZO Zft (Zh (ZO Zms (Zh (Ze 0) (Zh (ZO Zmy (Zh (Ze 1) (Zh (Ze 2) Zs))) Zs))) (Zh (Ze 3) Zs)))))
noncomputable def Zh2: Sm:=ZB (Z3 4 (Zu ZaP (Zf (Zk Zw (Zb 1) (Zn 1)) Zq))) (Za9 (Zbc (Zf (Zk Zax (Zb 4) (Zn 1)) Zq)) (put1 5) (Za9 (Zbc (Zf (Zk Zax (Zb 4) (Zn 1)) Zq)) (put1 6) (ZB (Z3 7 (Zu ZgK (Zf (Zu ZfG (Zf (Zb 5) (Zf (Zb 4) Zq))) (Zf (Zu ZfG (Zf (Zb 6) (Zf (Zb 4) Zq))) Zq)))) (ZcE (Zu ZgI (Zf (Zb 0) (Zf (Zb 5) (Zf (Zb 6) (Zf (Zu Zib (Zf (Zb 1) (Zf (Zb 7) (Zf (Zb 2) (Zf (Zb 3) Zq))))) Zq)))))))))
noncomputable def ZkN:=Z5 4 Zh2
noncomputable def ZkO: PS:=(Zr (ZJ 4 (Zp Zaj (Zd (Zc Zm (Za 1) (Zj 1)) Zl))) (Zav (Zaw (Zd (Zc Zad (Za 4) (Zj 1)) Zl)) (Z2 5) (Zav (Zaw (Zd (Zc Zad (Za 4) (Zj 1)) Zl)) (Z2 6) (Zr (ZJ 7 (Zp Zfx (Zd (Zp ZeP (Zd (Za 5) (Zd (Za 4) Zl))) (Zd (Zp ZeP (Zd (Za 6) (Zd (Za 4) Zl))) Zl)))) (ZeA 0 Zfv (Zd (Za 5) (Zd (Za 6) (Zd (Zp Zgr (Zd (Za 1) (Zd (Za 7) (Zd (Za 2) (Zd (Za 3) Zl))))) Zl))))))))
noncomputable def Zh3:=Zfg 4 ZkO
theorem Zs9: SimM ZkN Zh3:=ZnP (show S [0] [0] [0] false Zh2 ZkO from(ZH (Zag (O':=[0]) (ZaF Za5 (Zh (ZD ZC (Ze 1) (Zo _)) Zs))) (ZbF (Gs.range (Zh (Zal ZaL (Ze 4) (Zo _)) Zs)) PutOk.one (by decide) (by decide) (ZbF (Gs.range (Zh (Zal ZaL (Ze 4) (Zo _)) Zs)) PutOk.one (by decide) (by decide) (ZH (Zag (O':=[0]) (ZO Zmy (Zh (ZO ZiL (Zh (Ze 5) (Zh (Ze 4) Zs))) (Zh (ZO ZiL (Zh (Ze 6) (Zh (Ze 4) Zs))) Zs)))) (Zhn (O':=[0]) (by decide) Zmp (Zh (Ze 5) (Zh (Ze 6) (Zh (ZO Zo6 (Zh (Ze 1) (Zh (Ze 7) (Zh (Ze 2) (Zh (Ze 3) Zs))))) Zs))) (by decide) (by decide))))))) (by decide) (by unfold Zh2;repeat' first | exact Keep0.next | exact ZmN | exact Keep0.ret | exact Keep0.put | apply Keep0.seq | apply ZmO | exact Keep0.set (by decide) | apply ZpW (ZpA (by decide)))
noncomputable def Zk7: Sm:=ZB (ZY (ZM (Zk oIs (Zb 0) (Zac))) (ZI (Zac)) ZZ) (ZI (Zk oDiv (Zb 0) (Zb 1)))
noncomputable def Zic:=Z5 2 Zk7
noncomputable def Zk8: PS:=(Zr (ZL (Zv (Zc qIs (Za 0) (ZU))) (Zx (ZU)) ZN) (Zx (Zc Zcm (Za 0) (Za 1))))
noncomputable def Zgs:=Z0 2 Zk8
theorem Zo7: SimF false Zic Zgs:=Zaf (show S [] [] [] false Zk7 Zk8 from(ZH (Z9 (ZQ (ZF Zcc (Ze 0) (Zap))) (ZV (Zap)) Z8) (ZV (ZF Ze9 (Ze 0) (Ze 1)))))
noncomputable def Zh4: Sm:=ZB (Z3 4 (Zu ZaP (Zf (Zk Zw (Zb 1) (Zn 1)) Zq))) (Za9 (Zbc (Zf (Zn 1) (Zf (Zk Zax (Zb 4) (Zn 1)) Zq))) (put1 5) (ZB (Z3 6 (Zk Zw (Zb 2) (Zb 5))) (ZB (Z3 7 (Zu Zib (Zf (Zb 1) (Zf (Zu ZdN (Zf (Zu ZfG (Zf (Zb 5) (Zf (Zb 4) Zq))) (Zf (Zb 6) Zq))) (Zf (Zb 2) (Zf (Zb 3) Zq)))))) (ZB (ZY (ZM (Zk oGt (Zb 6) (Zn 0))) (ZcE (Zu ZgI (Zf (Zb 0) (Zf (Zb 5) (Zf (Zn 0) (Zf (Zu Zic (Zf (Zb 7) (Zf (Zb 6) Zq))) Zq)))))) ZZ) (ZY (ZM (Zk oLt (Zb 6) (Zn 0))) (ZcE (Zu ZgI (Zf (Zb 0) (Zf (Zn 0) (Zf (Zb 5) (Zf (Zu Zic (Zf (Zb 7) (Zf (eUn Zcb (Zb 6)) Zq))) Zq)))))) ZZ)))))
noncomputable def ZkP:=Z5 4 Zh4
noncomputable def ZkQ: PS:=(Zr (ZJ 4 (Zp Zaj (Zd (Zc Zm (Za 1) (Zj 1)) Zl))) (Zav (Zaw (Zd (Zj 1) (Zd (Zc Zad (Za 4) (Zj 1)) Zl))) (Z2 5) (Zr (ZJ 6 (Zc Zm (Za 2) (Za 5))) (Zr (ZJ 7 (Zp Zgr (Zd (Za 1) (Zd (Zp Zdu (Zd (Zp ZeP (Zd (Za 5) (Zd (Za 4) Zl))) (Zd (Za 6) Zl))) (Zd (Za 2) (Zd (Za 3) Zl)))))) (Zr (ZL (Zv (Zc qGt (Za 6) (Zj 0))) (ZeA 0 Zfv (Zd (Za 5) (Zd (Zj 0) (Zd (Zp Zgs (Zd (Za 7) (Zd (Za 6) Zl))) Zl)))) ZN) (ZL (Zv (Zc qLt (Za 6) (Zj 0))) (ZeA 0 Zfv (Zd (Zj 0) (Zd (Za 5) (Zd (Zp Zgs (Zd (Za 7) (Zd (pUn Za0 (Za 6)) Zl))) Zl)))) ZN))))))
noncomputable def Zh5:=Zfg 4 ZkQ
theorem Zta: SimM ZkP Zh5:=ZnP (show S [0] [0] [0] false Zh4 ZkQ from(ZH (Zag (O':=[0]) (ZaF Za5 (Zh (ZD ZC (Ze 1) (Zo _)) Zs))) (ZbF (Gs.range (Zh (Zo _) (Zh (Zal ZaL (Ze 4) (Zo _)) Zs))) PutOk.one (by decide) (by decide) (ZH (Zag (O':=[0]) (ZD ZC (Ze 2) (Ze 5))) (ZH (Zag (O':=[0]) (ZO Zo6 (Zh (Ze 1) (Zh (ZO ZeH (Zh (ZO ZiL (Zh (Ze 5) (Zh (Ze 4) Zs))) (Zh (Ze 6) Zs))) (Zh (Ze 2) (Zh (Ze 3) Zs)))))) (ZH (Z9 (ZQ (ZF Zd8 (Ze 6) (Zo _))) (Zhn (O':=[0]) (by decide) Zmp (Zh (Ze 5) (Zh (Zo _) (Zh (ZO Zo7 (Zh (Ze 7) (Zh (Ze 6) Zs))) Zs))) (by decide) (by decide)) Z8) (Z9 (ZQ (ZF ZdH (Ze 6) (Zo _))) (Zhn (O':=[0]) (by decide) Zmp (Zh (Zo _) (Zh (Ze 5) (Zh (ZO Zo7 (Zh (Ze 7) (Zh (Zcz ZcA (Ze 6)) Zs))) Zs))) (by decide) (by decide)) Z8))))))) (by decide) (by unfold Zh4;repeat' first | exact Keep0.next | exact ZmN | exact Keep0.ret | exact Keep0.put | apply Keep0.seq | apply ZmO | exact Keep0.set (by decide) | apply ZpW (ZpA (by decide)))
noncomputable def Zm5: Sm:=ZB (ZY (tOr (ZM (Zk oIs (Zb 0) (Zac))) (tOr (ZM (Zu ZmW (Zf (Zu ZnX (Zf (Zb 0) (Zf (Zb 1) Zq))) (Zf (Zb 2) Zq)))) Zb9)) (ZI (Zac)) ZZ) (ZB (Z3 3 (Zu Zhf (Zf (Zk Zw (Zb 0) (Zn 0)) Zq))) (ZB (ZcE (Zu ZkN (Zf (Zb 3) (Zf (Zb 0) (Zf (Zb 1) (Zf (Zb 2) Zq)))))) (ZB (ZcE (Zu ZkP (Zf (Zb 3) (Zf (Zb 0) (Zf (Zb 1) (Zf (Zb 2) Zq)))))) (ZI (Zu Zja (Zf (ZaV (Zf (Zb 3) (Zf (Zk Zw (Zb 0) (Zn 1)) Zq))) Zq))))))
noncomputable def ZeQ:=Z5 3 Zm5
noncomputable def ZgS: PS:=(Zr (ZL (bOr (Zv (Zc qIs (Za 0) (ZU))) (bOr (Zv (Zp ZfE (Zd (Zp Zhg (Zd (Za 0) (Zd (Za 1) Zl))) (Zd (Za 2) Zl)))) ZbO)) (Zx (ZU)) ZN) (Zr (ZJ 3 (Zp ZeU (Zd (Zc Zm (Za 0) (Zj 0)) Zl))) (Zr (ZeA 3 Zh3 (Zd (Za 0) (Zd (Za 1) (Zd (Za 2) Zl)))) (Zr (ZeA 3 Zh5 (Zd (Za 0) (Zd (Za 1) (Zd (Za 2) Zl)))) (Zx (Zp ZdU (Zd (ZaS (Zd (Za 3) (Zd (Zc Zm (Za 0) (Zj 1)) Zl))) Zl)))))))
noncomputable def Zb6:=Z0 3 ZgS
theorem ZgT: SimF true ZeQ Zb6:=Zaf (show S [] [3] [] true Zm5 ZgS from(ZH (Z9 (Zbh (ZQ (ZF Zcc (Ze 0) (Zap))) (Zbh (ZQ (ZO ZuU (Zh (ZO ZwV (Zh (Ze 0) (Zh (Ze 1) Zs))) (Zh (Ze 2) Zs)))) ZcK)) (Za8 (Zap)) Z8) (ZH (ZdZ (O':=[3]) (ZbA ZnV (Zh (ZD ZC (Ze 0) (Zo _)) Zs))) (ZH (Zhn (O':=[3]) (by decide) Zs9 (Zh (Ze 0) (Zh (Ze 1) (Zh (Ze 2) Zs))) (by decide) (by decide)) (ZH (Zhn (O':=[3]) (by decide) Zta (Zh (Ze 0) (Zh (Ze 1) (Zh (Ze 2) Zs))) (by decide) (by decide)) (Za8 (ZbA Zq4 (Zh (E.tup (Zh (Ze 3) (Zh (ZD ZC (Ze 0) (Zo _)) Zs))) Zs))))))))
noncomputable def Zk9: Sm:=ZB (ZY (ZM (Zb 2)) (ZI (Zu ZeQ (Zf (Zb 0) (Zf (Zb 1) (Zf (eUn Zcb (Zn 1)) Zq))))) ZZ) (ZI (Zu ZeQ (Zf (Zb 0) (Zf (Zu ZdN (Zf (Zb 1) (Zf (eUn Zcb (Zn 1)) Zq))) (Zf (Zn 0) Zq)))))
noncomputable def Zla:=Z5 3 Zk9
noncomputable def Zid: PS:=(Zr (ZL (Zv (Za 2)) (Zx (Zp Zb6 (Zd (Za 0) (Zd (Za 1) (Zd (pUn Za0 (Zj 1)) Zl))))) ZN) (Zx (Zp Zb6 (Zd (Za 0) (Zd (Zp Zdu (Zd (Za 1) (Zd (pUn Za0 (Zj 1)) Zl))) (Zd (Zj 0) Zl))))))
noncomputable def ZeE:=Z0 3 Zid
theorem Ztv: SimF true Zla ZeE:=Zaf (show S [] [] [] true Zk9 Zid from(ZH (Z9 (ZQ (Ze 2)) (Za8 (ZbA ZgT (Zh (Ze 0) (Zh (Ze 1) (Zh (Zcz ZcA (Zo _)) Zs))))) Z8) (Za8 (ZbA ZgT (Zh (Ze 0) (Zh (ZO ZeH (Zh (Ze 1) (Zh (Zcz ZcA (Zo _)) Zs))) (Zh (Zo _) Zs)))))))
noncomputable def Zj6: Sm:=ZI (Zu Zf1 (Zf (Zu ZgR (Zf (Zk Zw (Zb 0) (Zn 0)) (Zf (Zb 1) Zq))) (Zf (Zk Zw (Zb 0) (Zn 1)) Zq)))
noncomputable def ZhQ:=Z5 2 Zj6
noncomputable def Zj7: PS:=(Zx (Zp Ze3 (Zd (Zp ZfD (Zd (Zc Zm (Za 0) (Zj 0)) (Zd (Za 1) Zl))) (Zd (Zc Zm (Za 0) (Zj 1)) Zl))))
noncomputable def Zgh:=Z0 2 Zj7
theorem ZoO: SimF false ZhQ Zgh:=Zaf (show S [] [] [] false Zj6 Zj7 from(ZV (ZO Zjr (Zh (ZO ZmR (Zh (ZD ZC (Ze 0) (Zo _)) (Zh (Ze 1) Zs))) (Zh (ZD ZC (Ze 0) (Zo _)) Zs)))))
noncomputable def ZkR: Sm:=ZB (Z3 4 (Zk Zw (Zb 1) (Zb 3))) (ZB (Z3 5 (Zk Zw (Zb 0) (Zk ZbR (Zb 3) (Zn 1)))) (ZB (ZY (ZM (Zk oNe (Zu Zdi (Zf (Zb 4) Zq)) (Zn 1))) (ZI (Zb 5)) ZZ) (ZB (Z3 6 (Zu ZgK (Zf (Zb 1) (Zf (Zu ZdN (Zf (Zu ZfG (Zf (Zb 3) (Zf (Zu ZaP (Zf (Zb 0) Zq)) Zq))) (Zf (Zb 4) Zq))) Zq)))) (ZI (Zu Zix (Zf (Zb 5) (Zf (Zu ZhQ (Zf (Zu Zgq (Zf (Zu Zfu (Zf (Zb 6) (Zf (Zb 0) Zq))) (Zf (eUn Zcb (Zb 4)) Zq))) (Zf (Zb 2) Zq))) Zq)))))))
noncomputable def ZkS:=Z5 4 ZkR
noncomputable def ZkT: PS:=(Zr (ZJ 4 (Zc Zm (Za 1) (Za 3))) (Zr (ZJ 5 (Zc Zm (Za 0) (Zc ZaZ (Za 3) (Zj 1)))) (Zr (ZL (Zv (Zc qNe (Zp ZcG (Zd (Za 4) Zl)) (Zj 1))) (Zx (Za 5)) ZN) (Zr (ZJ 6 (Zp Zfx (Zd (Za 1) (Zd (Zp Zdu (Zd (Zp ZeP (Zd (Za 3) (Zd (Zp Zaj (Zd (Za 0) Zl)) Zl))) (Zd (Za 4) Zl))) Zl)))) (Zx (Zp ZgF (Zd (Za 5) (Zd (Zp Zgh (Zd (Zp Zfl (Zd (Zp ZeM (Zd (Za 6) (Zd (Za 0) Zl))) (Zd (pUn Za0 (Za 4)) Zl))) (Zd (Za 2) Zl))) Zl))))))))
noncomputable def Zgo:=Z0 4 ZkT
theorem Ztb: SimF false ZkS Zgo:=Zaf (show S [] [] [] false ZkR ZkT from(ZH (Zag (O':=[]) (ZD ZC (Ze 1) (Ze 3))) (ZH (Zag (O':=[]) (ZD ZC (Ze 0) (ZF Zb2 (Ze 3) (Zo _)))) (ZH (Z9 (ZQ (ZF ZcF (ZaF Zd4 (Zh (Ze 4) Zs)) (Zo _))) (ZV (Ze 5)) Z8) (ZH (Zag (O':=[]) (ZO Zmy (Zh (Ze 1) (Zh (ZO ZeH (Zh (ZO ZiL (Zh (Ze 3) (Zh (ZaF Za5 (Zh (Ze 0) Zs)) Zs))) (Zh (Ze 4) Zs))) Zs)))) (ZV (ZO ZpB (Zh (Ze 5) (Zh (ZO ZoO (Zh (ZO Zk1 (Zh (ZO Ziz (Zh (Ze 6) (Zh (Ze 0) Zs))) (Zh (Zcz ZcA (Ze 4)) Zs))) (Zh (Ze 2) Zs))) Zs)))))))))
noncomputable def ZlJ: Sm:=ZB (ZY (ZM (Zk oIs (Zb 0) (Zac))) (ZI (Zac)) ZZ) (ZB (Z3 3 (Za4 (Zbc (Zf (Zn 1) (Zf (Zu ZaP (Zf (Zb 1) Zq)) Zq))) (put1 100) ZaM (Zu ZkS (Zf (Zk Zw (Zb 0) (Zn 1)) (Zf (Zb 1) (Zf (Zb 2) (Zf (Zb 100) Zq))))))) (ZB (ZY (ZM (Zk oIn (Zac) (Zb 3))) (ZI (Zac)) ZZ) (ZI (Zu Zja (Zf (ZaV (Zf (Zk Zw (Zb 0) (Zn 0)) (Zf (Zb 3) Zq))) Zq)))))
noncomputable def Zin:=Z5 3 ZlJ
noncomputable def Zio: PS:=(Zr (ZL (Zv (Zc qIs (Za 0) (ZU))) (Zx (ZU)) ZN) (Zr (ZJ 3 (Zan (Zaw (Zd (Zj 1) (Zd (Zp Zaj (Zd (Za 1) Zl)) Zl))) (Z2 100) Zaa (Zp Zgo (Zd (Zc Zm (Za 0) (Zj 1)) (Zd (Za 1) (Zd (Za 2) (Zd (Za 100) Zl))))))) (Zr (ZL (Zv (Zc qIn (ZU) (Za 3))) (Zx (ZU)) ZN) (Zx (Zp ZdU (Zd (ZaS (Zd (Zc Zm (Za 0) (Zj 0)) (Zd (Za 3) Zl))) Zl))))))
noncomputable def Zdm:=Z0 3 Zio
theorem Zpl: SimF true Zin Zdm:=Zaf (show S [] [] [] true ZlJ Zio from(ZH (Z9 (ZQ (ZF Zcc (Ze 0) (Zap))) (Za8 (Zap)) Z8) (ZH (Zag (O':=[]) (ZcW (Gs.range (Zh (Zo _) (Zh (ZaF Za5 (Zh (Ze 1) Zs)) Zs))) PutOk.one (by decide) Zba (ZO Ztb (Zh (ZD ZC (Ze 0) (Zo _)) (Zh (Ze 1) (Zh (Ze 2) (Zh (Ze 100) Zs))))))) (ZH (Z9 (ZQ (ZF ZjS (Zap) (Ze 3))) (Za8 (Zap)) Z8) (Za8 (ZbA Zq4 (Zh (E.tup (Zh (ZD ZC (Ze 0) (Zo _)) (Zh (Ze 3) Zs))) Zs)))))))
noncomputable def ZlK: Sm:=ZB (ZY (ZbC (ZM (Zu ZeL (Zf (Zu ZhQ (Zf (Zu Zfu (Zf (Zb 1) (Zf (Zk Zw (Zb 0) (Zn 1)) Zq))) (Zf (Zb 2) Zq))) (Zf (Zn 0) Zq))))) (ZI (Zac)) ZZ) (ZI (Zu Zin (Zf (Zb 0) (Zf (Zb 1) (Zf (Zb 2) Zq)))))
noncomputable def Zip:=Z5 3 ZlK
noncomputable def Ziq: PS:=(Zr (ZL (Zbp (Zv (Zp Zeh (Zd (Zp Zgh (Zd (Zp ZeM (Zd (Za 1) (Zd (Zc Zm (Za 0) (Zj 1)) Zl))) (Zd (Za 2) Zl))) (Zd (Zj 0) Zl))))) (Zx (ZU)) ZN) (Zx (Zp Zdm (Zd (Za 0) (Zd (Za 1) (Zd (Za 2) Zl))))))
noncomputable def ZeI:=Z0 3 Ziq
theorem Zpm: SimF true Zip ZeI:=Zaf (show S [] [] [] true ZlK Ziq from(ZH (Z9 (ZbW (ZQ (ZO ZgE (Zh (ZO ZoO (Zh (ZO Ziz (Zh (Ze 1) (Zh (ZD ZC (Ze 0) (Zo _)) Zs))) (Zh (Ze 2) Zs))) (Zh (Zo _) Zs))))) (Za8 (Zap)) Z8) (Za8 (ZbA Zpl (Zh (Ze 0) (Zh (Ze 1) (Zh (Ze 2) Zs)))))))
noncomputable def Zj8: Sm:=ZB (ZY (ZM (Zu Zky (Zf (Zu Zfu (Zf (Zb 1) (Zf (Zk Zw (Zb 0) (Zn 1)) Zq))) (Zf (ZaV (Zf (Zb 2) (Zf (Zn 0) Zq))) Zq)))) (ZI (Zac)) ZZ) (ZB (ZY (ZM (Zk oEq (Zb 2) (Zn 2))) (ZI (Zu Zip (Zf (Zb 0) (Zf (Zk Zax (Zca (Zf (Zk Zax (Zk Zw (Zb 1) (Zn 0)) (Zn 1)) Zq)) (Zd3 (Zb 1) 1)) (Zf (Zn 2) Zq))))) ZZ) (ZI (Zu Zhf (Zf (Zb 0) Zq))))
noncomputable def Zj9:=Z5 3 Zj8
noncomputable def Zgi: PS:=(Zr (ZL (Zv (Zp ZhY (Zd (Zp ZeM (Zd (Za 1) (Zd (Zc Zm (Za 0) (Zj 1)) Zl))) (Zd (ZaS (Zd (Za 2) (Zd (Zj 0) Zl))) Zl)))) (Zx (ZU)) ZN) (Zr (ZL (Zv (Zc qEq (Za 2) (Zj 2))) (Zx (Zp ZeI (Zd (Za 0) (Zd (Zc Zad (ZbB (Zd (Zc Zad (Zc Zm (Za 1) (Zj 0)) (Zj 1)) Zl)) (Zds (Za 1) 1)) (Zd (Zj 2) Zl))))) ZN) (Zx (Zp ZeU (Zd (Za 0) Zl)))))
noncomputable def ZeB:=Z0 3 Zgi
theorem Zsz: SimF true Zj9 ZeB:=Zaf (show S [] [] [] true Zj8 Zgi from(ZH (Z9 (ZQ (ZO Zs4 (Zh (ZO Ziz (Zh (Ze 1) (Zh (ZD ZC (Ze 0) (Zo _)) Zs))) (Zh (E.tup (Zh (Ze 2) (Zh (Zo _) Zs))) Zs)))) (Za8 (Zap)) Z8) (ZH (Z9 (ZQ (ZF Zat (Ze 2) (Zo _))) (Za8 (ZbA Zpm (Zh (Ze 0) (Zh (Zal ZaL (E.list (Zh (Zal ZaL (ZD ZC (Ze 1) (Zo _)) (Zo _)) Zs)) (Zjo (Ze 1))) (Zh (Zo _) Zs))))) Z8) (Za8 (ZbA ZnV (Zh (Ze 0) Zs))))))
noncomputable def ZlL: Sm:=ZB (ZY (ZbC (ZM (Zu ZeL (Zf (Zu Zfu (Zf (Zb 1) (Zf (Zk Zw (Zb 0) (Zn 1)) Zq))) (Zf (Zn 0) Zq))))) (ZI (Zac)) ZZ) (ZB (Z3 2 (Zu ZeQ (Zf (Zu ZeQ (Zf (Zb 0) (Zf (Zb 1) (Zf (Zn 0) Zq)))) (Zf (Zu ZdN (Zf (Zb 1) (Zf (eUn Zcb (Zn 1)) Zq))) (Zf (Zn 0) Zq))))) (ZI (Zu Zin (Zf (Zb 2) (Zf (Zb 1) (Zf (Zn 0) Zq))))))
noncomputable def ZlM:=Z5 2 ZlL
noncomputable def Zir: PS:=(Zr (ZL (Zbp (Zv (Zp Zeh (Zd (Zp ZeM (Zd (Za 1) (Zd (Zc Zm (Za 0) (Zj 1)) Zl))) (Zd (Zj 0) Zl))))) (Zx (ZU)) ZN) (Zr (ZJ 2 (Zp Zb6 (Zd (Zp Zb6 (Zd (Za 0) (Zd (Za 1) (Zd (Zj 0) Zl)))) (Zd (Zp Zdu (Zd (Za 1) (Zd (pUn Za0 (Zj 1)) Zl))) (Zd (Zj 0) Zl))))) (Zx (Zp Zdm (Zd (Za 2) (Zd (Za 1) (Zd (Zj 0) Zl)))))))
noncomputable def Zeg:=Z0 2 Zir
theorem ZtR: SimF true ZlM Zeg:=Zaf (show S [] [] [] true ZlL Zir from(ZH (Z9 (ZbW (ZQ (ZO ZgE (Zh (ZO Ziz (Zh (Ze 1) (Zh (ZD ZC (Ze 0) (Zo _)) Zs))) (Zh (Zo _) Zs))))) (Za8 (Zap)) Z8) (ZH (Zag (O':=[]) (ZO ZgT (Zh (ZO ZgT (Zh (Ze 0) (Zh (Ze 1) (Zh (Zo _) Zs)))) (Zh (ZO ZeH (Zh (Ze 1) (Zh (Zcz ZcA (Zo _)) Zs))) (Zh (Zo _) Zs))))) (Za8 (ZbA Zpl (Zh (Ze 2) (Zh (Ze 1) (Zh (Zo _) Zs))))))))
noncomputable def Zmz: Sm:=ZB (ZY (Zbe (ZM (Zk ZcO (Zb 0) (Zac))) (Zbe (ZM (Zu Zii (Zf (Zu ZgJ (Zf (Zb 0) (Zf (Zb 1) Zq))) (Zf (Zn 0) Zq)))) ZaM)) (ZI (Zu ZeQ (Zf (Zb 0) (Zf (Zb 1) (Zf (eUn Zcb (Zn 1)) Zq))))) ZZ) (ZI (Zb 0))
noncomputable def ZiC:=Z5 2 Zmz
noncomputable def ZgL: PS:=(Zr (ZL (Zah (Zv (Zc ZaU (Za 0) (ZU))) (Zah (Zv (Zp Zgx (Zd (Zp Zfw (Zd (Za 0) (Zd (Za 1) Zl))) (Zd (Zj 0) Zl)))) Zaa)) (Zx (Zp Zb6 (Zd (Za 0) (Zd (Za 1) (Zd (pUn Za0 (Zj 1)) Zl))))) ZN) (Zx (Za 0)))
noncomputable def Zdx:=Z0 2 ZgL
theorem ZpD: SimF false ZiC Zdx:=Zaf (show S [] [] [] false Zmz ZgL from(ZH (Z9 (Zbn (ZQ (ZF Zda (Ze 0) (Zap))) (Zbn (ZQ (ZO Zph (Zh (ZO Zms (Zh (Ze 0) (Zh (Ze 1) Zs))) (Zh (Zo _) Zs)))) Zba)) (ZV (ZO ZgT (Zh (Ze 0) (Zh (Ze 1) (Zh (Zcz ZcA (Zo _)) Zs))))) Z8) (ZV (Ze 0))))
noncomputable def Zka: Sm:=ZI (Zu Zhf (Zf (Zu ZiC (Zf (Zu ZiC (Zf (Zb 0) (Zf (Zb 1) Zq))) (Zf (Zu ZdN (Zf (Zb 1) (Zf (eUn Zcb (Zn 1)) Zq))) Zq))) Zq))
noncomputable def Zkb:=Z5 2 Zka
noncomputable def Zkc: PS:=(Zx (Zp ZeU (Zd (Zp Zdx (Zd (Zp Zdx (Zd (Za 0) (Zd (Za 1) Zl))) (Zd (Zp Zdu (Zd (Za 1) (Zd (pUn Za0 (Zj 1)) Zl))) Zl))) Zl)))
noncomputable def Zfi:=Z0 2 Zkc
theorem ZsA: SimF true Zkb Zfi:=Zaf (show S [] [] [] true Zka Zkc from(Za8 (ZbA ZnV (Zh (ZO ZpD (Zh (ZO ZpD (Zh (Ze 0) (Zh (Ze 1) Zs))) (Zh (ZO ZeH (Zh (Ze 1) (Zh (Zcz ZcA (Zo _)) Zs))) Zs))) Zs))))
noncomputable def Zoj: Sm:=ZB (ZY (ZM (Zk oIs (Zb 0) (Zac))) (ZI (Zac)) ZZ) (ZB (ZY (ZM (Zk oEq (Zk Zw (Zb 1) (Zn 0)) (ZcB (Str.ofString "under")))) (ZI (Zu Zla (Zf (Zb 0) (Zf (Zk Zw (Zb 1) (Zn 1)) (Zf (Zb 2) Zq))))) ZZ) (ZB (ZY (ZM (Zk oEq (Zk Zw (Zb 1) (Zn 0)) (ZcB (Str.ofString "same")))) (ZI (eIf (ZM (Zb 2)) (Zu ZlM (Zf (Zb 0) (Zf (Zk Zw (Zb 1) (Zn 1)) Zq))) (Zu Zkb (Zf (Zb 0) (Zf (Zk Zw (Zb 1) (Zn 1)) Zq))))) ZZ) (ZI (eIf (ZM (Zb 2)) (Zu Zip (Zf (Zb 0) (Zf (Zk Zw (Zb 1) (Zn 1)) (Zf (Zk Zw (Zb 1) (Zn 2)) Zq)))) (Zu Zj9 (Zf (Zb 0) (Zf (Zk Zw (Zb 1) (Zn 1)) (Zf (Zk Zw (Zb 1) (Zn 2)) Zq))))))))
noncomputable def Zok:=Z5 3 Zoj
noncomputable def Zhr: PS:=(Zr (ZL (Zv (Zc qIs (Za 0) (ZU))) (Zx (ZU)) ZN) (Zr (ZL (Zv (Zc qEq (Zc Zm (Za 1) (Zj 0)) (Zc2 (Str.ofString "under")))) (Zx (Zp ZeE (Zd (Za 0) (Zd (Zc Zm (Za 1) (Zj 1)) (Zd (Za 2) Zl))))) ZN) (Zr (ZL (Zv (Zc qEq (Zc Zm (Za 1) (Zj 0)) (Zc2 (Str.ofString "same")))) (Zx (pIf (Zv (Za 2)) (Zp Zeg (Zd (Za 0) (Zd (Zc Zm (Za 1) (Zj 1)) Zl))) (Zp Zfi (Zd (Za 0) (Zd (Zc Zm (Za 1) (Zj 1)) Zl))))) ZN) (Zx (pIf (Zv (Za 2)) (Zp ZeI (Zd (Za 0) (Zd (Zc Zm (Za 1) (Zj 1)) (Zd (Zc Zm (Za 1) (Zj 2)) Zl)))) (Zp ZeB (Zd (Za 0) (Zd (Zc Zm (Za 1) (Zj 1)) (Zd (Zc Zm (Za 1) (Zj 2)) Zl)))))))))
noncomputable def Zcu:=Z0 3 Zhr
theorem Zye: SimF true Zok Zcu:=Zaf (show S [] [] [] true Zoj Zhr from(ZH (Z9 (ZQ (ZF Zcc (Ze 0) (Zap))) (Za8 (Zap)) Z8) (ZH (Z9 (ZQ (ZF Zat (ZD ZC (Ze 1) (Zo _)) (E.str _))) (Za8 (ZbA Ztv (Zh (Ze 0) (Zh (ZD ZC (Ze 1) (Zo _)) (Zh (Ze 2) Zs))))) Z8) (ZH (Z9 (ZQ (ZF Zat (ZD ZC (Ze 1) (Zo _)) (E.str _))) (Za8 (Ze8 (ZQ (Ze 2)) (ZbA ZtR (Zh (Ze 0) (Zh (ZD ZC (Ze 1) (Zo _)) Zs))) (ZbA ZsA (Zh (Ze 0) (Zh (ZD ZC (Ze 1) (Zo _)) Zs))))) Z8) (Za8 (Ze8 (ZQ (Ze 2)) (ZbA Zpm (Zh (Ze 0) (Zh (ZD ZC (Ze 1) (Zo _)) (Zh (ZD ZC (Ze 1) (Zo _)) Zs)))) (ZbA Zsz (Zh (Ze 0) (Zh (ZD ZC (Ze 1) (Zo _)) (Zh (ZD ZC (Ze 1) (Zo _)) Zs))))))))))
noncomputable def ZpE: PS:=(Zr (ZJ 3 (pFl (Zp Zch (Zd (Za 0) Zl)))) (Zr (ZL (Zv (Zc qGt (Za 1) (Zj 0))) (Zbq 3 [] (pFl (Zc Zad (Zc Zm (Za 3) (Za 1)) (Za 2))) ZaY (Za 1)) ZN) (Zx (Za 3))))
noncomputable def ZeN:=Z0 3 ZpE
noncomputable def Zo8: PS:=(Zr (ZL (Zv (Zc qIs (Za 0) (ZU))) (Zx (Za 1)) ZN) (Zr (ZL (Zv (Zc qIs (Za 1) (ZU))) (Zx (Za 0)) ZN) (Zx (Zp Zsd (Zd (Za 0) (Zd (Za 1) Zl))))))
noncomputable def Zfm:=Z0 2 Zo8
noncomputable def Zh6: PS:=(Zr (ZL (Zv (Zc qIs (Za 0) (ZU))) (Zx (ZU)) ZN) (Zr (ZJ 3 (Zan (ZaD (Za 1)) (Z2 100) Zaa (pUn Za0 (Za 100)))) (Zr (ZJ 4 (Zp Zeb (Zd (Za 0) (Zd (Za 3) Zl)))) (Zr (ZL (Zah (Zv (Zc ZaU (Za 4) (ZU))) (Zah (Zv (Zc qGt (pUn Za0 (Za 4)) (Za 2))) Zaa)) (Zx (ZU)) ZN) (Zr (ZJ 5 (Zan (ZaD (Zc Zm (Za 0) (Zj 0))) (Z2 102) Zaa (pFl (Zp Zch (Zd (Za 102) Zl))))) (Zr (Zav (Zaw (Zd (Zp Zaj (Zd (Za 5) Zl)) Zl)) (Z2 6) (Zav (Zaw (Zd (Zp Zaj (Zd (Za 5) Zl)) Zl)) (Z2 7) (Zr (ZJ 4 (Zp Zeb (Zd (Za 0) (Zd (Zp ZeN (Zd (Zp ZeN (Zd (Za 3) (Zd (Za 6) (Zd (Zj 1) Zl)))) (Zd (Za 7) (Zd (pUn Za0 (Zj 1)) Zl)))) Zl)))) (ZL (Zah (Zv (Zc qNe (Za 6) (Za 7))) (Zah (Zv (Zc ZaU (Za 4) (ZU))) Zaa)) (Zbq 5 [] (ZbP (Zp Zfm (Zd (Zc Zm (Zc Zm (Za 5) (Za 6)) (Za 7)) (Zd (Zc Zad (Za 4) (Za 2)) Zl)))) (ZdC ZaY (Za 6)) (Za 7)) ZN)))) (Zr (Zav (Zaw (Zd (Zj 1) (Zd (Zp Zaj (Zd (Za 5) Zl)) Zl))) (Z2 6) (Zr (ZJ 4 (Zp Zeb (Zd (Za 0) (Zd (Zp ZeN (Zd (Za 3) (Zd (Za 6) (Zd (Zc Zm (Za 1) (Za 6)) Zl)))) Zl)))) (Zr (ZL (Zah (Zv (Zc qGt (Zc Zm (Za 1) (Za 6)) (Zj 0))) (Zah (Zv (Zc ZaU (Za 4) (ZU))) Zaa)) (Zbq 5 [] (ZbP (Zp Zfm (Zd (Zc Zm (Zc Zm (Za 5) (Za 6)) (Zj 0)) (Zd (Zc Zcm (Zc Zad (Za 4) (Za 2)) (Zc Zm (Za 1) (Za 6))) Zl)))) (ZdC ZaY (Za 6)) (Zj 0)) ZN) (ZL (Zah (Zv (Zc qLt (Zc Zm (Za 1) (Za 6)) (Zj 0))) (Zah (Zv (Zc ZaU (Za 4) (ZU))) Zaa)) (Zbq 5 [] (ZbP (Zp Zfm (Zd (Zc Zm (Zc Zm (Za 5) (Zj 0)) (Za 6)) (Zd (Zc Zcm (Zc Zad (Za 4) (Za 2)) (Zp ZcG (Zd (Zc Zm (Za 1) (Za 6)) Zl))) Zl)))) (ZdC ZaY (Zj 0)) (Za 6)) ZN)))) (Zx (Zp Zef (Zd (ZaS (Zd (Za 5) (Zd (Zc Zm (Za 0) (Zj 1)) Zl))) Zl))))))))))
noncomputable def ZcH:=Z0 3 Zh6
noncomputable def ZpF: PS:=(Zr (ZJ 3 (pFl (Zp Zch (Zd (Zc Zm (Za 0) (Zj 1)) Zl)))) (Zr (Zav (Zaw (Zd (Zj 1) (Zd (Zp Zaj (Zd (Za 1) Zl)) Zl))) (Z2 4) (Zr (ZJ 5 (Zc Zm (Za 1) (Za 4))) (ZL (bOr (Zv (Zc qEq (Za 5) (Zj 1))) (bOr (Zv (Zc qEq (Za 5) (pUn Za0 (Zj 1)))) ZbO)) (Zr (ZJ 6 (Zp ZhW (Zd (Zp ZeN (Zd (Za 1) (Zd (Za 4) (Zd (pUn Za0 (Za 5)) Zl)))) (Zd (Zc Zm (Za 0) (Zj 1)) Zl)))) (Zr (ZJ 6 (Zp ZdL (Zd (Zp ZgQ (Zd (Zc Zm (Za 6) (Zj 0)) (Zd (Za 2) Zl))) (Zd (Zc ZaH (pUn Za0 (Za 5)) (Zc Zm (Za 6) (Zj 1))) Zl)))) (Zbq 3 [] (ZbP (Zp ZiJ (Zd (Zc Zm (Za 3) (Zc ZaZ (Za 4) (Zj 1))) (Zd (Za 6) Zl)))) ZaY (Zc ZaZ (Za 4) (Zj 1))))) ZN))) (Zr (ZL (Zv (Zc qIn (ZU) (Za 3))) (Zx (ZU)) ZN) (Zx (Zp Zef (Zd (ZaS (Zd (Zc Zm (Za 0) (Zj 0)) (Zd (Za 3) Zl))) Zl))))))
noncomputable def ZeO:=Z0 3 ZpF
noncomputable def Zkd: PS:=(Zr (ZL (Zv (Zc qNe (Zc Zm (Zp ZhW (Zd (Za 1) (Zd (Zc Zm (Za 0) (Zj 1)) Zl))) (Zj 1)) (Zj 0))) (Zx (ZU)) ZN) (Zr (ZJ 2 (Zp ZcH (Zd (Zp ZcH (Zd (Za 0) (Zd (Za 1) (Zd (Zj 0) Zl)))) (Zd (Zan (ZaD (Za 1)) (Z2 100) Zaa (pUn Za0 (Za 100))) (Zd (Zj 0) Zl))))) (Zr (ZL (Zv (Zc qIs (Za 2) (ZU))) (Zx (ZU)) ZN) (Zx (Zp ZeO (Zd (Za 2) (Zd (Za 1) (Zd (Zj 0) Zl))))))))
noncomputable def Zgj:=Z0 2 Zkd
noncomputable def Zo9: PS:=(Zr (Zav (ZaD (ZbB (Zd (Za 1) (Zd (Zan (ZaD (Za 1)) (Z2 100) Zaa (pUn Za0 (Za 100))) Zl)))) (Z2 2) (ZL (Zv (Zc ZaU (Za 0) (ZU))) (Zr (ZJ 3 (Zp Zeb (Zd (Za 0) (Zd (Za 2) Zl)))) (ZL (Zah (Zv (Zc ZaU (Za 3) (ZU))) (Zah (Zv (Zc qLe (Za 3) (Zj 0))) Zaa)) (ZJ 0 (Zp ZcH (Zd (Za 0) (Zd (Za 2) (Zd (pUn Za0 (Zj 1)) Zl))))) ZN)) ZN)) (Zx (Za 0)))
noncomputable def Zlb:=Z0 2 Zo9
noncomputable def Zke: Sm:=ZB (Z3 2 (Zu Zm1 (Zf (Zb 0) (Zf (Zn 8) (Zf (Zu ZaP (Zf (Zb 1) Zq)) Zq))))) (ZB (ZY (ZM (Zk oGt (Zu Zb5 (Zf (Zb 0) (Zf (Zn 7) (Zf (Zn 4) Zq)))) (Zn 0))) (Zc1 (Zk ZbR (Zk Zax (Zk ZbR (Zk Zw (Zb 2) (Zn 0)) (Zu Zim (Zf (Zb 2) (Zf (Zb 1) Zq)))) (Zu Zb5 (Zf (Zb 0) (Zf (Zn 6) (Zf (Zn 5) Zq))))) (Zn 2)) (Zb 2) (Zn 0)) ZZ) (ZB (Z3 3 (Zu Zb5 (Zf (Zb 0) (Zf (Zn 13) (Zf (Zn 12) Zq))))) (ZB (ZY (ZM (Zk oEq (Zk oMod (Zb 3) (Zn 3)) (Zn 0))) (ZI (ZaV (Zf (ZcB (Str.ofString "under")) (Zf (Zb 2) Zq)))) ZZ) (ZB (ZY (ZM (Zk oEq (Zk oMod (Zb 3) (Zn 3)) (Zn 1))) (ZI (ZaV (Zf (ZcB (Str.ofString "same")) (Zf (Zb 2) Zq)))) ZZ) (ZB (ZY (ZM (Zk oEq (Zb 3) (Zn 2))) (ZI (ZaV (Zf (ZcB (Str.ofString "even")) (Zf (Zb 2) (Zf (Zu ZjB (Zf (Zn 1) (Zf (Zu Zdi (Zf (Zu ZeD (Zf (Zb 0) (Zf (Zn 1) Zq))) Zq)) Zq))) Zq))))) ZZ) (ZI (ZaV (Zf (ZcB (Str.ofString "even")) (Zf (Zb 2) (Zf (Zk Zax (Zn 1) (Zu Zb5 (Zf (Zb 0) (Zf (Zn 1) (Zf (Zn 4) Zq))))) Zq))))))))))
noncomputable def Zkf:=Z5 2 Zke
noncomputable def Zkg: PS:=(Zr (ZJ 2 (Zp ZiK (Zd (Za 0) (Zd (Zj 8) (Zd (Zp Zaj (Zd (Za 1) Zl)) Zl))))) (Zr (ZL (Zv (Zc qGt (Zp ZbK (Zd (Za 0) (Zd (Zj 7) (Zd (Zj 4) Zl)))) (Zj 0))) (Zbq 2 [] (Zc ZaZ (Zc Zad (Zc ZaZ (Zc Zm (Za 2) (Zj 0)) (Zp ZdO (Zd (Za 2) (Zd (Za 1) Zl)))) (Zp ZbK (Zd (Za 0) (Zd (Zj 6) (Zd (Zj 5) Zl))))) (Zj 2)) ZaY (Zj 0)) ZN) (Zr (ZJ 3 (Zp ZbK (Zd (Za 0) (Zd (Zj 13) (Zd (Zj 12) Zl))))) (Zr (ZL (Zv (Zc qEq (Zc ZaW (Za 3) (Zj 3)) (Zj 0))) (Zx (ZaS (Zd (Zc2 (Str.ofString "under")) (Zd (Za 2) Zl)))) ZN) (Zr (ZL (Zv (Zc qEq (Zc ZaW (Za 3) (Zj 3)) (Zj 1))) (Zx (ZaS (Zd (Zc2 (Str.ofString "same")) (Zd (Za 2) Zl)))) ZN) (Zr (ZL (Zv (Zc qEq (Za 3) (Zj 2))) (Zx (ZaS (Zd (Zc2 (Str.ofString "even")) (Zd (Za 2) (Zd (Zp ZjD (Zd (Zj 1) (Zd (Zp ZcG (Zd (Zp Zed (Zd (Za 0) (Zd (Zj 1) Zl))) Zl)) Zl))) Zl))))) ZN) (Zx (ZaS (Zd (Zc2 (Str.ofString "even")) (Zd (Za 2) (Zd (Zc Zad (Zj 1) (Zp ZbK (Zd (Za 0) (Zd (Zj 1) (Zd (Zj 4) Zl))))) Zl)))))))))))
noncomputable def ZhR:=Z0 2 Zkg
theorem ZsB: SimF false Zkf ZhR:=Zaf (show S [] [2] [] false Zke Zkg from(ZH (ZdZ (O':=[2]) (ZbA ZuW (Zh (Ze 0) (Zh (Zo _) (Zh (ZaF Za5 (Zh (Ze 1) Zs)) Zs))))) (ZH (Z9 (ZQ (ZF Zd8 (ZO Zcr (Zh (Ze 0) (Zh (Zo _) (Zh (Zo _) Zs)))) (Zo _))) (S.put (O':=[2]) (by decide) (Zcy (O':=[]) (ZF Zb2 (Zal ZaL (ZF Zb2 (ZD ZC (Ze 2) (Zo _)) (ZO Zpk (Zh (Ze 2) (Zh (Ze 1) Zs)))) (ZO Zcr (Zh (Ze 0) (Zh (Zo _) (Zh (Zo _) Zs))))) (Zo _))) Zdc (Zo _) (by decide) (by decide)) Z8) (ZH (Zag (O':=[2]) (ZO Zcr (Zh (Ze 0) (Zh (Zo _) (Zh (Zo _) Zs))))) (ZH (Z9 (ZQ (ZF Zat (ZF Zbk (Ze 3) (Zo _)) (Zo _))) (ZV (E.tup (Zh (E.str _) (Zh (Ze 2) Zs)))) Z8) (ZH (Z9 (ZQ (ZF Zat (ZF Zbk (Ze 3) (Zo _)) (Zo _))) (ZV (E.tup (Zh (E.str _) (Zh (Ze 2) Zs)))) Z8) (ZH (Z9 (ZQ (ZF Zat (Ze 3) (Zo _))) (ZV (E.tup (Zh (E.str _) (Zh (Ze 2) (Zh (ZaF ZxE (Zh (Zo _) (Zh (ZaF Zd4 (Zh (ZO Zgp (Zh (Ze 0) (Zh (Zo _) Zs))) Zs)) Zs))) Zs))))) Z8) (ZV (E.tup (Zh (E.str _) (Zh (Ze 2) (Zh (Zal ZaL (Zo _) (ZO Zcr (Zh (Ze 0) (Zh (Zo _) (Zh (Zo _) Zs))))) Zs))))))))))))
noncomputable def ZlN: Sm:=ZB (Z3 2 (Zu Zim (Zf (Zk Zw (Zb 0) (Zn 1)) (Zf (Zb 1) Zq)))) (ZB (ZY (ZM (Zk oEq (Zk Zw (Zb 0) (Zn 0)) (ZcB (Str.ofString "under")))) (ZI (Zk oLt (Zb 2) (Zn 0))) ZZ) (ZB (ZY (ZM (Zk oEq (Zk Zw (Zb 0) (Zn 0)) (ZcB (Str.ofString "same")))) (ZI (Zk oEq (Zb 2) (Zn 0))) ZZ) (ZI (Zk oEq (Zk oMod (Zb 2) (Zk Zw (Zb 0) (Zn 2))) (Zn 0)))))
noncomputable def ZlO:=Z5 2 ZlN
noncomputable def ZgA: PS:=(Zr (ZJ 2 (Zp ZdO (Zd (Zc Zm (Za 0) (Zj 1)) (Zd (Za 1) Zl)))) (Zr (ZL (Zv (Zc qEq (Zc Zm (Za 0) (Zj 0)) (Zc2 (Str.ofString "under")))) (Zx (Zc qLt (Za 2) (Zj 0))) ZN) (Zr (ZL (Zv (Zc qEq (Zc Zm (Za 0) (Zj 0)) (Zc2 (Str.ofString "same")))) (Zx (Zc qEq (Za 2) (Zj 0))) ZN) (Zx (Zc qEq (Zc ZaW (Za 2) (Zc Zm (Za 0) (Zj 2))) (Zj 0))))))
noncomputable def Zdv:=Z0 2 ZgA
theorem ZtS: SimF false ZlO Zdv:=Zaf (show S [] [] [] false ZlN ZgA from(ZH (Zag (O':=[]) (ZO Zpk (Zh (ZD ZC (Ze 0) (Zo _)) (Zh (Ze 1) Zs)))) (ZH (Z9 (ZQ (ZF Zat (ZD ZC (Ze 0) (Zo _)) (E.str _))) (ZV (ZF ZdH (Ze 2) (Zo _))) Z8) (ZH (Z9 (ZQ (ZF Zat (ZD ZC (Ze 0) (Zo _)) (E.str _))) (ZV (ZF Zat (Ze 2) (Zo _))) Z8) (ZV (ZF Zat (ZF Zbk (Ze 2) (ZD ZC (Ze 0) (Zo _))) (Zo _)))))))
noncomputable def ZlP: Sm:=ZB (Z3 2 (Za4 (ZcR (Zeo (Zk Zw (Zb 0) (Zn 1)) (Zf8 (Zn 1)) Zf7)) (put1 100) (ZM (Zk oNe (Zb 100) (Zn 0))) (Zb 100))) (ZB (ZY (ZM (Zk oEq (Zu ZaP (Zf (Zb 2) Zq)) (Zn 0))) (ZI (Za3 true)) ZZ) (ZB (ZY (Zbe (ZM (Zk oEq (Zk Zw (Zb 0) (Zn 0)) (ZcB (Str.ofString "even")))) (Zbe (ZM (Zb 1)) ZaM)) (ZI (ZcC (Zk oEq (Zu ZaP (Zf (Zb 2) Zq)) (Zn 1)) (Zk oEq (Zu Zdi (Zf (Zk Zw (Zb 2) (Zn 0)) Zq)) (Zn 1)))) ZZ) (ZB (ZY (ZM (Zk oEq (Zk Zw (Zb 0) (Zn 0)) (ZcB (Str.ofString "even")))) (ZI (eOr (Zk oEq (Zk Zw (Zb 0) (Zn 2)) (Zn 1)) (ZcC (Zk oEq (Zk Zw (Zb 0) (Zn 2)) (Zn 2)) (ZcC (Zk oEq (Zu ZaP (Zf (Zb 2) Zq)) (Zn 1)) (Zk oEq (Zu Zdi (Zf (Zk Zw (Zb 2) (Zn 0)) Zq)) (Zn 1)))))) ZZ) (ZB (ZY (Zbe (ZM (Zk oEq (Zk Zw (Zb 0) (Zn 0)) (ZcB (Str.ofString "same")))) (Zbe (ZbC (ZM (Zb 1))) ZaM)) (ZI (Za3 false)) ZZ) (ZI (eOr (Zk oEq (Zu ZaP (Zf (Zb 2) Zq)) (Zn 1)) (Zk oEq (Zu ZfT (Zf (Zb 2) Zq)) (Zca (Zf (eUn Zcb (Zn 1)) (Zf (Zn 1) Zq))))))))))
noncomputable def ZlQ:=Z5 2 ZlP
noncomputable def ZgB: PS:=(Zr (ZJ 2 (Zan (ZaD (ZfZ (Zc Zm (Za 0) (Zj 1)) (Zhj (Zj 1)) Zhi)) (Z2 100) (Zv (Zc qNe (Za 100) (Zj 0))) (Za 100))) (Zr (ZL (Zv (Zc qEq (Zp Zaj (Zd (Za 2) Zl)) (Zj 0))) (Zx (ZaX true)) ZN) (Zr (ZL (Zah (Zv (Zc qEq (Zc Zm (Za 0) (Zj 0)) (Zc2 (Str.ofString "even")))) (Zah (Zv (Za 1)) Zaa)) (Zx ((ZcS (Zc qEq (Zp Zaj (Zd (Za 2) Zl)) (Zj 1)) (Zc qEq (Zp ZcG (Zd (Zc Zm (Za 2) (Zj 0)) Zl)) (Zj 1))))) ZN) (Zr (ZL (Zv (Zc qEq (Zc Zm (Za 0) (Zj 0)) (Zc2 (Str.ofString "even")))) (Zx ((pOr (Zc qEq (Zc Zm (Za 0) (Zj 2)) (Zj 1)) ((ZcS (Zc qEq (Zc Zm (Za 0) (Zj 2)) (Zj 2)) (ZcS (Zc qEq (Zp Zaj (Zd (Za 2) Zl)) (Zj 1)) (Zc qEq (Zp ZcG (Zd (Zc Zm (Za 2) (Zj 0)) Zl)) (Zj 1)))))))) ZN) (Zr (ZL (Zah (Zv (Zc qEq (Zc Zm (Za 0) (Zj 0)) (Zc2 (Str.ofString "same")))) (Zah (Zbp (Zv (Za 1))) Zaa)) (Zx (ZaX false)) ZN) (Zx ((pOr (Zc qEq (Zp Zaj (Zd (Za 2) Zl)) (Zj 1)) (Zc qEq (Zp ZeT (Zd (Za 2) Zl)) (ZbB (Zd (pUn Za0 (Zj 1)) (Zd (Zj 1) Zl))))))))))))
noncomputable def Zdw:=Z0 2 ZgB
theorem ZtT: SimF false ZlQ Zdw:=Zaf (show S [] [] [] false ZlP ZgB from(ZH (Zag (O':=[]) (ZcW (Gs.seq (Zwq (ZD ZC (Ze 0) (Zo _)) (Pe.some (Zo _)) Pe.none)) PutOk.one (by decide) (ZQ (ZF ZcF (Ze 100) (Zo _))) (Ze 100))) (ZH (Z9 (ZQ (ZF Zat (ZaF Za5 (Zh (Ze 2) Zs)) (Zo _))) (ZV (E.bool _)) Z8) (ZH (Z9 (Zbn (ZQ (ZF Zat (ZD ZC (Ze 0) (Zo _)) (E.str _))) (Zbn (ZQ (Ze 1)) Zba)) (ZV ((ZdG (E.sh (ZF Zat (ZaF Za5 (Zh (Ze 2) Zs)) (Zo _))) (E.sh (ZF Zat (ZaF Zd4 (Zh (ZD ZC (Ze 2) (Zo _)) Zs)) (Zo _)))))) Z8) (ZH (Z9 (ZQ (ZF Zat (ZD ZC (Ze 0) (Zo _)) (E.str _))) (ZV ((ZhH (E.sh (ZF Zat (ZD ZC (Ze 0) (Zo _)) (Zo _))) (E.sh ((ZdG (E.sh (ZF Zat (ZD ZC (Ze 0) (Zo _)) (Zo _))) (ZdG (E.sh (ZF Zat (ZaF Za5 (Zh (Ze 2) Zs)) (Zo _))) (E.sh (ZF Zat (ZaF Zd4 (Zh (ZD ZC (Ze 2) (Zo _)) Zs)) (Zo _)))))))))) Z8) (ZH (Z9 (Zbn (ZQ (ZF Zat (ZD ZC (Ze 0) (Zo _)) (E.str _))) (Zbn (ZbW (ZQ (Ze 1))) Zba)) (ZV (E.bool _)) Z8) (ZV ((ZhH (E.sh (ZF Zat (ZaF Za5 (Zh (Ze 2) Zs)) (Zo _))) (E.sh (ZF Zat (Zi1 Zqn (Zh (Ze 2) Zs)) (E.list (Zh (Zcz ZcA (Zo _)) (Zh (Zo _) Zs))))))))))))))
noncomputable def Zkh: Sm:=ZB (Z3 5 (Zk oEq (Zu ZlO (Zf (Zb 1) (Zf (Zb 3) Zq))) (Zb 2))) (ZB (ZY (Zbe (ZM (Zb 5)) (Zbe (ZM (Zu ZgG (Zf (Zb 0) (Zf (Zb 3) Zq)))) ZaM)) (ZI (Zu ZgG (Zf (Zb 4) (Zf (Zb 3) Zq)))) ZZ) (ZI (eOr (Zb 5) (eOr (Zgc (Zu ZlQ (Zf (Zb 1) (Zf (Zb 2) Zq)))) (Zgc (Zu ZgG (Zf (Zb 4) (Zf (Zb 3) Zq))))))))
noncomputable def ZhS:=Z5 5 Zkh
noncomputable def Zki: PS:=(Zr (ZJ 5 (Zc qEq (Zp Zdv (Zd (Za 1) (Zd (Za 3) Zl))) (Za 2))) (Zr (ZL (Zah (Zv (Za 5)) (Zah (Zv (Zp Zc4 (Zd (Za 0) (Zd (Za 3) Zl)))) Zaa)) (Zx (Zp Zc4 (Zd (Za 4) (Zd (Za 3) Zl)))) ZN) (Zx ((pOr (Za 5) (pOr (Zge (Zp Zdw (Zd (Za 1) (Zd (Za 2) Zl)))) (Zge (Zp Zc4 (Zd (Za 4) (Zd (Za 3) Zl))))))))))
noncomputable def Zdl:=Z0 5 Zki
theorem ZoP: SimF false ZhS Zdl:=Zaf (show S [] [] [] false Zkh Zki from(ZH (Zag (O':=[]) (ZF Zat (ZO ZtS (Zh (Ze 1) (Zh (Ze 3) Zs))) (Ze 2))) (ZH (Z9 (Zbn (ZQ (Ze 5)) (Zbn (ZQ (ZO Zmn (Zh (Ze 0) (Zh (Ze 3) Zs)))) Zba)) (ZV (ZO Zmn (Zh (Ze 4) (Zh (Ze 3) Zs)))) Z8) (ZV ((ZhH (E.sh (Ze 5)) (ZhH (E.sh (Zou (ZO ZtT (Zh (Ze 1) (Zh (Ze 2) Zs))))) (E.sh (Zou (ZO Zmn (Zh (Ze 4) (Zh (Ze 3) Zs))))))))))))
noncomputable def Znv: Sm:=ZB (Z3 1 (Zk Zw (Zca (Zf (Zn 0) (Zf (Zn 1) (Zf (Zn 2) (Zf (Zn 1) (Zf (Zn 2) (Zf (Zn 1) (Zf (Zn 3) (Zf (Zn 2) (Zf (Zn 4) Zq)))))))))) (Zu Zb5 (Zf (Zb 0) (Zf (Zn 0) (Zf (Zn 9) Zq)))))) (ZB (Z3 2 (Za4 (Zbc (Zf (Zb 1) Zq)) (put1 100) ZaM (Zu ZeD (Zf (Zb 0) (Zf (Zk Zax (Zn 2) (Zb 100)) Zq))))) (ZB (Z3 3 (Zu Zl6 (Zf (Zb 0) (Zf (Zn 14) (Zf (Zb 2) Zq))))) (ZB (Z3 4 (Zu Zl9 (Zf (Zb 3) Zq))) (ZB (Z3 5 (Zu Zkf (Zf (Zb 0) (Zf (Zb 2) Zq)))) (ZB (Z3 6 (Zu Zeq (Zf (Zb 2) Zq))) (ZB (ZY (ZM (Zk oGt (Zu ZaP (Zf (Zb 2) Zq)) (Zn 0))) (ZB (Z3 7 (Zu Zb5 (Zf (Zb 0) (Zf (Zn 43) (Zf (Zu ZaP (Zf (Zb 2) Zq)) Zq))))) (Zc1 (Zk ZbR (Zk Zax (Zk Zw (Zb 6) (Zb 7)) (Zu Zb5 (Zf (Zb 0) (Zf (Zn 44) (Zf (Zn 5) Zq))))) (Zn 2)) (Zb 6) (Zb 7))) ZZ) (ZB (Za9 (ZcR (Zca (Zf (Za3 true) (Zf (Za3 false) Zq)))) (put1 8) (ZB (Z3 9 (Zu Zok (Zf (Zb 3) (Zf (Zb 5) (Zf (Zb 8) Zq))))) (ZB (ZY (tOr (Zbe (ZM (Zk ZcO (Zb 9) (Zac))) (Zbe (ZbC (ZM (Zu ZlD (Zf (Zb 9) (Zf (Zu ZaP (Zf (Zb 2) Zq)) Zq))))) ZaM)) (tOr (ZM (Zk oNe (Zb 3) (Zb 4))) Zb9)) (ZI (Za3 false)) ZZ) (ZB (ZY (tOr (ZbC (ZM (Zu ZkY (Zf (Zb 9) (Zf (Zb 3) Zq))))) (tOr (ZbC (ZM (Zu ZhS (Zf (Zb 3) (Zf (Zb 5) (Zf (Zb 8) (Zf (Zb 2) (Zf (Zb 9) Zq)))))))) Zb9)) (ZI (Za3 false)) ZZ) (ZY (ZbC (ZM (Zu ZhS (Zf (Zb 3) (Zf (Zb 5) (Zf (Zb 8) (Zf (Zb 6) (Zf (Zb 9) Zq)))))))) (ZI (Za3 false)) ZZ))))) (ZI (Za3 true)))))))))
noncomputable def Zqp:=Z5 1 Znv
noncomputable def Znw: PS:=(Zr (ZJ 1 (Zc Zm (ZbB (Zd (Zj 0) (Zd (Zj 1) (Zd (Zj 2) (Zd (Zj 1) (Zd (Zj 2) (Zd (Zj 1) (Zd (Zj 3) (Zd (Zj 2) (Zd (Zj 4) Zl)))))))))) (Zp ZbK (Zd (Za 0) (Zd (Zj 0) (Zd (Zj 9) Zl)))))) (Zr (ZJ 2 (Zan (Zaw (Zd (Za 1) Zl)) (Z2 100) Zaa (Zp Zed (Zd (Za 0) (Zd (Zc Zad (Zj 2) (Za 100)) Zl))))) (Zr (ZJ 3 (Zp Ziw (Zd (Za 0) (Zd (Zj 14) (Zd (Za 2) Zl))))) (Zr (ZJ 4 (Zp ZgD (Zd (Za 3) Zl))) (Zr (ZJ 5 (Zp ZhR (Zd (Za 0) (Zd (Za 2) Zl)))) (Zr (ZJ 6 (pFl (Zp Zch (Zd (Za 2) Zl)))) (Zr (ZL (Zv (Zc qGt (Zp Zaj (Zd (Za 2) Zl)) (Zj 0))) (Zr (ZJ 7 (Zp ZbK (Zd (Za 0) (Zd (Zj 43) (Zd (Zp Zaj (Zd (Za 2) Zl)) Zl))))) (Zbq 6 [] (Zc ZaZ (Zc Zad (Zc Zm (Za 6) (Za 7)) (Zp ZbK (Zd (Za 0) (Zd (Zj 44) (Zd (Zj 5) Zl))))) (Zj 2)) ZaY (Za 7))) ZN) (Zr (Zav (ZaD (ZbB (Zd (ZaX true) (Zd (ZaX false) Zl)))) (Z2 8) (Zr (ZJ 9 (Zp Zcu (Zd (Za 3) (Zd (Za 5) (Zd (Za 8) Zl))))) (Zr (ZL (bOr (Zah (Zv (Zc ZaU (Za 9) (ZU))) (Zah (Zbp (Zv (Zp Zfq (Zd (Za 9) (Zd (Zp Zaj (Zd (Za 2) Zl)) Zl))))) Zaa)) (bOr (Zv (Zc qNe (Za 3) (Za 4))) ZbO)) (Zx (ZaX false)) ZN) (Zr (ZL (bOr (Zbp (Zv (Zp Zee (Zd (Za 9) (Zd (Za 3) Zl))))) (bOr (Zbp (Zv (Zp Zdl (Zd (Za 3) (Zd (Za 5) (Zd (Za 8) (Zd (Za 2) (Zd (Za 9) Zl)))))))) ZbO)) (Zx (ZaX false)) ZN) (ZL (Zbp (Zv (Zp Zdl (Zd (Za 3) (Zd (Za 5) (Zd (Za 8) (Zd (Za 6) (Zd (Za 9) Zl)))))))) (Zx (ZaX false)) ZN))))) (Zx (ZaX true))))))))))
noncomputable def Znx:=Z0 1 Znw
theorem ZvL: SimF false Zqp Znx:=Zaf (show S [] [6] [] false Znv Znw from(ZH (Zag (O':=[]) (ZD ZC (E.list (Zh (Zo _) (Zh (Zo _) (Zh (Zo _) (Zh (Zo _) (Zh (Zo _) (Zh (Zo _) (Zh (Zo _) (Zh (Zo _) (Zh (Zo _) Zs)))))))))) (ZO Zcr (Zh (Ze 0) (Zh (Zo _) (Zh (Zo _) Zs)))))) (ZH (Zag (O':=[]) (ZcW (Gs.range (Zh (Ze 1) Zs)) PutOk.one (by decide) Zba (ZO Zgp (Zh (Ze 0) (Zh (Zal ZaL (Zo _) (Ze 100)) Zs))))) (ZH (Zag (O':=[]) (ZO Zud (Zh (Ze 0) (Zh (Zo _) (Zh (Ze 2) Zs))))) (ZH (Zag (O':=[]) (ZO Zue (Zh (Ze 3) Zs))) (ZH (Zag (O':=[]) (ZO ZsB (Zh (Ze 0) (Zh (Ze 2) Zs)))) (ZH (ZdZ (O':=[6]) (Zwo ZnH (Zh (Ze 2) Zs))) (ZH (Z9 (ZQ (ZF Zd8 (ZaF Za5 (Zh (Ze 2) Zs)) (Zo _))) (ZH (Zag (O':=[6]) (ZO Zcr (Zh (Ze 0) (Zh (Zo _) (Zh (ZaF Za5 (Zh (Ze 2) Zs)) Zs))))) (S.put (O':=[6]) (by decide) (Zcy (O':=[]) (ZF Zb2 (Zal ZaL (ZD ZC (Ze 6) (Ze 7)) (ZO Zcr (Zh (Ze 0) (Zh (Zo _) (Zh (Zo _) Zs))))) (Zo _))) Zdc (Ze 7) (by decide) (by decide))) Z8) (ZH (ZbF (Gs.seq (E.list (Zh (E.bool _) (Zh (E.bool _) Zs)))) PutOk.one (by decide) (by decide) (ZH (Zag (O':=[6]) (ZO Zye (Zh (Ze 3) (Zh (Ze 5) (Zh (Ze 8) Zs))))) (ZH (Z9 (Zbh (Zbn (ZQ (ZF Zda (Ze 9) (Zap))) (Zbn (ZbW (ZQ (ZO ZtQ (Zh (Ze 9) (Zh (ZaF Za5 (Zh (Ze 2) Zs)) Zs))))) Zba)) (Zbh (ZQ (ZF ZcF (Ze 3) (Ze 4))) ZcK)) (ZV (E.bool _)) Z8) (ZH (Z9 (Zbh (ZbW (ZQ (ZO Ztt (Zh (Ze 9) (Zh (Ze 3) Zs))))) (Zbh (ZbW (ZQ (ZO ZoP (Zh (Ze 3) (Zh (Ze 5) (Zh (Ze 8) (Zh (Ze 2) (Zh (Ze 9) Zs)))))))) ZcK)) (ZV (E.bool _)) Z8) (Z9 (ZbW (ZQ (ZO ZoP (Zh (Ze 3) (Zh (Ze 5) (Zh (Ze 8) (Zh (Ze 6) (Zh (Ze 9) Zs)))))))) (ZV (E.bool _)) Z8))))) (ZV (E.bool _)))))))))))
end L
end
section
set_option autoImplicit false
open PySem PySem.W PyProof.Rows PM TM My
local macro_rules | `(tactic| walk_at "tkrd") => `(tactic| first | with_reducible assumption | with_reducible exact ZbD | ((with_reducible apply ZwO); decide; walk_at "tkrd") | ((with_reducible apply Zvy); decide; walk_at "tkrd") | exact rfl | assumption)
local macro_rules | `(tactic| walk_at "tkyes") => `(tactic| first | rfl | (with_reducible assumption) | (simp only [Bool.not_eq_true', Bool.not_eq_false', decide_eq_true_eq, decide_eq_false_iff_not, beq_iff_eq, beq_eq_false_iff_ne, ne_eq, Bool.not_true, Bool.not_false, not_false_eq_true, not_true_eq_false, bne_iff_ne, Decidable.not_not, List.length_map] <;> first | done | omega | assumption))
local macro_rules | `(tactic| walk_at "tkflat") => `(tactic| first | rfl | exact ZeS | exact ZiS | exact Zpy fun i hi => by first | rfl | exact ZeS | exact ZiS)
local macro_rules | `(tactic| walk_at "tkop") => `(tactic| first | with_reducible refine ZrI ?_ | with_reducible refine ZxV ?_ | with_reducible refine ZxW ?_ | with_reducible refine ZyE ?_ | with_reducible refine ZyF ?_ | with_reducible refine ZyG ?_ | with_reducible refine tk_ge ?_ | with_reducible refine ZxY ?_ | with_reducible refine ZxZ ?_ | with_reducible refine Zx0 ?_ | with_reducible refine ZyH ?_ | with_reducible refine ZyI ?_ | with_reducible refine Zx1 ?_ | with_reducible refine tk_neb ?_ | with_reducible refine Zx2 ?_ | with_reducible refine Zx3 ?_ | with_reducible refine Zx4 ?_ | with_reducible refine Zx5 ?_ | with_reducible refine ZwA ?_ | with_reducible refine ZwB ?_ | with_reducible refine tk_notl ?_ | with_reducible refine ZwC ?_ | with_reducible refine ZwD ?_ | with_reducible refine Zx6 ?_ | with_reducible refine ZwE ?_ | ((with_reducible apply ZwF); (first | assumption | omega)) | ((with_reducible apply ZwG); (first | decide | omega); (first | decide | omega)) | ((with_reducible apply ZwH); (first | decide | omega); rfl) | ((with_reducible apply Zi8); (first | decide | omega); rfl) | ((with_reducible apply ZqU); omega) | with_reducible refine Zvt ?_ | with_reducible refine tk_list1t ?_ | with_reducible refine ZwI ?_ | with_reducible refine tk_all ?_ | with_reducible refine Zx7 ?_ | ((with_reducible apply ZxX); (first | decide | omega)))
local macro_rules | `(tactic| walk_at "tk1") => `(tactic| first | with_reducible refine ZxL ?_ | with_reducible refine Zyz ?_ | with_reducible refine Zwt ?_ | with_reducible refine ZxM ?_ | with_reducible refine ZxN ?_ | with_reducible refine Zwu ?_ | with_reducible refine Zws ?_ | with_reducible refine Zwv ?_ | with_reducible refine ZyA ?_ | with_reducible refine ZyB ?_ | with_reducible refine ZxO ?_ | with_reducible refine ZxP ?_ | with_reducible refine ZyC ?_ | with_reducible refine ZyD ?_ | with_reducible refine ZxQ ?_ | with_reducible refine Zww ?_ | with_reducible refine Zwx ?_ | with_reducible refine Zvr ?_ | with_reducible refine Zwy ?_ | with_reducible refine ZxR ?_ | with_reducible refine Zua ?_ | with_reducible refine tk_truth_n ?_ | with_reducible refine Zwz ?_ | with_reducible refine ZxS ?_ | with_reducible refine Ze1 ?_ | with_reducible refine tk_exp ?_ | with_reducible refine Zdd ?_ | with_reducible refine Zoe ?_ | with_reducible refine ZxH ?_ | with_reducible refine ZxI ?_ | with_reducible refine Zwr ?_ | with_reducible refine ZxJ ?_ | ((with_reducible apply ZxK); walk_at "tkrd") | ((with_reducible apply ZxT); walk_at "tkyes") | ((with_reducible apply ZxU); walk_at "tkyes") | ((with_reducible apply Ze2); rfl) | (refine And.intro (show T.flat _ = true by walk_at "tkflat") ?_) | (refine And.intro (show T.flatIn _ = true by walk_at "tkflat") ?_) | with_reducible refine Zhc ?_ | with_reducible refine Sq.lst ?_ | with_reducible refine Sq.tup ?_ | with_reducible refine Zvw ?_ | ((with_reducible apply Rn.one); omega) | with_reducible refine Zof ?_ | with_reducible refine ZwR ?_ | with_reducible refine ZwS ?_ | with_reducible refine ZvI ?_ | with_reducible refine Zi.eq ?_ | with_reducible refine Zi.mn ?_ | with_reducible refine Zx8 ?_ | with_reducible refine ZwM ?_ | with_reducible refine Zx9 ?_ | with_reducible refine ZwN ?_ | ((with_reducible apply ZwK); walk_at "tkrd"; (first | (rw [Zau]; omega) | (simp; done))) | ((with_reducible apply ZwL); walk_at "tkrd"; (first | (rw [Zau]; omega) | (simp; done))) | ((with_reducible apply Zvx); walk_at "tkrd"; (first | assumption | omega)) | ((with_reducible apply Zqj); walk_at "tkrd"; (first | assumption | omega); (first | assumption | omega)) | walk_at "tkop")
local macro_rules | `(tactic| walk_at "zz") => `(tactic| repeat' walk_at "tk1")
local macro_rules | `(tactic| walk_at "zr") => `(tactic| walk_at "tkrd")
namespace L
open PySem PySem.W PyProof.Rows PM TM My
variable {a:Option Int} {b i j k k' m n t:Nat} {ns:List Int} {c x:Nat→Int} {K K' M M' d r top v y:Int} {A B F G G2 w Γ:Nat→Nat→Option Int} {σ:TL} {f g:PE} {Q:T→Prop} {R R' R2 S:Nat→Int×Int} {p q:Int×Int} {β:Type} {o:Option (Int×Int)} {ts:List T} {Cl D D1 D2 T0:T} {done done':Nat→Nat→Nat→Prop} {l:List Nat} {N:TL→Prop} {P:(Nat→Int)→Prop} {I:(Nat→Nat→Option Int)→(Nat→Int×Int)→Prop} {hb:Int→Bool} {PL:Prop}
section
variable {Q:T→Prop}
theorem ZyV(h:Q (.int T9)): Pk (Zdt (.int 10) (.int 9)) Q:=by
 have:=Zyw []
 simp only[oPow]at this
 split at this
 ·rename_i hc
  refine⟨_,by simp only[Zdt];rw[if_pos hc],?_⟩
  simp only[Option.some.injEq,Prod.mk.injEq,V.int.injEq,and_true]at this
  rw[this];exact h
 ·cases this
theorem ZyM(h:Q (.int T40)): Pk (Zdt (.int 10) (.int 40)) Q:=by
 have:=ZxC []
 simp only[oPow]at this
 split at this
 ·rename_i hc
  refine⟨_,by simp only[Zdt];rw[if_pos hc],?_⟩
  simp only[Option.some.injEq,Prod.mk.injEq,V.int.injEq,and_true]at this
  rw[this];exact h
 ·cases this
theorem ZyN(h:Q (.int M9)): Pk (Zdt (.int 48271) (.int 9)) Q:=by
 have:=ZxB []
 simp only[oPow]at this
 split at this
 ·rename_i hc
  refine⟨_,by simp only[Zdt];rw[if_pos hc],?_⟩
  simp only[Option.some.injEq,Prod.mk.injEq,V.int.injEq,and_true]at this
  rw[this];exact h
 ·cases this
theorem Zel{a b:Int}(h1:-(2 ^ 64)<b)(h2:b<2 ^ 64)(h:Q (.int (a*b))): Pk (ZaH (.int a) (.int b)) Q:=Zby (ZuN h1 h2) h
theorem Zq5{a b:Int}(h1:-(2 ^ 64)<a)(h2:a<2 ^ 64)(h:Q (.int (a*b))): Pk (ZaH (.int a) (.int b)) Q:=Zby (Zt8 h1 h2) h
end
noncomputable def scr(ns:List Int): T:=.lst (ns.map T.int)
noncomputable def Lay(ns:List Int): Prop:=PyData.layable0 (.list (ns.map .int))=true
noncomputable def Zci(ns:List Int)(k:Int): Int:=k*k*7919+11+(if 0<ns.length then cellAt ns (k.fmod ns.length) 0 else 0)
theorem Zqq{k:Int}(h0:0≤k)(h9:k≤10000): Zgw [scr ns,.int k]=some (.int (Zci ns k)):=by
 apply Pk.eq
 unfold Zgw Zli Zci scr
 by_cases hl:0<ns.length
 ·have a:=Int.fmod_nonneg_of_pos k (show(0:Int)<ns.length by omega)
  have b:=Int.fmod_lt_of_pos k (show(0:Int)<ns.length by omega)
  have e:(ns.map T.int).length=ns.length:=by simp
  walk_at "zz"
  refine Zel (by omega) (by omega) ?_
  walk_at "zz"
  refine Zel (by omega) (by omega) ?_
  walk_at "zz"
  refine Zi8 (t:=.int (cellAt ns (k.fmod ns.length) 0)) (by rw[e];omega) ?_ ?_
  ·rw[e,List.getElem?_map,List.getElem?_eq_getElem (by omega),cellAt_def]
   simp only[Option.map_some,T.int.injEq,Option.some.injEq]
   rw[List.getD_eq_getElem?_getD,List.getElem?_eq_getElem (by omega)]
   rfl
  walk_at "zz"
  rw[if_pos hl]
 ·walk_at "zz"
  refine Zel (by omega) (by omega) ?_
  walk_at "zz"
  refine Zel (by omega) (by omega) ?_
  walk_at "zz"
  rw[if_neg hl]
  simp
theorem Zui{k:Int}(hL:Lay ns)(h0:0≤k)(h9:k≤10000): Builtin.Int.intBits (Zci ns k)≤2 ^ 21:=by
 unfold Zci
 have h1:0≤k*k:=Int.mul_nonneg h0 h0
 have h2:k*k≤10000*10000:=Int.mul_le_mul h9 h9 h0 (by decide)
 have hb:Builtin.Int.intBits (k*k*7919+11)≤2 ^ 20:=Nat.le_trans (intBits_le_64 (by omega) (by omega)) (by decide)
 have hc:Builtin.Int.intBits (if 0<ns.length then cellAt ns (k.fmod ns.length) 0 else 0)≤2 ^ 20:=by
  split
  ·exact(cell_at hL _).bits
  ·exact bits_zero
 exact Nat.le_trans (PM.Zvo hb hc) (by decide)
noncomputable def Zbt(ns:List Int)(k many:Int): Int:=((Zci ns k*48271).fmod 2147483647).fmod many
theorem ZcM(ns:List Int)(k:Int){many:Int}(h:0<many): 0≤Zbt ns k many∧Zbt ns k many<many:=⟨Int.fmod_nonneg_of_pos _ h,Int.fmod_lt_of_pos _ h⟩
theorem ZcN{k many:Int}(h0:0≤k)(h9:k≤10000)(hm:0<many): ZbK [scr ns,.int k,.int many]=some (.int (Zbt ns k many)):=by
 apply Pk.eq
 unfold ZbK Zl1
 walk_at "zz"
 refine Zy (Zqq h0 h9) ?_
 walk_at "zz"
 refine Zel (by decide) (by decide) ?_
 walk_at "zz"
 rfl
noncomputable def Zd0(ns:List Int)(k:Int): Int:=[3,9,T9,T40].getD (((Zci ns k*69621).fmod 2147483629).fmod 4).toNat 0
theorem Zqr(ns:List Int)(k:Int): 0<Zd0 ns k∧Zd0 ns k≤T40:=by
 unfold Zd0
 have a:=Int.fmod_nonneg_of_pos ((Zci ns k*69621).fmod 2147483629) (show(0:Int)<4 by decide)
 have b:=Int.fmod_lt_of_pos ((Zci ns k*69621).fmod 2147483629) (show(0:Int)<4 by decide)
 generalize ((Zci ns k*69621).fmod 2147483629).fmod 4=i at a b
 have h9:=T9_eq
 have h40:=Zjm
 have:i=0∨i=1∨i=2∨i=3:=by omega
 obtain rfl | rfl | rfl | rfl:=this
 ·show 0<3∧3≤T40;omega
 ·show 0<9∧9≤T40;omega
 ·show 0<T9∧T9≤T40;omega
 ·show 0<T40∧T40≤T40;omega
noncomputable def Zco(ns:List Int)(k:Int): Int:=(Zci ns k*M9).fmod (2*Zd0 ns k+1)-Zd0 ns k
theorem ZrO(ns:List Int)(k:Int): -T40≤Zco ns k∧Zco ns k≤T40:=by
 obtain⟨a,b⟩:=Zqr ns k
 have h1:=Int.fmod_nonneg_of_pos (Zci ns k*M9) (show 0<2*Zd0 ns k+1 by omega)
 have h2:=Int.fmod_lt_of_pos (Zci ns k*M9) (show 0<2*Zd0 ns k+1 by omega)
 unfold Zco
 omega
theorem ZgU{k:Int}(hL:Lay ns)(h0:0≤k)(h9:k≤10000): Zed [scr ns,.int k]=some (.int (Zco ns k)):=by
 apply Pk.eq
 unfold Zed ZkW
 have hb:=Zqf (Zui hL h0 h9) Zwn
 obtain⟨r0,r1⟩:=Zqr ns k
 have a:=Int.fmod_nonneg_of_pos ((Zci ns k*69621).fmod 2147483629) (show(0:Int)<4 by decide)
 have b:=Int.fmod_lt_of_pos ((Zci ns k*69621).fmod 2147483629) (show(0:Int)<4 by decide)
 walk_at "zz"
 refine Zy (Zqq h0 h9) ?_
 walk_at "zz"
 refine ZyV ?_
 walk_at "zz"
 refine ZyM ?_
 walk_at "zz"
 refine Zel (by decide) (by decide) ?_
 walk_at "zz"
 refine Zi8 (t:=.int (Zd0 ns k)) (by omega) ?_ ?_
 ·unfold Zd0
  have:(((Zci ns k*69621).fmod 2147483629).fmod 4).toNat<4:=by omega
  generalize (((Zci ns k*69621).fmod 2147483629).fmod 4).toNat=i at this
  match i,this with
  | 0,_=>rfl
  | 1,_=>rfl
  | 2,_=>rfl
  | 3,_=>rfl
 walk_at "zz"
 refine ZyN ?_
 walk_at "zz"
 refine Zby hb ?_
 walk_at "zz"
 refine Zq5 (by decide) (by decide) ?_
 walk_at "zz"
 rfl
noncomputable def Za6(a:Int): Int:=if a<0 then -a else a
theorem Zdy(a:Int): 0≤Za6 a:=by unfold Za6;split <;> omega
noncomputable def Zdp(ns:List Int)(k:Int): Option Int:=
 if(Zbt ns k 42).fmod 6<2 then none else if(Zbt ns k 42).fmod 6<4 then some 0 else if(Zbt ns k 42).fmod 6=4 then some ((Zbt ns k 42).fdiv 6)else some (Za6 (Zco ns k))
theorem ZvM(ns:List Int)(k:Int){c:Int}(h:Zdp ns k=some c): 0≤c∧c≤T40:=by
 have h40:=Zjm
 unfold Zdp at h
 split at h
 ·cases h
 ·split at h
  ·cases h;omega
  ·split at h
   ·cases h
    obtain⟨p0,p1⟩:=ZcM ns k (show(0:Int)<42 by decide)
    rw[Int.fdiv_eq_ediv_of_nonneg _ (by decide)]
    omega
   ·cases h
    have:=ZrO ns k
    have:=Zdy (Zco ns k)
    unfold Za6 at *
    split at * <;> omega
theorem Zp0{a b:Int}(h0:0≤b)(h1:b<2 ^ 30): Builtin.divisionGoesByPylong a b=false:=PyProof.noPylong_small (by omega)
theorem ZvN{k:Int}(hL:Lay ns)(h0:0≤k)(h9:k≤10000): Zih [scr ns,.int k]=some (oT (Zdp ns k)):=by
 apply Pk.eq
 unfold Zih Zll Zdp
 obtain⟨p0,p1⟩:=ZcM ns k (show(0:Int)<42 by decide)
 walk_at "zz"
 refine Zy (ZcN h0 h9 (by decide)) ?_
 walk_at "zz"
 refine⟨fun c=>?_,fun c=>?_⟩
 ·walk_at "zz"
  rw[if_pos (by simpa using c)];rfl
 rw[if_neg (by simpa using c)]
 walk_at "zz"
 refine⟨fun c=>?_,fun c=>?_⟩
 ·walk_at "zz"
  rw[if_pos (by simpa using c)];rfl
 rw[if_neg (by simpa using c)]
 walk_at "zz"
 refine⟨fun c=>?_,fun c=>?_⟩
 ·walk_at "zz"
  refine Zde (by decide) (Zp0 (by decide) (by decide)) ?_
  rw[if_pos (by simpa using c)];rfl
 rw[if_neg (by simpa using c)]
 walk_at "zz"
 refine Zy (ZgU hL h0 h9) ?_
 walk_at "zz"
 rfl
noncomputable def RestOk(q:Int×Int): Prop:=q.1=0∨(0<q.1∧0≤q.2∧q.2<q.1)
noncomputable def ZaK(m r:Int): Int×Int:=if m=0 then(0,r)else(m,r.fmod m)
theorem Zcf{m:Int}(h:0≤m)(r:Int): RestOk (ZaK m r):=by
 unfold RestOk ZaK
 split
 ·exact .inl rfl
 ·exact .inr ⟨by show 0<m;omega,Int.fmod_nonneg_of_pos _ (by omega),Int.fmod_lt_of_pos _ (by omega)⟩
theorem Zfy{m:Int}: ZdL [.int m,.int r]=some (ZT (ZaK m r)):=by
 apply Pk.eq
 unfold ZdL Zkw ZaK
 by_cases c:m=0
 ·walk_at "zz"
  rw[if_pos c];rfl
 ·walk_at "zz"
  rw[if_neg c];rfl
noncomputable def Zev(ns:List Int)(k x:Int): Int×Int:=
 if(Zbt ns k 60).fmod 5<2 then(1,0)else if(Zbt ns k 60).fmod 5=2 then(0,x)else if(Zbt ns k 60).fmod 5=3 then ZaK ((Zbt ns k 60).fdiv 5+1) x else ZaK (Za6 (Zco ns k)) x
noncomputable def Zai(q:Int×Int)(x:Int): Prop:=(q.1=0→x=q.2)∧(0<q.1→(x-q.2).emod q.1=0)
theorem Zqs(ns:List Int)(k:Int): 0≤(Zbt ns k 60).fdiv 5∧(Zbt ns k 60).fdiv 5<12:=by
 obtain⟨p0,p1⟩:=ZcM ns k (show(0:Int)<60 by decide)
 rw[Int.fdiv_eq_ediv_of_nonneg _ (by decide)]
 omega
theorem ZvO(ns:List Int)(k x:Int): RestOk (Zev ns k x):=by
 have:=Zqs ns k
 unfold Zev
 split
 ·exact .inr ⟨by decide,by decide,by decide⟩
 ·split
  ·exact .inl rfl
  ·split
   ·exact Zcf (by omega) x
   ·exact Zcf (Zdy _) x
theorem ZwW{k x:Int}(hL:Lay ns)(h0:0≤k)(h9:k≤10000): Ziv [scr ns,.int k,.int x]=some (ZT (Zev ns k x)):=by
 apply Pk.eq
 unfold Ziv Zl4 Zev
 obtain⟨p0,p1⟩:=ZcM ns k (show(0:Int)<60 by decide)
 walk_at "zz"
 refine Zy (ZcN h0 h9 (by decide)) ?_
 walk_at "zz"
 refine⟨fun c=>?_,fun c=>?_⟩
 ·walk_at "zz"
  rw[if_pos (by simpa using c)];rfl
 rw[if_neg (by simpa using c)]
 walk_at "zz"
 refine⟨fun c=>?_,fun c=>?_⟩
 ·walk_at "zz"
  rw[if_pos (by simpa using c)];rfl
 rw[if_neg (by simpa using c)]
 walk_at "zz"
 refine⟨fun c=>?_,fun c=>?_⟩
 ·walk_at "zz"
  refine Zde (by decide) (Zp0 (by decide) (by decide)) ?_
  walk_at "zz"
  refine Zy Zfy ?_
  rw[if_pos (by simpa using c)]
 rw[if_neg (by simpa using c)]
 walk_at "zz"
 refine Zy (ZgU hL h0 h9) ?_
 walk_at "zz"
 exact Zy Zfy rfl
noncomputable def Zas(x:Nat→Int): Nat→Int:=cn 0 x
theorem Zol(x:Nat→Int): cn (T.int 0) (fun i=>T.int (x i))=fun i=>T.int (Zas x i):=by
 funext i;cases i <;> rfl
noncomputable def Zck(ns:List Int)(k:Int)(n:Nat)(x:Nat→Int)(i j:Nat): Option Int:=if j=i then some 0 else(Zdp ns (k+i*(n+1:Nat)+j)).map fun c=>Zas x i-Zas x j+c
noncomputable def Zga(ns:List Int)(k:Int)(n:Nat)(x:Nat→Int)(t:Nat): Int×Int:=Zev ns (k+(n+1:Nat)*(n+1:Nat)+t) (x t)
theorem Zuj(ns:List Int)(k:Int)(n:Nat)(x:Nat→Int)(i:Nat): Zck ns k n x i i=some 0:=by simp[Zck]
theorem ZvP(ns:List Int)(k:Int)(n:Nat)(x:Nat→Int)(i:Nat): (fun j=>if j=i then T.int 0 else oT ((Zdp ns (k+i*(n+1:Nat)+j)).map fun c=>Zas x i-Zas x j+c))=fun j=>oT (Zck ns k n x i j):=by
 funext j
 unfold Zck
 split <;> rfl
theorem ZwX{k:Int}(hL:Lay ns)(h0:0≤k)(h9:k≤1000)(hn:n≤9): Ziw [scr ns,.int k,Zaz n x]=some (Zz n (Zck ns k n x) (Zga ns k n x)):=by
 apply Pk.eq
 unfold Ziw Zl7 Zaz
 have hq:((n+1:Nat):Int)*((n+1:Nat):Int)≤10*10:=Int.mul_le_mul (by omega) (by omega) (by omega) (by decide)
 have hq0:(0:Int)≤((n+1:Nat):Int)*((n+1:Nat):Int):=Int.mul_nonneg (by omega) (by omega)
 walk_at "zz"
 rw[Zol]
 refine Za2 (n:=n+1) (a:=fun i=>.int i) (P:=fun i σ=>σ 0=some (scr ns)∧σ 1=some (.int k)∧σ 2=some (.lst (tab n fun i=>.int (x i)))∧σ 3=some (.lst (tab (n+1) fun i=>.int (Zas x i)))∧σ 4=some (.int (n+1:Nat))∧σ 5=some (.lst (tab i fun i=>Zaq (n+1) (Zck ns k n x i)))) ?_ ⟨rfl,rfl,rfl,rfl,rfl,rfl⟩ ?_ ?_
 ·walk_at "zz"
  rfl
 ·rintro i σ hi ⟨e0,e1,e2,e3,e4,e5⟩
  walk_at "zz"
  refine Za2 (n:=n+1) (a:=fun i=>.int i) (P:=fun j σ=>σ 0=some (scr ns)∧σ 1=some (.int k)∧σ 2=some (.lst (tab n fun i=>.int (x i)))∧σ 3=some (.lst (tab (n+1) fun i=>.int (Zas x i)))∧σ 4=some (.int (n+1:Nat))∧σ 5=some (.lst (tab i fun i=>Zaq (n+1) (Zck ns k n x i)))∧σ 6=some (.int i)∧σ 7=some (.lst (tab j fun j=>oT ((Zdp ns (k+i*(n+1:Nat)+j)).map fun c=>Zas x i-Zas x j+c)))) ?_ ⟨?_,?_,?_,?_,?_,?_,?_,?_⟩ ?_ ?_
  ·walk_at "zz"
   rfl
  all_goals first | walk_at "zr" | skip
  ·rintro j σ hj ⟨e0,e1,e2,e3,e4,e5,e6,e7⟩
   have hb1:(0:Int)≤i*((n+1:Nat):Int):=Int.mul_nonneg (by omega) (by omega)
   have hb2:(i:Int)*((n+1:Nat):Int)≤10*10:=Int.mul_le_mul (by omega) (by omega) (by omega) (by decide)
   walk_at "zz"
   refine Zel (by omega) (by omega) ?_
   walk_at "zz"
   refine Zy (ZvN hL (by omega) (by omega)) ?_
   have key:∀w,w=oT ((Zdp ns (k+i*(n+1:Nat)+j)).map fun c=>Zas x i-Zas x j+c)→tab j (fun j=>oT ((Zdp ns (k+i*(n+1:Nat)+j)).map fun c=>Zas x i-Zas x j+c))++[w]=tab (j+1) fun j=>oT ((Zdp ns (k+i*(n+1:Nat)+j)).map fun c=>Zas x i-Zas x j+c):=fun w e=>by
    rw[e];exact ZdT
   cases hs:Zdp ns (k + ↑i * ↑(n+1) + ↑j)with
   | none=>
    simp only[Za1,Zam]
    walk_at "zz"
    rw[key _ (by rw[hs];rfl)]
    refine⟨?_,?_,?_,?_,?_,?_,?_,?_⟩ <;> walk_at "zr"
   | some c=>
    simp only[Za1,Zam]
    walk_at "zz"
    rw[key _ (by rw[hs];rfl)]
    refine⟨?_,?_,?_,?_,?_,?_,?_,?_⟩ <;> walk_at "zr"
  ·rintro σ ⟨e0,e1,e2,e3,e4,e5,e6,e7⟩
   walk_at "zz"
   rw[ZvP,show tab i (fun i=>Zaq (n+1) (Zck ns k n x i))++[T.lst (tab (n+1) fun j=>oT (Zck ns k n x i j))]=tab (i+1) fun i=>Zaq (n+1) (Zck ns k n x i)from ZdT (f:=fun i=>Zaq (n+1) (Zck ns k n x i))]
   refine⟨?_,?_,?_,?_,?_,?_⟩ <;> walk_at "zr"
 ·rintro σ ⟨e0,e1,e2,e3,e4,e5⟩
  walk_at "zz"
  refine Zb8 (n:=n) (a:=fun i=>.int i) (b:=fun t=>ZT (Zga ns k n x t)) (by omega) ?_ (fun t ht=>?_) ?_
  ·walk_at "zz"
   refine ZjE n (by omega) (by omega) rfl
  ·walk_at "zz"
   refine Zel (by omega) (by omega) ?_
   walk_at "zz"
   exact Zy (ZwW hL (by omega) (by omega)) ⟨ZiS,rfl⟩
  walk_at "zz"
  rfl
noncomputable def Zay(n:Nat)(G:Nat→Nat→Option Int)(R:Nat→Int×Int)(x:Nat→Int): Prop:=(∀i j,i<n+1→j<n+1→∀b,G i j=some b→Zas x i-Zas x j≤b)∧∀t,t<n→Zai (R t) (x t)
noncomputable def ZyW(n:Nat)(G:Nat→Nat→Option Int)(R:Nat→Int×Int): Prop:=(∀i,i<n+1→G i i=some 0)∧∀t,t<n→RestOk (R t)
theorem ZuX(ns:List Int)(k:Int)(n:Nat)(x:Nat→Int): ZyW n (Zck ns k n x) (Zga ns k n x):=⟨fun i _=>Zuj ns k n x i,fun t _=>ZvO ns _ _⟩
theorem ZuY(hn:n<10000)(e:Pk (g σ) fun t=>t=ZW n G)(h:Q (ZW n G)): Pk (Zan (ZaD g) (Z2 j) Zaa (Zp Zch (Zd (Za j) Zl)) σ) Q:=by
 refine Zb8 (n:=n) (a:=fun i=>Zaq n (G i)) (b:=fun i=>Zaq n (G i)) hn ?_ (fun i hi=>?_) h
 ·refine Zhc (e.mono ?_)
  rintro _ rfl
  exact Sq.lst rfl
 ·unfold Zaq
  walk_at "zz"
  rfl
theorem ZwY(hn:n≤100): ZgD [Zz n G R]=some (Zz n G R):=by
 apply Pk.eq
 unfold ZgD Zma Zz ZaQ
 walk_at "zz"
 refine ZuY (n:=n+1) (G:=G) (by omega) ?_ ?_
 ·walk_at "zz"
  rfl
 walk_at "zz"
 rfl
noncomputable def leO(a b:Option Int): Prop:=∀y,b=some y→∃x,a=some x∧x≤y
theorem Zc8: leO a none:=fun _ e=>by cases e
theorem leO_some{x:Int}: leO (some x) (some y)↔x≤y:=⟨fun h=>by obtain⟨z,e,q⟩:=h y rfl;cases e;exact q,fun h z e=>by cases e;exact⟨x,rfl,h⟩⟩
theorem Zhh: ¬leO none (some y):=fun h=>by obtain⟨z,e,_⟩:=h y rfl;cases e
theorem Zlc{b:Option Int}: Zgx [oT a,oT b]=some (.bool (dec (leO a b))):=by
 apply Pk.eq
 unfold Zgx Zln
 cases b with
 | none=>
  simp only[Za1]
  walk_at "zz"
  rw[ZaB Zc8]
 | some y=>
  cases a with
  | none=>
   simp only[Za1,Zam]
   walk_at "zz"
   rw[ZaC Zhh]
  | some x=>
   simp only[Zam]
   walk_at "zz"
   rw[Zej leO_some,Zfs]
noncomputable def RIn(p q:Int×Int): Prop:=if q.1=0 then p=q else p.1 % q.1=0∧(p.2-q.2) % q.1=0
theorem ZwZ(h:0<q.1∧0≤q.2∧q.2<q.1)(x:Int): x.fmod q.1=q.2↔(x-q.2) % q.1=0:=by
 rw[Int.fmod_eq_emod_of_nonneg _ (by omega)]
 constructor
 ·intro e
  rw[←e,Int.sub_emod,Int.emod_emod,Int.sub_self]
  simp
 ·intro e
  have:x % q.1=q.2 % q.1:=Int.emod_eq_emod_iff_emod_sub_eq_zero.mpr e
  rw[this,Int.emod_eq_of_lt h.2.1 h.2.2]
theorem Zw0(h:RestOk q)(x:Int): (if q.1=0 then x=q.2 else x.fmod q.1=q.2)↔Zai q x:=by
 unfold Zai
 rcases h with h | h
 ·rw[if_pos h];simp[h]
 ·rw[if_neg (by omega),ZwZ h]
  have h1:¬q.1=0:=by omega
  simp only[h1,false_implies,true_and,h.1,true_implies]
  rfl
theorem ZeJ{x:Int}(h:RestOk q): Zeh [ZT q,.int x]=some (.bool (dec (Zai q x))):=by
 apply Pk.eq
 unfold Zeh Zmc ZT
 rw[←Zej (Zw0 h x)]
 by_cases c:q.1=0
 ·walk_at "zz"
  rw[if_pos c,Zfs]
 ·walk_at "zz"
  rw[if_neg c,Zfs]
theorem ZsO(h:RestOk q): ZhY [ZT p,ZT q]=some (.bool (dec (RIn p q))):=by
 apply Pk.eq
 unfold ZhY Zkz
 have hp:ZT p=.tup [.int p.1,.int p.2]:=rfl
 have hq:ZT q=.tup [.int q.1,.int q.2]:=rfl
 by_cases c:q.1=0
 ·rw[hp,hq]
  walk_at "zz"
  rw[←hp,←hq]
  refine Zbs (Zf0 (n:=0)) (Zf0 (n:=0)) ?_
  rw[Zej (show ZT p=ZT q↔RIn p q by unfold RIn;rw[if_pos c,ZqX])]
 ·have hq0:0<q.1:=by rcases h with h | h <;> omega
  rw[hp,hq]
  walk_at "zz"
  refine⟨fun e=>?_,fun e=>?_⟩
  ·rw[←hq]
   refine Zy (ZeJ h) ?_
   congr 1
   refine Zej ?_
   unfold RIn Zai
   rw[if_neg c]
   simp only[decide_eq_true_eq]at e
   rw[Int.fmod_eq_emod_of_nonneg _ (by omega)]at e
   simp[c,e,hq0]
   rfl
  ·rw[e]
   simp only[decide_eq_false_iff_not]at e
   rw[Int.fmod_eq_emod_of_nonneg _ (by omega)]at e
   rw[ZaC]
   unfold RIn
   rw[if_neg c]
   exact fun q=>e q.1
theorem ZsP(h:RestOk q): ZhZ [ZT p,ZT q]=some (.bool (dec (RIn p q))):=by
 apply Pk.eq
 unfold ZhZ ZkC
 have hp:ZT p=.tup [.int p.1,.int p.2]:=rfl
 have hq:ZT q=.tup [.int q.1,.int q.2]:=rfl
 by_cases c:q.1=0
 ·rw[hp,hq]
  walk_at "zz"
  rw[←hp,←hq]
  refine Zbs (Zf0 (n:=0)) (Zf0 (n:=0)) ?_
  rw[Zej (show ZT p=ZT q↔RIn p q by unfold RIn;rw[if_pos c,ZqX])]
 ·have hq0:0<q.1:=by rcases h with h | h <;> omega
  rw[hp,hq]
  walk_at "zz"
  refine⟨fun e=>?_,fun e=>?_⟩
  ·walk_at "zz"
   congr 1
   rw[Zfs]
   refine Zej ?_
   unfold RIn
   rw[if_neg c]
   simp only[decide_eq_true_eq]at e
   rw[Int.fmod_eq_emod_of_nonneg _ (by omega)]at e ⊢
   simp[e]
  ·rw[e]
   simp only[decide_eq_false_iff_not]at e
   rw[Int.fmod_eq_emod_of_nonneg _ (by omega)]at e
   rw[ZaC]
   unfold RIn
   rw[if_neg c]
   exact fun q=>e q.1
noncomputable def Zbz(n:Nat)(G:Nat→Nat→Option Int)(R:Nat→Int×Int)(G':Nat→Nat→Option Int)(R':Nat→Int×Int): Prop:=(∀i,i<n+1→∀j,j<n+1→leO (G i j) (G' i j))∧∀t,t<n→RIn (R t) (R' t)
theorem Ztw{b:Option Int}: Zij [oT a,oT b]=some (.bool (dec (leO a b))):=by
 apply Pk.eq
 unfold Zij Zlq
 cases b with
 | none=>
  simp only[Za1]
  walk_at "zz"
  rw[ZaB Zc8]
 | some y=>
  cases a with
  | none=>
   simp only[Za1,Zam]
   walk_at "zz"
   rw[ZaC Zhh]
  | some x=>
   simp only[Zam]
   walk_at "zz"
   rw[Zej leO_some,Zfs]
theorem Ztc{G':Nat→Nat→Option Int}(hn:n<900)(h:∀t,t<n→RestOk (R' t)): Zee [Zz n G R,Zz n G' R']=some (.bool (dec (Zbz n G R G' R'))):=by
 apply Pk.eq
 unfold Zee Zh8 Zz ZW Zaq ZaQ
 walk_at "zz"
 refine Za2 (n:=n+1) (a:=fun i=>.int i) (P:=fun i σ=>σ 0=some (Zz n G R)∧σ 1=some (Zz n G' R')∧∀a,a<i→∀b,b<n+1→leO (G a b) (G' a b)) ?_ ⟨rfl,rfl,by omega⟩ ?_ ?_
 ·walk_at "zz"
  rfl
 ·rintro i σ hi ⟨e0,e1,e2⟩
  unfold Zz ZW Zaq ZaQ at e0 e1
  refine Za2 (n:=n+1) (a:=fun i=>.int i) (P:=fun j σ=>σ 0=some (Zz n G R)∧σ 1=some (Zz n G' R')∧σ 2=some (.int i)∧∀b,b<j→leO (G i b) (G' i b)) ?_ ⟨?_,?_,?_,by omega⟩ ?_ ?_
  ·walk_at "zz"
   rfl
  ·walk_at "zr"
  ·walk_at "zr"
  ·walk_at "zr"
  ·rintro j σ hj ⟨f0,f1,f2,f3⟩
   unfold Zz ZW Zaq ZaQ at f0 f1
   walk_at "zz"
   refine Zy Ztw ?_
   walk_at "zz"
   refine⟨fun e=>?_,fun e=>?_⟩
   ·walk_at "zz"
    simp only[Bool.not_eq_true']at e
    rw[ZaC]
    rintro⟨h1,_⟩
    have:=ZaB (h1 i hi j hj)
    rw[this]at e
    cases e
   ·walk_at "zz"
    refine⟨by walk_at "zr",by walk_at "zr",by walk_at "zr",fun b hb=>?_⟩
    by_cases q:b=j
    ·subst q
     simp only[Bool.not_eq_false']at e
     exact dec_iff.mp e
    ·exact f3 b (by omega)
  ·rintro σ ⟨f0,f1,f2,f3⟩
   refine⟨f0,f1,fun a ha=>?_⟩
   by_cases q:a=i
   ·subst q;exact f3
   ·exact e2 a (by omega)
 ·rintro σ ⟨e0,e1,e2⟩
  unfold Zz ZW Zaq ZaQ at e0 e1
  walk_at "zz"
  refine Za2 (n:=n) (a:=fun i=>.int i) (P:=fun j σ=>σ 0=some (Zz n G R)∧σ 1=some (Zz n G' R')∧∀b,b<j→RIn (R b) (R' b)) ?_ ⟨e0,e1,by omega⟩ ?_ ?_
  ·walk_at "zz"
   rfl
  ·rintro j σ hj ⟨f0,f1,f3⟩
   unfold Zz ZW Zaq ZaQ at f0 f1
   walk_at "zz"
   refine Zy (ZsP (h j hj)) ?_
   walk_at "zz"
   refine⟨fun e=>?_,fun e=>?_⟩
   ·walk_at "zz"
    simp only[Bool.not_eq_true']at e
    rw[ZaC]
    rintro⟨_,h1⟩
    have:=ZaB (h1 j hj)
    rw[this]at e
    cases e
   ·walk_at "zz"
    refine⟨by walk_at "zr",by walk_at "zr",fun b hb=>?_⟩
    by_cases q:b=j
    ·subst q
     simp only[Bool.not_eq_false']at e
     exact dec_iff.mp e
    ·exact f3 b (by omega)
  ·rintro σ ⟨f0,f1,f3⟩
   walk_at "zz"
   rw[ZaB]
   exact⟨e2,f3⟩
theorem Ztd: Zee [.none,Zz n G R]=some (.bool true):=by
 apply Pk.eq
 unfold Zee Zh8 Zz
 walk_at "zz"
 rfl
noncomputable def Eu(m:Nat)(a b:Int): Prop:=0≤a∧0≤b∧∃k:Nat,a*b<2 ^ k∧m=2*k+if a<b then 1 else 0
theorem Eu.step{a b:Int}(h:Eu m a b)(hb:b≠0): ∃m',m'<m∧Eu m' b (a % b):=by
 obtain⟨h0,h1,k,h2,h3⟩:=h
 have hb':0<b:=by omega
 have r0:=Int.emod_nonneg a hb
 have r1:=Int.emod_lt_of_pos a hb'
 by_cases q:a<b
 ·rw[if_pos q]at h3
  have e:a % b=a:=Int.emod_eq_of_lt h0 q
  rw[e]
  exact⟨2*k,by omega,h1,h0,k,by rw[Int.mul_comm];exact h2,by rw[if_neg (by omega)];omega⟩
 ·rw[if_neg q]at h3
  have hd:=Int.emod_add_mul_ediv a b
  have hq:1≤a / b:=Int.le_ediv_of_mul_le hb' (by omega)
  have hm:b*1≤b*(a / b):=Int.mul_le_mul_of_nonneg_left hq h1
  have h2r:2*(a % b)<a:=by omega
  have hp:b*(2*(a % b))<b*a:=Int.mul_lt_mul_of_pos_left h2r hb'
  have hk:k≠0:=by
   rintro rfl
   have:0<a*b:=Int.mul_pos (by omega) hb'
   simp at h2
   omega
  obtain⟨k',rfl⟩:∃k',k=k'+1:=⟨k-1,by omega⟩
  refine⟨2*k',by omega,h1,r0,k',?_,by rw[if_neg (by omega)];omega⟩
  have e1:b*(2*(a % b))=2*(b*(a % b)):=by rw[←Int.mul_assoc,Int.mul_comm b 2,Int.mul_assoc]
  have e2:a*b=b*a:=Int.mul_comm _ _
  rw[Int.pow_succ]at h2
  omega
theorem ZiU{a b:Int}(ha:0≤a)(hb:0≤b)(ha2:a<2 ^ 200000)(hb2:b<2 ^ 200000): ∃m,m<1000000∧Eu m a b:=by
 refine⟨_,?_,ha,hb,400000,?_,rfl⟩
 ·split <;> omega
 ·have h1:a*b≤a*2 ^ 200000:=Int.mul_le_mul_of_nonneg_left (by omega) ha
  have h2:a*2 ^ 200000<2 ^ 200000*2 ^ 200000:=Int.mul_lt_mul_of_pos_right ha2 (Int.pow_pos (by decide))
  have h3:(2:Int) ^ 200000*2 ^ 200000=2 ^ 400000:=by rw[←Int.pow_add]
  omega
theorem Zg5{a b:Int}(hb:0<b): Int.gcd b (a % b)=Int.gcd a b:=by
 rw[Int.gcd_comm a b,Int.emod_def,Int.gcd_sub_mul_left_right]
theorem Zq6{a b:Int}: Int.gcd (Za6 a) (Za6 b)=Int.gcd a b:=by
 unfold Za6 Int.gcd
 split <;> split <;> simp
theorem Zjb{a:Int}(h:a.natAbs<2 ^ k): Za6 a<2 ^ k:=by
 have:((a.natAbs:Nat):Int)<2 ^ k:=by exact_mod_cast h
 unfold Za6
 split <;> omega
theorem ZmA{a b:Int}(ha:a.natAbs<2 ^ 200000)(hb:b.natAbs<2 ^ 200000): ZgQ [.int a,.int b]=some (.int (Int.gcd a b)):=by
 apply Pk.eq
 unfold ZgQ ZpX
 walk_at "zz"
 obtain⟨m,hm,eu⟩:=ZiU (Zdy a) (Zdy b) (Zjb ha) (Zjb hb)
 refine ZfJ (fun m σ=>∃c d:Int,σ 0=some (.int c)∧σ 1=some (.int d)∧Eu m c d∧Int.gcd c d=Int.gcd a b) _ _ ?_ 1000000 (m:=m) ⟨Za6 a,Za6 b,by walk_at "zr",by walk_at "zr",eu,Zq6⟩ hm
 rintro m σ ⟨c,d,e0,e1,eu,eg⟩
 walk_at "zz"
 refine⟨fun h=>?_,fun h=>?_⟩
 ·have hd:d≠0:=by simpa using h
  have hd0:0≤d:=eu.2.1
  walk_at "zz"
  rw[Int.fmod_eq_emod_of_nonneg _ hd0]
  obtain⟨m',h1,h2⟩:=eu.step hd
  exact⟨m',h1,d,c % d,by walk_at "zr",by walk_at "zr",h2,by rw[Zg5 (by omega)];exact eg⟩
 ·have hd:d=0:=by simpa using h
  subst hd
  walk_at "zz"
  rw[←eg,Int.gcd_zero_right]
  have:=eu.1
  congr 1
  omega
theorem Zjc(ns:List Int)(k:Int): (Zco ns k).natAbs<2 ^ 134:=by
 have h:=ZrO ns k
 have h2:=Zjm
 have:(2:Nat) ^ 134=21778071482940061661655974875633165533184:=by decide
 omega
theorem ZbL{a:Nat}(h:a<2 ^ i)(hij:i≤j): a<2 ^ j:=Nat.lt_of_lt_of_le h (Nat.pow_le_pow_right (by decide) hij)
noncomputable def SmG(k n:Nat)(G:Nat→Nat→Option Int): Prop:=∀i j,i<n+1→j<n+1→∀b,G i j=some b→b.natAbs<2 ^ k
noncomputable def SmR(k n:Nat)(R:Nat→Int×Int): Prop:=∀t,t<n→(R t).1.natAbs<2 ^ k∧(R t).2.natAbs<2 ^ k
theorem Zld{m:Int}(h0:0≤m)(hm:m.natAbs<2 ^ k)(hr:r.natAbs<2 ^ k): (ZaK m r).1.natAbs<2 ^ k∧(ZaK m r).2.natAbs<2 ^ k:=by
 unfold ZaK
 split
 ·exact⟨Nat.two_pow_pos k,hr⟩
 ·have h1:=Int.fmod_nonneg_of_pos r (show 0<m by omega)
  have h2:=Int.fmod_lt_of_pos r (show 0<m by omega)
  exact⟨hm,by show(r.fmod m).natAbs<_;omega⟩
theorem Zny(a:Int): (Za6 a).natAbs=a.natAbs:=by unfold Za6;split <;> omega
theorem ZtU{k x:Int}(hx:x.natAbs<2 ^ 134): (Zev ns k x).1.natAbs<2 ^ 134∧(Zev ns k x).2.natAbs<2 ^ 134:=by
 have h:=Zqs ns k
 have h2:=Zjc ns k
 have e:(2:Nat) ^ 134=21778071482940061661655974875633165533184:=by decide
 unfold Zev
 split
 ·exact⟨by show(1:Nat)<_;omega,by show(0:Nat)<_;omega⟩
 ·split
  ·exact⟨by show(0:Nat)<_;omega,hx⟩
  ·split
   ·exact Zld (by omega) (by omega) hx
   ·exact Zld (Zdy _) (by rw[Zny];exact h2) hx
theorem ZpG(hx:∀i,i<n→(x i).natAbs<2 ^ k)(i:Nat)(hi:i<n+1): (Zas x i).natAbs<2 ^ k:=by
 cases i with
 | zero=>exact Nat.two_pow_pos k
 | succ i=>exact hx i (by omega)
theorem ZvQ{k:Int}(hx:∀i,i<n→(x i).natAbs<2 ^ 134): SmG 136 n (Zck ns k n x):=by
 intro i j hi hj b h
 have e:(2:Nat) ^ 134=21778071482940061661655974875633165533184:=by decide
 have e2:(2:Nat) ^ 136=4*21778071482940061661655974875633165533184:=by decide
 have h40:=Zjm
 have h1:=ZpG hx i hi
 have h2:=ZpG hx j hj
 unfold Zck at h
 split at h
 ·cases h;exact Nat.two_pow_pos _
 ·obtain⟨c,h3,h4⟩:=Zz1.mp h
  have:=ZvM ns _ h3
  subst h4
  omega
theorem Zqt{k:Int}(hx:∀i,i<n→(x i).natAbs<2 ^ 134): SmR 134 n (Zga ns k n x):=fun t ht=>ZtU (hx t ht)
theorem Zqu: RIn q q:=by
 unfold RIn
 split
 ·rfl
 ·simp
theorem ZuZ{g:PG}{a:Nat→T}(e:β→T)(P:Nat→β→Prop)(hn:n<10000)(hg:Pl (g σ) fun ts=>ts=tab n a)(hf:∀i,i<n→Pk (f (Z1 σ j (a i))) fun t=>∃y,t=e y∧P i y)(d:β)(h:∀y:Nat→β,(∀i,i<n→P i (y i))→Q (.lst (tab n fun i=>e (y i)))): Pk (Zan g (Z2 j) Zaa f σ) Q:=by
 have hc:∃y:Nat→β,∀i,i<n→Pk (f (Z1 σ j (a i))) (fun t=>t=e (y i))∧P i (y i):=by
  have hx:∀i,∃y:β,i<n→Pk (f (Z1 σ j (a i))) (fun t=>t=e y)∧P i y:=fun i=>by
   by_cases q:i<n
   ·obtain⟨t,e1,y,e2,p⟩:=hf i q
    exact⟨y,fun _=>⟨⟨t,e1,e2⟩,p⟩⟩
   ·exact⟨d,fun h=>absurd h q⟩
  exact⟨fun i=>Classical.choose (hx i),fun i=>Classical.choose_spec (hx i)⟩
 obtain⟨y,hy⟩:=hc
 exact Zb8 hn hg (fun i hi=>(hy i hi).1) (h y fun i hi=>(hy i hi).2)
theorem ZmB(hn:n<10000)(e:Pk (g σ) fun t=>t=ZW n G)(h:Q (ZW n G)): Pk (Zan (ZaD g) (Z2 j) Zaa (pFl (Zp Zch (Zd (Za j) Zl))) σ) Q:=by
 refine Zb8 (n:=n) (a:=fun i=>Zaq n (G i)) (b:=fun i=>Zaq n (G i)) hn ?_ (fun i hi=>?_) h
 ·refine Zhc (e.mono ?_)
  rintro _ rfl
  exact Sq.lst rfl
 ·unfold Zaq
  walk_at "zz"
  rfl
noncomputable def Zcd(G:Nat→Nat→Option Int)(i j:Nat)(v:Option Int): Nat→Nat→Option Int:=fun a b=>if a=i∧b=j then v else G a b
theorem Ze5{v:Option Int}: T.lst (tab n fun a=>T.lst (tab n fun b=>if a=i∧b=j then oT v else oT (G a b)))=ZW n (Zcd G i j v):=by
 unfold ZW Zaq Zcd
 congr 2
 funext a
 congr 2
 funext b
 split <;> rfl
theorem ZnZ{v:Option Int}: Zcd G i j v i j=v:=by simp[Zcd]
theorem Zn0{a:Nat}{v:Option Int}(h:¬(a=i∧b=j)): Zcd G i j v a b=G a b:=by simp[Zcd,h]
theorem Zb7: leO a a:=fun y e=>⟨y,e,Int.le_refl y⟩
theorem Zcg{b c:Option Int}(h:leO a b)(k:leO b c): leO a c:=fun y e=>by
 obtain⟨x,e1,l1⟩:=k y e
 obtain⟨w,e2,l2⟩:=h x e1
 exact⟨w,e2,by omega⟩
theorem ZrP{k:Int}(h0:0≤k)(h1:k<n): ∃i:Nat,k=i∧i<n:=⟨k.toNat,by omega,by omega⟩
theorem ZmC{a b:Int}(ha:a.natAbs<2 ^ 200000)(hb:b.natAbs<2 ^ 200000): ZfD [.int a,.int b]=some (.int (Int.gcd a b)):=by
 apply Pk.eq
 unfold ZfD ZmQ
 walk_at "zz"
 obtain⟨m,hm,eu⟩:=ZiU (Zdy a) (Zdy b) (Zjb ha) (Zjb hb)
 refine ZfJ (fun m σ=>∃c d:Int,σ 2=some (.int c)∧σ 3=some (.int d)∧Eu m c d∧Int.gcd c d=Int.gcd a b) _ _ ?_ 1000000 (m:=m) ⟨Za6 a,Za6 b,by walk_at "zr",by walk_at "zr",eu,Zq6⟩ hm
 rintro m σ ⟨c,d,e0,e1,eu,eg⟩
 walk_at "zz"
 refine⟨fun h=>?_,fun h=>?_⟩
 ·have hd:d≠0:=by simpa using h
  have hd0:0≤d:=eu.2.1
  walk_at "zz"
  rw[Int.fmod_eq_emod_of_nonneg _ hd0]
  obtain⟨m',h1,h2⟩:=eu.step hd
  exact⟨m',h1,d,c % d,by walk_at "zr",by walk_at "zr",h2,by rw[Zg5 (by omega)];exact eg⟩
 ·have hd:d=0:=by simpa using h
  subst hd
  walk_at "zz"
  rw[←eg,Int.gcd_zero_right]
  have:=eu.1
  congr 1
  omega
noncomputable def Bd(k:Nat)(x:Int): Prop:=x.natAbs<2 ^ k
theorem Bd.mono{x:Int}(h:Bd i x)(hij:i≤j): Bd j x:=ZbL h hij
theorem ZbM{x:Int}(h:Bd i x)(k:Bd j y)(hi:i≤1000000)(hj:j≤1000000): mulOk x y=true:=Zqf (Nat.le_trans (PyProof.Rows.intBits_le h) (Nat.le_trans hi (by decide))) (Nat.le_trans (PyProof.Rows.intBits_le k) (Nat.le_trans hj (by decide)))
theorem Bd.mul{x:Int}(h:Bd i x)(k:Bd j y): Bd (i+j) (x*y):=by
 unfold Bd at *
 rw[Int.natAbs_mul,Nat.pow_add]
 exact Nat.mul_lt_mul'' h k
theorem Bd.add{x:Int}(h:Bd i x)(k:Bd i y): Bd (i+1) (x+y):=by
 unfold Bd at *
 rw[Nat.pow_succ]
 omega
theorem Bd.sub{x:Int}(h:Bd i x)(k:Bd i y): Bd (i+1) (x-y):=by
 unfold Bd at *
 rw[Nat.pow_succ]
 omega
theorem ZdD{x:Int}(h:Bd i y)(hi:i≤9000): Builtin.divisionGoesByPylong x y=false:=by
 refine PyProof.noPylong_of_log2 ?_
 by_cases h0:y.natAbs=0
 ·rw[h0];decide +kernel
 ·exact Nat.lt_of_lt_of_le ((Nat.log2_lt h0).mpr h) hi
theorem Zdh{x:Int}(h:Bd i y)(h0:0≤x)(h1:x≤y): Bd i x:=by unfold Bd at *;omega
theorem ZdJ(h:1≤i): Bd i 1:=ZbL (i:=1) (by decide) h
theorem Zcp: Bd i 0:=Nat.two_pow_pos i
theorem Zuk{a b:Int}(hb:0<b)(kb:Bd k b)(hk:k≤8000)(ha:0≤a)(hg:Int.gcd a b=1): Pk (ZiH [.int a,.int b]) fun t=>∃x:Int,t=.int x∧0≤x∧x<b∧∃q,a*x=1+b*q:=by
 unfold ZiH ZmU
 walk_at "zz"
 rw[Int.fmod_eq_emod_of_nonneg _ (by omega)]
 have r0:=Int.emod_nonneg a (show b≠0 by omega)
 have r1:=Int.emod_lt_of_pos a hb
 have hlt:∀x:Int,0≤x→x≤b→x<2 ^ 200000:=fun x h0 h1=>by
  have h2:b.natAbs<2 ^ 200000:=ZbL kb (by omega)
  have h3:((b.natAbs:Nat):Int)<2 ^ 200000:=by exact_mod_cast h2
  omega
 obtain⟨m,hm,eu⟩:=ZiU r0 (show 0≤b by omega) (hlt _ r0 (by omega)) (hlt b (by omega) (by omega))
 have hg0:Int.gcd (a % b) b=1:=by
  rw[Int.gcd_comm,Zg5 hb];exact hg
 refine ZfJ (fun m σ=>∃l r s t:Int,σ 1=some (.int b)∧σ 2=some (.int l)∧σ 3=some (.int r)∧σ 4=some (.int s)∧σ 5=some (.int t)∧Eu m l r∧Int.gcd l r=1∧l≤b∧r≤b∧(∃q,s*a=l+b*q)∧(∃q,t*a=r+b*q)∧(s.natAbs:Int)*r+(t.natAbs:Int)*l≤b∧(1≤l∨t=0)) _ _ ?_ 1000000 (m:=m) ⟨a % b,b,1,0,by walk_at "zr",by walk_at "zr",by walk_at "zr",by walk_at "zr",by walk_at "zr",eu,hg0,by omega,by omega,⟨a / b,?_⟩,⟨-1,by omega⟩,by simp,.inr rfl⟩ hm
 ·rintro m σ ⟨l,r,s,t,e1,e2,e3,e4,e5,eu,gl,lb,rb,⟨q1,h1⟩,⟨q2,h2⟩,hb1,hl⟩
  walk_at "zz"
  refine⟨fun h=>?_,fun h=>?_⟩
  ·have hr:r≠0:=by simpa using h
   have hr0:0≤r:=eu.2.1
   have hl0:0≤l:=eu.1
   have hrp:0<r:=by omega
   have kr:Bd k r:=Zdh kb hr0 rb
   have kl:Bd k l:=Zdh kb hl0 lb
   have hdiv0:0≤l / r:=Int.ediv_nonneg hl0 hr0
   have hdiv1:l / r≤l:=Int.ediv_le_self _ hl0
   have ks:(s.natAbs:Int)≤b:=by
    have:(s.natAbs:Int)*1≤(s.natAbs:Int)*r:=Int.mul_le_mul_of_nonneg_left (by omega) (by omega)
    have:0≤(t.natAbs:Int)*l:=Int.mul_nonneg (by omega) hl0
    omega
   have kt:(t.natAbs:Int)≤b:=by
    rcases hl with hl | hl
    ·have:(t.natAbs:Int)*1≤(t.natAbs:Int)*l:=Int.mul_le_mul_of_nonneg_left (by omega) (by omega)
     have:0≤(s.natAbs:Int)*r:=Int.mul_nonneg (by omega) hr0
     omega
    ·rw[hl];simp;omega
   have kt':Bd k t:=by unfold Bd at *;omega
   have kd:Bd k (l / r):=Zdh kl hdiv0 hdiv1
   walk_at "zz"
   refine Zde hr (ZdD kr (by omega)) ?_
   rw[Int.fdiv_eq_ediv_of_nonneg _ hr0]
   walk_at "zz"
   refine Zby (ZbM kd kr (by omega) (by omega)) ?_
   walk_at "zz"
   refine Zby (ZbM kd kt' (by omega) (by omega)) ?_
   walk_at "zz"
   have hover:l-l / r*r=l % r:=by
    have:=Int.emod_add_mul_ediv l r
    rw[Int.mul_comm r (l / r)]at this
    omega
   rw[hover]
   obtain⟨m',hm1,hm2⟩:=eu.step hr
   have o0:=Int.emod_nonneg l hr
   have o1:=Int.emod_lt_of_pos l hrp
   refine⟨m',hm1,r,l % r,t,s-l / r*t,by walk_at "zr",by walk_at "zr",by walk_at "zr",by walk_at "zr",by walk_at "zr",hm2,by rw[Zg5 hrp];exact gl,rb,by omega,⟨q2,h2⟩,⟨q1-l / r*q2,?_⟩,?_,.inl (by omega)⟩
   ·rw[Int.sub_mul,h1,Int.mul_assoc,h2,Int.mul_add,Int.mul_sub,←hover]
    have e1:b*(l / r*q2)=l / r*(b*q2):=by rw[←Int.mul_assoc,Int.mul_comm b,Int.mul_assoc]
    rw[e1]
    omega
   ·have ht:((s-l / r*t).natAbs:Int)≤(s.natAbs:Int)+l / r*(t.natAbs:Int):=by
     have h3:(s-l / r*t).natAbs≤s.natAbs+(l / r*t).natAbs:=by omega
     have h4:(l / r*t).natAbs=(l / r).natAbs*t.natAbs:=Int.natAbs_mul ..
     have h5:(((l / r).natAbs*t.natAbs:Nat):Int)=l / r*(t.natAbs:Int):=by
      rw[Int.natCast_mul,Int.natAbs_of_nonneg hdiv0]
     rw[h4]at h3
     omega
    have h6:((s-l / r*t).natAbs:Int)*r≤((s.natAbs:Int)+l / r*(t.natAbs:Int))*r:=Int.mul_le_mul_of_nonneg_right ht hr0
    have h7:((s.natAbs:Int)+l / r*(t.natAbs:Int))*r=(s.natAbs:Int)*r+(t.natAbs:Int)*(l / r*r):=by
     rw[Int.add_mul,Int.mul_comm (l / r) (t.natAbs:Int),Int.mul_assoc]
    have h8:(t.natAbs:Int)*(l % r)+(t.natAbs:Int)*(l / r*r)=(t.natAbs:Int)*l:=by
     rw[←Int.mul_add,←hover]
     congr 1
     omega
    omega
  ·have hr:r=0:=by simpa using h
   subst hr
   rw[Int.gcd_zero_right]at gl
   have hl1:l=1:=by have:=eu.1;omega
   subst hl1
   walk_at "zz"
   rw[Int.fmod_eq_emod_of_nonneg _ (by omega)]
   refine⟨s % b,rfl,Int.emod_nonneg _ (by omega),Int.emod_lt_of_pos _ hb,q1-s / b*a,?_⟩
   have h3:=Int.emod_add_mul_ediv s b
   have h4:s % b=s-b*(s / b):=by omega
   rw[h4,Int.mul_sub,Int.mul_comm a s,h1,Int.mul_sub]
   have e1:a*(b*(s / b))=b*(s / b*a):=by rw[Int.mul_comm a,Int.mul_assoc]
   rw[e1]
   omega
 ·have h3:=Int.emod_add_mul_ediv a b
  rw[Int.one_mul]
  omega
theorem Zie{m:Int}(h:0≤m): Ze3 [.int m,.int r]=some (ZT (ZaK m r)):=by
 apply Pk.eq
 unfold Ze3 Zoh ZaK
 by_cases c:m=0
 ·walk_at "zz"
  rw[if_pos c];rfl
 ·walk_at "zz"
  rw[if_neg c];rfl
theorem Zbb(h:0≤q.1)(x:Int): Zai q x↔q.1 ∣ x-q.2:=by
 unfold Zai
 by_cases c:q.1=0
 ·rw[c]
  simp
  omega
 ·have:0<q.1:=by omega
  simp only[c,false_implies,true_and,this,true_implies]
  exact(Int.dvd_iff_emod_eq_zero).symm
theorem Zu0{m:Int}(h:0≤m): 0≤(ZaK m r).1:=by unfold ZaK;split <;> simp[h]
theorem ZcI{m:Int}(h:0≤m)(x:Int): Zai (ZaK m r) x↔m ∣ x-r:=by
 rw[Zbb (Zu0 h)]
 unfold ZaK
 split
 ·rename_i c;subst c;rfl
 ·show m ∣ x-r.fmod m↔_
  rw[Int.fmod_eq_emod_of_nonneg _ h]
  have h1:x-r % m=(x-r)+m*(r / m):=by have:=Int.emod_add_mul_ediv r m;omega
  rw[h1]
  constructor
  ·intro q
   have:=Int.dvd_sub q (Int.dvd_mul_right m (r / m))
   rwa [Int.add_sub_cancel]at this
  ·intro q
   exact Int.dvd_add q (Int.dvd_mul_right m (r / m))
theorem RestOk.nn(h:RestOk q): 0≤q.1:=by rcases h with h | h <;> omega
theorem RestOk.self(h:RestOk q): Zai q q.2:=by rw[Zbb h.nn];simp
theorem Zis(hp:RestOk p)(hq:RestOk q)(h:∀x,Zai p x↔Zai q x): p=q:=by
 have e1:∀x,p.1 ∣ x-p.2↔q.1 ∣ x-q.2:=fun x=>by rw[←Zbb hp.nn,←Zbb hq.nn];exact h x
 have a1:q.1 ∣ p.2-q.2:=(e1 p.2).mp (by simp)
 have a2:q.1 ∣ p.2+p.1-q.2:=(e1 (p.2+p.1)).mp (by rw[show p.2+p.1-p.2=p.1 by omega];exact Int.dvd_refl _)
 have b1:p.1 ∣ q.2-p.2:=(e1 q.2).mpr (by simp)
 have b2:p.1 ∣ q.2+q.1-p.2:=(e1 (q.2+q.1)).mpr (by rw[show q.2+q.1-q.2=q.1 by omega];exact Int.dvd_refl _)
 have c1:q.1 ∣ p.1:=by have:=Int.dvd_sub a2 a1;rwa [show p.2+p.1-q.2-(p.2-q.2)=p.1 by omega]at this
 have c2:p.1 ∣ q.1:=by have:=Int.dvd_sub b2 b1;rwa [show q.2+q.1-p.2-(q.2-p.2)=q.1 by omega]at this
 have em:p.1=q.1:=Int.dvd_antisymm hp.nn hq.nn c2 c1
 have er:p.2=q.2:=by
  rcases hp with hp | hp
  ·rw[hp]at em
   rw[←em]at a1
   have:=Int.zero_dvd.mp a1
   omega
  ·rcases hq with hq | hq
   ·omega
   ·rw[←em]at a1 hq
    obtain⟨k,hk⟩:=a1
    have:k=0:=by
     rcases Int.lt_trichotomy k 0 with h | h | h
     ·have:p.1*k≤p.1*(-1):=Int.mul_le_mul_of_nonneg_left (by omega) (by omega)
      omega
     ·exact h
     ·have:p.1*1≤p.1*k:=Int.mul_le_mul_of_nonneg_left (by omega) (by omega)
      omega
    subst this
    simp at hk
    omega
 exact Prod.ext em er
noncomputable def RBd(k:Nat)(q:Int×Int): Prop:=Bd k q.1∧Bd k q.2
theorem ZgV{m:Int}(h0:0≤m)(hm:Bd k m)(hr:Bd k r): RBd k (ZaK m r):=Zld h0 hm hr
noncomputable def Zbu(p q:Int×Int): Int×Int:=ZaK (Int.gcd p.1 q.1) (p.2+q.2)
theorem ZiV(p q:Int×Int): RestOk (Zbu p q):=Zcf (by omega) _
theorem Zle(hk:k≤200000)(hp:Bd k p.1)(hq:Bd k q.1): Zfn [ZT p,ZT q]=some (ZT (Zbu p q)):=by
 apply Pk.eq
 unfold Zfn Zls ZT Zbu
 walk_at "zz"
 refine Zy (ZmC (ZbL hp hk) (ZbL hq hk)) ?_
 walk_at "zz"
 exact Zy (Zie (by omega)) rfl
noncomputable def Zcv(p:Int×Int)(k:Int): Int×Int:=ZaK (p.1*Za6 k) (p.2*k)
theorem ZkU{c:Int}(hk:k≤200000)(hp0:0≤p.1)(hp:RBd k p)(hc:Bd k c): Zfl [ZT p,.int c]=some (ZT (Zcv p c)):=by
 apply Pk.eq
 unfold Zfl Zk0 ZT Zcv
 have ha:Bd k (Za6 c):=by unfold Bd at *;rw[Zny];exact hc
 walk_at "zz"
 refine Zby (ZbM hp.1 ha (by omega) (by omega)) ?_
 walk_at "zz"
 refine Zby (ZbM hp.2 hc (by omega) (by omega)) ?_
 walk_at "zz"
 exact Zy (Zie (Int.mul_nonneg hp0 (Zdy c))) rfl
noncomputable def ZdE(p:Int×Int)(top:Int): Option Int:=if p.1=0 then(if p.2≤top then some p.2 else none)else some (top-(top-p.2) % p.1)
theorem Zte(hp:0≤p.1): Zh9 [ZT p,.int top]=some (oT (ZdE p top)):=by
 apply Pk.eq
 unfold Zh9 Zk4 ZT ZdE
 by_cases c:p.1=0
 ·rw[if_pos c]
  by_cases d:p.2≤top
  ·walk_at "zz"
   rw[if_pos d];rfl
  ·walk_at "zz"
   rw[if_neg d];rfl
 ·rw[if_neg c]
  walk_at "zz"
  rw[Int.fmod_eq_emod_of_nonneg _ hp]
  rfl
noncomputable def oR: Option (Int×Int)→T
 | none=>.none
 | some q=>ZT q
noncomputable def Met(p q:Int×Int)(o:Option (Int×Int)): Prop:=match o with
 | none=>∀x,¬(Zai p x∧Zai q x)
 | some r=>RestOk r∧(∀x,Zai r x↔Zai p x∧Zai q x)
theorem ZpH{a b:Option (Int×Int)}(ha:Met p q a)(hb:Met p q b): a=b:=by
 cases a with
 | none=>
  cases b with
  | none=>rfl
  | some r=>exact absurd ((hb.2 r.2).mp hb.1.self) (ha r.2)
 | some s=>
  cases b with
  | none=>exact absurd ((ha.2 s.2).mp ha.1.self) (hb s.2)
  | some r=>rw[Zis ha.1 hb.1 fun x=>(ha.2 x).trans (hb.2 x).symm]
theorem ZlR(hk:k≤8000)(op:RestOk p)(oq:RestOk q)(bp:RBd k p)(bq:RBd k q): Pk (ZgF [ZT p,ZT q]) fun t=>∃o,t=oR o∧Met p q o∧∀r,o=some r→(r=p∨r=q∨(p.1≠0∧q.1≠0∧r.1=Int.lcm p.1 q.1)):=by
 unfold ZgF Zme
 have ep:ZT p=.tup [.int p.1,.int p.2]:=rfl
 have eq:ZT q=.tup [.int q.1,.int q.2]:=rfl
 have np:=op.nn
 have nq:=oq.nn
 by_cases c1:p.1=0
 ·rw[ep]
  walk_at "zz"
  refine Zy (ZeJ oq) ?_
  walk_at "zz"
  have hone:∀x,Zai p x↔x=p.2:=fun x=>by rw[Zbb np,c1,Int.zero_dvd];omega
  refine⟨fun e=>?_,fun e=>?_⟩
  ·walk_at "zz"
   refine⟨some p,rfl,⟨op,fun x=>⟨fun h=>⟨h,?_⟩,fun h=>h.1⟩⟩,fun r e=>by cases e;exact .inl rfl⟩
   rw[(hone x).mp h];exact dec_iff.mp e
  ·walk_at "zz"
   refine⟨none,rfl,fun x h=>?_,by simp⟩
   have:=(hone x).mp h.1
   subst this
   have h2:=ZaB h.2
   rw[h2]at e
   cases e
 by_cases c2:q.1=0
 ·have hone:∀x,Zai q x↔x=q.2:=fun x=>by rw[Zbb nq,c2,Int.zero_dvd];omega
  rw[ep,eq]
  walk_at "zz"
  rw[←ep]
  refine Zy (ZeJ op) ?_
  walk_at "zz"
  refine⟨fun e=>?_,fun e=>?_⟩
  ·walk_at "zz"
   refine⟨some q,rfl,⟨oq,fun x=>⟨fun h=>⟨?_,h⟩,fun h=>h.2⟩⟩,fun r e=>by cases e;exact .inr (.inl rfl)⟩
   rw[(hone x).mp h];exact dec_iff.mp e
  ·walk_at "zz"
   refine⟨none,rfl,fun x h=>?_,by simp⟩
   have:=(hone x).mp h.2
   subst this
   have h2:=ZaB h.1
   rw[h2]at e
   cases e
 ·have pp:0<p.1:=by omega
  have pq:0<q.1:=by omega
  obtain⟨g,hg⟩:∃g:Nat,Int.gcd p.1 q.1=g:=⟨_,rfl⟩
  have hg0:0<(g:Int):=by
   have:Int.gcd p.1 q.1≠0:=fun h=>c1 (Int.gcd_eq_zero_iff.mp h).1
   omega
  have gp:(g:Int) ∣ p.1:=by rw[←hg];exact Int.gcd_dvd_left ..
  have gq:(g:Int) ∣ q.1:=by rw[←hg];exact Int.gcd_dvd_right ..
  obtain⟨a,ea⟩:=gp
  obtain⟨b,eb⟩:=gq
  have ha:0<a:=by
   rcases Int.lt_trichotomy a 0 with h | h | h
   ·have:=Int.mul_neg_of_pos_of_neg hg0 h;omega
   ·subst h;simp at ea;omega
   ·exact h
  have hb:0<b:=by
   rcases Int.lt_trichotomy b 0 with h | h | h
   ·have:=Int.mul_neg_of_pos_of_neg hg0 h;omega
   ·subst h;simp at eb;omega
   ·exact h
  have da:p.1 / g=a:=by rw[ea];exact Int.mul_ediv_cancel_left _ (by omega)
  have db:q.1 / g=b:=by rw[eb];exact Int.mul_ediv_cancel_left _ (by omega)
  have kg:Bd k (g:Int):=Zdh bp.1 (by omega) (by
   rw[ea]
   have:(g:Int)*1≤g*a:=Int.mul_le_mul_of_nonneg_left (by omega) (by omega)
   omega)
  have kb:Bd k b:=Zdh bq.1 (by omega) (by
   rw[eb]
   have:1*b≤g*b:=Int.mul_le_mul_of_nonneg_right (by omega) (by omega)
   omega)
  have cop:Int.gcd a b=1:=by
   have h1:=Int.gcd_mul_left (g:Int) a b
   rw[←ea,←eb,hg,Int.natAbs_natCast]at h1
   have h2:g*1=g*Int.gcd a b:=by omega
   exact(Nat.eq_of_mul_eq_mul_left (by omega) h2).symm
  rw[ep,eq]
  walk_at "zz"
  refine Zy (ZmC (ZbL bp.1 (by omega)) (ZbL bq.1 (by omega))) ?_
  rw[hg]
  walk_at "zz"
  rw[Int.fmod_eq_emod_of_nonneg _ (by omega)]
  by_cases c3:(q.2-p.2) % (g:Int)=0
  ·obtain⟨d,ed⟩:=Int.dvd_of_emod_eq_zero c3
   have dd:(q.2-p.2) / g=d:=by rw[ed];exact Int.mul_ediv_cancel_left _ (by omega)
   have kd:Bd (k+1) d:=by
    have h1:Bd (k+1) (q.2-p.2):=Bd.sub bq.2 bp.2
    unfold Bd at *
    rw[ed,Int.natAbs_mul]at h1
    have:1*d.natAbs≤(g:Int).natAbs*d.natAbs:=Nat.mul_le_mul_right _ (by omega)
    omega
   walk_at "zz"
   refine Zde (by omega) (ZdD kg (by omega)) ?_
   rw[Int.fdiv_eq_ediv_of_nonneg _ (by omega),db]
   walk_at "zz"
   refine Zde (by omega) (ZdD kg (by omega)) ?_
   rw[Int.fdiv_eq_ediv_of_nonneg _ (by omega),dd]
   walk_at "zz"
   refine Zde (by omega) (ZdD kg (by omega)) ?_
   rw[Int.fdiv_eq_ediv_of_nonneg _ (by omega),da]
   walk_at "zz"
   refine(Zuk hb kb hk (by omega) cop).mono ?_
   rintro _ ⟨y,rfl,y0,y1,z,hz⟩
   have ky:Bd k y:=Zdh kb y0 (by omega)
   walk_at "zz"
   refine Zby (ZbM kd ky (by omega) (by omega)) ?_
   walk_at "zz"
   refine Zby (ZbM bp.1 kb (by omega) (by omega)) ?_
   walk_at "zz"
   refine Zby (ZbM bp.1 (Bd.mul kd ky) (by omega) (by omega)) ?_
   walk_at "zz"
   have hL:(p.1*b).natAbs=Int.lcm p.1 q.1:=by
    have h1:=Int.gcd_mul_lcm p.1 q.1
    rw[hg]at h1
    have h2:p.1.natAbs*q.1.natAbs=g*(p.1*b).natAbs:=by
     rw[Int.natAbs_mul]
     conv=>lhs;rw[show q.1.natAbs=g*b.natAbs by rw[eb,Int.natAbs_mul,Int.natAbs_natCast]]
     rw[←Nat.mul_assoc,Nat.mul_comm p.1.natAbs g,Nat.mul_assoc]
    have h3:g*Int.lcm p.1 q.1=g*(p.1*b).natAbs:=by omega
    exact(Nat.eq_of_mul_eq_mul_left (by omega) h3).symm
   have hpb:0<p.1*b:=Int.mul_pos pp hb
   refine Zy (Zie (by omega)) ⟨some _,rfl,⟨Zcf (by omega) _,fun x=>?_⟩,fun r e=>?_⟩
   ·rw[ZcI (by omega),Zbb np,Zbb nq]
    have hx0:p.1*(d*y)=(q.2-p.2)+q.1*(d*z):=by
     rw[ed,ea,eb]
     have:(g:Int)*a*(d*y)=g*d*(a*y):=by
      rw[Int.mul_assoc,Int.mul_assoc,Int.mul_left_comm a d y]
     rw[this,hz,Int.mul_add,Int.mul_one]
     congr 1
     rw[Int.mul_assoc,Int.mul_assoc,Int.mul_left_comm d b z]
    constructor
    ·intro h
     have h1:p.1 ∣ x-(p.2+p.1*(d*y)):=Int.dvd_trans (Int.dvd_mul_right _ _) h
     have h2:q.1 ∣ x-(p.2+p.1*(d*y)):=Int.dvd_trans ⟨a,by rw[ea,eb];rw[Int.mul_assoc,Int.mul_assoc,Int.mul_comm a b]⟩ h
     refine⟨?_,?_⟩
     ·have:=Int.dvd_add h1 (Int.dvd_mul_right p.1 (d*y))
      rwa [show x-(p.2+p.1*(d*y))+p.1*(d*y)=x-p.2 by omega]at this
     ·have:=Int.dvd_add h2 (Int.dvd_mul_right q.1 (d*z))
      rwa [show x-(p.2+p.1*(d*y))+q.1*(d*z)=x-q.2 by omega]at this
    ·rintro⟨h1,h2⟩
     have h3:p.1 ∣ x-(p.2+p.1*(d*y)):=by
      have:=Int.dvd_sub h1 (Int.dvd_mul_right p.1 (d*y))
      rwa [show x-p.2-p.1*(d*y)=x-(p.2+p.1*(d*y))by omega]at this
     have h4:q.1 ∣ x-(p.2+p.1*(d*y)):=by
      have:=Int.dvd_sub h2 (Int.dvd_mul_right q.1 (d*z))
      rwa [show x-q.2-q.1*(d*z)=x-(p.2+p.1*(d*y))by omega]at this
     have h5:=Int.lcm_dvd (Int.dvd_natAbs.mpr h3) (Int.dvd_natAbs.mpr h4)
     rw[←hL]at h5
     have h6:(((p.1*b).natAbs:Nat):Int) ∣ (((x-(p.2+p.1*(d*y))).natAbs:Nat):Int):=Int.natCast_dvd_natCast.mpr h5
     exact Int.natAbs_dvd.mp (Int.dvd_natAbs.mp h6)
   ·cases e
    refine .inr (.inr ⟨c1,c2,?_⟩)
    unfold ZaK
    rw[if_neg (by omega)]
    show p.1*b=_
    rw[←hL]
    omega
  ·walk_at "zz"
   refine⟨none,rfl,fun x h=>c3 ?_,by simp⟩
   rw[Zbb np,Zbb nq]at h
   have h1:(g:Int) ∣ x-p.2:=Int.dvd_trans ⟨a,ea⟩ h.1
   have h2:(g:Int) ∣ x-q.2:=Int.dvd_trans ⟨b,eb⟩ h.2
   have h3:=Int.dvd_sub h1 h2
   rw[show x-p.2-(x-q.2)=q.2-p.2 by omega]at h3
   exact Int.emod_eq_zero_of_dvd h3
theorem Zjv{a b:Int}(ha:Bd k a)(hb:Bd k b): Bd k ((Int.gcd a b:Nat):Int):=by
 unfold Bd at *
 rw[Int.natAbs_natCast]
 by_cases z:a=0
 ·rw[z,Int.gcd_zero_left];exact hb
 ·exact Nat.lt_of_le_of_lt (Nat.gcd_le_left _ (by omega)) ha
noncomputable def ZaR(a b:Option Int): Option Int:=if dec (leO a b)then a else b
noncomputable def Zak: Option Int→Option Int→Option Int
 | some a,some b=>some (a+b)
 | _,_=>none
theorem addO_some{b:Option Int}{c:Int}: Zak a b=some c↔∃x y,a=some x∧b=some y∧x+y=c:=by
 cases a <;> cases b <;> simp[Zak]
theorem leO_total{b:Option Int}(h:¬leO a b): leO b a:=by
 cases a with
 | none=>exact Zc8
 | some x=>
  cases b with
  | none=>exact absurd Zc8 h
  | some y=>rw[leO_some]at h ⊢;omega
theorem Zf3{b:Option Int}: leO (ZaR a b) a:=by
 unfold ZaR
 split
 ·exact Zb7
 ·rename_i h;exact leO_total fun q=>h (ZaB q)
theorem Zhs{b:Option Int}: leO (ZaR a b) b:=by
 unfold ZaR
 split
 ·rename_i h;exact dec_iff.mp h
 ·exact Zb7
theorem ZeV(a b:Option Int): ZaR a b=a∨ZaR a b=b:=by
 unfold ZaR;split <;> simp
theorem Ztx{b:Option Int}(h:leO a b)(k:leO b a): a=b:=by
 cases a with
 | none=>
  cases b with
  | none=>rfl
  | some y=>exact absurd h Zhh
 | some x=>
  cases b with
  | none=>exact absurd k Zhh
  | some y=>rw[leO_some]at h k;rw[show x=y by omega]
theorem Zem{b:Option Int}(h:leO a b): ZaR a b=a:=by unfold ZaR;rw[ZaB h];rfl
theorem ZfH{b c d:Option Int}(h:leO a c)(k:leO b d): leO (Zak a b) (Zak c d):=by
 intro y e
 obtain⟨p,q,rfl,rfl,rfl⟩:=addO_some.mp e
 obtain⟨p',rfl,l1⟩:=h p rfl
 obtain⟨q',rfl,l2⟩:=k q rfl
 exact⟨p'+q',rfl,by omega⟩
theorem ZrQ: Zak a (some 0)=a:=by cases a <;> simp[Zak]
theorem ZrR: Zak (some 0) a=a:=by cases a <;> simp[Zak]
theorem ZgM{b c:Option Int}: Zak (Zak a b) c=Zak a (Zak b c):=by cases a <;> cases b <;> cases c <;> simp[Zak,Int.add_assoc]
theorem Zfr{b:Option Int}: ZdQ [oT a,oT b]=some (oT (Zak a b)):=by
 apply Pk.eq
 unfold ZdQ Zmg
 cases a with
 | none=>
  rw[Za1]
  walk_at "zz"
  rfl
 | some x=>
  cases b with
  | none=>
   rw[Za1,Zam]
   walk_at "zz"
   rfl
  | some y=>
   rw[Zam,Zam]
   walk_at "zz"
   rfl
theorem Zp1{b:Option Int}: Zg3 [oT a,oT b]=some (oT (ZaR a b)):=by
 apply Pk.eq
 unfold Zg3 Znr ZaR
 walk_at "zz"
 refine Zy Zlc ?_
 walk_at "zz"
 refine⟨fun e=>?_,fun e=>?_⟩
 ·walk_at "zz"
  rw[e];rfl
 ·walk_at "zz"
  rw[e];rfl
noncomputable def ZbH(G:Nat→Nat→Option Int)(m:Nat): Nat→Nat→Option Int:=fun i j=>ZaR (G i j) (Zak (G i m) (G m j))
theorem Zsq{a b:Nat→Option Int}{c:Option Int}(hn:n<10000): ZhM [Zaq n a,oT c,Zaq n b]=some (Zaq n fun j=>ZaR (a j) (Zak c (b j))):=by
 apply Pk.eq
 unfold ZhM ZjW Zaq
 walk_at "zz"
 refine Zno (n:=n) (a:=fun j=>oT (a j)) (b:=fun j=>oT (b j)) (c:=fun j=>oT (ZaR (a j) (Zak c (b j)))) hn ?_ (fun j hj=>?_) ?_
 ·walk_at "zz"
  rfl
 ·walk_at "zz"
  refine Zy Zfr ?_
  walk_at "zz"
  exact Zy Zp1 ⟨ZeS,rfl⟩
 rfl
theorem Zty(hn:n<10000)(hm:m<n): Zik [ZW n G,.int m]=some (ZW n (ZbH G m)):=by
 apply Pk.eq
 unfold Zik Zlw ZW
 walk_at "zz"
 refine Zb8 (n:=n) (a:=fun i=>Zaq n (G i)) (b:=fun i=>Zaq n (ZbH G m i)) hn ?_ (fun i hi=>?_) ?_
 ·walk_at "zz"
  rfl
 ·have h:Zaq n (G i)=.lst (tab n fun j=>oT (G i j)):=rfl
  rw[h]
  walk_at "zz"
  rw[←h]
  exact Zy (Zsq hn) rfl
 rfl
noncomputable def Neg(n:Nat)(G:Nat→Nat→Option Int): Prop:=∃i,i<n∧∃b,G i i=some b∧b<0
theorem ZvR(hn:n≤1000)(hd:∀i,i<n→∃b,G i i=some b): ZhT [ZW n G]=some (.bool (dec (Neg n G))):=by
 apply Pk.eq
 unfold ZhT Zkl ZW Zaq
 walk_at "zz"
 refine Zb8 (n:=n) (a:=fun i=>.int i) (b:=fun i=>.bool (dec (∃b,G i i=some b∧b<0))) (by omega) ?_ (fun i hi=>?_) ?_
 ·walk_at "zz"
  rfl
 ·walk_at "zz"
  obtain⟨b,e⟩:=hd i hi
  rw[e,Zam]
  walk_at "zz"
  rw[Zfs]
  congr 1
  refine Zej ⟨fun h=>⟨b,rfl,h⟩,?_⟩
  rintro⟨c,e,h⟩
  cases e
  exact h
 walk_at "zz"
 rfl
noncomputable def clG(G:Nat→Nat→Option Int): Nat→Nat→Nat→Option Int
 | 0=>G
 | m+1=>ZbH (clG G m) m
theorem Zqv(h:∃b,G i i=some b): ∃b,ZbH G m i i=some b:=by
 obtain⟨b,e⟩:=h
 have:=Zf3 (a:=G i i) (b:=Zak (G i m) (G m i))
 rw[e]at this
 obtain⟨c,e2,_⟩:=this b rfl
 exact⟨c,by unfold ZbH;rw[e];exact e2⟩
theorem Zn1{n:Nat}{G:Nat→Nat→Option Int}(hd:∀i,i<n→∃b,G i i=some b): ∀m i,i<n→∃b,clG G m i i=some b
 | 0=>hd
 | m+1=>fun i hi=>Zqv (Zn1 hd m i hi)
theorem Zu1(h0:0<n)(hn:n≤1000)(hd:∀i,i<n→∃b,G i i=some b): Pk (Zg4 [ZW n G]) fun t=>(t=ZW n (clG G n)∧∀m,m<n→¬Neg n (clG G (m+1)))∨(t=.none∧∃m,m<n∧Neg n (clG G (m+1))):=by
 unfold Zg4 Znt
 have hg:ZW n G=.lst (tab n fun i=>Zaq n (G i)):=rfl
 walk_at "zz"
 refine ZwU (n:=n) (a:=fun i=>.int i) h0 ?_ (P:=fun i σ=>σ 1=some (ZW n (clG G i))∧∀m,m<i→¬Neg n (clG G (m+1))) ⟨rfl,by omega⟩ ?_ ?_
 ·walk_at "zz"
  rw[hg]
  walk_at "zz"
  rfl
 ·rintro i σ hi ⟨e1,e2⟩
  walk_at "zz"
  refine Zy (Zty (by omega) hi) ?_
  walk_at "zz"
  refine Zy (ZvR hn fun a ha=>Zqv (Zn1 hd i a ha)) ?_
  walk_at "zz"
  refine⟨fun e=>?_,fun e=>?_⟩
  ·walk_at "zz"
   exact .inr ⟨rfl,i,hi,dec_iff.mp e⟩
  ·walk_at "zz"
   refine⟨by walk_at "zr",fun m hm=>?_⟩
   by_cases q:m=i
   ·subst q
    intro h
    have h2:dec (Neg n (ZbH (clG G m) m))=true:=ZaB h
    rw[h2]at e
    cases e
   ·exact e2 m (by omega)
 ·rintro σ ⟨e1,e2⟩
  walk_at "zz"
  exact .inl ⟨rfl,e2⟩
theorem ZhB{G:Nat→Nat→Option Int}: ∀m i j,leO (clG G m i j) (G i j)
 | 0=>fun _ _=>Zb7
 | m+1=>fun i j=>Zcg Zf3 (ZhB m i j)
theorem ZeW(hd:∀i,i<n→G i i=some 0)(hn:∀k,k<m→¬Neg n (clG G (k+1))): ∀i,i<n→clG G m i i=some 0:=by
 intro i hi
 obtain⟨b,e⟩:=Zn1 (fun i hi=>⟨0,hd i hi⟩) m i hi
 have h:=ZhB m i i (G:=G)
 rw[hd i hi,e]at h
 have h1:=leO_some.mp h
 have h2:¬b<0:=fun q=>by
  cases m with
  | zero=>have:=hd i hi;rw[show clG G 0 i i=G i i from rfl,this]at e;cases e;omega
  | succ m=>exact hn m (by omega) ⟨i,hi,b,e,q⟩
 rw[e,show b=0 by omega]
theorem Zom{n:Nat}{G:Nat→Nat→Option Int}(hd:∀i,i<n→G i i=some 0): ∀m,m≤n→(∀k,k<m→¬Neg n (clG G (k+1)))→∀k,k<m→∀i j,i<n→j<n→leO (clG G m i j) (Zak (clG G m i k) (clG G m k j))
 | 0,_,_,k,hk=>by omega
 | m+1,hm,hn,k,hk=>by
  intro i j hi hj
  have z:=ZeW hd (fun k hk=>hn k (by omega):∀k,k<m→_)
  have ih:=Zom hd m (by omega) (fun k hk=>hn k (by omega))
  generalize hD:clG G m=D at z ih
  have hs:clG G (m+1)=ZbH D m:=by rw[←hD];rfl
  rw[hs]
  have zm:=z m (by omega)
  have cm:∀a,ZbH D m a m=D a m:=fun a=>by unfold ZbH;rw[zm,ZrQ];exact Zem Zb7
  have rm:∀b,ZbH D m m b=D m b:=fun b=>by unfold ZbH;rw[zm,ZrR];exact Zem Zb7
  by_cases q:k=m
  ·subst q
   rw[cm,rm]
   exact Zhs
  ·have hk':k<m:=by omega
   have t1:=ih k hk' i j hi hj
   have t2:=ih k hk' i m hi (by omega)
   have t3:=ih k hk' m j (by omega) hj
   have t4:=ih k hk' m m (by omega) (by omega)
   rw[zm]at t4
   have dn:leO (ZbH D m i j) (Zak (D i m) (D m j)):=Zhs
   have d0:leO (ZbH D m i j) (D i j):=Zf3
   rcases ZeV (D i k) (Zak (D i m) (D m k))with e1 | e1 <;> rcases ZeV (D k j) (Zak (D k m) (D m j))with e2 | e2
   ·rw[show ZbH D m i k=_ from e1,show ZbH D m k j=_ from e2]
    exact Zcg d0 t1
   ·rw[show ZbH D m i k=_ from e1,show ZbH D m k j=_ from e2,←ZgM]
    exact Zcg dn (ZfH t2 Zb7)
   ·rw[show ZbH D m i k=_ from e1,show ZbH D m k j=_ from e2,ZgM]
    exact Zcg dn (ZfH Zb7 t3)
   ·rw[show ZbH D m i k=_ from e1,show ZbH D m k j=_ from e2,ZgM,←ZgM (a:=D m k)]
    refine Zcg dn (ZfH Zb7 ?_)
    have:=ZfH t4 (Zb7 (a:=D m j))
    rwa [ZrR]at this
noncomputable def ZhC(n:Nat)(G:Nat→Nat→Option Int)(y:Nat→Int): Prop:=∀i j,i<n→j<n→∀b,G i j=some b→y i-y j≤b
theorem Znz{n:Nat}{G:Nat→Nat→Option Int}{y:Nat→Int}(h:ZhC n G y): ∀m,m≤n→ZhC n (clG G m) y
 | 0,_=>h
 | m+1,hm=>by
  have ih:=Znz h m (by omega)
  intro i j hi hj b e
  rcases ZeV (clG G m i j) (Zak (clG G m i m) (clG G m m j))with e1 | e1
  ·rw[show clG G (m+1) i j=_ from e1]at e;exact ih i j hi hj b e
  ·rw[show clG G (m+1) i j=_ from e1]at e
   obtain⟨p,q,h1,h2,h3⟩:=addO_some.mp e
   have:=ih i m hi (by omega) p h1
   have:=ih m j (by omega) hj q h2
   omega
theorem Zu2{y:Nat→Int}(h:ZhC n G y): ¬Neg n G:=by
 rintro⟨i,hi,b,e,hb⟩
 have:=h i i hi hi b e
 omega
theorem ZpI(h:Zay n G R x): ZhC (n+1) G (Zas x):=fun i j hi hj b e=>h.1 i j hi hj b e
theorem Zm6{k:Int}: Zfo [.int k]=some (.bool true):=by
 apply Pk.eq
 unfold Zfo Zly
 walk_at "zz"
 rfl
theorem Zw1(hn:n≤1000)(hd:∀i,i<n→G i i=some 0): Ziy [ZW n G,.int n]=some (.bool true):=by
 apply Pk.eq
 unfold Ziy Zmj ZW Zaq
 walk_at "zz"
 refine Za2 (n:=n) (a:=fun i=>.int i) (P:=fun i σ=>σ 0=some (ZW n G)∧σ 1=some (.int n)) ?_ ⟨rfl,rfl⟩ ?_ ?_
 ·walk_at "zz"
  rfl
 ·rintro i σ hi ⟨e0,e1⟩
  unfold ZW Zaq at e0
  walk_at "zz"
  refine Za2 (n:=n) (a:=fun j=>oT (G i j)) (P:=fun j σ=>σ 0=some (ZW n G)∧σ 1=some (.int n)∧σ 2=some (.int i)) ?_ ⟨by walk_at "zr",by walk_at "zr",by walk_at "zr"⟩ ?_ ?_
  ·walk_at "zz"
   rfl
  ·rintro j σ hj ⟨f0,f1,f2⟩
   cases G i j with
   | none=>
    rw[Za1]
    walk_at "zz"
    exact⟨by walk_at "zr",by walk_at "zr",by walk_at "zr"⟩
   | some b=>
    rw[Zam]
    walk_at "zz"
    refine Zy Zm6 ?_
    walk_at "zz"
    exact⟨by walk_at "zr",by walk_at "zr",by walk_at "zr"⟩
  ·rintro σ ⟨f0,f1,f2⟩
   unfold ZW Zaq at f0
   walk_at "zz"
   rw[hd i hi,Zam]
   walk_at "zz"
   exact⟨by walk_at "zr",by walk_at "zr"⟩
 ·rintro σ ⟨e0,e1⟩
  walk_at "zz"
  rfl
section
variable {Q:T→Prop}
theorem ZiM{p:PE}(h:Pk (p σ) fun t=>∃ts,t=.lst ts∧Q (.lst (ts.drop k))): Pk (Zds p k σ) Q:=by
 obtain⟨_,e,ts,rfl,q⟩:=h
 exact⟨_,by simp only[Zds,e,Option.bind_some],q⟩
end
noncomputable abbrev Sp:=Option Int×Option Int
noncomputable def spT(s:Sp): T:=.tup [oT s.1,oT s.2]
noncomputable def SBd(k:Nat)(s:Sp): Prop:=(∀x,s.1=some x→Bd k x)∧∀x,s.2=some x→Bd k x
theorem Zq7{x:Int}(h:Bd k x): Bd k (Za6 x):=by unfold Za6;unfold Bd at *;split <;> omega
noncomputable def InS(s:Sp)(x:Int): Prop:=(∀l,s.1=some l→l≤x)∧∀h,s.2=some h→x≤h
theorem Zif{k:Int}(hi:i≤100000)(ha:∀x,a=some x→Bd i x)(hk:Bd i k): ZeG [oT a,.int k]=some (oT (a.map fun x=>x*k)):=by
 apply Pk.eq
 unfold ZeG ZlB
 cases a with
 | none=>
  simp only[Za1,Option.map_none]
  walk_at "zz"
  rfl
 | some x=>
  simp only[Zam,Option.map_some]
  walk_at "zz"
  refine Zby (ZbM (ha x rfl) hk (by omega) (by omega)) ?_
  rfl
noncomputable def Zcw(s:Sp)(k:Int): Sp:=if k=0 then(some 0,some 0)else if k<0 then(s.2.map fun x=>x*k,s.1.map fun x=>x*k)else(s.1.map fun x=>x*k,s.2.map fun x=>x*k)
theorem Zsr{s:Sp}{k:Int}(hi:i≤100000)(hs:SBd i s)(hk:Bd i k): ZhN [spT s,.int k]=some (spT (Zcw s k)):=by
 apply Pk.eq
 unfold ZhN ZjZ Zcw spT
 by_cases c:k=0
 ·walk_at "zz"
  rw[if_pos c]
  rfl
 ·rw[if_neg c]
  walk_at "zz"
  refine Zy (Zif hi hs.1 hk) ?_
  walk_at "zz"
  refine Zy (Zif hi hs.2 hk) ?_
  by_cases d:k<0
  ·walk_at "zz"
   rw[if_pos d]
  ·walk_at "zz"
   rw[if_neg d]
noncomputable def ZjI(s u:Sp): Sp:=(Zak s.1 u.1,Zak s.2 u.2)
theorem ZsC{s u:Sp}: ZhU [spT s,spT u]=some (spT (ZjI s u)):=by
 apply Pk.eq
 unfold ZhU Zko spT
 walk_at "zz"
 refine Zy Zfr ?_
 walk_at "zz"
 refine Zy Zfr ?_
 walk_at "zz"
 rfl
noncomputable def ZbZ(c:Nat→Int)(S:Nat→Sp): Nat→Sp
 | 0=>(some (c 0),some (c 0))
 | j+1=>ZjI (ZbZ c S j) (Zcw (S j) (c (j+1)))
theorem ZiW{f:Nat→T}: (tab (n+1) f).drop 1=tab n fun i=>f (i+1):=by
 apply List.ext_getElem
 ·simp[tab]
 ·intro i h1 h2
  simp[tab]
theorem ZsQ{S:Nat→Sp}(hn:n≤100)(hi:i≤100000)(bc:∀j,j<n+1→Bd i (c j))(bS:∀j,j<n→SBd i (S j)): Zh0 [.lst (tab (n+1) fun j=>.int (c j)),.lst (tab n fun j=>spT (S j))]=some (spT (ZbZ c S n)):=by
 apply Pk.eq
 unfold Zh0 ZkF
 walk_at "zz"
 refine Zi9 (n:=n) (a:=fun j=>.int (c (j+1))) (c:=fun j=>spT (S j)) (P:=fun j σ=>σ 2=some (spT (ZbZ c S j))) ?_ rfl ?_ ?_
 ·refine Zof ?_
  refine ZiM ?_
  walk_at "zz"
  refine⟨_,rfl,?_⟩
  rw[ZiW]
  walk_at "zz"
  rfl
 ·rintro j σ hj e2
  walk_at "zz"
  refine Zy (Zsr hi (bS j hj) (bc (j+1) (by omega))) ?_
  walk_at "zz"
  refine Zy ZsC ?_
  walk_at "zz"
  exact ZbD
 ·rintro σ e2
  walk_at "zz"
  rfl
noncomputable def ZaN(c:Nat→Int)(R:Nat→Int×Int): Nat→Int×Int
 | 0=>(0,c 0)
 | j+1=>Zbu (ZaN c R j) (Zcv (R j) (c (j+1)))
noncomputable def Zbr(c:Nat→Int)(R:Nat→Int×Int): Nat→Int
 | 0=>0
 | j+1=>Int.gcd (Zbr c R j) (c (j+1)*(R j).1)
noncomputable def ZbI(c:Nat→Int)(R:Nat→Int×Int): Nat→Int
 | 0=>c 0
 | j+1=>ZbI c R j+c (j+1)*(R j).2
theorem ZdV(c:Nat→Int)(R:Nat→Int×Int): ∀j,0≤Zbr c R j
 | 0=>by show(0:Int)≤0;decide
 | j+1=>by show(0:Int)≤((Int.gcd _ _:Nat):Int);omega
theorem Zjd{c:Nat→Int}{R:Nat→Int×Int}{n i:Nat}(bc:∀j,j<n+1→Bd i (c j))(bR:∀j,j<n→RBd i (R j)): ∀j,j≤n→Bd (i+i) (Zbr c R j)
 | 0,_=>Zcp
 | j+1,h=>Zjv (Zjd bc bR j (by omega)) ((bc (j+1) (by omega)).mul (bR j (by omega)).1)
theorem Zq8{c:Nat→Int}{R:Nat→Int×Int}{n i:Nat}(bc:∀j,j<n+1→Bd i (c j))(bR:∀j,j<n→RBd i (R j)): ∀j,j≤n→Bd (i+i+j) (ZbI c R j)
 | 0,_=>(bc 0 (by omega)).mono (by omega)
 | j+1,h=>(Zq8 bc bR j (by omega)).add (((bc (j+1) (by omega)).mul (bR j (by omega)).2).mono (by omega))
theorem Zpa{m a b:Int}(h:0≤m)(hd:m ∣ a-b): ZaK m a=ZaK m b:=by
 refine Zis (Zcf h _) (Zcf h _) fun x=>?_
 rw[ZcI h,ZcI h]
 constructor
 ·intro q
  have:=Int.dvd_add q hd
  rwa [show x-a+(a-b)=x-b by omega]at this
 ·intro q
  have:=Int.dvd_sub q hd
  rwa [show x-b-(a-b)=x-a by omega]at this
theorem ZiD{m:Int}(h:0≤m): m ∣ (ZaK m r).2-r:=by
 have:=(ZcI (r:=r) h (ZaK m r).2).mp (Zcf h r).self
 exact this
theorem ZdR{m:Int}: (ZaK m r).1=m:=by
 unfold ZaK
 split
 ·rename_i h;exact h.symm
 ·rfl
theorem Zdb{c:Nat→Int}{R:Nat→Int×Int}{n:Nat}(ok:∀j,j<n→RestOk (R j)): ∀j,j≤n→ZaN c R j=ZaK (Zbr c R j) (ZbI c R j)
 | 0,_=>rfl
 | j+1,h=>by
  have ih:=Zdb (c:=c) ok j (by omega)
  have h0:=ZdV c R j
  have hr:=(ok j (by omega)).nn
  show Zbu (ZaN c R j) (Zcv (R j) (c (j+1)))=_
  rw[ih]
  unfold Zbu Zcv
  rw[ZdR,ZdR]
  have hab:0≤(R j).1*Za6 (c (j+1)):=Int.mul_nonneg hr (Zdy _)
  have eg:((Int.gcd (Zbr c R j) ((R j).1*Za6 (c (j+1))):Nat):Int)=Zbr c R (j+1):=by
   show _=((Int.gcd (Zbr c R j) (c (j+1)*(R j).1):Nat):Int)
   congr 1
   unfold Int.gcd
   rw[Int.natAbs_mul,Int.natAbs_mul,Zny,Nat.mul_comm]
  rw[eg]
  have h1:Zbr c R (j+1) ∣ Zbr c R j:=Int.gcd_dvd_left ..
  have h2:Zbr c R (j+1) ∣ (R j).1*Za6 (c (j+1)):=by rw[←eg];exact Int.gcd_dvd_right ..
  refine Zpa (ZdV _ _ _) ?_
  have a1:=Int.dvd_trans h1 (ZiD (r:=ZbI c R j) h0)
  have a2:=Int.dvd_trans h2 (ZiD (r:=(R j).2*c (j+1)) hab)
  have:=Int.dvd_add a1 a2
  rw[show ZbI c R (j+1)=ZbI c R j+c (j+1)*(R j).2 from rfl,Int.mul_comm (c (j+1))]
  generalize (ZaK (Zbr c R j) (ZbI c R j)).2=u at *
  generalize (ZaK ((R j).1*Za6 (c (j+1))) ((R j).2*c (j+1))).2=v at *
  generalize (R j).2*c (j+1)=z at *
  rwa [show u-ZbI c R j+(v-z)=u+v-(ZbI c R j+z)by omega]at this
theorem ZpJ{b:Option Int}: ZfE [oT a,oT b]=some (.bool (dec (∃x y,a=some x∧b=some y∧y<x))):=by
 apply Pk.eq
 unfold ZfE ZmX
 cases a with
 | none=>
  rw[Za1]
  walk_at "zz"
  rw[ZaC (by rintro⟨x,y,h,_⟩;cases h)]
 | some x=>
  cases b with
  | none=>
   rw[Za1,Zam]
   walk_at "zz"
   rw[ZaC (by rintro⟨x,y,_,h,_⟩;cases h)]
  | some y=>
   rw[Zam,Zam]
   walk_at "zz"
   congr 1
   by_cases h:y<x
   ·rw[ZaB ⟨x,y,rfl,rfl,h⟩];simp[h]
   ·rw[ZaC (by rintro⟨x',y',h1,h2,h3⟩;cases h1;cases h2;exact h h3)];simp[h]
theorem Zu3{s:Sp}{x k:Int}(h:InS s x): InS (Zcw s k) (k*x):=by
 unfold Zcw
 obtain⟨a,b⟩:=s
 by_cases c:k=0
 ·rw[if_pos c,c,Int.zero_mul]
  exact⟨fun l e=>by cases e;omega,fun l e=>by cases e;omega⟩
 ·rw[if_neg c]
  by_cases d:k<0
  ·rw[if_pos d]
   refine⟨fun l e=>?_,fun l e=>?_⟩
   ·cases b with
    | none=>cases e
    | some y=>
     cases e
     have:=h.2 y rfl
     show y*k≤k*x
     rw[Int.mul_comm]
     exact Int.mul_le_mul_of_nonpos_left (a:=k) (by omega) this
   ·cases a with
    | none=>cases e
    | some y=>
     cases e
     have:=h.1 y rfl
     show k*x≤y*k
     rw[Int.mul_comm y]
     exact Int.mul_le_mul_of_nonpos_left (a:=k) (by omega) this
  ·rw[if_neg d]
   refine⟨fun l e=>?_,fun l e=>?_⟩
   ·cases a with
    | none=>cases e
    | some y=>
     cases e
     have:=h.1 y rfl
     show y*k≤k*x
     rw[Int.mul_comm]
     exact Int.mul_le_mul_of_nonneg_left this (show 0≤k by omega)
   ·cases b with
    | none=>cases e
    | some y=>
     cases e
     have:=h.2 y rfl
     show k*x≤y*k
     rw[Int.mul_comm y]
     exact Int.mul_le_mul_of_nonneg_left this (show 0≤k by omega)
theorem ZvS{s u:Sp}{x:Int}(h:InS s x)(k:InS u y): InS (ZjI s u) (x+y):=by
 refine⟨fun l e=>?_,fun l e=>?_⟩
 ·obtain⟨a,b,h1,h2,rfl⟩:=addO_some.mp e
  have:=h.1 a h1
  have:=k.1 b h2
  omega
 ·obtain⟨a,b,h1,h2,rfl⟩:=addO_some.mp e
  have:=h.2 a h1
  have:=k.2 b h2
  omega
noncomputable def ZR(R:Nat→Int×Int): Nat→Int×Int:=cn (0,0) R
theorem Zoz(R:Nat→Int×Int): cn (T.tup [.int 0,.int 0]) (fun i=>ZT (R i))=fun i=>ZT (ZR R i):=by
 funext i;cases i <;> rfl
theorem ZoW(hn:n<9000): Zfk [ZaQ n R]=some (ZaQ (n+1) (ZR R)):=by
 apply Pk.eq
 unfold Zfk ZkH ZaQ
 walk_at "zz"
 rw[Zoz]
noncomputable def RB(M:Int)(k:Nat)(q:Int×Int): Prop:=RestOk q∧(q.1=0∨q.1 ∣ M)∧Bd k q.2
theorem RB.mono(h:RB M i q)(hij:i≤j): RB M j q:=⟨h.1,h.2.1,h.2.2.mono hij⟩
theorem RB.bd(hM:0<M)(bM:Bd k M)(h:RB M k q): RBd k q:=by
 refine⟨?_,h.2.2⟩
 rcases h.2.1 with e | e
 ·rw[e];exact Zcp
 ·exact Zdh bM h.1.nn (Int.le_of_dvd hM e)
theorem Zdn(h:∀t,t<n→RB M k (R t)): ∀i,i<n+1→RB M k (ZR R i)
 | 0,_=>⟨.inl rfl,.inl rfl,Zcp⟩
 | i+1,hi=>h i (by omega)
noncomputable def ZcX(n:Nat)(G:Nat→Nat→Option Int)(R:Nat→Int×Int)(i:Nat)(m:Nat)(x:Int): Prop:=Zai (ZR R i) x∧∀j,j<m→∀a b,G i j=some a→G j i=some b→a+b=0→Zai (ZR R j) (x-a)
noncomputable def Zdf(n:Nat)(G:Nat→Nat→Option Int)(R:Nat→Int×Int)(M:Int)(k:Nat)(i m:Nat)(o:Option (Int×Int)): Prop:=match o with
 | none=>∀x,¬ZcX n G R i m x
 | some q=>RB M k q∧∀x,Zai q x↔ZcX n G R i m x
theorem Zpn(h:RestOk q)(a x:Int): Zai (Zbu q (0,a)) x↔Zai q (x-a):=by
 unfold Zbu
 rw[ZcI (by omega),Zbb h.nn]
 simp only[Int.gcd_zero_right]
 rw[Int.natAbs_of_nonneg h.nn,show x-(q.2+a)=x-a-q.2 by omega]
theorem ZsD(hn:n≤100)(hi:i<n+1)(hk:k≤7000)(hM:0<M)(bM:Bd k M)(bG:∀a b c,a<n+1→b<n+1→G a b=some c→Bd k c)(hR:∀t,t<n→RB M k (R t)): Pk (ZeC [ZW (n+1) G,ZaQ (n+1) (ZR R),.int i]) fun t=>∃o,t=oR o∧Zdf n G R M (k+1) i (n+1) o:=by
 unfold ZeC Zkq
 have hF:=Zdn hR
 have bM1:Bd (k+1) M:=bM.mono (by omega)
 have hr:ZaQ (n+1) (ZR R)=.lst (tab (n+1) fun i=>ZT (ZR R i)):=rfl
 rw[hr]
 walk_at "zz"
 refine Zi9 (n:=n+1) (a:=fun j=>.int j) (c:=fun j=>ZT (ZR R j)) (P:=fun m σ=>∃o,σ 0=some (ZW (n+1) G)∧σ 1=some (.lst (tab (n+1) fun i=>ZT (ZR R i)))∧σ 2=some (.int i)∧σ 3=some (oR o)∧Zdf n G R M (k+1) i m o) ?_ ⟨some (ZR R i),by walk_at "zr",by walk_at "zr",by walk_at "zr",by walk_at "zr",(hF i hi).mono (by omega),fun x=>⟨fun h=>⟨h,by omega⟩,fun h=>h.1⟩⟩ ?_ ?_
 ·walk_at "zz"
  rfl
 ·rintro j σ hj ⟨o,e0,e1,e2,e3,ho⟩
  unfold ZW Zaq at e0
  cases o with
  | none=>
   have e3':σ 3=some .none:=e3
   clear e3
   walk_at "zz"
   refine⟨none,by walk_at "zr",by walk_at "zr",by walk_at "zr",by walk_at "zr",fun x h=>ho x ⟨h.1,fun j' hj'=>h.2 j' (by omega)⟩⟩
  | some q=>
   have e3':σ 3=some (.tup [.int q.1,.int q.2]):=e3
   clear e3
   walk_at "zz"
   refine Zy Zfr ?_
   walk_at "zz"
   refine Zbs (ZhA (n:=0)) (.int (n:=0)) ?_
   walk_at "zz"
   have stay:(∀a b,G i j=some a→G j i=some b→¬a+b=0)→Zdf n G R M (k+1) i (j+1) (some q):=fun h=>⟨ho.1,fun x=>(ho.2 x).trans ⟨fun hx=>⟨hx.1,fun j' hj' a b ha hb hab=>by
     by_cases q':j'=j
     ·subst q';exact absurd hab (h a b ha hb)
     ·exact hx.2 j' (by omega) a b ha hb hab⟩,fun hx=>⟨hx.1,fun j' hj'=>hx.2 j' (by omega)⟩⟩⟩
   refine⟨fun e=>?_,fun e=>?_⟩
   ·have e':=dec_iff.mp e
    rw[←Zam,oT_inj]at e'
    obtain⟨a,b,ha,hb,hab⟩:=addO_some.mp e'
    walk_at "zz"
    rw[ha,Zam]
    have hj2:=hF j hj
    have ba:=bG i j a hi hj ha
    refine Zy (Zle (p:=ZR R j) (q:=(0,a)) (k:=k) (by omega) (hj2.bd hM bM).1 Zcp) ?_
    have hpl:RB M (k+1) (Zbu (ZR R j) (0,a)):=by
     refine⟨ZiV _ _,?_,?_⟩
     ·unfold Zbu ZaK
      simp only[Int.gcd_zero_right]
      rw[Int.natAbs_of_nonneg hj2.1.nn]
      split
      ·exact .inl rfl
      ·exact hj2.2.1
     ·have hm:=(hj2.bd hM bM).1
      refine(ZgV (k:=k+1) (by omega) ?_ (Bd.add hj2.2.2 ba)).2
      simp only[Int.gcd_zero_right]
      rw[Int.natAbs_of_nonneg hj2.1.nn]
      exact hm.mono (by omega)
    walk_at "zz"
    refine(ZlR (p:=q) (q:=Zbu (ZR R j) (0,a)) (k:=k+1) (by omega) ho.1.1 hpl.1 (ho.1.bd hM bM1) (hpl.bd hM bM1)).mono ?_
    rintro _ ⟨o',rfl,mt,wh⟩
    refine⟨o',by walk_at "zr",by walk_at "zr",by walk_at "zr",by walk_at "zr",?_⟩
    have hset:∀x,(Zai q x∧Zai (Zbu (ZR R j) (0,a)) x)↔ZcX n G R i (j+1) x:=fun x=>by
     rw[ho.2 x,Zpn hj2.1]
     constructor
     ·rintro⟨h1,h2⟩
      refine⟨h1.1,fun j' hj' c d hc hd hcd=>?_⟩
      by_cases q':j'=j
      ·subst q';rw[ha]at hc;cases hc;exact h2
      ·exact h1.2 j' (by omega) c d hc hd hcd
     ·intro h
      exact⟨⟨h.1,fun j' hj'=>h.2 j' (by omega)⟩,h.2 j (by omega) a b ha hb hab⟩
    cases o' with
    | none=>exact fun x hx=>mt x ((hset x).mpr hx)
    | some r=>
     refine⟨⟨mt.1,?_,?_⟩,fun x=>(mt.2 x).trans (hset x)⟩
     ·rcases wh r rfl with h | h | ⟨h1,h2,h3⟩
      ·rw[h];exact ho.1.2.1
      ·rw[h];exact hpl.2.1
      ·right
       rw[h3]
       exact Int.coe_lcm_dvd (ho.1.2.1.resolve_left h1) (hpl.2.1.resolve_left h2)
     ·rcases wh r rfl with h | h | ⟨h1,h2,h3⟩
      ·rw[h];exact ho.1.2.2
      ·rw[h];exact hpl.2.2
      ·rcases mt.1 with z | z
       ·have:(Int.lcm q.1 (Zbu (ZR R j) (0,a)).1)≠0:=Int.lcm_ne_zero h1 h2
        omega
       ·have hd:r.1 ∣ M:=by
         rw[h3]
         exact Int.coe_lcm_dvd (ho.1.2.1.resolve_left h1) (hpl.2.1.resolve_left h2)
        exact Zdh bM1 z.2.1 (by have:=Int.le_of_dvd hM hd;omega)
   ·walk_at "zz"
    refine⟨some q,by walk_at "zr",by walk_at "zr",by walk_at "zr",by walk_at "zr",stay fun a b ha hb hab=>?_⟩
    have:dec (oT (Zak (G i j) (G j i))=.int 0)=true:=ZaB (by rw[ha,hb];simp[Zak,oT,hab])
    rw[this]at e
    cases e
 ·rintro σ ⟨o,e0,e1,e2,e3,ho⟩
  walk_at "zz"
  exact⟨o,rfl,ho⟩
theorem ZrS: Zcn 1 1 1=some []:=by
 unfold Zcn
 rw[if_pos (by decide +kernel)]
 rfl
theorem ZjJ: Pln 1 (oR o):=by
 cases o with
 | none=>exact .none
 | some q=>exact Zf0
theorem oR_none: oR o=.none↔o=none:=by cases o <;> simp[oR,ZT]
noncomputable def Hand(n:Nat)(G:Nat→Nat→Option Int)(R R':Nat→Int×Int)(M:Int)(k:Nat): Prop:=∀t,t<n→RB M k (R' t)∧∀x,Zai (R' t) x↔ZcX n G R (t+1) (n+1) x
theorem ZsR(hn:n≤100)(hk:k≤7000)(hM:0<M)(bM:Bd k M)(bG:∀a b c,a<n+1→b<n+1→G a b=some c→Bd k c)(hR:∀t,t<n→RB M k (R t)): Pk (ZdM [Zz n G R]) fun t=>(∃R',t=Zz n G R'∧Hand n G R R' M (k+1))∨(t=.none∧∃i,i<n∧∀x,¬ZcX n G R (i+1) (n+1) x):=by
 unfold ZdM Zgn
 have ht:Zz n G R=.tup [ZW (n+1) G,ZaQ n R]:=rfl
 rw[ht]
 walk_at "zz"
 refine Zy (ZoW (by omega)) ?_
 have hr:ZaQ (n+1) (ZR R)=.lst (tab (n+1) fun i=>ZT (ZR R i)):=rfl
 walk_at "zz"
 refine ZuZ oR (fun t o=>Zdf n G R M (k+1) (t+1) (n+1) o) (n:=n) (a:=fun i=>.int (i+1)) (by omega) ?_ (fun t ht=>?_) none (fun y hy=>?_)
 ·by_cases h0:n=0
  ·subst h0
   exact⟨[],Zhd (a:=1) (b:=1) rfl ZrS,rfl⟩
  ·rw[hr]
   walk_at "zz"
   refine Rn.two 1 n (by decide) (by omega) (by omega) (by omega) ?_
   refine Zbg fun i _=>?_
   congr 1
   omega
 ·walk_at "zz"
  refine(ZsD (i:=t+1) hn (by omega) hk hM bM bG hR).mono ?_
  rintro _ ⟨o,rfl,ho⟩
  exact⟨o,rfl,ho⟩
 ·walk_at "zz"
  refine Zf9 (.none (n:=0)) (Zer (n:=1) fun i _=>ZjJ) ?_
  by_cases hc:∃i,i<n∧y i=none
  ·obtain⟨i,hi,ei⟩:=hc
   rw[ZaB (show T.none∈tab n fun i=>oR (y i)from List.mem_of_getElem? (i:=i) (by rw[Zbx hi,ei];rfl))]
   walk_at "zz"
   refine .inr ⟨rfl,i,hi,?_⟩
   have:=hy i hi
   rw[ei]at this
   exact this
  ·rw[ZaC (show ¬T.none∈tab n fun i=>oR (y i)from fun h=>by
    obtain⟨i,hi,e⟩:=ZcL h
    exact hc ⟨i,hi,oR_none.mp e.symm⟩)]
   walk_at "zz"
   have hs:∀i,i<n→y i=some ((y i).getD (1,0)):=fun i hi=>by
    cases e:y i with
    | none=>exact absurd ⟨i,hi,e⟩ hc
    | some q=>rfl
   refine .inl ⟨fun i=>(y i).getD (1,0),?_,fun t ht=>?_⟩
   ·unfold Zz ZaQ
    congr 4
    refine Zbg fun i hi=>?_
    conv=>lhs;rw[hs i hi]
    rfl
   ·have:=hy t ht
    rw[hs t ht]at this
    exact this
theorem ZoL: ZdM [.none]=some .none:=by
 apply Pk.eq
 unfold ZdM Zgn
 walk_at "zz"
 rfl
noncomputable def Zbv(R:Nat→Int×Int)(i j:Nat): Int×Int:=Zbu (ZR R i) (Zcv (ZR R j) (-1))
noncomputable def ZbJ(b:Option Int)(q:Int×Int): Option Int:=match b with
 | some b=>ZdE q b
 | none=>if q.1=0 then some q.2 else none
noncomputable def ZaO(G:Nat→Nat→Option Int)(R:Nat→Int×Int): Nat→Nat→Option Int:=fun i j=>ZbJ (G i j) (Zbv R i j)
noncomputable def Zdz(n:Nat)(G:Nat→Nat→Option Int)(R:Nat→Int×Int): Prop:=∃i j,i<n+1∧j<n+1∧∃b,G i j=some b∧ZaO G R i j=none
theorem Zss{b:Option Int}(hq:0≤q.1): ZhO [oT b,ZT q]=some (oT (ZbJ b q)):=by
 apply Pk.eq
 unfold ZhO Zj2 ZbJ
 cases b with
 | none=>
  have ep:ZT q=.tup [.int q.1,.int q.2]:=rfl
  rw[Za1,ep]
  by_cases c:q.1=0
  ·walk_at "zz"
   simp[c,oT]
  ·walk_at "zz"
   simp[c,oT]
 | some b=>
  rw[Zam]
  walk_at "zz"
  exact Zy (Zte hq) rfl
theorem ZsS{b:Nat→Option Int}(hn:n≤100)(hi:i<n+1)(hk:k≤7000)(hM:0<M)(bM:Bd k M)(hR:∀t,t<n→RB M k (R t)): Pk (Zh1 [Zaq (n+1) b,ZT (ZR R i),ZaQ (n+1) (ZR R)]) fun t=>(t=Zaq (n+1) (fun j=>ZbJ (b j) (Zbv R i j))∧∀j,j<n+1→∀c,b j=some c→ZbJ (b j) (Zbv R i j)≠none)∨(t=.none∧∃j,j<n+1∧∃c,b j=some c∧ZbJ (b j) (Zbv R i j)=none):=by
 unfold Zh1 ZkL
 have hF:=Zdn hR
 have hb:Zaq (n+1) b=.lst (tab (n+1) fun j=>oT (b j)):=rfl
 have hr:ZaQ (n+1) (ZR R)=.lst (tab (n+1) fun i=>ZT (ZR R i)):=rfl
 rw[hb,hr]
 walk_at "zz"
 refine Zi9 (n:=n+1) (a:=fun j=>oT (b j)) (c:=fun j=>ZT (ZR R j)) (P:=fun m σ=>σ 1=some (ZT (ZR R i))∧σ 3=some (.lst (tab m fun j=>oT (ZbJ (b j) (Zbv R i j))))∧∀j,j<m→∀c,b j=some c→ZbJ (b j) (Zbv R i j)≠none) ?_ ⟨by walk_at "zr",by walk_at "zr",by omega⟩ ?_ ?_
 ·walk_at "zz"
  rfl
 ·rintro j σ hj ⟨e1,e3,st⟩
  have h1:=hF i hi
  have h2:=hF j hj
  have b1:=h1.bd hM bM
  have b2:=h2.bd hM bM
  have bt:Bd (k+1) (Zcv (ZR R j) (-1)).1:=by
   refine(ZgV (k:=k+1) (Int.mul_nonneg h2.1.nn (Zdy _)) ?_ ?_).1
   ·have:=Bd.mul b2.1 (show Bd 1 (Za6 (-1))by unfold Bd;decide);exact this
   ·have:=Bd.mul b2.2 (show Bd 1 (-1)by unfold Bd;decide);exact this
  walk_at "zz"
  refine Zy (ZkU (p:=ZR R j) (c:=-1) (k:=k+1) (by omega) h2.1.nn ⟨b2.1.mono (by omega),b2.2.mono (by omega)⟩ (show Bd (k+1) (-1)from(show Bd 1 (-1)by unfold Bd;decide).mono (by omega))) ?_
  walk_at "zz"
  refine Zy (Zle (k:=k+1) (by omega) (b1.1.mono (by omega)) bt) ?_
  walk_at "zz"
  refine Zy (Zss (ZiV _ _).nn) ?_
  have hd:Zbu (ZR R i) (Zcv (ZR R j) (-1))=Zbv R i j:=rfl
  rw[hd]
  walk_at "zz"
  have app:∀w,w=oT (ZbJ (b j) (Zbv R i j))→tab j (fun j=>oT (ZbJ (b j) (Zbv R i j)))++[w]=tab (j+1) fun j=>oT (ZbJ (b j) (Zbv R i j)):=fun w e=>by rw[e];exact ZdT
  cases hl:ZbJ (b j) (Zbv R i j)with
  | none=>
   rw[Za1]
   walk_at "zz"
   cases hbj:b j with
   | none=>
    rw[Za1]
    walk_at "zz"
    rw[app _ (by rw[hl];rfl)]
    refine⟨by walk_at "zr",by walk_at "zr",fun j' hj' c hc=>?_⟩
    by_cases q:j'=j
    ·subst q;rw[hbj]at hc;cases hc
    ·exact st j' (by omega) c hc
   | some c=>
    rw[Zam]
    walk_at "zz"
    exact .inr ⟨rfl,j,hj,c,hbj,hl⟩
  | some v=>
   rw[Zam]
   walk_at "zz"
   rw[app _ (by rw[hl];rfl)]
   refine⟨by walk_at "zr",by walk_at "zr",fun j' hj' c hc=>?_⟩
   by_cases q:j'=j
   ·subst q;rw[hl];simp
   ·exact st j' (by omega) c hc
 ·rintro σ ⟨e1,e3,st⟩
  walk_at "zz"
  exact .inl ⟨rfl,st⟩
noncomputable def Zgf(n:Nat): Option (Nat→Option Int)→T
 | none=>.none
 | some b=>Zaq n b
theorem Zw2{o:Option (Nat→Option Int)}: Pln 1 (Zgf n o):=by
 cases o with
 | none=>exact .none
 | some q=>exact ZqY
theorem Zul{g:PG}{a b:Nat→T}(e:β→T)(P:Nat→β→Prop)(hn:n<10000)(hg:Pl (g σ) fun ts=>ts=tab n fun i=>.tup [a i,b i])(hf:∀i,i<n→Pk (f (Z1 (Z1 σ j (a i)) k (b i))) fun t=>∃y,t=e y∧P i y)(d:β)(h:∀y:Nat→β,(∀i,i<n→P i (y i))→Q (.lst (tab n fun i=>e (y i)))): Pk (Zan g (Zc0 j k) Zaa f σ) Q:=by
 have hc:∃y:Nat→β,∀i,i<n→Pk (f (Z1 (Z1 σ j (a i)) k (b i))) (fun t=>t=e (y i))∧P i (y i):=by
  have hx:∀i,∃y:β,i<n→Pk (f (Z1 (Z1 σ j (a i)) k (b i))) (fun t=>t=e y)∧P i y:=fun i=>by
   by_cases q:i<n
   ·obtain⟨t,e1,y,e2,p⟩:=hf i q
    exact⟨y,fun _=>⟨⟨t,e1,e2⟩,p⟩⟩
   ·exact⟨d,fun h=>absurd h q⟩
  exact⟨fun i=>Classical.choose (hx i),fun i=>Classical.choose_spec (hx i)⟩
 obtain⟨y,hy⟩:=hc
 exact Zno hn hg (fun i hi=>(hy i hi).1) (h y fun i hi=>(hy i hi).2)
theorem oRow_none{o:Option (Nat→Option Int)}: Zgf n o=.none↔o=none:=by cases o <;> simp[Zgf,Zaq]
theorem Zum(hn:n≤100)(hk:k≤7000)(hM:0<M)(bM:Bd k M)(hR:∀t,t<n→RB M k (R t)): Pk (ZfF [Zz n G R]) fun t=>(t=Zz n (ZaO G R) R∧¬Zdz n G R)∨(t=.none∧Zdz n G R):=by
 unfold ZfF ZiI
 have ht:Zz n G R=.tup [.lst (tab (n+1) fun i=>Zaq (n+1) (G i)),ZaQ n R]:=rfl
 rw[ht]
 walk_at "zz"
 refine Zy (ZoW (by omega)) ?_
 have hr:ZaQ (n+1) (ZR R)=.lst (tab (n+1) fun i=>ZT (ZR R i)):=rfl
 walk_at "zz"
 refine Zul (Zgf (n+1)) (fun i o=>match o with
  | none=>∃j,j<n+1∧∃c,G i j=some c∧ZaO G R i j=none
  | some b=>b=ZaO G R i∧∀j,j<n+1→∀c,G i j=some c→ZaO G R i j≠none) (n:=n+1) (a:=fun i=>Zaq (n+1) (G i)) (b:=fun i=>ZT (ZR R i)) (by omega) ?_ (fun i hi=>?_) none (fun y hy=>?_)
 ·rw[hr]
  walk_at "zz"
  rfl
 ·walk_at "zz"
  refine(ZsS hn hi hk hM bM hR).mono ?_
  rintro t (⟨rfl,h⟩ | ⟨rfl,h⟩)
  ·exact⟨some (ZaO G R i),rfl,rfl,h⟩
  ·exact⟨none,rfl,h⟩
 ·walk_at "zz"
  refine Zf9 (.none (n:=0)) (Zer (n:=1) fun i _=>Zw2) ?_
  by_cases hc:∃i,i<n+1∧y i=none
  ·obtain⟨i,hi,ei⟩:=hc
   rw[ZaB (show T.none∈tab (n+1) fun i=>Zgf (n+1) (y i)from List.mem_of_getElem? (i:=i) (by rw[Zbx hi,ei];rfl))]
   walk_at "zz"
   have:=hy i hi
   rw[ei]at this
   obtain⟨j,hj,c,h1,h2⟩:=this
   exact .inr ⟨rfl,i,j,hi,hj,c,h1,h2⟩
  ·rw[ZaC (show ¬T.none∈tab (n+1) fun i=>Zgf (n+1) (y i)from fun h=>by
    obtain⟨i,hi,e⟩:=ZcL h
    exact hc ⟨i,hi,oRow_none.mp e.symm⟩)]
   walk_at "zz"
   have hs:∀i,i<n+1→y i=some (ZaO G R i)∧∀j,j<n+1→∀c,G i j=some c→ZaO G R i j≠none:=fun i hi=>by
    have:=hy i hi
    cases e:y i with
    | none=>exact absurd ⟨i,hi,e⟩ hc
    | some b=>rw[e]at this;exact⟨by rw[this.1],this.2⟩
   refine .inl ⟨?_,?_⟩
   ·unfold Zz ZW
    congr 3
    refine Zbg fun i hi=>?_
    rw[(hs i hi).1]
    rfl
   ·rintro⟨i,j,hi,hj,c,h1,h2⟩
    exact(hs i hi).2 j hj c h1 h2
theorem Ztz: ZfF [.none]=some .none:=by
 apply Pk.eq
 unfold ZfF ZiI
 walk_at "zz"
 rfl
theorem Zu4: Zet [.none]=some .none:=by
 apply Pk.eq
 unfold Zet Zjt
 walk_at "zz"
 rfl
noncomputable def Zb3(n:Nat)(G:Nat→Nat→Option Int): Prop:=∃m,m<n∧Neg n (clG G (m+1))
theorem Zw3(hn:n≤100)(hd:∀i,i<n+1→G i i=some 0): Pk (Zet [Zz n G R]) fun t=>(t=Zz n (clG G (n+1)) R∧¬Zb3 (n+1) G)∨(t=.none∧Zb3 (n+1) G):=by
 unfold Zet Zjt
 have ht:Zz n G R=.tup [ZW (n+1) G,ZaQ n R]:=rfl
 rw[ht]
 walk_at "zz"
 refine(Zu1 (n:=n+1) (by omega) (by omega) fun i hi=>⟨0,hd i hi⟩).mono ?_
 rintro t (⟨rfl,h⟩ | ⟨rfl,h⟩)
 ·have hg:ZW (n+1) (clG G (n+1))=.lst (tab (n+1) fun i=>Zaq (n+1) (clG G (n+1) i)):=rfl
  rw[hg]
  walk_at "zz"
  exact .inl ⟨rfl,fun⟨m,hm,q⟩=>h m hm q⟩
 ·walk_at "zz"
  exact .inr ⟨rfl,h⟩
noncomputable def BdG(n k:Nat)(G:Nat→Nat→Option Int): Prop:=∀a b c,a<n→b<n→G a b=some c→Bd k c
theorem Zew{n k:Nat}{G:Nat→Nat→Option Int}(h:BdG n k G): ∀m,m≤n→BdG n (k+m) (clG G m)
 | 0,_=>h
 | m+1,hm=>fun a b c ha hb e=>by
  have ih:=Zew h m (by omega)
  rcases ZeV (clG G m a b) (Zak (clG G m a m) (clG G m m b))with e1 | e1
  ·rw[show clG G (m+1) a b=_ from e1]at e
   exact(ih a b c ha hb e).mono (by omega)
  ·rw[show clG G (m+1) a b=_ from e1]at e
   obtain⟨p,q,h1,h2,rfl⟩:=addO_some.mp e
   exact Bd.add (ih a m p ha (by omega) h1) (ih m b q (by omega) hb h2)
theorem ZpK(h:RestOk q): Zcv q (-1)=ZaK q.1 (-q.2):=by
 unfold Zcv
 rw[show Za6 (-1)=1 from rfl,Int.mul_one,Int.mul_neg,Int.mul_one]
theorem ZmD{m:Int}: (ZaK m r).1=m:=by
 unfold ZaK;split
 ·rename_i c;exact c.symm
 ·rfl
theorem Zg6(hi:RestOk (ZR R i))(hj:RestOk (ZR R j))(x:Int): Zai (Zbv R i j) x↔((Int.gcd (ZR R i).1 (ZR R j).1:Nat):Int) ∣ x-((ZR R i).2-(ZR R j).2):=by
 unfold Zbv Zbu
 rw[ZcI (by omega),ZpK hj,ZmD]
 have hr:=ZcI hj.nn (r:=-(ZR R j).2) (ZaK (ZR R j).1 (-(ZR R j).2)).2
 have hs:=(hr.mp (Zcf hj.nn _).self)
 generalize (ZaK (ZR R j).1 (-(ZR R j).2)).2=s at *
 have hg:((Int.gcd (ZR R i).1 (ZR R j).1:Nat):Int) ∣ s - -(ZR R j).2:=Int.dvd_trans (Int.gcd_dvd_right ..) hs
 constructor
 ·intro h
  have:=Int.dvd_add h hg
  rwa [show x-((ZR R i).2+s)+(s - -(ZR R j).2)=x-((ZR R i).2-(ZR R j).2)by omega]at this
 ·intro h
  have:=Int.dvd_sub h hg
  rwa [show x-((ZR R i).2-(ZR R j).2)-(s - -(ZR R j).2)=x-((ZR R i).2+s)by omega]at this
theorem Zm7{b c:Int}(h0:RestOk q)(h:ZdE q b=some c): c≤b∧Zai q c∧(q.1=0∨b-c<q.1):=by
 unfold ZdE at h
 split at h
 ·rename_i z
  split at h
  ·cases h
   exact⟨by assumption,h0.self,.inl z⟩
  ·cases h
 ·rename_i z
  cases h
  have hp:0<q.1:=by have:=h0.nn;omega
  have h1:=Int.emod_nonneg (b-q.2) z
  have h2:=Int.emod_lt_of_pos (b-q.2) hp
  refine⟨by omega,?_,.inr (by omega)⟩
  rw[Zbb h0.nn]
  have h3:=Int.emod_add_mul_ediv (b-q.2) q.1
  exact⟨(b-q.2) / q.1,by omega⟩
theorem ZmE{b x:Int}(h0:RestOk q)(hx:Zai q x)(hb:x≤b): ∃c,ZdE q b=some c∧x≤c:=by
 unfold ZdE
 rw[Zbb h0.nn]at hx
 split
 ·rename_i z
  rw[z,Int.zero_dvd]at hx
  rw[if_pos (by omega)]
  exact⟨_,rfl,by omega⟩
 ·rename_i z
  have hp:0<q.1:=by have:=h0.nn;omega
  refine⟨_,rfl,?_⟩
  obtain⟨t,ht⟩:=hx
  have h3:=Int.emod_add_mul_ediv (b-q.2) q.1
  have h2:=Int.emod_lt_of_pos (b-q.2) hp
  have h4:t≤(b-q.2) / q.1:=Int.le_ediv_of_mul_le hp (by rw[Int.mul_comm];omega)
  have h5:q.1*t≤q.1*((b-q.2) / q.1):=Int.mul_le_mul_of_nonneg_left h4 (by omega)
  omega
theorem ZdW(R:Nat→Int×Int)(i j:Nat): RestOk (Zbv R i j):=ZiV _ _
theorem Zw4(h:∀b,G i j=some b→ZaO G R i j≠none): leO (ZaO G R i j) (G i j):=by
 intro b e
 have hn:=h b e
 unfold ZaO at hn ⊢
 rw[e]at hn ⊢
 cases hc:ZbJ (some b) (Zbv R i j)with
 | none=>exact absurd hc hn
 | some c=>exact⟨c,rfl,(Zm7 (ZdW R i j) hc).1⟩
theorem Zon(hM:0<M)(bM:Bd k M)(hG:BdG (n+1) k G)(hR:∀t,t<n→RB M k (R t)): BdG (n+1) (k+1) (ZaO G R):=by
 intro i j c hi hj e
 have h1:=Zdn hR i hi
 have h2:=Zdn hR j hj
 have hd1:(Zbv R i j).1=((Int.gcd (ZR R i).1 (ZR R j).1:Nat):Int):=by
  unfold Zbv Zbu
  rw[ZmD,ZpK h2.1,ZmD]
 have hb1:=(h1.bd hM bM).1
 have hb2:=(h2.bd hM bM).1
 have hm:Bd k (Zbv R i j).1:=by
  rw[hd1]
  by_cases z:(ZR R i).1=0
  ·rw[z,Int.gcd_zero_left]
   unfold Bd at *
   simpa using hb2
  ·have:=Int.gcd_le_natAbs_left (b:=(ZR R j).1) z
   unfold Bd at *
   simp only[Int.natAbs_natCast]
   omega
 unfold ZaO ZbJ at e
 cases hg:G i j with
 | some b=>
  rw[hg]at e
  obtain⟨u1,u2,u3⟩:=Zm7 (ZdW R i j) e
  have hbb:=hG i j b hi hj hg
  rcases u3 with z | z
  ·have hx:=(Zg6 h1.1 h2.1 c).mp u2
   rw[hd1]at z
   rw[z,Int.zero_dvd]at hx
   have:c=(ZR R i).2-(ZR R j).2:=by omega
   rw[this]
   exact Bd.sub h1.2.2 h2.2.2
  ·unfold Bd at *
   rw[Nat.pow_succ]
   omega
 | none=>
  rw[hg]at e
  simp only at e
  split at e
  ·rename_i z
   cases e
   have hx:=(Zg6 h1.1 h2.1 (Zbv R i j).2).mp (ZdW R i j).self
   rw[hd1]at z
   rw[z,Int.zero_dvd]at hx
   have:(Zbv R i j).2=(ZR R i).2-(ZR R j).2:=by omega
   rw[this]
   exact Bd.sub h1.2.2 h2.2.2
  ·cases e
noncomputable def ZfM(n:Nat)(C:Nat→Nat→Option Int)(R:Nat→Int×Int): Prop:=∃i,i<n∧∀x,¬ZcX n C R (i+1) (n+1) x
theorem Zq9(h:Pk (Z0 1 Zju ts) fun t=>Zhe t=true∧Q t): Pk (Ze4 ts) Q:=by
 obtain⟨t,e,o,q⟩:=h
 exact⟨t,by simp only[Ze4,e,Option.bind_some,o,if_true],q⟩
theorem Zw5: Zhe (Zz n G R)=true:=ZpU fun _ _=>ZiS
theorem Zra(hn:n≤100)(hk:k+n+1≤7000)(hM:0<M)(bM:Bd k M)(hd:∀i,i<n+1→G i i=some 0)(bG:BdG (n+1) k G)(hR:∀t,t<n→RB M k (R t)): Pk (Ze4 [Zz n G R]) fun t=>(∃R',t=Zz n (clG G (n+1)) R'∧¬Zb3 (n+1) G∧Hand n (clG G (n+1)) R R' M (k+n+2))∨(t=.none∧(Zb3 (n+1) G∨(¬Zb3 (n+1) G∧ZfM n (clG G (n+1)) R))):=by
 refine Zq9 ?_
 unfold Zju
 walk_at "zz"
 refine(Zw3 hn hd).mono ?_
 rintro t (⟨rfl,h⟩ | ⟨rfl,h⟩)
 ·walk_at "zz"
  refine(ZsR (k:=k+n+1) hn hk hM (bM.mono (by omega)) (Zew bG (n+1) (by omega)) (fun t ht=>(hR t ht).mono (by omega))).mono ?_
  rintro t (⟨R',rfl,h2⟩ | ⟨rfl,h2⟩)
  ·exact⟨Zw5,.inl ⟨R',rfl,h,h2⟩⟩
  ·exact⟨rfl,.inr ⟨rfl,.inr ⟨h,h2⟩⟩⟩
 ·walk_at "zz"
  exact Zy ZoL ⟨rfl,.inr ⟨rfl,.inl h⟩⟩
theorem Zp2: Ze4 [.none]=some .none:=by
 apply Pk.eq
 refine Zq9 ?_
 unfold Zju
 walk_at "zz"
 refine Zy Zu4 ?_
 walk_at "zz"
 exact Zy ZoL ⟨rfl,rfl⟩
theorem ZiX(hR:∀i,i<n+1→RestOk (ZR R i))(hd:∀i,i<n+1→G i i=some 0): ∀i,i<n+1→ZaO G R i i=some 0:=by
 intro i hi
 unfold ZaO ZbJ
 rw[hd i hi]
 have h0:Zai (Zbv R i i) 0:=(Zg6 (hR i hi) (hR i hi) 0).mpr (by simp)
 obtain⟨c,e,hc⟩:=ZmE (ZdW R i i) h0 (Int.le_refl 0)
 have:=(Zm7 (ZdW R i i) e).1
 show ZdE (Zbv R i i) 0=some 0
 rw[e,show c=0 by omega]
structure Sharp(n:Nat)(G:Nat→Nat→Option Int)(R:Nat→Int×Int)(G2:Nat→Nat→Option Int)(R2:Nat→Int×Int)(M:Int)(k:Nat): Prop where
 go:∃R1,¬Zb3 (n+1) G∧Hand n (clG G (n+1)) R R1 M k∧¬Zdz n (clG G (n+1)) R1∧¬Zb3 (n+1) (ZaO (clG G (n+1)) R1)∧G2=clG (ZaO (clG G (n+1)) R1) (n+1)∧Hand n G2 R1 R2 M k
noncomputable def ZfI(n:Nat)(G:Nat→Nat→Option Int)(R:Nat→Int×Int)(M:Int)(k:Nat): Prop:=Zb3 (n+1) G∨(¬Zb3 (n+1) G∧ZfM n (clG G (n+1)) R)∨∃R1,¬Zb3 (n+1) G∧Hand n (clG G (n+1)) R R1 M k∧(Zdz n (clG G (n+1)) R1∨(¬Zdz n (clG G (n+1)) R1∧(Zb3 (n+1) (ZaO (clG G (n+1)) R1)∨(¬Zb3 (n+1) (ZaO (clG G (n+1)) R1)∧ZfM n (clG (ZaO (clG G (n+1)) R1) (n+1)) R1))))
theorem Hand.mono(h:Hand n G R R' M i)(hij:i≤j): Hand n G R R' M j:=fun t ht=>⟨(h t ht).1.mono hij,(h t ht).2⟩
theorem ZvT(hn:n≤100)(hk:k+2*n+4≤7000)(hM:0<M)(bM:Bd k M)(hd:∀i,i<n+1→G i i=some 0)(bG:BdG (n+1) k G)(hR:∀t,t<n→RB M k (R t)): Pk (ZdU [Zz n G R]) fun t=>(∃G2 R2,t=Zz n G2 R2∧Sharp n G R G2 R2 M (k+2*n+5))∨(t=.none∧ZfI n G R M (k+n+2)):=by
 unfold ZdU ZnT
 walk_at "zz"
 refine(Zra hn (by omega) hM bM hd bG hR).mono ?_
 rintro t (⟨R1,rfl,nr,h1⟩ | ⟨rfl,h⟩)
 ·have hR1:∀t,t<n→RB M (k+n+2) (R1 t):=fun t ht=>(h1 t ht).1
  have hF1:=Zdn hR1
  have z1:=ZeW hd (m:=n+1) fun m hm q=>nr ⟨m,hm,q⟩
  walk_at "zz"
  refine(Zum hn (by omega) hM (bM.mono (by omega)) hR1).mono ?_
  rintro t (⟨rfl,nl⟩ | ⟨rfl,fl⟩)
  ·walk_at "zz"
   have bG1:BdG (n+1) (k+n+3) (ZaO (clG G (n+1)) R1):=Zon hM (bM.mono (by omega)) (fun a b c ha hb e=>(Zew bG (n+1) (by omega) a b c ha hb e).mono (by omega)) hR1
   refine(Zra (k:=k+n+3) hn (by omega) hM (bM.mono (by omega)) (ZiX (fun i hi=>(hF1 i hi).1) z1) bG1 (fun t ht=>(hR1 t ht).mono (by omega))).mono ?_
   rintro t (⟨R2,rfl,nr2,h2⟩ | ⟨rfl,h2⟩)
   ·exact .inl ⟨_,R2,rfl,⟨R1,nr,h1.mono (by omega),nl,nr2,rfl,h2.mono (by omega)⟩⟩
   ·exact .inr ⟨rfl,.inr (.inr ⟨R1,nr,h1,.inr ⟨nl,h2⟩⟩)⟩
  ·walk_at "zz"
   exact Zy Zp2 (.inr ⟨rfl,.inr (.inr ⟨R1,nr,h1,.inl fl⟩)⟩)
 ·walk_at "zz"
  refine Zy Ztz ?_
  walk_at "zz"
  refine Zy Zp2 (.inr ⟨rfl,?_⟩)
  rcases h with h | h
  ·exact .inl h
  ·exact .inr (.inl h)
theorem ZgN(h:Zay n G R x): Zay n (clG G (n+1)) R x:=⟨fun i j hi hj b e=>Znz (ZpI h) (n+1) (by omega) i j hi hj b e,h.2⟩
theorem Zpo(h:Zay n G R x): ¬Zb3 (n+1) G:=fun⟨m,hm,q⟩=>Zu2 (Znz (ZpI h) (m+1) (by omega)) q
theorem Zm8(h:Zay n G R x): ∀i,i<n+1→Zai (ZR R i) (Zas x i)
 | 0,_=>⟨fun _=>rfl,fun q=>absurd q (show ¬(0:Int)<0 by decide)⟩
 | i+1,hi=>h.2 i (by omega)
theorem Zp3(h:Zay n G R x)(ht:t<n): ZcX n G R (t+1) (n+1) (x t):=by
 refine⟨h.2 t ht,fun j hj a b ha hb hab=>?_⟩
 have h1:=h.1 (t+1) j (by omega) hj a ha
 have h2:=h.1 j (t+1) hj (by omega) b hb
 have h3:Zas x (t+1)=x t:=rfl
 rw[h3]at h1 h2
 rw[show x t-a=Zas x j by omega]
 exact Zm8 h j hj
theorem ZlS(h:Zay n G R x)(q:Hand n G R R' M k): Zay n G R' x:=⟨h.1,fun t ht=>((q t ht).2 _).mpr (Zp3 h ht)⟩
theorem Zqw(hR:∀i,i<n+1→RestOk (ZR R i))(h:Zay n G R x)(hi:i<n+1)(hj:j<n+1): Zai (Zbv R i j) (Zas x i-Zas x j):=by
 rw[Zg6 (hR i hi) (hR j hj)]
 have h1:=(Zbb (hR i hi).nn _).mp (Zm8 h i hi)
 have h2:=(Zbb (hR j hj).nn _).mp (Zm8 h j hj)
 have h3:=Int.dvd_sub (Int.dvd_trans (Int.gcd_dvd_left (b:=(ZR R j).1) ..) h1) (Int.dvd_trans (Int.gcd_dvd_right (a:=(ZR R i).1) ..) h2)
 rwa [show Zas x i-(ZR R i).2-(Zas x j-(ZR R j).2)=Zas x i-Zas x j-((ZR R i).2-(ZR R j).2)by omega]at h3
theorem Zun(hR:∀i,i<n+1→RestOk (ZR R i))(h:Zay n G R x): ¬Zdz n G R:=by
 rintro⟨i,j,hi,hj,b,e,hn⟩
 obtain⟨c,e2,_⟩:=ZmE (ZdW R i j) (Zqw hR h hi hj) (h.1 i j hi hj b e)
 unfold ZaO ZbJ at hn
 rw[e]at hn
 simp only at hn
 rw[e2]at hn
 cases hn
theorem Zqx(hR:∀i,i<n+1→RestOk (ZR R i))(h:Zay n G R x): Zay n (ZaO G R) R x:=by
 refine⟨fun i j hi hj b e=>?_,h.2⟩
 have hd:=Zqw hR h hi hj
 unfold ZaO ZbJ at e
 cases hg:G i j with
 | some c=>
  rw[hg]at e
  simp only at e
  obtain⟨d,e2,hle⟩:=ZmE (ZdW R i j) hd (h.1 i j hi hj c hg)
  rw[e2]at e
  cases e
  exact hle
 | none=>
  rw[hg]at e
  simp only at e
  split at e
  ·rename_i z
   cases e
   rw[Zbb (ZdW R i j).nn,z,Int.zero_dvd]at hd
   omega
  ·cases e
theorem Zuo(h:Zay n G R x)(s:Sharp n G R G2 R2 M k): Zay n G2 R2 x:=by
 obtain⟨R1,h1,h2,h3,h4,rfl,h6⟩:=s.go
 have l1:=ZlS (ZgN h) h2
 have hF:=Zdn fun t ht=>(h2 t ht).1
 exact ZlS (ZgN (Zqx (fun i hi=>(hF i hi).1) l1)) h6
theorem ZtV(h:Zay n G R x): ¬ZfI n G R M k:=by
 have hf:∀{G:Nat→Nat→Option Int} {R:Nat→Int×Int},Zay n G R x→¬ZfM n G R:=fun h ⟨i,hi,q⟩=>q _ (Zp3 h hi)
 rintro(q | ⟨_,q⟩ | ⟨R1,_,h2,q⟩)
 ·exact Zpo h q
 ·exact hf (ZgN h) q
 ·have l1:=ZlS (ZgN h) h2
  have hF:=Zdn fun t ht=>(h2 t ht).1
  have l2:=Zqx (fun i hi=>(hF i hi).1) l1
  rcases q with q | ⟨_,q | ⟨_,q⟩⟩
  ·exact Zun (fun i hi=>(hF i hi).1) l1 q
  ·exact Zpo l2 q
  ·exact hf (ZgN l2) q
theorem ZpL(hk:k≤8000)(op:RestOk p)(oq:RestOk q)(bp:RBd k p)(bq:RBd k q): Pk (ZiJ [ZT p,ZT q]) fun t=>∃o,t=oR o∧Met p q o:=by
 unfold ZiJ ZpZ
 have ep:ZT p=.tup [.int p.1,.int p.2]:=rfl
 have eq:ZT q=.tup [.int q.1,.int q.2]:=rfl
 have np:=op.nn
 have nq:=oq.nn
 rw[ep,eq]
 walk_at "zz"
 have hlt:∀x:Int,0≤x→Bd k x→x<2 ^ 200000:=fun x h0 h1=>by
  have h2:x.natAbs<2 ^ 200000:=ZbL h1 (by omega)
  have h3:((x.natAbs:Nat):Int)<2 ^ 200000:=by exact_mod_cast h2
  omega
 obtain⟨m,hm,eu⟩:=ZiU np nq (hlt _ np bp.1) (hlt _ nq bq.1)
 refine ZfJ (fun m σ=>∃l r s t:Int,σ 0=some (.tup [.int p.1,.int p.2])∧σ 1=some (.tup [.int q.1,.int q.2])∧σ 2=some (.int l)∧σ 3=some (.int r)∧σ 4=some (.int s)∧σ 5=some (.int t)∧Eu m l r∧Int.gcd l r=Int.gcd p.1 q.1∧Bd k l∧Bd k r∧(∃z,s*p.1=l+q.1*z)∧(∃z,t*p.1=r+q.1*z)∧Bd (k+1) s∧Bd (k+1) t∧(s.natAbs:Int)*r+(t.natAbs:Int)*l≤q.1∧(1≤l∨t=0)) _ _ ?_ 1000000 (m:=m) ⟨p.1,q.1,1,0,by walk_at "zr",by walk_at "zr",by walk_at "zr",by walk_at "zr",by walk_at "zr",by walk_at "zr",eu,rfl,bp.1,bq.1,⟨0,by omega⟩,⟨-1,by omega⟩,ZdJ (by omega),Zcp,by simp,.inr rfl⟩ hm
 rintro m σ ⟨l,r,s,t,e0,e1,e2,e3,e4,e5,eu,gl,kl,kr,⟨z1,h1⟩,⟨z2,h2⟩,ks,kt,hb1,hl⟩
 walk_at "zz"
 refine⟨fun h=>?_,fun h=>?_⟩
 ·have hr:r≠0:=by simpa using h
  have hr0:0≤r:=eu.2.1
  have hl0:0≤l:=eu.1
  have hrp:0<r:=by omega
  have hdiv0:0≤l / r:=Int.ediv_nonneg hl0 hr0
  have hdiv1:l / r≤l:=Int.ediv_le_self _ hl0
  have kd:Bd k (l / r):=Zdh kl hdiv0 hdiv1
  walk_at "zz"
  refine Zde hr (ZdD kr (by omega)) ?_
  rw[Int.fdiv_eq_ediv_of_nonneg _ hr0]
  walk_at "zz"
  refine Zby (ZbM kd kr (by omega) (by omega)) ?_
  walk_at "zz"
  refine Zby (ZbM kd kt (by omega) (by omega)) ?_
  walk_at "zz"
  have hover:l-l / r*r=l % r:=by
   have:=Int.emod_add_mul_ediv l r
   rw[Int.mul_comm r (l / r)]at this
   omega
  rw[hover]
  obtain⟨m',hm1,hm2⟩:=eu.step hr
  have o0:=Int.emod_nonneg l hr
  have o1:=Int.emod_lt_of_pos l hrp
  have ht:((s-l / r*t).natAbs:Int)≤(s.natAbs:Int)+l / r*(t.natAbs:Int):=by
   have h3:(s-l / r*t).natAbs≤s.natAbs+(l / r*t).natAbs:=by omega
   have h4:(l / r*t).natAbs=(l / r).natAbs*t.natAbs:=Int.natAbs_mul ..
   have h5:(((l / r).natAbs*t.natAbs:Nat):Int)=l / r*(t.natAbs:Int):=by
    rw[Int.natCast_mul,Int.natAbs_of_nonneg hdiv0]
   rw[h4]at h3
   omega
  have h6:((s-l / r*t).natAbs:Int)*r≤((s.natAbs:Int)+l / r*(t.natAbs:Int))*r:=Int.mul_le_mul_of_nonneg_right ht hr0
  have h7:((s.natAbs:Int)+l / r*(t.natAbs:Int))*r=(s.natAbs:Int)*r+(t.natAbs:Int)*(l / r*r):=by
   rw[Int.add_mul,Int.mul_comm (l / r) (t.natAbs:Int),Int.mul_assoc]
  have h8:(t.natAbs:Int)*(l % r)+(t.natAbs:Int)*(l / r*r)=(t.natAbs:Int)*l:=by
   rw[←Int.mul_add,←hover]
   congr 1
   omega
  have h9:(t.natAbs:Int)*(l % r)+((s-l / r*t).natAbs:Int)*r≤q.1:=by omega
  have hpos:0≤(t.natAbs:Int)*(l % r):=Int.mul_nonneg (by omega) o0
  have kn:Bd (k+1) (s-l / r*t):=by
   have h10:((s-l / r*t).natAbs:Int)*1≤((s-l / r*t).natAbs:Int)*r:=Int.mul_le_mul_of_nonneg_left (by omega) (by omega)
   have h11:((s-l / r*t).natAbs:Int)≤q.1:=by omega
   have h12:=bq.1
   unfold Bd at *
   rw[Nat.pow_succ]
   omega
  refine⟨m',hm1,r,l % r,t,s-l / r*t,by walk_at "zr",by walk_at "zr",by walk_at "zr",by walk_at "zr",by walk_at "zr",by walk_at "zr",hm2,by rw[Zg5 hrp];exact gl,kr,Zdh kr o0 (by omega),⟨z2,h2⟩,⟨z1-l / r*z2,?_⟩,kt,kn,h9,.inl (by omega)⟩
  rw[Int.sub_mul,h1,Int.mul_assoc,h2,Int.mul_add,Int.mul_sub,←hover]
  have e1:q.1*(l / r*z2)=l / r*(q.1*z2):=by rw[←Int.mul_assoc,Int.mul_comm q.1,Int.mul_assoc]
  rw[e1]
  omega
 ·have hr:r=0:=by simpa using h
  subst hr
  rw[Int.gcd_zero_right]at gl
  have hl0:=eu.1
  have hlg:l=(Int.gcd p.1 q.1:Nat):=by omega
  walk_at "zz"
  by_cases c:l=0
  ·have hz:p.1=0∧q.1=0:=Int.gcd_eq_zero_iff.mp (by omega)
   have hp1:∀x,Zai p x↔x=p.2:=fun x=>by rw[Zbb np,hz.1,Int.zero_dvd];omega
   have hq1:∀x,Zai q x↔x=q.2:=fun x=>by rw[Zbb nq,hz.2,Int.zero_dvd];omega
   walk_at "zz"
   by_cases d:q.2-p.2=0
   ·walk_at "zz"
    refine⟨some p,rfl,op,fun x=>?_⟩
    rw[hp1,hq1]
    omega
   ·walk_at "zz"
    refine⟨none,rfl,fun x hx=>?_⟩
    rw[hp1,hq1]at hx
    omega
  ·have hlp:0<l:=by omega
   obtain⟨a,ea⟩:l ∣ p.1:=by rw[hlg];exact Int.gcd_dvd_left ..
   obtain⟨b,eb⟩:l ∣ q.1:=by rw[hlg];exact Int.gcd_dvd_right ..
   walk_at "zz"
   rw[Int.fmod_eq_emod_of_nonneg _ (by omega)]
   by_cases c3:(q.2-p.2) % l=0
   ·obtain⟨d,ed⟩:=Int.dvd_of_emod_eq_zero c3
    have da:p.1 / l=a:=by rw[ea];exact Int.mul_ediv_cancel_left _ (by omega)
    have dd:(q.2-p.2) / l=d:=by rw[ed];exact Int.mul_ediv_cancel_left _ (by omega)
    have ha0:0≤a:=by rw[←da];exact Int.ediv_nonneg np (by omega)
    have ka:Bd k a:=Zdh bp.1 ha0 (by rw[←da];exact Int.ediv_le_self _ np)
    have kdd:Bd (k+1) d:=by
     have h1:Bd (k+1) (q.2-p.2):=Bd.sub bq.2 bp.2
     unfold Bd at *
     rw[ed,Int.natAbs_mul]at h1
     have:1*d.natAbs≤l.natAbs*d.natAbs:=Nat.mul_le_mul_right _ (by omega)
     omega
    walk_at "zz"
    refine Zde (by omega) (ZdD kl (by omega)) ?_
    rw[Int.fdiv_eq_ediv_of_nonneg _ (by omega),da]
    walk_at "zz"
    refine Zby (ZbM ka bq.1 (by omega) (by omega)) ?_
    walk_at "zz"
    refine Zby (ZbM bp.1 ks (by omega) (by omega)) ?_
    walk_at "zz"
    refine Zde (by omega) (ZdD kl (by omega)) ?_
    rw[Int.fdiv_eq_ediv_of_nonneg _ (by omega),dd]
    walk_at "zz"
    refine Zby (ZbM (Bd.mul bp.1 ks) kdd (by omega) (by omega)) ?_
    walk_at "zz"
    have hm0:0≤a*q.1:=Int.mul_nonneg ha0 nq
    refine Zy Zfy ⟨some _,rfl,Zcf hm0 _,fun x=>?_⟩
    rw[ZcI hm0,Zbb np,Zbb nq]
    have hx0:p.1*s*d=(q.2-p.2)+q.1*(z1*d):=by
     rw[Int.mul_comm p.1 s,h1,Int.add_mul,ed,Int.mul_assoc]
    have hpm:p.1 ∣ a*q.1:=⟨b,by rw[ea,eb];rw[Int.mul_left_comm,Int.mul_assoc]⟩
    have hqm:q.1 ∣ a*q.1:=Int.dvd_mul_left _ _
    constructor
    ·intro hx
     have g1:=Int.dvd_trans hpm hx
     have g2:=Int.dvd_trans hqm hx
     refine⟨?_,?_⟩
     ·have:=Int.dvd_add g1 (show p.1 ∣ p.1*s*d from⟨s*d,by rw[Int.mul_assoc]⟩)
      rwa [show x-(p.2+p.1*s*d)+p.1*s*d=x-p.2 by omega]at this
     ·have:=Int.dvd_add g2 (Int.dvd_mul_right q.1 (z1*d))
      rwa [show x-(p.2+p.1*s*d)+q.1*(z1*d)=x-q.2 by omega]at this
    ·rintro⟨g1,g2⟩
     have g3:p.1 ∣ x-(p.2+p.1*s*d):=by
      have:=Int.dvd_sub g1 (show p.1 ∣ p.1*s*d from⟨s*d,by rw[Int.mul_assoc]⟩)
      rwa [show x-p.2-p.1*s*d=x-(p.2+p.1*s*d)by omega]at this
     have g4:q.1 ∣ x-(p.2+p.1*s*d):=by
      have:=Int.dvd_sub g2 (Int.dvd_mul_right q.1 (z1*d))
      rwa [show x-q.2-q.1*(z1*d)=x-(p.2+p.1*s*d)by omega]at this
     have g5:=Int.coe_lcm_dvd g3 g4
     have g6:(a*q.1).natAbs=Int.lcm p.1 q.1:=by
      have k1:=Int.gcd_mul_lcm p.1 q.1
      have k2:(l.natAbs)*(a*q.1).natAbs=p.1.natAbs*q.1.natAbs:=by
       rw[Int.natAbs_mul,←Nat.mul_assoc]
       congr 1
       rw[←Int.natAbs_mul,←ea]
      have k3:Int.gcd p.1 q.1=l.natAbs:=by omega
      rw[k3]at k1
      exact Nat.eq_of_mul_eq_mul_left (show 0<l.natAbs by omega) (by omega)
     rw[←g6]at g5
     exact Int.natAbs_dvd.mp g5
   ·walk_at "zz"
    refine⟨none,rfl,fun x hx=>c3 ?_⟩
    rw[Zbb np,Zbb nq]at hx
    have g1:l ∣ x-p.2:=Int.dvd_trans ⟨a,ea⟩ hx.1
    have g2:l ∣ x-q.2:=Int.dvd_trans ⟨b,eb⟩ hx.2
    have g3:=Int.dvd_sub g1 g2
    rw[show x-p.2-(x-q.2)=q.2-p.2 by omega]at g3
    exact Int.emod_eq_zero_of_dvd g3
theorem ZrT(hk:k≤8000)(op:RestOk p)(oq:RestOk q)(bp:RBd k p)(bq:RBd k q)(h:Met p q o): ∀r,o=some r→(r=p∨r=q∨(p.1≠0∧q.1≠0∧r.1=Int.lcm p.1 q.1)):=by
 obtain⟨t,_,o',rfl,h',wh⟩:=ZlR hk op oq bp bq
 rw[ZpH h h']
 exact wh
theorem Zu5(q:Int×Int)(h:0≤q.1)(a:Int): ZaK q.1 (q.2+a)=Zbu q (0,a):=by
 unfold Zbu
 simp only[Int.gcd_zero_right]
 rw[Int.natAbs_of_nonneg h]
theorem Zm9(ho:Zdf n G R M k i j o)(h:∀a b x,G i j=some a→G j i=some b→a+b=0→ZcX n G R i j x→Zai (ZR R j) (x-a)): Zdf n G R M k i (j+1) o:=by
 have hs:∀x,ZcX n G R i j x↔ZcX n G R i (j+1) x:=fun x=>⟨fun hx=>⟨hx.1,fun j' hj' a b ha hb hab=>by
     by_cases q':j'=j
     ·subst q';exact h a b x ha hb hab hx
     ·exact hx.2 j' (by omega) a b ha hb hab⟩,fun hx=>⟨hx.1,fun j' hj'=>hx.2 j' (by omega)⟩⟩
 cases o with
 | none=>exact fun x hx=>ho x ((hs x).mpr hx)
 | some q=>exact⟨ho.1,fun x=>(ho.2 x).trans (hs x)⟩
theorem Zrb{a:Int}(hM:0<M)(bM:Bd k M)(h:RB M k q)(ba:Bd k a): RB M (k+1) (Zbu q (0,a)):=by
 refine⟨ZiV _ _,?_,?_⟩
 ·unfold Zbu ZaK
  simp only[Int.gcd_zero_right]
  rw[Int.natAbs_of_nonneg h.1.nn]
  split
  ·exact .inl rfl
  ·exact h.2.1
 ·have hm:=(h.bd hM bM).1
  refine(ZgV (k:=k+1) (by omega) ?_ (Bd.add h.2.2 ba)).2
  simp only[Int.gcd_zero_right]
  rw[Int.natAbs_of_nonneg h.1.nn]
  exact hm.mono (by omega)
theorem Zu6{o':Option (Int×Int)}{a b:Int}(hk:k≤7000)(hM:0<M)(bM:Bd k M)(ha:G i j=some a)(hb:G j i=some b)(hab:a+b=0)(ba:Bd k a)(hj2:RB M k (ZR R j))(ho:Zdf n G R M (k+1) i j (some q))(mt:Met q (Zbu (ZR R j) (0,a)) o'): Zdf n G R M (k+1) i (j+1) o':=by
 have bM1:Bd (k+1) M:=bM.mono (by omega)
 have hpl:=Zrb hM bM hj2 ba
 have wh:=ZrT (k:=k+1) (by omega) ho.1.1 hpl.1 (ho.1.bd hM bM1) (hpl.bd hM bM1) mt
 have hset:∀x,(Zai q x∧Zai (Zbu (ZR R j) (0,a)) x)↔ZcX n G R i (j+1) x:=fun x=>by
  rw[ho.2 x,Zpn hj2.1]
  constructor
  ·rintro⟨h1,h2⟩
   refine⟨h1.1,fun j' hj' c d hc hd hcd=>?_⟩
   by_cases q':j'=j
   ·subst q';rw[ha]at hc;cases hc;exact h2
   ·exact h1.2 j' (by omega) c d hc hd hcd
  ·intro h
   exact⟨⟨h.1,fun j' hj'=>h.2 j' (by omega)⟩,h.2 j (by omega) a b ha hb hab⟩
 cases o' with
 | none=>exact fun x hx=>mt x ((hset x).mpr hx)
 | some r=>
  refine⟨⟨mt.1,?_,?_⟩,fun x=>(mt.2 x).trans (hset x)⟩
  ·rcases wh r rfl with h | h | ⟨h1,h2,h3⟩
   ·rw[h];exact ho.1.2.1
   ·rw[h];exact hpl.2.1
   ·right
    rw[h3]
    exact Int.coe_lcm_dvd (ho.1.2.1.resolve_left h1) (hpl.2.1.resolve_left h2)
  ·rcases wh r rfl with h | h | ⟨h1,h2,h3⟩
   ·rw[h];exact ho.1.2.2
   ·rw[h];exact hpl.2.2
   ·rcases mt.1 with z | z
    ·have:(Int.lcm q.1 (Zbu (ZR R j) (0,a)).1)≠0:=Int.lcm_ne_zero h1 h2
     omega
    ·have hd:r.1 ∣ M:=by
      rw[h3]
      exact Int.coe_lcm_dvd (ho.1.2.1.resolve_left h1) (hpl.2.1.resolve_left h2)
     exact Zdh bM1 z.2.1 (by have:=Int.le_of_dvd hM hd;omega)
theorem Zw6{p:PE}(h:Pk (p σ) fun t=>∃ts,t=.lst ts∧Q (.lst (ts.drop k))): Pk (Zds p k σ) Q:=by
 obtain⟨t,e,ts,rfl,q⟩:=h
 exact⟨_,by simp only[Zds,e,Option.bind_some],q⟩
theorem Zu7{f:Nat→T}: (tab (n+1) f).drop 1=tab n fun i=>f (i+1):=by
 apply List.ext_getElem?
 intro i
 rw[List.getElem?_drop]
 by_cases h:i<n
 ·rw[Zbx h,Nat.add_comm 1 i,Zbx (by omega)]
 ·rw[List.getElem?_eq_none (by rw[Zau];omega),List.getElem?_eq_none (by rw[Zau];omega)]
theorem Zo0(hn:n≤100)(hk:k≤7000)(hM:0<M)(bM:Bd k M)(bG:∀a b c,a<n+1→b<n+1→G a b=some c→Bd k c)(hR:∀t,t<n→RB M k (R t)): Pk (Zia [ZW (n+1) G,ZaQ n R]) fun t=>(∃R',t=ZaQ n R'∧Hand n G R R' M (k+1))∨(t=.none∧ZfM n G R):=by
 unfold Zia Zo5
 have hF:=Zdn hR
 have bM1:Bd (k+1) M:=bM.mono (by omega)
 have hr:ZaQ n R=.lst (tab n fun i=>ZT (R i)):=rfl
 rw[hr]
 walk_at "zz"
 rw[Zoz]
 walk_at "zz"
 refine Za2 (n:=n) (a:=fun i=>.int ((i+1:Nat):Int)) (P:=fun m σ=>∃F:Nat→Option (Int×Int),σ 0=some (ZW (n+1) G)∧σ 2=some (.lst (tab (n+1) fun i=>ZT (ZR R i)))∧σ 3=some (.lst (tab (n+1) fun i=>oR (F i)))∧F 0=some (0,0)∧(∀a,a<m→Zdf n G R M (k+1) (a+1) (n+1) (F (a+1)))∧∀a,m≤a→a<n→F (a+1)=some (R a)) ?_ ⟨fun i=>some (ZR R i),by walk_at "zr",by walk_at "zr",by walk_at "zr",rfl,by omega,fun _ _ _=>rfl⟩ ?_ ?_
 ·by_cases h0:n=0
  ·subst h0
   exact⟨[],Zhd (a:=1) (b:=1) rfl ZrS,rfl⟩
  ·walk_at "zz"
   refine Rn.two 1 n (by decide) (by omega) (by omega) (by omega) ?_
   refine Zbg fun i _=>?_
   congr 1
   omega
 ·rintro i σ hi ⟨F,e0,e2,e3,z0,h1,h2⟩
  have hself:(fun a=>oR (F a))=fun a=>oR (if a=i+1 then F (i+1)else F a):=funext fun a=>by split <;> simp_all
  rw[hself]at e3
  refine Za2 (n:=n+1) (a:=fun j=>.int j) (P:=fun j σ=>∃o,σ 0=some (ZW (n+1) G)∧σ 2=some (.lst (tab (n+1) fun i=>ZT (ZR R i)))∧σ 3=some (.lst (tab (n+1) fun a=>oR (if a=i+1 then o else F a)))∧σ 4=some (.int ((i+1:Nat):Int))∧Zdf n G R M (k+1) (i+1) j o) ?_ ⟨F (i+1),by walk_at "zr",by walk_at "zr",by walk_at "zr",by walk_at "zr",?_⟩ ?_ ?_
  ·walk_at "zz"
   rfl
  ·rw[h2 i (by omega) hi]
   exact⟨(hF (i+1) (by omega)).mono (by omega),fun x=>⟨fun h=>⟨h,by omega⟩,fun h=>h.1⟩⟩
  ·rintro j σ hj ⟨o,f0,f2,f3,f4,ho⟩
   unfold ZW Zaq at f0
   walk_at "zz"
   have fin:∀σ':TL,σ' 0=σ 0→σ' 2=σ 2→σ' 3=σ 3→σ' 4=σ 4→Zdf n G R M (k+1) (i+1) (j+1) o→∃o,σ' 0=some (ZW (n+1) G)∧σ' 2=some (.lst (tab (n+1) fun i=>ZT (ZR R i)))∧σ' 3=some (.lst (tab (n+1) fun a=>oR (if a=i+1 then o else F a)))∧σ' 4=some (.int ((i+1:Nat):Int))∧Zdf n G R M (k+1) (i+1) (j+1) o:=fun σ' g0 g2 g3 g4 h=>⟨o,g0.trans f0,g2.trans f2,g3.trans f3,g4.trans f4,h⟩
   refine⟨fun c=>?_,fun c=>⟨fun h=>(nomatch h),fun _=>?_⟩⟩
   ·have cne:i+1≠j:=fun q=>of_decide_eq_true c (by omega)
    cases hg:G (i+1) j with
    | none=>
     rw[Za1]
     walk_at "zz"
     exact fin _ rfl rfl rfl rfl (Zm9 ho fun a b x ha=>by rw[hg]at ha;cases ha)
    | some a=>
     rw[Zam]
     walk_at "zz"
     refine Zbs (ZhA (n:=0)) (.int (n:=0)) ?_
     walk_at "zz"
     refine⟨fun e=>?_,fun e=>?_⟩
     ·have e':=dec_iff.mp e
      rw[←Zam,oT_inj]at e'
      cases o with
      | none=>
       walk_at "zz"
       rw[if_pos rfl,show oR none=T.none from rfl]
       walk_at "zz"
       exact fin _ rfl rfl rfl rfl fun x hx=>ho x ⟨hx.1,fun j' hj'=>hx.2 j' (by omega)⟩
      | some q=>
       walk_at "zz"
       rw[if_pos rfl,show oR (some q)=T.tup [.int q.1,.int q.2]from rfl]
       walk_at "zz"
       rw[if_pos rfl]
       have hj2:=hF j hj
       have ba:=bG (i+1) j a (by omega) hj hg
       have hpl:=Zrb hM bM hj2 ba
       have eq:ZT (ZR R j)=.tup [.int (ZR R j).1,.int (ZR R j).2]:=rfl
       rw[eq]
       walk_at "zz"
       rw[eq]
       walk_at "zz"
       refine Zy Zfy ?_
       rw[Zu5 _ hj2.1.nn]
       walk_at "zz"
       refine(ZpL (p:=q) (q:=Zbu (ZR R j) (0,a)) (k:=k+1) (by omega) ho.1.1 hpl.1 (ho.1.bd hM bM1) (hpl.bd hM bM1)).mono ?_
       rintro _ ⟨o',rfl,mt⟩
       refine⟨by cases o' <;> rfl,?_⟩
       walk_at "zz"
       refine⟨o',by walk_at "zr",by walk_at "zr",?_,by walk_at "zr",Zu6 hk hM bM hg e' (by omega) ba hj2 ho mt⟩
       refine(show _=_ from ZbD).trans ?_
       congr 2
       refine Zbg fun a _=>?_
       split <;> rfl
     ·walk_at "zz"
      refine fin _ rfl rfl rfl rfl (Zm9 ho fun a' b x ha hb hab hx=>?_)
      rw[hg]at ha
      cases ha
      have:dec (oT (G j (i+1))=.int (-a))=true:=ZaB (by rw[hb,Zam];congr 1;omega)
      rw[this]at e
      cases e
   ·walk_at "zz"
    refine fin _ rfl rfl rfl rfl (Zm9 ho fun a b x ha hb hab hx=>?_)
    have cj:i+1=j:=by
     have:=of_decide_eq_false c
     omega
    subst cj
    rw[ha]at hb
    cases hb
    rw[show x-a=x by omega]
    exact hx.1
  ·rintro σ ⟨o,f0,f2,f3,f4,ho⟩
   refine⟨fun a=>if a=i+1 then o else F a,f0,f2,f3,by simp[z0],fun a ha=>?_,fun a ha hb=>?_⟩
   ·by_cases q:a=i
    ·subst q;simpa using ho
    ·simpa [q]using h1 a (by omega)
   ·simpa [show a≠i by omega]using h2 a (by omega) hb
 ·rintro σ ⟨F,e0,e2,e3,z0,h1,-⟩
  walk_at "zz"
  refine Zf9 (.none (n:=0)) (Zer (n:=1) fun i _=>ZjJ) ?_
  by_cases hc:∃i,i<n∧F (i+1)=none
  ·obtain⟨i,hi,ei⟩:=hc
   rw[ZaB (show T.none∈tab (n+1) fun i=>oR (F i)from List.mem_of_getElem? (i:=i+1) (by rw[Zbx (by omega),ei];rfl))]
   walk_at "zz"
   refine .inr ⟨rfl,i,hi,?_⟩
   have:=h1 i hi
   rw[ei]at this
   exact this
  ·rw[ZaC (show ¬T.none∈tab (n+1) fun i=>oR (F i)from fun h=>by
    obtain⟨i,hi,e⟩:=ZcL h
    have e':=oR_none.mp e.symm
    cases i with
    | zero=>rw[z0]at e';cases e'
    | succ i=>exact hc ⟨i,by omega,e'⟩)]
   walk_at "zz"
   refine Zw6 ?_
   walk_at "zz"
   refine⟨_,rfl,?_⟩
   rw[Zu7]
   have hs:∀i,i<n→F (i+1)=some ((F (i+1)).getD (1,0)):=fun i hi=>by
    cases e:F (i+1)with
    | none=>exact absurd ⟨i,hi,e⟩ hc
    | some q=>rfl
   refine .inl ⟨fun i=>(F (i+1)).getD (1,0),?_,fun t ht=>?_⟩
   ·unfold ZaQ
    congr 1
    refine Zbg fun i hi=>?_
    conv=>lhs;rw[hs i hi]
    rfl
   ·have:=h1 t ht
    rw[hs t ht]at this
    exact this
theorem Zw7(hi:RestOk (ZR R i))(hj:RestOk (ZR R j)): Zbv R i j=ZaK (Int.gcd (ZR R i).1 (ZR R j).1:Nat) ((ZR R i).2-(ZR R j).2):=
 Zis (ZdW R i j) (Zcf (by omega) _) fun x=>(Zg6 hi hj x).trans (ZcI (by omega) x).symm
theorem Zw8(hi:RestOk (ZR R i))(hj:RestOk (ZR R j)): ZaO G R i j=if((Int.gcd (ZR R i).1 (ZR R j).1:Nat):Int)=0 then(match G i j with | none=>some ((ZR R i).2-(ZR R j).2) | some b=>if(ZR R i).2-(ZR R j).2≤b then some ((ZR R i).2-(ZR R j).2)else none)else(match G i j with | none=>none | some b=>some (b-(b-((ZR R i).2-(ZR R j).2)) % (Int.gcd (ZR R i).1 (ZR R j).1:Nat))):=by
 unfold ZaO
 rw[Zw7 hi hj]
 generalize ((Int.gcd (ZR R i).1 (ZR R j).1:Nat):Int)=m at *
 generalize (ZR R i).2-(ZR R j).2=r
 unfold ZaK
 by_cases c:m=0
 ·rw[if_pos c,if_pos c]
  cases G i j with
  | none=>simp[ZbJ]
  | some b=>simp[ZbJ,ZdE]
 ·rw[if_neg c,if_neg c]
  cases G i j with
  | none=>simp[ZbJ,c]
  | some b=>
   have:(b-r.fmod m) % m=(b-r) % m:=by
    have h1:m ∣ (b-r.fmod m)-(b-r):=by
     have:=Int.mul_fdiv_add_fmod r m
     exact⟨r.fdiv m,by omega⟩
    exact Int.emod_eq_emod_iff_emod_sub_eq_zero.mpr (Int.emod_eq_zero_of_dvd h1)
   simp[ZbJ,ZdE,c,this]
noncomputable def Zgb(n:Nat)(G:Nat→Nat→Option Int)(R:Nat→Int×Int)(F:Nat→Nat→Option Int)(i j:Nat): Prop:=∀a b,a<n+1→b<n+1→((a<i∨(a=i∧b<j))→F a b=ZaO G R a b∧∀c,G a b=some c→ZaO G R a b≠none)∧(¬(a<i∨(a=i∧b<j))→F a b=G a b)
theorem ZpM(h:Zgb n G R F i j)(e:G i j=ZaO G R i j): Zgb n G R F i (j+1):=fun a b ha hb=>by
 obtain⟨h1,h2⟩:=h a b ha hb
 refine⟨fun q=>?_,fun q=>h2 (by omega)⟩
 by_cases q':a=i∧b=j
 ·obtain⟨rfl,rfl⟩:=q'
  rw[h2 (by omega)]
  exact⟨e,fun c hc=>by rw[←e,hc];simp⟩
 ·exact h1 (by omega)
theorem Zna(h:Zgb n G R F i j)(e:ZaO G R i j=some v): Zgb n G R (Zcd F i j (some v)) i (j+1):=fun a b ha hb=>by
 obtain⟨h1,h2⟩:=h a b ha hb
 by_cases q':a=i∧b=j
 ·obtain⟨rfl,rfl⟩:=q'
  rw[ZnZ]
  exact⟨fun _=>⟨e.symm,fun c _=>by rw[e];simp⟩,fun q=>by omega⟩
 ·rw[Zn0 q']
  exact⟨fun q=>h1 (by omega),fun q=>h2 (by omega)⟩
theorem ZsT(hn:n≤100)(hk:k≤7000)(hM:0<M)(bM:Bd k M)(hR:∀t,t<n→RB M k (R t))(hd:∀i,i<n+1→G i i=some 0): Pk (ZkM [ZW (n+1) G,ZaQ n R]) fun t=>(t=ZW (n+1) (ZaO G R)∧¬Zdz n G R)∨(t=.none∧Zdz n G R):=by
 unfold ZkM ZoZ
 have hF:=Zdn hR
 have hlz:=ZiX (fun i hi=>(hF i hi).1) hd
 have hr:ZaQ n R=.lst (tab n fun i=>ZT (R i)):=rfl
 rw[hr]
 walk_at "zz"
 rw[Zoz]
 refine ZmB (n:=n+1) (G:=G) (by omega) ?_ ?_
 ·walk_at "zz"
  rfl
 walk_at "zz"
 refine Za2 (n:=n+1) (a:=fun i=>.int i) (P:=fun i σ=>∃F,σ 0=some (ZW (n+1) G)∧σ 2=some (.lst (tab (n+1) fun i=>ZT (ZR R i)))∧σ 3=some (ZW (n+1) F)∧Zgb n G R F i 0) ?_ ⟨G,by walk_at "zr",by walk_at "zr",by walk_at "zr",fun a b _ _=>⟨fun q=>by omega,fun _=>rfl⟩⟩ ?_ ?_
 ·walk_at "zz"
  rfl
 ·rintro i σ hi ⟨F,e0,e2,e3,lt⟩
  refine Za2 (n:=n+1) (a:=fun i=>.int i) (P:=fun j σ=>∃F,σ 0=some (ZW (n+1) G)∧σ 2=some (.lst (tab (n+1) fun i=>ZT (ZR R i)))∧σ 3=some (ZW (n+1) F)∧σ 4=some (.int i)∧Zgb n G R F i j) ?_ ⟨F,by walk_at "zr",by walk_at "zr",by walk_at "zr",by walk_at "zr",lt⟩ ?_ ?_
  ·walk_at "zz"
   rfl
  ·rintro j σ hj ⟨F,e0,e2,e3,e4,lt⟩
   have hi1:=hF i hi
   have hj1:=hF j hj
   have lw:=Zw8 (G:=G) hi1.1 hj1.1
   have f0:σ 0=some (.lst (tab (n+1) fun i=>.lst (tab (n+1) fun j=>oT (G i j)))):=e0
   have f3:σ 3=some (.lst (tab (n+1) fun i=>.lst (tab (n+1) fun j=>oT (F i j)))):=e3
   have eqi:ZT (ZR R i)=.tup [.int (ZR R i).1,.int (ZR R i).2]:=rfl
   have eqj:ZT (ZR R j)=.tup [.int (ZR R j).1,.int (ZR R j).2]:=rfl
   clear e0 e3
   walk_at "zz"
   rw[eqi]
   walk_at "zz"
   rw[eqj]
   walk_at "zz"
   refine Zy (ZmA (ZbL (hi1.bd hM bM).1 (by omega)) (ZbL (hj1.bd hM bM).1 (by omega))) ?_
   walk_at "zz"
   rw[eqi]
   walk_at "zz"
   rw[eqj]
   walk_at "zz"
   have hm0:(0:Int)≤((Int.gcd (ZR R i).1 (ZR R j).1:Nat):Int):=by omega
   generalize ((Int.gcd (ZR R i).1 (ZR R j).1:Nat):Int)=m at *
   generalize (ZR R i).2-(ZR R j).2=r at *
   refine⟨fun c=>?_,fun c=>⟨fun h=>(nomatch h),fun _=>?_⟩⟩
   ·have cne:(i:Int)≠j:=of_decide_eq_true c
    by_cases cm:m=0
    ·rw[if_pos cm]at lw
     walk_at "zz"
     cases hg:G i j with
     | none=>
      rw[hg]at lw
      rw[Za1]
      walk_at "zz"
      rw[←Zam (c:=r),Ze5]
      exact⟨_,by walk_at "zr",by walk_at "zr",by walk_at "zr",by walk_at "zr",Zna lt lw⟩
     | some b=>
      rw[hg]at lw
      rw[Zam]
      walk_at "zz"
      by_cases cb:b<r
      ·walk_at "zz"
       refine .inr ⟨rfl,i,j,hi,hj,b,hg,?_⟩
       rw[lw]
       exact if_neg (by omega)
      ·walk_at "zz"
       rw[←Zam (c:=r),Ze5]
       exact⟨_,by walk_at "zr",by walk_at "zr",by walk_at "zr",by walk_at "zr",Zna lt (by rw[lw];exact if_pos (by omega))⟩
    ·rw[if_neg cm]at lw
     walk_at "zz"
     cases hg:G i j with
     | none=>
      rw[hg]at lw
      rw[Za1]
      walk_at "zz"
      exact⟨F,by walk_at "zr",by walk_at "zr",by walk_at "zr",by walk_at "zr",ZpM lt (by rw[hg,lw])⟩
     | some b=>
      rw[hg]at lw
      rw[Zam]
      walk_at "zz"
      rw[Int.fmod_eq_emod_of_nonneg _ hm0]
      walk_at "zz"
      rw[←Zam (c:=b-(b-r) % m),Ze5]
      exact⟨_,by walk_at "zr",by walk_at "zr",by walk_at "zr",by walk_at "zr",Zna lt lw⟩
   ·have ceq:i=j:=by
     have:=of_decide_eq_false c
     omega
    walk_at "zz"
    subst ceq
    exact⟨F,by walk_at "zr",by walk_at "zr",by walk_at "zr",by walk_at "zr",ZpM lt (by rw[hd _ hi,hlz _ hi])⟩
  ·rintro σ ⟨F,e0,e2,e3,e4,lt⟩
   exact⟨F,e0,e2,e3,fun a b ha hb=>⟨fun q=>(lt a b ha hb).1 (by omega),fun q=>(lt a b ha hb).2 (by omega)⟩⟩
 ·rintro σ ⟨F,e0,e2,e3,lt⟩
  walk_at "zz"
  refine .inl ⟨?_,?_⟩
  ·unfold ZW Zaq
   congr 1
   refine Zbg fun a ha=>?_
   congr 1
   refine Zbg fun b hb=>?_
   rw[((lt a b ha hb).1 (by omega)).1]
  ·rintro⟨a,b,ha,hb,c,hc,e⟩
   exact((lt a b ha hb).1 (by omega)).2 c hc e
noncomputable def ZbT(G:Nat→Nat→Option Int): Nat→List Nat→Nat→Option Int
 | i,[],j=>G i j
 | i,k::l,j=>Zak (G i k) (ZbT G k l j)
theorem Zc9(G:Nat→Nat→Option Int): ∀(i:Nat) (l1:List Nat) (k:Nat) (l2:List Nat) (j:Nat),ZbT G i (l1++k::l2) j=Zak (ZbT G i l1 k) (ZbT G k l2 j)
 | i,[],k,l2,j=>rfl
 | i,a::l1,k,l2,j=>by
  show Zak (G i a) (ZbT G a (l1++k::l2) j)=Zak (Zak (G i a) (ZbT G a l1 k)) (ZbT G k l2 j)
  rw[Zc9 G a l1 k l2 j,ZgM]
theorem Zqy{n:Nat}{G C:Nat→Nat→Option Int}(hle:∀i j,i<n→j<n→leO (C i j) (G i j))(tri:∀k i j,k<n→i<n→j<n→leO (C i j) (Zak (C i k) (C k j))): ∀(l:List Nat) (i j:Nat),(∀a∈l,a<n)→i<n→j<n→leO (C i j) (ZbT G i l j)
 | [],i,j,_,hi,hj=>hle i j hi hj
 | k::l,i,j,hl,hi,hj=>by
  have hk:=hl k Zz5
  exact Zcg (tri k i j hk hi hj) (ZfH (hle i k hi hk) (Zqy hle tri l k j (fun a m=>hl a (Zz2 _ m)) hk hj))
theorem Zht{n:Nat}{G:Nat→Nat→Option Int}: ∀(m:Nat),m≤n→∀i j c,clG G m i j=some c→∃l:List Nat,(∀a∈l,a<n)∧ZbT G i l j=some c
 | 0,_,i,j,c,h=>⟨[],by simp,h⟩
 | m+1,hm,i,j,c,h=>by
  rcases ZeV (clG G m i j) (Zak (clG G m i m) (clG G m m j))with e | e
  ·rw[show clG G (m+1) i j=_ from e]at h
   exact Zht (n:=n) m (by omega) i j c h
  ·rw[show clG G (m+1) i j=_ from e]at h
   obtain⟨p,q,h1,h2,h3⟩:=addO_some.mp h
   obtain⟨l1,a1,b1⟩:=Zht (n:=n) m (by omega) i m p h1
   obtain⟨l2,a2,b2⟩:=Zht (n:=n) m (by omega) m j q h2
   refine⟨l1++m::l2,fun a ha=>?_,by rw[Zc9,b1,b2];simp[Zak,h3]⟩
   rcases Zz8.mp ha with ha | ha
   ·exact a1 a ha
   ·rcases Zz7.mp ha with rfl | ha
    ·omega
    ·exact a2 a ha
theorem Znb: ∀(n:Nat) (l:List Nat),l.Nodup→(∀a∈l,a<n)→l.length≤n
 | 0,l,_,h=>by
  cases l with
  | nil=>simp
  | cons a l=>exact absurd (h a Zz5) (by omega)
 | n+1,l,hn,h=>by
  have h1:=Znb n (l.erase n) (hn.erase n) fun a ha=>by
   have ha':=List.mem_of_mem_erase ha
   have:=h a ha'
   have hne:a≠n:=fun q=>by
    subst q
    exact(List.Nodup.not_mem_erase hn) ha
   omega
  have h2:=List.length_erase_of_mem (a:=n) (l:=l)
  by_cases q:n∈l
  ·have:=h2 q;have:0<l.length:=List.length_pos_of_mem q;omega
  ·rw[List.erase_of_not_mem q]at h1;omega
theorem Znc: ∀(l:List Nat),¬l.Nodup→∃k l1 l2 l3,l=l1++k::(l2++k::l3)
 | [],h=>absurd List.nodup_nil h
 | a::l,h=>by
  by_cases q:a∈l
  ·obtain⟨l2,l3,e⟩:=List.append_of_mem q
   exact⟨a,[],l2,l3,by rw[e];rfl⟩
  ·have:¬l.Nodup:=fun n=>h (List.nodup_cons.mpr ⟨q,n⟩)
   obtain⟨k,l1,l2,l3,e⟩:=Znc l this
   exact⟨k,a::l1,l2,l3,by rw[e];rfl⟩
theorem Zw9(pos:∀k l s,k<n→(∀a∈l,a<n)→ZbT G k l k=some s→0≤s)(hi:i<n)(hj:j<n): ∀(L:Nat) (l:List Nat) (s:Int),l.length=L→(∀a∈l,a<n)→ZbT G i l j=some s→∃l' s',l'.length+1≤n∧(∀a∈l',a<n)∧ZbT G i l' j=some s'∧s'≤s:=by
 intro L
 induction L using Nat.strongRecOn with
 | _ L ih=>
  intro l s hL hl h
  by_cases q:i∈l
  ·obtain⟨l1,l2,e⟩:=List.append_of_mem q
   subst e
   rw[Zc9]at h
   obtain⟨p,r,h1,h2,h3⟩:=addO_some.mp h
   have hp:=pos i l1 p hi (fun a ha=>hl a (Zz4 _ ha)) h1
   obtain⟨l',s',k1,k2,k3,k4⟩:=ih l2.length (by rw[←hL];simp;omega) l2 r rfl (fun a ha=>hl a (Zz3 _ (Zz2 _ ha))) h2
   exact⟨l',s',k1,k2,k3,by omega⟩
  ·by_cases nd:l.Nodup
   ·have:=Znb n (i::l) (List.nodup_cons.mpr ⟨q,nd⟩) (fun a ha=>by
     rcases Zz7.mp ha with rfl | ha
     ·exact hi
     ·exact hl a ha)
    exact⟨l,s,by simpa using this,hl,h,by omega⟩
   ·obtain⟨k,l1,l2,l3,e⟩:=Znc l nd
    subst e
    rw[Zc9]at h
    obtain⟨p,r,h1,h2,h3⟩:=addO_some.mp h
    rw[Zc9]at h2
    obtain⟨p2,r2,h4,h5,h6⟩:=addO_some.mp h2
    have hk:k<n:=hl k (by simp)
    have hp:=pos k l2 p2 hk (fun a ha=>hl a (by simp[ha])) h4
    have h7:ZbT G i (l1++k::l3) j=some (p+r2):=by rw[Zc9,h1,h5];rfl
    obtain⟨l',s',k1,k2,k3,k4⟩:=ih (l1++k::l3).length (by rw[←hL];simp;omega) (l1++k::l3) (p+r2) rfl (fun a ha=>hl a (by simp at ha ⊢;rcases ha with h | h | h <;> simp[h])) h7
    exact⟨l',s',k1,k2,k3,by omega⟩
theorem Zup: ∀(L:Nat) (i:Nat) (l:List Nat) (s:Int),l.length=L→i<n→(∀a∈l,a<n)→ZbT G i l i=some s→s<0→∃i' l' s',l'.length+1≤n∧i'<n∧(∀a∈l',a<n)∧ZbT G i' l' i'=some s'∧s'<0:=by
 intro L
 induction L using Nat.strongRecOn with
 | _ L ih=>
  intro i l s hL hi hl h hs
  by_cases q:i∈l
  ·obtain⟨l1,l2,e⟩:=List.append_of_mem q
   subst e
   rw[Zc9]at h
   obtain⟨p,r,h1,h2,h3⟩:=addO_some.mp h
   by_cases hp:p<0
   ·exact ih l1.length (by rw[←hL];simp) i l1 p rfl hi (fun a ha=>hl a (Zz4 _ ha)) h1 hp
   ·exact ih l2.length (by rw[←hL];simp;omega) i l2 r rfl hi (fun a ha=>hl a (Zz3 _ (Zz2 _ ha))) h2 (by omega)
  ·by_cases nd:l.Nodup
   ·have:=Znb n (i::l) (List.nodup_cons.mpr ⟨q,nd⟩) (fun a ha=>by
     rcases Zz7.mp ha with rfl | ha
     ·exact hi
     ·exact hl a ha)
    exact⟨i,l,s,by simpa using this,hi,hl,h,hs⟩
   ·obtain⟨k,l1,l2,l3,e⟩:=Znc l nd
    subst e
    rw[Zc9]at h
    obtain⟨p,r,h1,h2,h3⟩:=addO_some.mp h
    rw[Zc9]at h2
    obtain⟨p2,r2,h4,h5,h6⟩:=addO_some.mp h2
    have hk:k<n:=hl k (by simp)
    by_cases hp:p2<0
    ·exact ih l2.length (by rw[←hL];simp;omega) k l2 p2 rfl hk (fun a ha=>hl a (by simp[ha])) h4 hp
    ·have h7:ZbT G i (l1++k::l3) i=some (p+r2):=by rw[Zc9,h1,h5];rfl
     exact ih (l1++k::l3).length (by rw[←hL];simp;omega) i (l1++k::l3) (p+r2) rfl hi (fun a ha=>hl a (by simp at ha ⊢;rcases ha with h | h | h <;> simp[h])) h7 (by omega)
noncomputable def Zfh(n r:Nat)(G D:Nat→Nat→Option Int): Prop:=(∀i j,i<n→j<n→∀c,D i j=some c→∃l:List Nat,(∀a∈l,a<n)∧ZbT G i l j=some c)∧∀(l:List Nat) i j,l.length+1≤r→(∀a∈l,a<n)→i<n→j<n→leO (D i j) (ZbT G i l j)
theorem ZvU: Zfh n 1 G G:=⟨fun i j _ _ c h=>⟨[],by simp,h⟩,fun l i j h _ _ _=>by
 have:l=[]:=List.length_eq_zero_iff.mp (by omega)
 subst this
 exact Zb7⟩
noncomputable def Zse(n:Nat)(D D':Nat→Nat→Option Int): Prop:=∀i j,i<n→j<n→leO (D' i j) (D i j)∧(∀k,k<n→leO (D' i j) (Zak (D i k) (D k j)))∧(D' i j=D i j∨∃k,k<n∧D' i j=Zak (D i k) (D k j))
theorem Zuq{r:Nat}{D D':Nat→Nat→Option Int}(h:Zfh n r G D)(t:Zse n D D'): Zfh n (2*r) G D':=by
 refine⟨fun i j hi hj c e=>?_,fun l i j hl ha hi hj=>?_⟩
 ·obtain⟨_,_,e1 | ⟨k,hk,e1⟩⟩:=t i j hi hj
  ·rw[e1]at e;exact h.1 i j hi hj c e
  ·rw[e1]at e
   obtain⟨p,q,h1,h2,h3⟩:=addO_some.mp e
   obtain⟨l1,a1,b1⟩:=h.1 i k hi hk p h1
   obtain⟨l2,a2,b2⟩:=h.1 k j hk hj q h2
   refine⟨l1++k::l2,fun a ha=>?_,by rw[Zc9,b1,b2];simp[Zak,h3]⟩
   rcases Zz8.mp ha with ha | ha
   ·exact a1 a ha
   ·rcases Zz7.mp ha with rfl | ha
    ·exact hk
    ·exact a2 a ha
 ·obtain⟨t1,t2,_⟩:=t i j hi hj
  by_cases q:l.length+1≤r
  ·exact Zcg t1 (h.2 l i j q ha hi hj)
  ·have hr:1≤r:=by omega
   have hlt:r-1<l.length:=by omega
   obtain⟨k,l1,l2,e,hl1⟩:∃k l1 l2,l=l1++k::l2∧l1.length=r-1:=⟨l[r-1],l.take (r-1),l.drop r,by
    have e1:=(List.take_append_drop (r-1) l).symm
    rw[List.drop_eq_getElem_cons hlt,show r-1+1=r by omega]at e1
    exact e1,by simp;omega⟩
   subst e
   have hk:k<n:=ha k (by simp)
   rw[Zc9]
   refine Zcg (t2 k hk) (ZfH (h.2 l1 i k (by omega) (fun a m=>ha a (Zz4 _ m)) hi hk) (h.2 l2 k j ?_ (fun a m=>ha a (Zz3 _ (Zz2 _ m))) hk hj))
   simp at hl
   omega
theorem Zur{r:Nat}{D:Nat→Nat→Option Int}(hd:∀i,i<n→G i i=some 0)(hr:n≤r)(b:Zfh n r G D)(nn:∀m,m<n→¬Neg n (clG G (m+1))): ∀i j,i<n→j<n→D i j=clG G n i j:=by
 intro i j hi hj
 have low:=Zqy (n:=n) (G:=G) (C:=clG G n) (fun i j _ _=>ZhB n i j) (fun k i j hk hi hj=>Zom hd n (by omega) nn k hk i j hi hj)
 have zero:=ZeW hd (m:=n) nn
 have pos:∀k l s,k<n→(∀a∈l,a<n)→ZbT G k l k=some s→0≤s:=fun k l s hk hl e=>by
  have:=low l k k hl hk hk
  rw[zero k hk,e]at this
  exact leO_some.mp this
 refine Ztx ?_ ?_
 ·intro c e
  obtain⟨l,h1,h2⟩:=Zht n (Zz10 n) i j c e
  obtain⟨l',s',k1,k2,k3,k4⟩:=Zw9 pos hi hj _ l c rfl h1 h2
  have:=b.2 l' i j (by omega) k2 hi hj
  rw[k3]at this
  obtain⟨x,e1,e2⟩:=this s' rfl
  exact⟨x,e1,by omega⟩
 ·intro c e
  obtain⟨l,h1,h2⟩:=b.1 i j hi hj c e
  have:=low l i j h1 hi hj
  rw[h2]at this
  exact this c rfl
theorem Zu8{r:Nat}{D:Nat→Nat→Option Int}(hr:n≤r)(b:Zfh n r G D)(hm:m<n)(ng:Neg n (clG G (m+1))): Neg n D:=by
 obtain⟨i,hi,c,e,hc⟩:=ng
 obtain⟨l,h1,h2⟩:=Zht (n:=n) (m+1) (by omega) i i c e
 obtain⟨i',l',s',k1,k2,k3,k4,k5⟩:=Zup _ i l c rfl hi h1 h2 hc
 have:=b.2 l' i' i' (by omega) k3 k2 k2
 rw[k4]at this
 obtain⟨x,e1,e2⟩:=this s' rfl
 exact⟨i',k2,x,e1,by omega⟩
noncomputable def ZdK(n:Nat)(D F:Nat→Nat→Option Int)(done:Nat→Nat→Nat→Prop): Prop:=∀a b,a<n→b<n→leO (F a b) (D a b)∧(F a b=D a b∨∃k,k<n∧F a b=Zak (D a k) (D k b))∧∀k,k<n→done a b k→leO (F a b) (Zak (D a k) (D k b))
theorem Znd{D:Nat→Nat→Option Int}(h:ZdK n D F done)(hd:∀a b c,c<n→done' a b c→done a b c∨(a=i∧b=j∧c=k))(hl:leO (F i j) (Zak (D i k) (D k j))): ZdK n D F done':=fun a b ha hb=>by
 obtain⟨h1,h2,h3⟩:=h a b ha hb
 refine⟨h1,h2,fun c hc q=>?_⟩
 rcases hd a b c hc q with q | ⟨rfl,rfl,rfl⟩
 ·exact h3 c hc q
 ·exact hl
theorem ZvV{D:Nat→Nat→Option Int}(h:ZdK n D F done)(hi:i<n)(hj:j<n)(hk:k<n)(hd:∀a b c,c<n→done' a b c→done a b c∨(a=i∧b=j∧c=k))(hl:leO (Zak (D i k) (D k j)) (F i j)): ZdK n D (Zcd F i j (Zak (D i k) (D k j))) done':=fun a b ha hb=>by
 by_cases q:a=i∧b=j
 ·obtain⟨rfl,rfl⟩:=q
  obtain⟨h1,h2,h3⟩:=h a b ha hb
  rw[ZnZ]
  refine⟨Zcg hl h1,.inr ⟨k,hk,rfl⟩,fun c hc q=>?_⟩
  rcases hd a b c hc q with q | ⟨_,_,rfl⟩
  ·exact Zcg hl (h3 c hc q)
  ·exact Zb7
 ·rw[Zn0 q]
  obtain⟨h1,h2,h3⟩:=h a b ha hb
  refine⟨h1,h2,fun c hc q'=>?_⟩
  rcases hd a b c hc q' with q' | ⟨rfl,rfl,_⟩
  ·exact h3 c hc q'
  ·exact absurd ⟨rfl,rfl⟩ q
theorem ZgW{D:Nat→Nat→Option Int}(h:ZdK n D F done)(hd:∀a b c,a<n→b<n→c<n→done' a b c→done a b c): ZdK n D F done':=fun a b ha hb=>by
 obtain⟨h1,h2,h3⟩:=h a b ha hb
 exact⟨h1,h2,fun c hc q=>h3 c hc (hd a b c ha hb hc q)⟩
theorem Zus{D:Nat→Nat→Option Int}(h:ZdK n D F fun _ _ _=>True): Zse n D F:=fun a b ha hb=>by
 obtain⟨h1,h2,h3⟩:=h a b ha hb
 exact⟨h1,fun k hk=>h3 k hk trivial,h2⟩
theorem Ztf(h0:0<n)(hn:n≤100)(hd:∀i,i<n→G i i=some 0): Pk (Zgg [ZW n G]) fun t=>∃r D,n≤r∧Zfh n r G D∧((t=ZW n D∧¬Neg n D)∨(t=.none∧Neg n D)):=by
 unfold Zgg ZoK
 have hg:ZW n G=.lst (tab n fun i=>Zaq n (G i)):=rfl
 walk_at "zz"
 rw[hg]
 walk_at "zz"
 refine ZmB (n:=n) (G:=G) (by omega) ?_ ?_
 ·walk_at "zz"
  rfl
 walk_at "zz"
 refine ZfJ (fun m σ=>∃(r:Nat) (D:Nat→Nat→Option Int),σ 1=some (.int n)∧σ 2=some (ZW n D)∧σ 3=some (.int r)∧Zfh n r G D∧1≤r∧r≤2*n∧m=2*n-r) _ _ ?_ 1000000 (m:=2*n-1) ⟨1,G,by walk_at "zr",by walk_at "zr",by walk_at "zr",ZvU,by omega,by omega,rfl⟩ (by omega)
 rintro m σ ⟨r,D,e1,e2,e3,bs,r1,r2,rfl⟩
 have hdD:∀i,i<n→∃b,D i i=some b:=fun i hi=>by
  have:=bs.2 [] i i (by simpa using r1) (by simp) hi hi
  rw[show ZbT G i [] i=some 0 from hd i hi]at this
  obtain⟨x,e,_⟩:=this 0 rfl
  exact⟨x,e⟩
 walk_at "zz"
 refine⟨fun c=>?_,fun c=>?_⟩
 ·have hrn:r<n:=by simpa using c
  walk_at "zz"
  refine ZmB (n:=n) (G:=D) (by omega) ?_ ?_
  ·walk_at "zz"
   rfl
  walk_at "zz"
  refine Za2 (n:=n) (a:=fun i=>.int i) (P:=fun i σ=>∃F,σ 1=some (.int n)∧σ 2=some (ZW n F)∧σ 3=some (.int r)∧σ 4=some (ZW n D)∧ZdK n D F fun a _ _=>a<i) ?_ ⟨D,by walk_at "zr",by walk_at "zr",by walk_at "zr",by walk_at "zr",fun a b _ _=>⟨Zb7,.inl rfl,fun k _ q=>by omega⟩⟩ ?_ ?_
  ·walk_at "zz"
   rfl
  ·rintro i σ hi ⟨F0,f1,f2,f3,f4,pt⟩
   refine Za2 (n:=n) (a:=fun i=>.int i) (P:=fun j σ=>∃F,σ 1=some (.int n)∧σ 2=some (ZW n F)∧σ 3=some (.int r)∧σ 4=some (ZW n D)∧σ 5=some (.int i)∧ZdK n D F fun a b _=>a<i∨(a=i∧b<j)) ?_ ⟨F0,by walk_at "zr",by walk_at "zr",by walk_at "zr",by walk_at "zr",by walk_at "zr",ZgW pt fun a b c _ _ _ q=>by omega⟩ ?_ ?_
   ·walk_at "zz"
    rfl
   ·rintro j σ hj ⟨F1,f1,f2,f3,f4,f5,pt⟩
    refine Za2 (n:=n) (a:=fun i=>.int i) (P:=fun k σ=>∃F,σ 1=some (.int n)∧σ 2=some (ZW n F)∧σ 3=some (.int r)∧σ 4=some (ZW n D)∧σ 5=some (.int i)∧σ 6=some (.int j)∧ZdK n D F fun a b c=>a<i∨(a=i∧(b<j∨(b=j∧c<k)))) ?_ ⟨F1,by walk_at "zr",by walk_at "zr",by walk_at "zr",by walk_at "zr",by walk_at "zr",by walk_at "zr",ZgW pt fun a b c _ _ _ q=>by omega⟩ ?_ ?_
    ·walk_at "zz"
     rfl
    ·rintro k σ hk ⟨F,f1,f2,f3,f4,f5,f6,pt⟩
     have hdn:∀a b c,c<n→(a<i∨(a=i∧(b<j∨(b=j∧c<k+1))))→(a<i∨(a=i∧(b<j∨(b=j∧c<k))))∨(a=i∧b=j∧c=k):=fun a b c _ q=>by omega
     have f2':=f2
     unfold ZW Zaq at f2 f4
     walk_at "zz"
     cases hik:D i k with
     | none=>
      rw[Za1]
      walk_at "zz"
      exact⟨F,by walk_at "zr",by walk_at "zr",by walk_at "zr",by walk_at "zr",by walk_at "zr",by walk_at "zr",Znd pt hdn (by rw[hik];exact Zc8)⟩
     | some p=>
      rw[Zam]
      walk_at "zz"
      cases hkj:D k j with
      | none=>
       rw[Za1]
       walk_at "zz"
       exact⟨F,by walk_at "zr",by walk_at "zr",by walk_at "zr",by walk_at "zr",by walk_at "zr",by walk_at "zr",Znd pt hdn (by rw[hik,hkj];exact Zc8)⟩
      | some q=>
       rw[Zam]
       walk_at "zz"
       rw[hik,hkj,Zam,Zam]
       have hs:Zak (D i k) (D k j)=some (p+q):=by rw[hik,hkj];rfl
       have hset:=ZvV pt hi hj hk hdn
       have hkeep:=Znd pt hdn
       rw[hs]at hset hkeep
       clear f2'
       walk_at "zz"
       cases hij:F i j with
       | none=>
        rw[Za1]
        walk_at "zz"
        rw[←Zam (c:=p+q),Ze5]
        exact⟨_,by walk_at "zr",by walk_at "zr",by walk_at "zr",by walk_at "zr",by walk_at "zr",by walk_at "zr",hset (by rw[hij];exact Zc8)⟩
       | some g=>
        rw[Zam]
        walk_at "zz"
        rw[hij,Zam]
        walk_at "zz"
        by_cases hlt:p+q<g
        ·walk_at "zz"
         rw[←Zam (c:=p+q),Ze5]
         exact⟨_,by walk_at "zr",by walk_at "zr",by walk_at "zr",by walk_at "zr",by walk_at "zr",by walk_at "zr",hset (by rw[hij];exact leO_some.mpr (by omega))⟩
        ·walk_at "zz"
         exact⟨F,by walk_at "zr",by walk_at "zr",by walk_at "zr",by walk_at "zr",by walk_at "zr",by walk_at "zr",hkeep (by rw[hij];exact leO_some.mpr (by omega))⟩
    ·rintro σ ⟨F,f1,f2,f3,f4,f5,f6,pt⟩
     exact⟨F,f1,f2,f3,f4,f5,ZgW pt fun a b c _ _ hc q=>by omega⟩
   ·rintro σ ⟨F,f1,f2,f3,f4,f5,pt⟩
    exact⟨F,f1,f2,f3,f4,ZgW pt fun a b c _ hb _ q=>by omega⟩
  ·rintro σ ⟨F,f1,f2,f3,f4,pt⟩
   walk_at "zz"
   refine Zq5 (by decide) (by decide) ?_
   walk_at "zz"
   exact⟨2*n-2*r,by omega,2*r,F,by walk_at "zr",by walk_at "zr",by rw[show((2*r:Nat):Int)=2*(r:Int)by omega];walk_at "zr",Zuq bs (Zus (ZgW pt fun a b c ha _ _ _=>ha)),by omega,by omega,rfl⟩
 ·have hrn:n≤r:=by simp at c;omega
  refine Zdd ?_
  refine Za2 (n:=n) (a:=fun i=>.int i) (P:=fun i σ=>σ 2=some (ZW n D)∧∀a,a<i→∀b,D a a=some b→0≤b) ?_ ⟨e2,by omega⟩ ?_ ?_
  ·walk_at "zz"
   rfl
  ·rintro i σ hi ⟨f2,f3⟩
   unfold ZW Zaq at f2
   obtain⟨b,eb⟩:=hdD i hi
   walk_at "zz"
   rw[eb,Zam]
   walk_at "zz"
   by_cases hb:b<0
   ·walk_at "zz"
    exact⟨r,D,hrn,bs,.inr ⟨rfl,i,hi,b,eb,hb⟩⟩
   ·walk_at "zz"
    refine⟨by walk_at "zr",fun a ha c hc=>?_⟩
    by_cases q:a=i
    ·subst q;rw[eb]at hc;cases hc;omega
    ·exact f3 a (by omega) c hc
  ·rintro σ ⟨f2,f3⟩
   walk_at "zz"
   refine⟨r,D,hrn,bs,.inl ⟨rfl,?_⟩⟩
   rintro⟨i,hi,b,eb,hb⟩
   have:=f3 i hi b eb
   omega
theorem Zrc(hn:n≤99)(hd:∀i,i<n+1→G i i=some 0): Pk (Zgg [ZW (n+1) G]) fun t=>(t=ZW (n+1) (clG G (n+1))∧¬Zb3 (n+1) G)∨(t=.none∧Zb3 (n+1) G):=by
 refine(Ztf (by omega) (by omega) hd).mono ?_
 rintro t ⟨r,D,hr,bs,h⟩
 by_cases hc:Zb3 (n+1) G
 ·obtain⟨m,hm,ng⟩:=hc
  have ng2:=Zu8 hr bs hm ng
  rcases h with⟨_,h⟩ | ⟨h,_⟩
  ·exact absurd ng2 h
  ·exact .inr ⟨h,m,hm,ng⟩
 ·have nn:∀m,m<n+1→¬Neg (n+1) (clG G (m+1)):=fun m hm q=>hc ⟨m,hm,q⟩
  have same:=Zur hd hr bs nn
  have hz:=ZeW hd nn
  rcases h with⟨h,_⟩ | ⟨_,i,hi,b,e,hb⟩
  ·refine .inl ⟨?_,hc⟩
   rw[h]
   unfold ZW Zaq
   congr 1
   refine Zbg fun i hi=>?_
   congr 1
   refine Zbg fun j hj=>?_
   rw[same i j hi hj]
  ·rw[same i i hi hi,hz i hi]at e
   cases e
   omega
theorem ZtA(hn:n≤99)(hk:k+2*n+4≤7000)(hM:0<M)(bM:Bd k M)(hd:∀i,i<n+1→G i i=some 0)(bG:BdG (n+1) k G)(hR:∀t,t<n→RB M k (R t)): Pk (Zef [Zz n G R]) fun t=>(∃G2 R2,t=Zz n G2 R2∧Sharp n G R G2 R2 M (k+2*n+5))∨(t=.none∧ZfI n G R M (k+n+2)):=by
 unfold Zef Zpj
 have ht:Zz n G R=.tup [ZW (n+1) G,ZaQ n R]:=rfl
 have hg:∀G,ZW (n+1) G=.lst (tab (n+1) fun i=>Zaq (n+1) (G i)):=fun _=>rfl
 have hr:∀R,ZaQ n R=.lst (tab n fun i=>ZT (R i)):=fun _=>rfl
 rw[ht]
 walk_at "zz"
 refine(Zrc hn hd).mono ?_
 rintro t (⟨rfl,nr⟩ | ⟨rfl,h⟩)
 ·rw[hg (clG G (n+1))]
  walk_at "zz"
  rw[←hg (clG G (n+1))]
  refine(Zo0 (k:=k+n+1) (by omega) (by omega) hM (bM.mono (by omega)) (Zew bG (n+1) (by omega)) (fun t ht=>(hR t ht).mono (by omega))).mono ?_
  rintro t (⟨R1,rfl,h1⟩ | ⟨rfl,h⟩)
  ·have hR1:∀t,t<n→RB M (k+n+2) (R1 t):=fun t ht=>(h1 t ht).1
   have hF1:=Zdn hR1
   have z1:=ZeW hd (m:=n+1) fun m hm q=>nr ⟨m,hm,q⟩
   rw[hr R1]
   walk_at "zz"
   rw[←hr R1]
   refine(ZsT (k:=k+n+2) (by omega) (by omega) hM (bM.mono (by omega)) hR1 z1).mono ?_
   rintro t (⟨rfl,nl⟩ | ⟨rfl,fl⟩)
   ·have bG1:BdG (n+1) (k+n+3) (ZaO (clG G (n+1)) R1):=Zon hM (bM.mono (by omega)) (fun a b c ha hb e=>(Zew bG (n+1) (by omega) a b c ha hb e).mono (by omega)) hR1
    have z2:=ZiX (fun i hi=>(hF1 i hi).1) z1
    rw[hg (ZaO (clG G (n+1)) R1)]
    walk_at "zz"
    rw[←hg (ZaO (clG G (n+1)) R1)]
    refine(Zrc hn z2).mono ?_
    rintro t (⟨rfl,nr2⟩ | ⟨rfl,h2⟩)
    ·rw[hg (clG (ZaO (clG G (n+1)) R1) (n+1))]
     walk_at "zz"
     rw[←hg (clG (ZaO (clG G (n+1)) R1) (n+1))]
     refine(Zo0 (k:=k+n+3+n+1) (by omega) (by omega) hM (bM.mono (by omega)) (fun a b c ha hb e=>Zew bG1 (n+1) (by omega) a b c ha hb e) (fun t ht=>(hR1 t ht).mono (by omega))).mono ?_
     rintro t (⟨R2,rfl,h2⟩ | ⟨rfl,h2⟩)
     ·rw[hr R2]
      walk_at "zz"
      exact .inl ⟨_,R2,rfl,⟨R1,nr,h1.mono (by omega),nl,nr2,rfl,h2.mono (by omega)⟩⟩
     ·walk_at "zz"
      exact .inr ⟨rfl,.inr (.inr ⟨R1,nr,h1,.inr ⟨nl,.inr ⟨nr2,h2⟩⟩⟩)⟩
    ·walk_at "zz"
     exact .inr ⟨rfl,.inr (.inr ⟨R1,nr,h1,.inr ⟨nl,.inl h2⟩⟩)⟩
   ·walk_at "zz"
    exact .inr ⟨rfl,.inr (.inr ⟨R1,nr,h1,.inl fl⟩)⟩
  ·walk_at "zz"
   exact .inr ⟨rfl,.inr (.inl ⟨nr,h⟩)⟩
 ·walk_at "zz"
  exact .inr ⟨rfl,.inl h⟩
noncomputable def SameG(n:Nat)(A B:Nat→Nat→Option Int): Prop:=∀i j,i<n→j<n→A i j=B i j
theorem Zje{n:Nat}{A B:Nat→Nat→Option Int}(h:SameG n A B): ∀m,m≤n→SameG n (clG A m) (clG B m)
 | 0,_=>h
 | m+1,hm=>fun i j hi hj=>by
  have ih:=Zje h m (by omega)
  show ZaR (clG A m i j) (Zak (clG A m i m) (clG A m m j))=ZaR (clG B m i j) (Zak (clG B m i m) (clG B m m j))
  rw[ih i j hi hj,ih i m hi (by omega),ih m j (by omega) hj]
theorem Zu9(h:SameG n A B)(r:Zb3 n A): Zb3 n B:=by
 obtain⟨m,hm,i,hi,b,e,hb⟩:=r
 exact⟨m,hm,i,hi,b,by rw[←Zje h (m+1) (by omega) i i hi hi];exact e,hb⟩
noncomputable def SameR(n:Nat)(R S:Nat→Int×Int): Prop:=∀t,t<n→R t=S t
theorem ZiN(h:SameR n R S): ∀i,i<n+1→ZR R i=ZR S i
 | 0,_=>rfl
 | i+1,hi=>h i (by omega)
theorem ZnA(h:SameG (n+1) A B)(hr:SameR n R S): SameG (n+1) (ZaO A R) (ZaO B S):=fun i j hi hj=>by
 unfold ZaO Zbv
 rw[h i j hi hj,ZiN hr i hi,ZiN hr j hj]
theorem ZtB(h:SameG (n+1) A B)(hr:SameR n R S)(q:Zdz n A R): Zdz n B S:=by
 obtain⟨i,j,hi,hj,b,e,l⟩:=q
 exact⟨i,j,hi,hj,b,by rw[←h i j hi hj];exact e,by rw[←ZnA h hr i j hi hj];exact l⟩
theorem Zlf(h:SameG (n+1) A B)(hr:SameR n R S)(hi:i<n+1){x:Int}(q:ZcX n A R i (n+1) x): ZcX n B S i (n+1) x:=by
 refine⟨by rw[←ZiN hr i hi];exact q.1,fun j hj a b ha hb hab=>?_⟩
 rw[←ZiN hr j hj]
 exact q.2 j hj a b (by rw[h i j hi hj];exact ha) (by rw[h j i hj hi];exact hb) hab
theorem SameG.symm(h:SameG n A B): SameG n B A:=fun i j hi hj=>(h i j hi hj).symm
theorem SameR.symm{A B:Nat→Int×Int}(h:SameR n A B): SameR n B A:=fun i hi=>(h i hi).symm
theorem Zne{S':Nat→Int×Int}(h:SameG (n+1) A B)(hr:SameR n R S)(a:Hand n A R R' M k)(b:Hand n B S S' M' k'): SameR n R' S':=fun t ht=>
 Zis (a t ht).1.1 (b t ht).1.1 fun x=>((a t ht).2 x).trans (Iff.trans ⟨Zlf h hr (by omega),Zlf h.symm hr.symm (by omega)⟩ ((b t ht).2 x).symm)
theorem Zp4(h:SameG (n+1) A B)(hr:SameR n R S)(a:Hand n A R R' M k): ¬ZfM n B S:=by
 rintro⟨i,hi,q⟩
 exact q _ (Zlf h hr (by omega) (((a i hi).2 _).mp (a i hi).1.1.self))
theorem Zfz: SameG n A A:=fun _ _ _ _=>rfl
theorem ZmF{A:Nat→Int×Int}: SameR n A A:=fun _ _=>rfl
theorem Zva(h:SameG (n+1) A B)(hr:SameR n R S): Zz n A R=Zz n B S:=by
 unfold Zz ZW ZaQ Zaq
 have e1:(tab (n+1) fun i=>T.lst (tab (n+1) fun j=>oT (A i j)))=tab (n+1) fun i=>T.lst (tab (n+1) fun j=>oT (B i j)):=Zbg fun i hi=>by
  congr 1
  exact Zbg fun j hj=>by rw[h i j hi hj]
 have e2:(tab n fun i=>ZT (R i))=tab n fun i=>ZT (S i):=Zbg fun i hi=>by rw[hr i hi]
 rw[e1,e2]
theorem Zut{G2':Nat→Nat→Option Int}{R2':Nat→Int×Int}(a:Sharp n G R G2 R2 M k)(b:Sharp n G R G2' R2' M' k'): Zz n G2 R2=Zz n G2' R2':=by
 obtain⟨R1,a1,a2,a3,a4,rfl,a6⟩:=a.go
 obtain⟨S1,b1,b2,b3,b4,rfl,b6⟩:=b.go
 have r1:=Zne Zfz ZmF a2 b2
 have g2:=Zje (ZnA (A:=clG G (n+1)) Zfz r1) (n+1) (by omega)
 exact Zva g2 (Zne g2 r1 a6 b6)
theorem Zp5(a:Sharp n G R G2 R2 M k)(b:ZfI n G R M' k'): False:=by
 obtain⟨R1,a1,a2,a3,a4,rfl,a6⟩:=a.go
 rcases b with b | ⟨_,b⟩ | ⟨S1,b1,b2,b⟩
 ·exact a1 b
 ·exact Zp4 Zfz ZmF a2 b
 ·have r1:=Zne Zfz ZmF a2 b2
  have g1:=ZnA (A:=clG G (n+1)) Zfz r1
  rcases b with b | ⟨_,b | ⟨_,b⟩⟩
  ·exact a3 (ZtB Zfz r1.symm b)
  ·exact a4 (Zu9 g1.symm b)
  ·exact Zp4 (Zje g1 (n+1) (by omega)) r1 a6 b
theorem Zuu{t u:T}(h:(∃G2 R2,t=Zz n G2 R2∧Sharp n G R G2 R2 M (k+2*n+5))∨(t=.none∧ZfI n G R M (k+n+2)))(h':(∃G2 R2,u=Zz n G2 R2∧Sharp n G R G2 R2 M (k+2*n+5))∨(u=.none∧ZfI n G R M (k+n+2))): t=u:=by
 rcases h with⟨A,B,rfl,h⟩ | ⟨rfl,h⟩
 ·rcases h' with⟨C,D,rfl,h'⟩ | ⟨rfl,h'⟩
  ·exact Zut h h'
  ·exact absurd h' fun q=>Zp5 h q
 ·rcases h' with⟨C,D,rfl,h'⟩ | ⟨rfl,h'⟩
  ·exact absurd h fun q=>Zp5 h' q
  ·rfl
theorem Zuv(hn:n≤100)(hd:∀i,i<n+1→G i i=some 0)(ok:∀t,t<n→RestOk (R t)): Zfq [Zz n G R,.int n]=some (.bool true):=by
 apply Pk.eq
 unfold Zfq ZlE Zz ZaQ
 walk_at "zz"
 rw[show(n:Int)+1=((n+1:Nat):Int)by omega]
 refine Zy (Zw1 (by omega) hd) ?_
 walk_at "zz"
 refine Za2 (n:=n) (a:=fun i=>ZT (R i)) (P:=fun _ _=>True) ?_ trivial ?_ ?_
 ·walk_at "zz"
  rfl
 ·rintro t σ ht _
  have ho:=ok t ht
  unfold ZT
  walk_at "zz"
  refine Zy Zm6 ?_
  walk_at "zz"
  refine Zy Zm6 ?_
  walk_at "zz"
  have h0:=ho.nn
  walk_at "zz"
  rcases ho with h | h
  ·walk_at "zz"
   trivial
  ·walk_at "zz"
   trivial
 ·rintro σ _
  walk_at "zz"
  rfl
theorem Zuw(hd:∀i,i<n+1→G i i=some 0)(s:Sharp n G R G2 R2 M k): (∀i,i<n+1→G2 i i=some 0)∧∀k,k<n+1→∀i j,i<n+1→j<n+1→leO (G2 i j) (Zak (G2 i k) (G2 k j)):=by
 obtain⟨R1,h1,h2,h3,h4,rfl,h6⟩:=s.go
 have hF:=Zdn fun t ht=>(h2 t ht).1
 have z1:=ZeW hd (m:=n+1) fun m hm q=>h1 ⟨m,hm,q⟩
 have z2:=ZiX (fun i hi=>(hF i hi).1) z1
 exact⟨ZeW z2 fun m hm q=>h4 ⟨m,hm,q⟩,Zom z2 (n+1) (by omega) fun m hm q=>h4 ⟨m,hm,q⟩⟩
noncomputable def ZcQ(R:Nat→Int×Int): Nat→Int
 | 0=>1
 | t+1=>ZcQ R t*(if(R t).1=0 then 1 else(R t).1)
theorem ZgX{n:Nat}{R:Nat→Int×Int}(h:∀t,t<n→RestOk (R t)): ∀m,m≤n→0<ZcQ R m
 | 0,_=>by show(0:Int)<1;decide
 | m+1,hm=>by
  have ih:=ZgX h m (by omega)
  have:=(h m (by omega)).nn
  unfold ZcQ
  refine Int.mul_pos ih ?_
  split
  ·decide
  ·omega
theorem ZgY{R:Nat→Int×Int}: ∀m t,t<m→(R t).1=0∨(R t).1 ∣ ZcQ R m
 | m+1,t,ht=>by
  by_cases z:(R t).1=0
  ·exact .inl z
  ·right
   unfold ZcQ
   by_cases q:t=m
   ·subst q
    rw[if_neg z]
    exact Int.dvd_mul_left _ _
   ·exact Int.dvd_trans ((ZgY m t (by omega)).resolve_left z) (Int.dvd_mul_right _ _)
theorem Zg7{n k:Nat}{R:Nat→Int×Int}(hk:1≤k)(h:∀t,t<n→Bd k (R t).1): ∀m,m≤n→Bd (k*m+1) (ZcQ R m)
 | 0,_=>by rw[Nat.mul_zero];exact ZdJ (by omega)
 | m+1,hm=>by
  have ih:=Zg7 hk h m (by omega)
  unfold ZcQ
  have h2:Bd k (if(R m).1=0 then 1 else(R m).1):=by
   split
   ·exact ZdJ hk
   ·exact h m (by omega)
  have:=Bd.mul ih h2
  rw[Nat.mul_succ]
  exact this.mono (by omega)
inductive Dp: Nat→T→Prop where
 | none {n:Nat}:Dp n .none
 | int {n:Nat} {i:Int}:Dp n (.int i)
 | tup {n:Nat} {ts:List T}:(∀t∈ts,Dp n t)→ts.length≤10000→Dp (n+1) (.tup ts)
 | lst {n:Nat} {ts:List T}:(∀t∈ts,Dp n t)→ts.length≤10000→Dp (n+1) (.lst ts)
theorem Dp.mono{t:T}(h:Dp n t): ∀{m:Nat},n≤m→Dp m t:=by
 induction h with
 | none=>intro m _;exact .none
 | int=>intro m _;exact .int
 | tup hs hl ih=>
  intro m hm
  cases m with
  | zero=>omega
  | succ m=>exact .tup (fun t a=>ih t a (by omega)) hl
 | lst hs hl ih=>
  intro m hm
  cases m with
  | zero=>omega
  | succ m=>exact .lst (fun t a=>ih t a (by omega)) hl
theorem Zrd{F:List T→Option T}(hg:ZaD g σ=some ts)(hl:ts.length≤10000)(h:∀t∈ts,F [t]=some t)(q:Q (.lst ts)): Pk (Zan (ZaD g) (Z2 j) Zaa (Zp F (Zd (Za j) Zl)) σ) Q:=by
 refine⟨.lst ts,?_,q⟩
 have:=ZpT (σ:=σ) (j:=j) (f:=Zp F (Zd (Za j) Zl)) (h:=fun t=>t) (ts:=ts) fun t m=>by
  simp only[Zp,Zd,Za,Zl,ZbD,Option.bind_some,Option.map_some]
  exact h t m
 simp only[Zan,hg,Option.bind_some,this]
 rw[if_pos (by rw[Zbm];omega)]
 simp
theorem ZvW{t:T}(h:Dp n t): ZeR (n+1) [t]=some t:=by
 induction h with
 | none=>rfl
 | int=>rfl
 | @tup n ts hs hl ih=>
  apply Pk.eq
  show Pk (Z0 1 (ZfU (ZeR (n+1))) [.tup ts]) _
  unfold ZfU
  walk_at "zz"
  refine Zrd (ts:=ts) rfl hl ih ?_
  walk_at "zz"
  rfl
 | @lst n ts hs hl ih=>
  apply Pk.eq
  show Pk (Z0 1 (ZfU (ZeR (n+1))) [.lst ts]) _
  unfold ZfU
  walk_at "zz"
  exact Zrd (ts:=ts) rfl hl ih rfl
theorem ZiY{t:T}(h:Dp 8 t): ZeU [t]=some t:=ZvW h
theorem Zsf: Dp n (oT a):=by cases a;exact .none;exact .int
theorem Zre(hn:n≤100): Dp 3 (Zz n G R):=by
 refine .tup (fun t m=>?_) (by simp)
 simp at m
 rcases m with rfl | rfl
 ·refine .lst (fun t m=>?_) (by rw[Zau];omega)
  obtain⟨i,hi,rfl⟩:=ZcL m
  refine .lst (fun t m=>?_) (by rw[Zau];omega)
  obtain⟨j,hj,rfl⟩:=ZcL m
  exact Zsf
 ·refine .lst (fun t m=>?_) (by rw[Zau];omega)
  obtain⟨i,hi,rfl⟩:=ZcL m
  refine .tup (fun t m=>?_) (by simp)
  simp at m
  rcases m with rfl | rfl <;> exact .int
theorem Zvb(hn:n≤100)(h:Zay n G R x)(ok:∀t,t<n→RestOk (R t)): Zc4 [Zz n G R,Zaz n x]=some (.bool true):=by
 apply Pk.eq
 unfold Zc4 ZgH Zz ZW Zaq ZaQ Zaz
 walk_at "zz"
 rw[Zol]
 refine Za2 (n:=n+1) (a:=fun i=>.int i) (P:=fun i σ=>σ 0=some (Zz n G R)∧σ 1=some (.lst (tab n fun i=>.int (x i)))∧σ 2=some (.lst (tab (n+1) fun i=>.int (Zas x i)))) ?_ ⟨by walk_at "zr",by walk_at "zr",by walk_at "zr"⟩ ?_ ?_
 ·walk_at "zz"
  rfl
 ·rintro i σ hi ⟨e0,e1,e2⟩
  refine Za2 (n:=n+1) (a:=fun i=>.int i) (P:=fun j σ=>σ 0=some (Zz n G R)∧σ 1=some (.lst (tab n fun i=>.int (x i)))∧σ 2=some (.lst (tab (n+1) fun i=>.int (Zas x i)))∧σ 3=some (.int i)) ?_ ⟨by walk_at "zr",by walk_at "zr",by walk_at "zr",by walk_at "zr"⟩ ?_ ?_
  ·walk_at "zz"
   rfl
  ·rintro j σ hj ⟨f0,f1,f2,f3⟩
   unfold Zz ZW Zaq ZaQ at f0
   walk_at "zz"
   cases hg:G i j with
   | none=>
    rw[Za1]
    walk_at "zz"
    exact⟨by walk_at "zr",by walk_at "zr",by walk_at "zr",by walk_at "zr"⟩
   | some b=>
    have:=h.1 i j hi hj b hg
    rw[Zam]
    walk_at "zz"
    rw[hg,Zam]
    walk_at "zz"
    exact⟨by walk_at "zr",by walk_at "zr",by walk_at "zr",by walk_at "zr"⟩
  ·rintro σ ⟨f0,f1,f2,f3⟩
   exact⟨f0,f1,f2⟩
 ·rintro σ ⟨e0,e1,e2⟩
  refine Zdd ?_
  refine Za2 (n:=n) (a:=fun i=>.int i) (P:=fun j σ=>σ 0=some (Zz n G R)∧σ 1=some (.lst (tab n fun i=>.int (x i)))) ?_ ⟨e0,e1⟩ ?_ ?_
  ·walk_at "zz"
   rfl
  ·rintro t σ ht ⟨f0,f1⟩
   unfold Zz ZW Zaq ZaQ ZT at f0
   have ho:=ok t ht
   have hh:=h.2 t ht
   unfold Zai at hh
   walk_at "zz"
   by_cases c:(R t).1=0
   ·have:=hh.1 c
    walk_at "zz"
    exact⟨by walk_at "zr",by walk_at "zr"⟩
   ·have hp:0<(R t).1:=by have:=ho.nn;omega
    have h2:(x t-(R t).2) % (R t).1=0:=hh.2 hp
    walk_at "zz"
    rw[Int.fmod_eq_emod_of_nonneg _ (by omega),h2]
    walk_at "zz"
    exact⟨by walk_at "zr",by walk_at "zr"⟩
  ·rintro σ _
   walk_at "zz"
   rfl
section
variable {σ:TL} {Q:T→Prop}
theorem ZyO{p e:PE}(h:Pk (p σ) fun t=>∃ts,t=.lst ts∧Pk (e σ) fun u=>∃a:Nat,u=.int a∧Q (.lst (ts.drop a))): Pk (ZfZ p (Zhj e) Zhi σ) Q:=by
 obtain⟨_,e1,ts,rfl,_,e2,a,rfl,q⟩:=h
 refine⟨_,?_,q⟩
 simp only[ZfZ,e1,Zhi,Zhj,e2,Option.bind_some,ZpR ts rfl]
theorem Zrf{a b:List T}(hl:a.length+b.length≤10000)(h:Q (.lst (a++b))): Pk (Zad (.lst a) (.lst b)) Q:=by
 refine⟨_,?_,h⟩
 simp only[Zad]
 rw[if_pos (by rw[Zbm,List.length_append];omega)]
theorem Zxa{a:T}(hn:n≤1000)(h:Q (.lst (tab n fun _=>a))): Pk (ZaH (.lst [a]) (.int n)) Q:=by
 have e:∀n,ZhJ [a] n=tab n fun _=>a:=fun n=>by
  induction n with
  | zero=>rfl
  | succ n ih=>show ZhJ [a] n++[a]=_;rw[ih];exact ZdT (f:=fun _=>a)
 refine⟨_,?_,h⟩
 simp only[ZaH,List.length_cons,List.length_nil,Int.toNat_natCast,e]
 rw[if_pos ⟨by rw[Zbm];omega,by omega,by omega⟩]
end
theorem Zrg{x:Nat}{k l:Int}{w:T}{f:Nat→Nat→T}(e:σ x=some (.lst (tab n fun a=>.lst (tab m (f a)))))(hk:k=i)(hl:l=j)(hi:i<n)(hj:j<m)(h:N (Z1 σ x (.lst (tab n fun a=>.lst (tab m fun b=>if a=i∧b=j then w else f a b))))): Put2 σ x w (.int k) (.int l) N:=by
 subst hk hl
 exact Zqj e hi hj h
theorem Znf{v:Option Int}{w:T}(hw:w=oT v): T.lst (tab n fun a=>T.lst (tab n fun b=>if a=i∧b=j then w else oT (G a b)))=T.lst (tab n fun a=>T.lst (tab n fun b=>oT (Zcd G i j v a b))):=by
 subst hw
 exact Ze5
theorem ZcV{a b:PS}{R:T→Prop}(M:TL→Prop)(h1:Psk (a σ) R M)(h2:∀σ,M σ→Psk (b σ) R N): Psk (Zr a b σ) R N:=by
 obtain⟨o,s,e,p,q⟩:=h1
 exact Zdd ⟨o,s,e,p,fun h=>h2 s (q h)⟩
theorem Zxb{a:Nat}(h:a≤4): Zcn a a 1=some []:=by
 have:a=0∨a=1∨a=2∨a=3∨a=4:=by omega
 obtain rfl | rfl | rfl | rfl | rfl:=this <;> (unfold Zcn;rw[if_pos (by decide +kernel)];rfl)
theorem ZfN{g:PEs}{a:Nat}{L:List T→Prop}(ha:a≤4)(hm:m≤100)(e:g σ=some [.int a,.int (a+m)])(h:L (tab m fun i=>.int ((a+i:Nat):Int))): Pl (Zaw g σ) L:=by
 cases m with
 | zero=>
  have e2:Zcn (a:Int) ((a:Int)+((0:Nat):Int)) 1=some []:=by simpa using Zxb ha
  exact⟨[],Zhd e e2,h⟩
 | succ m=>
  refine⟨_,Zhd e (by have:=ZqV (a:=a) (n:=m+1) (by omega) (by omega);simpa using this),?_⟩
  rw[show(tab (m+1) fun i=>T.int ((a:Int)+i))=tab (m+1) fun i=>.int ((a+i:Nat):Int)from Zbg fun i _=>by congr 1]
  exact h
theorem ZlT{N a:Nat}{v:Option Int}(ha:a<N)(hb:b<N): Zfv [ZW N Γ,.int a,.int b,oT v]=some (ZW N (Zcd Γ a b (ZaR (Γ a b) v))):=by
 apply Pk.eq
 unfold Zfv Zmo
 refine ZnQ rfl ?_
 unfold ZW Zaq
 walk_at "zz"
 refine Zy Zp1 ?_
 refine⟨ZeS,?_⟩
 walk_at "zz"
 refine⟨_,ZbD,?_⟩
 exact Ze5
noncomputable def ZP(n:Nat)(c:Nat→Int): T:=.lst (tab (n+1) fun i=>.int (c i))
theorem ZeF{k:Int}(hn:n≤1000)(hb:b≤100000)(bc:∀i,i<n+1→Bd b (c i))(bk:Bd b k): Zdu [ZP n c,.int k]=some (ZP n fun i=>c i*k):=by
 apply Pk.eq
 unfold Zdu ZlG ZP
 walk_at "zz"
 refine Zb8 (n:=n+1) (a:=fun i=>.int (c i)) (b:=fun i=>.int (c i*k)) (by omega) ?_ (fun i hi=>?_) rfl
 ·walk_at "zz"
  rfl
 ·walk_at "zz"
  exact Zby (ZbM (bc i hi) bk (by omega) (by omega)) rfl
noncomputable def S40(G:Nat→Nat→Option Int)(i:Nat): Sp:=((G 0 (i+1)).map fun y=>y*(-1),G (i+1) 0)
theorem ZsE(hn:n≤90)(hb:b≤100000)(hb1:1≤b)(bG:∀i j,i<n+1→j<n+1→∀y,G i j=some y→Bd b y): ZhV [Zz n G R]=some (.lst (tab n fun i=>spT (S40 G i))):=by
 apply Pk.eq
 unfold ZhV Zkt
 have ht:Zz n G R=.tup [.lst (tab (n+1) fun i=>.lst (tab (n+1) fun j=>oT (G i j))),.lst (tab n fun i=>ZT (R i))]:=rfl
 rw[ht]
 walk_at "zz"
 refine Zb8 (n:=n) (a:=fun i=>.int ((1+i:Nat):Int)) (b:=fun i=>spT (S40 G i)) (by omega) ?_ (fun i hi=>?_) rfl
 ·refine ZfN (a:=1) (m:=n) (by omega) (by omega) ?_ rfl
  simp only[Zd,Zj,Zl,Zp,Za,Z1,Option.bind_some,if_true,Zaj,Zau]
  congr 3
  congr 1
  omega
 ·have h1:1+i<n+1:=by omega
  have h0:0<n+1:=by omega
  walk_at "zz"
  refine Zy (Zif hb (fun y e=>bG 0 (1+i) h0 h1 y e) (show Bd b (-1)by unfold Bd;have:=ZdJ hb1;unfold Bd at this;simpa using this)) ?_
  walk_at "zz"
  unfold spT S40
  rw[show 1+i=i+1 by omega]
  rfl
theorem Zpp{σ:TL}{j:Nat}{cnd:PB}{P:T→Bool}: ∀{ts:List T},(∀t∈ts,cnd (Z1 σ j t)=some (P t))→Zcj (Z2 j) cnd (Za j) σ ts=some (ts.filter P)
 | [],_=>rfl
 | t::ts,h=>by
  have ih:=Zpp fun t m=>h t (Zz2 _ m)
  have h0:=h t Zz5
  simp only[Zcj,Z2,Option.bind_some,h0,Za,ZbD,ih,Option.map_some,List.filter_cons]
  cases P t <;> rfl
theorem ZiO{g:PG}{cnd:PB}{P:T→Bool}(hl:ts.length≤10000)(hg:Pl (g σ) fun us=>us=ts)(hc:∀t∈ts,Pb (cnd (Z1 σ j t)) fun b=>b=P t)(h:Q (.lst (ts.filter P))): Pk (Zan g (Z2 j) cnd (Za j) σ) Q:=by
 obtain⟨us,e,rfl⟩:=hg
 refine⟨_,?_,h⟩
 have:=Zpp (σ:=σ) (j:=j) (cnd:=cnd) (P:=P) (ts:=us) fun t m=>by
  obtain⟨b,e1,rfl⟩:=hc t m
  exact e1
 simp only[Zan,e,Option.bind_some,this,Option.map_some]
 rw[if_pos (by rw[Zbm];omega)]
noncomputable def xsI(n:Nat)(c:Nat→Int): List Int:=tab n fun i=>c (i+1)
noncomputable def nzI(n:Nat)(c:Nat→Int): List Int:=(xsI n c).filter fun x=>decide (x≠0)
noncomputable def Df(n:Nat)(c:Nat→Int): Prop:=PM.Zdg (nzI n c)=[-1,1]
theorem Zg8(ks:List Int): Zdr (ks.map T.int)=some ks:=by
 induction ks with
 | nil=>rfl
 | cons k ks ih=>simp[Zdr,ih]
theorem Zpq{a b:List Int}(h:a.map T.int=b.map T.int): a=b:=by
 have:=congrArg Zdr h
 rw[Zg8,Zg8]at this
 simpa using this
theorem Zjf(ks:List Int): Pln 1 (.lst (ks.map T.int)):=.lst fun t m=>by
 obtain⟨k,_,rfl⟩:=Zz11.mp m
 exact .int
theorem tab_map{α:Type}{f:Nat→α}{g:α→β}: (tab n f).map g=tab n fun i=>g (f i):=by simp[tab]
theorem Zst(hn:n≤60): ZhP [ZP n c]=some (.bool (dec (Df n c))):=by
 apply Pk.eq
 unfold ZhP Zj5 ZP
 walk_at "zz"
 refine ZiO (ts:=(xsI n c).map T.int) (P:=fun t=>match t with | .int x=>decide (x≠0) | _=>false) (by simp[xsI,Zau];omega) ?_ (fun t m=>?_) ?_
 ·refine Zhc ?_
  refine ZiM ?_
  walk_at "zz"
  refine⟨_,rfl,?_⟩
  rw[ZiW]
  refine Sq.lst ?_
  unfold xsI
  rw[tab_map]
 ·obtain⟨x,_,rfl⟩:=Zz11.mp m
  walk_at "zz"
  rfl
 have ef:((xsI n c).map T.int).filter (fun t=>match t with | .int x=>decide (x≠0) | _=>false)=(nzI n c).map T.int:=by
  unfold nzI
  rw[List.filter_map]
  rfl
 rw[ef]
 have hl:(nzI n c).length≤n:=by
  unfold nzI
  refine Nat.le_trans (List.length_filter_le _ _) ?_
  simp[xsI,Zau]
 walk_at "zz"
 refine⟨.lst ((PM.Zdg (nzI n c)).map T.int),?_,?_⟩
 ·simp only[ZeT,Zg8,Option.bind_some,List.length_map]
  rw[if_pos (by omega)]
 walk_at "zz"
 refine Zbs (n:=1) (m:=1) (Zjf _) (Zjf [-1,1]) ?_
 by_cases h:Df n c
 ·rw[ZaB h,ZaB]
  show T.lst ((PM.Zdg (nzI n c)).map T.int)=_
  rw[show PM.Zdg (nzI n c)=[-1,1]from h]
  rfl
 ·rw[ZaC h,ZaC]
  intro q
  refine h (Zpq ?_)
  simpa using q
noncomputable def ZaE(c:Nat→Int): Nat→List Nat
 | 0=>[]
 | n+1=>ZaE c n++(if 0<c (n+1)then [n+1]else [])
noncomputable def ZaI(c:Nat→Int): Nat→List Nat
 | 0=>[]
 | n+1=>ZaI c n++(if c (n+1)<0 then [n+1]else [])
theorem ups_mem{c:Nat→Int}: ∀{n i:Nat},i∈ZaE c n↔1≤i∧i≤n∧0<c i
 | 0,i=>by simp[ZaE];omega
 | n+1,i=>by
  simp only[ZaE,List.mem_append,ups_mem (n:=n)]
  by_cases h:0<c (n+1)
  ·simp only[h,if_true,List.mem_singleton]
   constructor
   ·rintro(⟨a,b,d⟩ | rfl)
    ·exact⟨a,by omega,d⟩
    ·exact⟨by omega,by omega,h⟩
   ·rintro⟨a,b,d⟩
    by_cases q:i=n+1
    ·exact .inr q
    ·exact .inl ⟨a,by omega,d⟩
  ·simp only[h,if_false,List.not_mem_nil,or_false]
   constructor
   ·rintro⟨a,b,d⟩;exact⟨a,by omega,d⟩
   ·rintro⟨a,b,d⟩
    have:i≠n+1:=fun q=>h (q▸d)
    exact⟨a,by omega,d⟩
theorem dns_mem{c:Nat→Int}: ∀{n i:Nat},i∈ZaI c n↔1≤i∧i≤n∧c i<0
 | 0,i=>by simp[ZaI];omega
 | n+1,i=>by
  simp only[ZaI,List.mem_append,dns_mem (n:=n)]
  by_cases h:c (n+1)<0
  ·simp only[h,if_true,List.mem_singleton]
   constructor
   ·rintro(⟨a,b,d⟩ | rfl)
    ·exact⟨a,by omega,d⟩
    ·exact⟨by omega,by omega,h⟩
   ·rintro⟨a,b,d⟩
    by_cases q:i=n+1
    ·exact .inr q
    ·exact .inl ⟨a,by omega,d⟩
  ·simp only[h,if_false,List.not_mem_nil,or_false]
   constructor
   ·rintro⟨a,b,d⟩;exact⟨a,by omega,d⟩
   ·rintro⟨a,b,d⟩
    have:i≠n+1:=fun q=>h (q▸d)
    exact⟨a,by omega,d⟩
theorem Zrh{c:Nat→Int}: ∀n,(ZaE c n).length≤n
 | 0=>Nat.le_refl 0
 | n+1=>by
  have:=Zrh (c:=c) n
  simp only[ZaE,List.length_append]
  split <;> simp <;> omega
theorem Zri{c:Nat→Int}: ∀n,(ZaI c n).length≤n
 | 0=>Nat.le_refl 0
 | n+1=>by
  have:=Zri (c:=c) n
  simp only[ZaI,List.length_append]
  split <;> simp <;> omega
theorem Zqz{c:Nat→Int}: ∀n,(ZaE c n).map c=(xsI n c).filter fun x=>decide (0<x)
 | 0=>rfl
 | n+1=>by
  have e:xsI (n+1) c=xsI n c++[c (n+1)]:=(ZdT (n:=n) (f:=fun i=>c (i+1))).symm
  rw[e,List.filter_append,←Zqz n]
  simp only[ZaE,List.map_append]
  by_cases h:0<c (n+1) <;> simp[h]
theorem ZqA{c:Nat→Int}: ∀n,(ZaI c n).map c=(xsI n c).filter fun x=>decide (x<0)
 | 0=>rfl
 | n+1=>by
  have e:xsI (n+1) c=xsI n c++[c (n+1)]:=(ZdT (n:=n) (f:=fun i=>c (i+1))).symm
  rw[e,List.filter_append,←ZqA n]
  simp only[ZaI,List.map_append]
  by_cases h:c (n+1)<0 <;> simp[h]
theorem df_iff: Df n c↔(ZaE c n).map c=[1]∧(ZaI c n).map c=[-1]:=by
 rw[Zqz,ZqA]
 have hp:(nzI n c).Perm ((xsI n c).filter (fun x=>decide (0<x))++(xsI n c).filter (fun x=>decide (x<0))):=by
  unfold nzI
  generalize xsI n c=xs
  induction xs with
  | nil=>exact List.Perm.refl _
  | cons x xs ih=>
   by_cases h1:0<x
   ·have:x≠0:=by omega
    have h2:¬x<0:=by omega
    simp only[List.filter_cons,h1,h2,this,decide_true,decide_false,ne_eq,not_false_eq_true,if_true,Bool.false_eq_true,if_false,List.cons_append]
    exact List.Perm.cons _ ih
   ·by_cases h2:x<0
    ·have:x≠0:=by omega
     simp only[List.filter_cons,h1,h2,this,decide_true,decide_false,ne_eq,not_false_eq_true,if_true,Bool.false_eq_true,if_false]
     exact(List.Perm.cons _ ih).trans List.perm_middle.symm
    ·have:x=0:=by omega
     subst this
     simpa using ih
 constructor
 ·intro h
  have hq:(nzI n c).Perm [-1,1]:=by
   have:=List.mergeSort_perm (nzI n c) fun a b=>decide (a≤b)
   rw[show(nzI n c).mergeSort (fun a b=>decide (a≤b))=[-1,1]from h]at this
   exact this.symm
  have hf:∀q:Int→Bool,(∀x,q x=true→x≠0)→(xsI n c).filter q=(nzI n c).filter q:=fun q hq=>by
   unfold nzI
   rw[List.filter_filter]
   refine List.filter_congr fun x _=>?_
   cases e:q x with
   | false=>simp
   | true=>simp[hq x e]
  rw[hf _ (fun x h=>by simp at h;omega),hf _ (fun x h=>by simp at h;omega)]
  have p1:=hq.filter fun x=>decide (0<x)
  have p2:=hq.filter fun x=>decide (x<0)
  exact⟨List.perm_singleton.mp (by simpa using p1),List.perm_singleton.mp (by simpa using p2)⟩
 ·rintro⟨h1,h2⟩
  rw[h1,h2]at hp
  unfold Df
  refine(PM.Zql ?_ ?_).symm
  ·exact(hp.trans (List.Perm.swap (-1) 1 [])).symm
  ·simp
theorem ZqB{p q r:PE}(h:Pk (p σ) fun t=>∃ks:List Int,t=.lst (ks.map T.int)∧Pk (q σ) fun u=>∃k,u=.int k∧Pk (r σ) fun v=>v=.int 1∧k∈ks.drop 1∧Q (.int ((1+(ks.drop 1).idxOf k:Nat):Int))): Pk (Zhq p q r σ) Q:=by
 obtain⟨_,e1,ks,rfl,_,e2,k,rfl,_,e3,rfl,hm,h⟩:=h
 refine⟨_,?_,h⟩
 simp only[Zhq,e1,e2,e3,Option.bind_some,Zg8]
 rw[if_pos ⟨trivial,hm⟩]
theorem Zjg: (tab (n+1) c).drop 1=xsI n c:=by
 unfold xsI
 apply List.ext_getElem
 ·simp[tab]
 ·intro i h1 h2
  simp[tab]
theorem ZrU{k:Int}(h:l.map c=[k]): ∃u,l=[u]∧c u=k:=by
 cases l with
 | nil=>simp at h
 | cons a l=>
  cases l with
  | nil=>exact⟨a,rfl,by simpa using h⟩
  | cons b l=>simp at h
theorem Zsg(hi:i<n): (xsI n c)[i]?=some (c (i+1)):=Zbx (f:=fun i=>c (i+1)) hi
theorem ZrV{u:Nat}{k:Int}(h1:1≤u)(h2:u≤n)(hu:c u=k)(ho:∀i,1≤i→i≤n→c i=k→i=u): 1+(xsI n c).idxOf k=u∧k∈xsI n c:=by
 have hm:k∈xsI n c:=List.mem_of_getElem? (i:=u-1) (by rw[Zsg (by omega),show u-1+1=u by omega,hu])
 have hl:(xsI n c).idxOf k<(xsI n c).length:=List.idxOf_lt_length_iff.mpr hm
 have hn:(xsI n c).length=n:=Zau
 have hk:=List.getElem_idxOf hl
 have hx:(xsI n c)[(xsI n c).idxOf k]?=some k:=by rw[List.getElem?_eq_getElem hl,hk]
 rw[Zsg (by omega)]at hx
 have:=ho ((xsI n c).idxOf k+1) (by omega) (by omega) (by simpa using hx)
 exact⟨by omega,hm⟩
theorem ZgZ(h:Df n c): ∃u d,ZaE c n=[u]∧ZaI c n=[d]∧c u=1∧c d = -1∧u<n+1∧d<n+1∧1≤u∧1≤d∧1+(xsI n c).idxOf 1=u∧1+(xsI n c).idxOf (-1)=d∧1∈xsI n c∧-1∈xsI n c:=by
 obtain⟨h1,h2⟩:=df_iff.mp h
 obtain⟨u,eu,hu⟩:=ZrU h1
 obtain⟨d,ed,hd⟩:=ZrU h2
 have mu:=ups_mem.mp (show u∈ZaE c n by rw[eu];simp)
 have md:=dns_mem.mp (show d∈ZaI c n by rw[ed];simp)
 have a1:=ZrV mu.1 mu.2.1 hu fun i q1 q2 q3=>by
  have:i∈ZaE c n:=ups_mem.mpr ⟨q1,q2,by omega⟩
  rw[eu]at this
  simpa using this
 have a2:=ZrV md.1 md.2.1 hd fun i q1 q2 q3=>by
  have:i∈ZaI c n:=dns_mem.mpr ⟨q1,q2,by omega⟩
  rw[ed]at this
  simpa using this
 exact⟨u,d,eu,ed,hu,hd,by omega,by omega,mu.1,md.1,a1.1,a2.1,a1.2,a2.2⟩
noncomputable def grt(n:Nat)(G:Nat→Nat→Option Int)(c:Nat→Int): Option Int:=if dec (Df n c)then Zak (G (1+(xsI n c).idxOf 1) (1+(xsI n c).idxOf (-1))) (some (c 0))else(ZbZ c (S40 G) n).2
noncomputable def GB(b n:Nat)(G:Nat→Nat→Option Int): Prop:=∀i j,i<n+1→j<n+1→∀y,G i j=some y→Bd b y
theorem ZrW(hG:GB b n G): ∀i,i<n→SBd b (S40 G i):=fun i hi=>⟨fun x e=>by
 obtain⟨y,e1,e2⟩:=Zz1.mp e
 have:=hG 0 (i+1) (by omega) (by omega) y e1
 subst e2
 unfold Bd at *
 omega,fun x e=>hG (i+1) 0 (by omega) (by omega) x e⟩
theorem ZlU(hn:n≤60)(hb:b≤100000)(hb1:1≤b)(hG:GB b n G)(bc:∀i,i<n+1→Bd b (c i)): Zfw [Zz n G R,ZP n c]=some (oT (grt n G c)):=by
 apply Pk.eq
 unfold Zfw Zmr grt
 have ht:Zz n G R=.tup [.lst (tab (n+1) fun i=>.lst (tab (n+1) fun j=>oT (G i j))),.lst (tab n fun i=>ZT (R i))]:=rfl
 have hs:ZP n c=.lst ((tab (n+1) c).map T.int):=by unfold ZP;rw[tab_map]
 walk_at "zz"
 refine Zy (Zst hn) ?_
 by_cases h:Df n c
 ·obtain⟨u,d,_,_,_,_,hu,hd,_,_,eu,ed,mu,md⟩:=ZgZ h
  rw[ZaB h]
  rw[ht]
  walk_at "zz"
  refine ZqB ?_
  walk_at "zz"
  refine⟨tab (n+1) c,hs,?_⟩
  walk_at "zz"
  refine⟨1,rfl,?_⟩
  walk_at "zz"
  refine⟨rfl,by rw[Zjg];exact mu,?_⟩
  rw[Zjg,eu]
  walk_at "zz"
  refine ZqB ?_
  walk_at "zz"
  refine⟨tab (n+1) c,hs,?_⟩
  walk_at "zz"
  refine⟨-1,rfl,?_⟩
  walk_at "zz"
  refine⟨rfl,by rw[Zjg];exact md,?_⟩
  rw[Zjg,ed]
  unfold ZP
  walk_at "zz"
  exact Zy (Zfr (b:=some (c (Int.toNat 0)))) rfl
 ·rw[ZaC h]
  walk_at "zz"
  refine Zy (ZsE (by omega) hb hb1 hG) ?_
  walk_at "zz"
  refine Zy (ZsQ (by omega) hb bc (ZrW hG)) ?_
  unfold spT
  walk_at "zz"
  rfl
theorem Zxc: ZP n (fun i=>c i * -1)=ZP n fun i=>-(c i):=by
 unfold ZP
 congr 1
 exact Zbg fun i _=>by show T.int (c i * -1)=T.int (-(c i));congr 1;omega
theorem ZvX(hn:n≤60)(hb:b≤1000)(hb1:1≤b)(hG:GB b n G)(bc:∀i,i<n+1→Bd b (c i))(bg:∀y,grt n G (fun i=>-(c i))=some y→Bd 100000 y): Zhg [Zz n G R,ZP n c]=some (oT ((grt n G fun i=>-(c i)).map fun y=>y * -1)):=by
 apply Pk.eq
 unfold Zhg ZnY
 have b1:Bd b (-1):=by have:=ZdJ hb1;unfold Bd at *;simpa using this
 walk_at "zz"
 refine Zy (ZeF (by omega) (by omega) bc b1) ?_
 rw[Zxc]
 walk_at "zz"
 refine Zy (ZlU hn (by omega) hb1 hG fun i hi=>by have:=bc i hi;show Bd b (-(c i));unfold Bd at *;omega) ?_
 walk_at "zz"
 exact Zy (Zif (i:=100000) (by decide) bg (b1.mono (by omega))) rfl
noncomputable def ZoI(c:Nat→Int): T→Bool
 | .int i=>decide (0<c i.toNat)
 | _=>false
noncomputable def ZoJ(c:Nat→Int): T→Bool
 | .int i=>decide (c i.toNat<0)
 | _=>false
theorem ZqC{c:Nat→Int}: ∀n,((tab n fun i=>T.int ((1+i:Nat):Int)).filter (ZoI c))=(ZaE c n).map fun i=>T.int (i:Nat)
 | 0=>rfl
 | n+1=>by
  rw[←ZdT (n:=n) (f:=fun i=>T.int ((1+i:Nat):Int)),List.filter_append,ZqC n]
  simp only[ZaE,List.map_append]
  congr 1
  rw[show 1+n=n+1 by omega]
  by_cases h:0<c (n+1) <;> simp[ZoI,h]
theorem ZqD{c:Nat→Int}: ∀n,((tab n fun i=>T.int ((1+i:Nat):Int)).filter (ZoJ c))=(ZaI c n).map fun i=>T.int (i:Nat)
 | 0=>rfl
 | n+1=>by
  rw[←ZdT (n:=n) (f:=fun i=>T.int ((1+i:Nat):Int)),List.filter_append,ZqD n]
  simp only[ZaI,List.map_append]
  congr 1
  rw[show 1+n=n+1 by omega]
  by_cases h:c (n+1)<0 <;> simp[ZoJ,h]
theorem ZqE{us:List Nat}{h:Nat→T}(hl:us.length≤1000)(hg:Pk (g σ) fun t=>t=.lst (us.map fun i=>T.int (i:Nat)))(hf:∀i∈us,Pk (f (Z1 σ j (.int (i:Nat)))) fun t=>t=h i)(q:Q (.lst (us.map h))): Pk (Zan (ZaD g) (Z2 j) Zaa f σ) Q:=by
 obtain⟨_,e,rfl⟩:=hg
 refine⟨_,?_,q⟩
 have hc:Zcj (Z2 j) Zaa f σ (us.map fun i=>T.int (i:Nat))=some (us.map h):=by
  have key:∀l:List Nat,(∀i∈l,i∈us)→Zcj (Z2 j) Zaa f σ (l.map fun i=>T.int (i:Nat))=some (l.map h):=by
   intro l
   induction l with
   | nil=>intro _;rfl
   | cons a l ih=>
    intro hm
    obtain⟨_,e1,rfl⟩:=hf a (hm a Zz5)
    simp only[List.map_cons,Zcj,Z2,Option.bind_some,Zaa,if_true,e1,ih fun i m=>hm i (Zz2 _ m),Option.map_some]
  exact key us fun i m=>m
 simp only[Zan,ZaD,e,Option.bind_some,hc,Option.map_some,List.length_map]
 rw[if_pos (by rw[Zbm];omega)]
theorem Zrj{b:PS}{us:List Nat}{R:T→Prop}(hg:Pk (g σ) fun t=>t=.lst (us.map fun i=>T.int (i:Nat)))(P:List Nat→TL→Prop)(h0:P [] σ)(h1:∀pre i σ,i∈us→P pre σ→Psk (b (Z1 σ j (.int (i:Nat)))) R (P (pre++[i])))(h2:∀σ,P us σ→N σ): Psk (Zav (ZaD g) (Z2 j) b σ) R N:=by
 refine ZnL (ts:=us.map fun i=>T.int (i:Nat)) (P:=fun k σ=>P (us.take k) σ) ?_ (by simpa using h0) (fun k t σ hk hP=>?_) (fun σ h=>h2 σ (by simpa using h))
 ·obtain⟨_,e,rfl⟩:=hg
  exact⟨_,by simp only[ZaD,e,Option.bind_some],rfl⟩
 ·rw[List.getElem?_map]at hk
  obtain⟨i,ei,rfl⟩:=Zz1.mp hk
  rw[List.take_add_one,ei]
  exact h1 _ i σ (List.mem_of_getElem? ei) hP
noncomputable def sU(G:Nat→Nat→Option Int)(c:Nat→Int)(l:List Nat): Int:=(l.map fun i=>c i*(G i 0).getD 0).sum
noncomputable def sD(G:Nat→Nat→Option Int)(c:Nat→Int)(l:List Nat): Int:=(l.map fun i=>c i*(G 0 i).getD 0).sum
noncomputable def Zdj(G:Nat→Nat→Option Int)(c:Nat→Int)(n:Nat): Prop:=(∃i∈ZaE c n,G i 0=none)∨∃i∈ZaI c n,G 0 i=none
theorem Zrk: sU G c (l++[i])=sU G c l+c i*(G i 0).getD 0:=by simp[sU]
theorem Zrl: sD G c (l++[i])=sD G c l+c i*(G 0 i).getD 0:=by simp[sD]
theorem tot{G:Nat→Nat→Option Int}{c:Nat→Int}: ∀n,(Zdj G c n→(ZbZ c (S40 G) n).2=none)∧(¬Zdj G c n→(ZbZ c (S40 G) n).2=some (c 0+sU G c (ZaE c n)-sD G c (ZaI c n)))
 | 0=>⟨fun h=>(by rcases h with⟨i,m,_⟩ | ⟨i,m,_⟩ <;> cases m),fun _=>by simp[ZbZ,sU,sD,ZaE,ZaI]⟩
 | n+1=>by
  obtain⟨ih1,ih2⟩:=tot (G:=G) (c:=c) n
  have step:(ZbZ c (S40 G) (n+1)).2=Zak (ZbZ c (S40 G) n).2 (Zcw (S40 G n) (c (n+1))).2:=rfl
  rw[step]
  have mono:Zdj G c n→Zdj G c (n+1):=fun h=>h.imp (fun⟨i,m,e⟩=>⟨i,by simp only[ZaE,List.mem_append];exact .inl m,e⟩) fun⟨i,m,e⟩=>⟨i,by simp only[ZaI,List.mem_append];exact .inl m,e⟩
  rcases Int.lt_trichotomy (c (n+1)) 0 with h | h | h
  ·have h0:¬0<c (n+1):=by omega
   have hz:¬c (n+1)=0:=by omega
   have eu:ZaE c (n+1)=ZaE c n:=by simp[ZaE,h0]
   have ed:ZaI c (n+1)=ZaI c n++[n+1]:=by simp[ZaI,h]
   have et:(Zcw (S40 G n) (c (n+1))).2=(G 0 (n+1)).map fun y=>y*(-1)*c (n+1):=by
    unfold Zcw S40
    rw[if_neg hz,if_pos h]
    cases G 0 (n+1) <;> rfl
   rw[et]
   cases hg:G 0 (n+1)with
   | none=>
    refine⟨fun _=>?_,fun q=>absurd (.inr ⟨n+1,by rw[ed];simp,hg⟩) q⟩
    cases (ZbZ c (S40 G) n).2 <;> rfl
   | some y=>
    have hl:Zdj G c (n+1)→Zdj G c n:=by
     rintro(⟨i,m,e⟩ | ⟨i,m,e⟩)
     ·rw[eu]at m;exact .inl ⟨i,m,e⟩
     ·rw[ed]at m
      rcases Zz8.mp m with m | m
      ·exact .inr ⟨i,m,e⟩
      ·rw[List.mem_singleton.mp m,hg]at e;cases e
    refine⟨fun q=>by rw[ih1 (hl q)];rfl,fun q=>?_⟩
    rw[ih2 fun r=>q (mono r),eu,ed,Zrl,hg]
    simp only[Zak,Option.map_some,Option.getD_some]
    congr 1
    have:y*(-1)*c (n+1) = -(c (n+1)*y):=by rw[Int.mul_neg,Int.mul_one,Int.neg_mul,Int.mul_comm]
    omega
  ·have h0:¬0<c (n+1):=by omega
   have h1:¬c (n+1)<0:=by omega
   have eu:ZaE c (n+1)=ZaE c n:=by simp[ZaE,h0]
   have ed:ZaI c (n+1)=ZaI c n:=by simp[ZaI,h1]
   have et:(Zcw (S40 G n) (c (n+1))).2=some 0:=by unfold Zcw;rw[if_pos h]
   have el:Zdj G c (n+1)↔Zdj G c n:=by unfold Zdj;rw[eu,ed]
   rw[et,ZrQ,el,eu,ed]
   exact⟨ih1,ih2⟩
  ·have h1:¬c (n+1)<0:=by omega
   have hz:¬c (n+1)=0:=by omega
   have eu:ZaE c (n+1)=ZaE c n++[n+1]:=by simp[ZaE,h]
   have ed:ZaI c (n+1)=ZaI c n:=by simp[ZaI,h1]
   have et:(Zcw (S40 G n) (c (n+1))).2=(G (n+1) 0).map fun y=>y*c (n+1):=by
    unfold Zcw S40
    rw[if_neg hz,if_neg h1]
   rw[et]
   cases hg:G (n+1) 0 with
   | none=>
    refine⟨fun _=>?_,fun q=>absurd (.inl ⟨n+1,by rw[eu];simp,hg⟩) q⟩
    cases (ZbZ c (S40 G) n).2 <;> rfl
   | some y=>
    have hl:Zdj G c (n+1)→Zdj G c n:=by
     rintro(⟨i,m,e⟩ | ⟨i,m,e⟩)
     ·rw[eu]at m
      rcases Zz8.mp m with m | m
      ·exact .inl ⟨i,m,e⟩
      ·rw[List.mem_singleton.mp m,hg]at e;cases e
     ·rw[ed]at m;exact .inr ⟨i,m,e⟩
    refine⟨fun q=>by rw[ih1 (hl q)];rfl,fun q=>?_⟩
    rw[ih2 fun r=>q (mono r),eu,ed,Zrk,hg]
    simp only[Zak,Option.map_some,Option.getD_some]
    congr 1
    have:y*c (n+1)=c (n+1)*y:=Int.mul_comm _ _
    omega
theorem ZsU(hn:n≤60)(hb:b≤100000)(hG:GB b n G)(bc:∀i,i<n+1→Bd b (c i))(e0:σ 0=some (.tup [.lst (tab (n+1) fun i=>.lst (tab (n+1) fun j=>oT (G i j))),.lst (tab n fun i=>ZT (R i))]))(e1:σ 1=some (.lst (tab (n+1) fun i=>.int (c i))))(e2:σ 2=some (.lst ((ZaE c n).map fun i=>T.int (i:Nat))))(e3:σ 3=some (.lst ((ZaI c n).map fun i=>T.int (i:Nat)))): Psk ((Zr (ZJ 4 (Zc Zad (Zan (ZaD (Za 2)) (Z2 104) Zaa (Zc Zm (Zc Zm (Zc Zm (Za 0) (Zj 0)) (Za 104)) (Zj 0))) (Zan (ZaD (Za 3)) (Z2 106) Zaa (Zc Zm (Zc Zm (Zc Zm (Za 0) (Zj 0)) (Zj 0)) (Za 106))))) (Zr (ZL (Zv (Zc qIn (ZU) (Za 4))) (Zx (ZU)) ZN) (Zr (ZJ 5 (Zc Zm (Za 1) (Zj 0))) (Zr (Zav (ZaD (Za 2)) (Z2 6) (ZJ 5 (Zc Zad (Za 5) (Zc ZaH (Zc Zm (Za 1) (Za 6)) (Zc Zm (Zc Zm (Zc Zm (Za 0) (Zj 0)) (Za 6)) (Zj 0)))))) (Zr (Zav (ZaD (Za 3)) (Z2 6) (ZJ 5 (Zc ZaZ (Za 5) (Zc ZaH (Zc Zm (Za 1) (Za 6)) (Zc Zm (Zc Zm (Zc Zm (Za 0) (Zj 0)) (Zj 0)) (Za 6)))))) (Zx (Za 5))))))) σ) (fun t=>t=oT (ZbZ c (S40 G) n).2) N:=by
 have lu:=Zrh (c:=c) n
 have ld:=Zri (c:=c) n
 have hu:∀i∈ZaE c n,i<n+1:=fun i m=>by have:=ups_mem.mp m;omega
 have hd:∀i∈ZaI c n,i<n+1:=fun i m=>by have:=dns_mem.mp m;omega
 have h0:0<n+1:=by omega
 walk_at "zz"
 refine ZqE (us:=ZaE c n) (h:=fun i=>oT (G i 0)) (by omega) ?_ (fun i m=>?_) ?_
 ·walk_at "zz"
  rfl
 ·have:=hu i m
  walk_at "zz"
  rfl
 refine ZqE (us:=ZaI c n) (h:=fun i=>oT (G 0 i)) (by omega) ?_ (fun i m=>?_) ?_
 ·walk_at "zz"
  rfl
 ·have:=hd i m
  walk_at "zz"
  rfl
 refine Zrf (by simp;omega) ?_
 walk_at "zz"
 refine Zf9 (n:=0) (m:=1) .none (.lst fun t m=>?_) ?_
 ·rcases Zz8.mp m with m | m
  ·obtain⟨i,_,rfl⟩:=Zz11.mp m;exact ZhA
  ·obtain⟨i,_,rfl⟩:=Zz11.mp m;exact ZhA
 by_cases hl:Zdj G c n
 ·have hm:T.none∈(ZaE c n).map (fun i=>oT (G i 0))++(ZaI c n).map fun i=>oT (G 0 i):=by
   rcases hl with⟨i,m,e⟩ | ⟨i,m,e⟩
   ·exact Zz4 _ (Zz11.mpr ⟨i,m,by rw[e];rfl⟩)
   ·exact Zz3 _ (Zz11.mpr ⟨i,m,by rw[e];rfl⟩)
  rw[ZaB hm]
  walk_at "zz"
  rw[(tot n).1 hl]
  rfl
 ·have hm:¬T.none∈(ZaE c n).map (fun i=>oT (G i 0))++(ZaI c n).map fun i=>oT (G 0 i):=fun m=>hl (by
   rcases Zz8.mp m with m | m
   ·obtain⟨i,m,e⟩:=Zz11.mp m
    exact .inl ⟨i,m,oT_inj.mp (by rw[e];rfl)⟩
   ·obtain⟨i,m,e⟩:=Zz11.mp m
    exact .inr ⟨i,m,oT_inj.mp (by rw[e];rfl)⟩)
  have gu:∀i∈ZaE c n,∃y,G i 0=some y:=fun i m=>by
   cases e:G i 0 with
   | none=>exact absurd (.inl ⟨i,m,e⟩) hl
   | some y=>exact⟨y,rfl⟩
  have gd:∀i∈ZaI c n,∃y,G 0 i=some y:=fun i m=>by
   cases e:G 0 i with
   | none=>exact absurd (.inr ⟨i,m,e⟩) hl
   | some y=>exact⟨y,rfl⟩
  rw[ZaC hm]
  walk_at "zz"
  refine Zrj (us:=ZaE c n) (P:=fun pre σ'=>σ' 0=some (.tup [.lst (tab (n+1) fun i=>.lst (tab (n+1) fun j=>oT (G i j))),.lst (tab n fun i=>ZT (R i))])∧σ' 1=some (.lst (tab (n+1) fun i=>.int (c i)))∧σ' 3=some (.lst ((ZaI c n).map fun i=>T.int (i:Nat)))∧σ' 5=some (.int (c 0+sU G c pre))) ?_ ⟨by walk_at "zr",by walk_at "zr",by walk_at "zr",by simp[sU,Z1]⟩ ?_ ?_
  ·walk_at "zz"
   rfl
  ·rintro pre i σ' m ⟨f0,f1,f3,f5⟩
   have hi:=hu i m
   obtain⟨y,ey⟩:=gu i m
   have by_:Bd b y:=hG i 0 hi h0 y ey
   walk_at "zz"
   rw[show(Int.toNat 0)=0 from rfl,ey,Zam]
   refine Zby (ZbM (bc i hi) by_ (by omega) (by omega)) ?_
   walk_at "zz"
   refine⟨by walk_at "zr",by walk_at "zr",by walk_at "zr",?_⟩
   rw[ZbD,Zrk,ey]
   simp only[Option.getD_some]
   congr 2
   omega
  rintro σ1 ⟨f0,f1,f3,f5⟩
  walk_at "zz"
  refine Zrj (us:=ZaI c n) (P:=fun pre σ'=>σ' 0=some (.tup [.lst (tab (n+1) fun i=>.lst (tab (n+1) fun j=>oT (G i j))),.lst (tab n fun i=>ZT (R i))])∧σ' 1=some (.lst (tab (n+1) fun i=>.int (c i)))∧σ' 5=some (.int (c 0+sU G c (ZaE c n)-sD G c pre))) ?_ ⟨by walk_at "zr",by walk_at "zr",by simpa [sD]using f5⟩ ?_ ?_
  ·walk_at "zz"
   rfl
  ·rintro pre i σ' m ⟨g0,g1,g5⟩
   have hi:=hd i m
   obtain⟨y,ey⟩:=gd i m
   have by_:Bd b y:=hG 0 i h0 hi y ey
   walk_at "zz"
   rw[show(Int.toNat 0)=0 from rfl,ey,Zam]
   refine Zby (ZbM (bc i hi) by_ (by omega) (by omega)) ?_
   walk_at "zz"
   refine⟨by walk_at "zr",by walk_at "zr",?_⟩
   rw[ZbD,Zrl,ey]
   simp only[Option.getD_some]
   congr 2
   omega
  rintro σ2 ⟨g0,g1,g5⟩
  walk_at "zz"
  rw[(tot n).2 hl]
  rfl
theorem ZtC(hn:n≤60)(hb:b≤100000)(hG:GB b n G)(bc:∀i,i<n+1→Bd b (c i))(e0:σ 0=some (.tup [.lst (tab (n+1) fun i=>.lst (tab (n+1) fun j=>oT (G i j))),.lst (tab n fun i=>ZT (R i))]))(e1:σ 1=some (.lst (tab (n+1) fun i=>.int (c i))))(e2:σ 2=some (.lst ((ZaE c n).map fun i=>T.int (i:Nat))))(e3:σ 3=some (.lst ((ZaI c n).map fun i=>T.int (i:Nat)))): Psk ((Zr (ZL (Zah (Zv (Zc qEq (Zp Zaj (Zd (Za 2) Zl)) (Zj 1))) (Zah (Zv (Zc qEq (Zp Zaj (Zd (Za 3) Zl)) (Zj 1))) (Zah (Zv (Zc qEq (Zc Zm (Za 1) (Zc Zm (Za 2) (Zj 0))) (Zj 1))) (Zah (Zv (Zc qEq (Zc Zm (Za 1) (Zc Zm (Za 3) (Zj 0))) (pUn Za0 (Zj 1)))) Zaa)))) (Zr (ZL (Zv (Zc qIs (Zc Zm (Zc Zm (Zc Zm (Za 0) (Zj 0)) (Zc Zm (Za 2) (Zj 0))) (Zc Zm (Za 3) (Zj 0))) (ZU))) (Zx (ZU)) ZN) (Zx (Zc Zad (Zc Zm (Zc Zm (Zc Zm (Za 0) (Zj 0)) (Zc Zm (Za 2) (Zj 0))) (Zc Zm (Za 3) (Zj 0))) (Zc Zm (Za 1) (Zj 0))))) ZN) (Zr (ZJ 4 (Zc Zad (Zan (ZaD (Za 2)) (Z2 104) Zaa (Zc Zm (Zc Zm (Zc Zm (Za 0) (Zj 0)) (Za 104)) (Zj 0))) (Zan (ZaD (Za 3)) (Z2 106) Zaa (Zc Zm (Zc Zm (Zc Zm (Za 0) (Zj 0)) (Zj 0)) (Za 106))))) (Zr (ZL (Zv (Zc qIn (ZU) (Za 4))) (Zx (ZU)) ZN) (Zr (ZJ 5 (Zc Zm (Za 1) (Zj 0))) (Zr (Zav (ZaD (Za 2)) (Z2 6) (ZJ 5 (Zc Zad (Za 5) (Zc ZaH (Zc Zm (Za 1) (Za 6)) (Zc Zm (Zc Zm (Zc Zm (Za 0) (Zj 0)) (Za 6)) (Zj 0)))))) (Zr (Zav (ZaD (Za 3)) (Z2 6) (ZJ 5 (Zc ZaZ (Za 5) (Zc ZaH (Zc Zm (Za 1) (Za 6)) (Zc Zm (Zc Zm (Zc Zm (Za 0) (Zj 0)) (Zj 0)) (Za 6)))))) (Zx (Za 5)))))))) σ) (fun t=>t=oT (grt n G c)) N:=by
 by_cases h:Df n c
 ·obtain⟨u,d,eu,ed,hcu,hcd,hu,hd,_,_,iu,id_,_,_⟩:=ZgZ h
  have hg:grt n G c=Zak (G u d) (some (c 0)):=by unfold grt;rw[ZaB h,iu,id_];rfl
  rw[hg]
  rw[eu]at e2
  rw[ed]at e3
  simp only[List.map_cons,List.map_nil]at e2 e3
  walk_at "zz"
  cases hx:G u d with
  | none=>
   rw[Za1]
   walk_at "zz"
   rfl
  | some y=>
   rw[Zam]
   walk_at "zz"
   rw[hx,Zam]
   walk_at "zz"
   rfl
 ·have hg:grt n G c=(ZbZ c (S40 G) n).2:=by unfold grt;rw[ZaC h];rfl
  rw[hg]
  refine ZcV (fun σ'=>σ'=σ) ?_ ?_
  ·by_cases l1:(ZaE c n).length=1
   ·obtain⟨u,eu⟩:=List.length_eq_one_iff.mp l1
    have hu:u<n+1:=by have:=ups_mem.mp (show u∈ZaE c n by rw[eu];simp);omega
    by_cases l2:(ZaI c n).length=1
    ·obtain⟨d,ed⟩:=List.length_eq_one_iff.mp l2
     have hd:d<n+1:=by have:=dns_mem.mp (show d∈ZaI c n by rw[ed];simp);omega
     have hno:¬(c u=1∧c d = -1):=fun q=>h (df_iff.mpr ⟨by rw[eu];simp[q.1],by rw[ed];simp[q.2]⟩)
     rw[eu]at e2
     rw[ed]at e3
     simp only[List.map_cons,List.map_nil]at e2 e3
     by_cases q1:c u=1
     ·have q2:c d≠-1:=fun q=>hno ⟨q1,q⟩
      walk_at "zz"
      rfl
     ·walk_at "zz"
      rfl
    ·rw[eu]at e2
     simp only[List.map_cons,List.map_nil]at e2
     have l3:((((ZaI c n).map fun i=>T.int (i:Nat)).length:Nat):Int)≠1:=by rw[List.length_map];omega
     walk_at "zz"
     rfl
   ·have l3:((((ZaE c n).map fun i=>T.int (i:Nat)).length:Nat):Int)≠1:=by rw[List.length_map];omega
    walk_at "zz"
    rfl
  ·rintro _ rfl
   exact ZsU hn hb hG bc e0 e1 e2 e3
theorem Zgk(hn:n≤60)(hb:b≤100000)(hG:GB b n G)(bc:∀i,i<n+1→Bd b (c i)): Zeb [Zz n G R,ZP n c]=some (oT (grt n G c)):=by
 apply Pk.eq
 unfold Zeb ZoU
 have ht:Zz n G R=.tup [.lst (tab (n+1) fun i=>.lst (tab (n+1) fun j=>oT (G i j))),.lst (tab n fun i=>ZT (R i))]:=rfl
 rw[ht]
 unfold ZP
 refine Ze2 rfl ?_
 have rg:∀{σ:TL} {j:Nat},σ 1=some (.lst (tab (n+1) fun i=>.int (c i)))→Pl (Zaw (Zd (Zj 1) (Zd (Zp Zaj (Zd (Za 1) Zl)) Zl)) σ) fun us=>us=tab n fun i=>T.int ((1+i:Nat):Int):=fun {σ} {j} e=>by
  refine ZfN (a:=1) (m:=n) (by omega) (by omega) ?_ rfl
  simp only[Zd,Zj,Zl,Zp,Za,e,Option.bind_some,Zaj,Zau]
  congr 3
  congr 1
  omega
 refine ZcV (fun σ'=>σ' 0=some (.tup [.lst (tab (n+1) fun i=>.lst (tab (n+1) fun j=>oT (G i j))),.lst (tab n fun i=>ZT (R i))])∧σ' 1=some (.lst (tab (n+1) fun i=>.int (c i)))∧σ' 2=some (.lst ((ZaE c n).map fun i=>T.int (i:Nat)))) ?_ ?_
 ·refine Ze1 ?_
  refine ZiO (ts:=tab n fun i=>T.int ((1+i:Nat):Int)) (P:=ZoI c) (by rw[Zau];omega) (rg (j:=0) rfl) (fun t m=>?_) ?_
  ·obtain⟨i,hi,rfl⟩:=ZcL m
   have h1:1+i<n+1:=by omega
   walk_at "zz"
   show decide (0<c (1+i))=decide (0<c ((1+i:Nat):Int).toNat)
   rw[Int.toNat_natCast]
  ·rw[ZqC]
   exact⟨rfl,rfl,ZbD⟩
 rintro σ1 ⟨f0,f1,f2⟩
 refine ZcV (fun σ'=>σ' 0=some (.tup [.lst (tab (n+1) fun i=>.lst (tab (n+1) fun j=>oT (G i j))),.lst (tab n fun i=>ZT (R i))])∧σ' 1=some (.lst (tab (n+1) fun i=>.int (c i)))∧σ' 2=some (.lst ((ZaE c n).map fun i=>T.int (i:Nat)))∧σ' 3=some (.lst ((ZaI c n).map fun i=>T.int (i:Nat)))) ?_ ?_
 ·refine Ze1 ?_
  refine ZiO (ts:=tab n fun i=>T.int ((1+i:Nat):Int)) (P:=ZoJ c) (by rw[Zau];omega) (rg (j:=0) f1) (fun t m=>?_) ?_
  ·obtain⟨i,hi,rfl⟩:=ZcL m
   have h1:1+i<n+1:=by omega
   walk_at "zz"
   show decide (c (1+i)<0)=decide (c ((1+i:Nat):Int).toNat<0)
   rw[Int.toNat_natCast]
  ·rw[ZqD]
   exact⟨by walk_at "zr",by walk_at "zr",by walk_at "zr",ZbD⟩
 rintro σ2 ⟨g0,g1,g2,g3⟩
 exact ZtC hn hb hG bc g0 g1 g2 g3
theorem Zrm{b n:Nat}{c:Nat→Int}{S:Nat→Sp}(bc:∀i,i<n+1→Bd b (c i))(bS:∀i,i<n→SBd b (S i)): ∀j,j≤n→∀y,(ZbZ c S j).2=some y→Bd (b+b+j+1) y
 | 0,_,y,e=>by cases e;exact(bc 0 (by omega)).mono (by omega)
 | j+1,h,y,e=>by
  obtain⟨p,q,h1,h2,rfl⟩:=addO_some.mp (show Zak (ZbZ c S j).2 (Zcw (S j) (c (j+1))).2=some y from e)
  have ih:=Zrm bc bS j (by omega) p h1
  have hq:Bd (b+b) q:=by
   unfold Zcw at h2
   split at h2
   ·cases h2;exact Zcp
   ·split at h2
    ·obtain⟨z,e1,rfl⟩:=Zz1.mp h2
     exact((bS j (by omega)).1 z e1).mul (bc (j+1) (by omega))
    ·obtain⟨z,e1,rfl⟩:=Zz1.mp h2
     exact((bS j (by omega)).2 z e1).mul (bc (j+1) (by omega))
  exact(ih.add (hq.mono (by omega))).mono (by omega)
theorem ZfV(bc:∀i,i<n+1→Bd b (c i)): ∀i,i<n+1→Bd b (-(c i)):=fun i hi=>by
 have:=bc i hi
 unfold Bd at *
 omega
noncomputable def Zab(c:Nat→Int)(x:Nat→Int): Nat→Int
 | 0=>c 0
 | j+1=>Zab c x j+c (j+1)*x j
theorem Zrn{c x:Nat→Int}: ∀n,c 0+(tab n fun i=>c (i+1)*x i).sum=Zab c x n
 | 0=>by simp[tab,Zab]
 | n+1=>by
  rw[←ZdT (n:=n) (f:=fun i=>c (i+1)*x i),List.sum_append]
  have:=Zrn (c:=c) (x:=x) n
  simp only[List.sum_cons,List.sum_nil,Zab]
  omega
theorem ZrX{c x:Nat→Int}{S:Nat→Sp}{n:Nat}(h:∀i,i<n→InS (S i) (x i)): ∀j,j≤n→InS (ZbZ c S j) (Zab c x j)
 | 0,_=>⟨fun l e=>by cases e;exact Int.le_refl _,fun l e=>by cases e;exact Int.le_refl _⟩
 | j+1,hj=>ZvS (ZrX h j (by omega)) (Zu3 (h j (by omega)))
theorem ZdA{c x:Nat→Int}: ∀n,Zab (fun i=>-(c i)) x n = -(Zab c x n)
 | 0=>rfl
 | n+1=>by
  simp only[Zab,ZdA n,Int.neg_mul]
  omega
noncomputable def sV(c x:Nat→Int)(l:List Nat): Int:=(l.map fun i=>c i*x (i-1)).sum
theorem Zp6{c x:Nat→Int}: ∀n,Zab c x n=c 0+sV c x (ZaE c n)+sV c x (ZaI c n)
 | 0=>by simp[Zab,sV,ZaE,ZaI]
 | n+1=>by
  have ih:=Zp6 (c:=c) (x:=x) n
  have sn:∀l,sV c x (l++[n+1])=sV c x l+c (n+1)*x n:=fun l=>by simp[sV]
  simp only[Zab,ZaE,ZaI,ih]
  rcases Int.lt_trichotomy (c (n+1)) 0 with h | h | h
  ·rw[if_neg (by omega),if_pos h,List.append_nil,sn]
   omega
  ·rw[if_neg (by omega),if_neg (by omega),List.append_nil,List.append_nil,h]
   omega
  ·rw[if_pos h,if_neg (by omega),List.append_nil,sn]
   omega
theorem Zjw(h:Zay n G R x)(e:grt n G c=some y): Zab c x n≤y:=by
 unfold grt at e
 by_cases hd:Df n c
 ·rw[ZaB hd]at e
  obtain⟨u,d,eu,ed,hcu,hcd,hu,hdn,hu1,hd1,iu,id_,_,_⟩:=ZgZ hd
  rw[iu,id_]at e
  obtain⟨p,q,h1,h2,rfl⟩:=addO_some.mp (show Zak (G u d) (some (c 0))=some y from e)
  cases h2
  have hb:=h.1 u d hu hdn p h1
  rw[Zp6,eu,ed]
  have f:∀i,1≤i→Zas x i=x (i-1):=fun i hi=>by
   cases i with
   | zero=>omega
   | succ i=>rfl
  rw[f u hu1,f d hd1]at hb
  simp only[sV,List.map_cons,List.map_nil,List.sum_cons,List.sum_nil,hcu,hcd]
  omega
 ·rw[ZaC hd]at e
  refine(ZrX (S:=S40 G) (n:=n) (fun i hi=>⟨fun l el=>?_,fun r er=>?_⟩) n (Zz10 n)).2 y e
  ·obtain⟨z,e1,rfl⟩:=Zz1.mp el
   have:=h.1 0 (i+1) (by omega) (by omega) z e1
   have f0:Zas x 0=0:=rfl
   have f1:Zas x (i+1)=x i:=rfl
   show z*(-1)≤x i
   omega
  ·have:=h.1 (i+1) 0 (by omega) (by omega) r er
   have f0:Zas x 0=0:=rfl
   have f1:Zas x (i+1)=x i:=rfl
   omega
theorem ZnB(hn:n≤60)(hb:b≤100000)(bc:∀i,i<n+1→Bd b (c i))(bx:∀i,i<n→Bd b (x i)): ZdO [ZP n c,Zaz n x]=some (.int (Zab c x n)):=by
 apply Pk.eq
 unfold ZdO ZlI ZP Zaz
 have h0:0<n+1:=by omega
 walk_at "zz"
 refine Zb8 (n:=n) (a:=fun i=>.int i) (b:=fun i=>.int (c (i+1)*x i)) (by omega) ?_ (fun i hi=>?_) ?_
 ·walk_at "zz"
  rfl
 ·walk_at "zz"
  rw[show((i:Int)+1).toNat=i+1 by omega]
  exact Zby (ZbM (bc (i+1) (by omega)) (bx i hi) (by omega) (by omega)) rfl
 walk_at "zz"
 refine⟨.int (tab n fun i=>c (i+1)*x i).sum,by simp only[ZjP,Zvu,Option.map_some],?_⟩
 walk_at "zz"
 rw[show(Int.toNat 0)=0 from rfl,Zrn]
noncomputable def SumB(n:Nat)(c:Nat→Int)(K:Int): Prop:=Bd 140 (c 0)∧∀i,1≤i→i<n+1→-K≤c i∧c i≤K
theorem SumB.bd(h:SumB n c K)(hK:K≤4000000000): ∀i,i<n+1→Bd 140 (c i):=fun i hi=>by
 by_cases q:i=0
 ·subst q;exact h.1
 ·have:=h.2 i (by omega) hi
  exact ZbL (i:=33) (by omega) (by decide)
theorem SumB.mono(h:SumB n c K)(hK:K≤K'): SumB n c K':=⟨h.1,fun i h1 h2=>by have:=h.2 i h1 h2;omega⟩
theorem Zjh{x:Nat}{k:Int}(e:σ x=some (.lst (tab (n+1) fun i=>.int (c i))))(h0:1≤k)(h1:k<(n+1:Nat))(bc:SumB n c K)(hK:K≤K')(v0:-K'≤v)(v1:v≤K')(h:∀c',SumB n c' K'→N (Z1 σ x (.lst (tab (n+1) fun i=>.int (c' i))))): PutP σ x (.int v) (.int k) N:=by
 refine ZmM (n:=n+1) (f:=fun i=>.int (c i)) e (by omega) h1 ?_
 have:=h (fun i=>if i=k.toNat then v else c i) ⟨by show Bd 140 (if 0=k.toNat then v else c 0);rw[if_neg (by omega)];exact bc.1,fun i hi1 hi2=>by
  by_cases q:i=k.toNat
  ·simp only[q,if_true];exact⟨v0,v1⟩
  ·simp only[q,if_false];have:=bc.2 i hi1 hi2;omega⟩
 rw[show(tab (n+1) fun i=>if i=k.toNat then T.int v else T.int (c i))=tab (n+1) fun i=>T.int (if i=k.toNat then v else c i)from Zbg fun i _=>by split <;> rfl]
 exact this
noncomputable def unC(i:Nat): Nat→Int:=fun k=>if 0<i∧k=i then 1 else 0
theorem ZiE(hn:n≤900): ZeP [.int i,.int n]=some (ZP n (unC i)):=by
 apply Pk.eq
 unfold ZeP Zm4 ZP
 walk_at "zz"
 refine Zb8 (n:=n+1) (a:=fun k=>.int (k:Nat)) (b:=fun k=>.int (unC i k)) (by omega) ?_ (fun k hk=>?_) rfl
 ·walk_at "zz"
  exact ZjE (n+1) (by omega) (by omega) rfl
 ·walk_at "zz"
  by_cases h:0<i
  ·refine⟨fun _=>?_,fun c=>absurd c (by simp;omega)⟩
   walk_at "zz"
   by_cases q:k=i
   ·refine⟨fun _=>?_,fun c=>absurd c (by simp[q])⟩
    walk_at "zz"
    show _=T.int (unC i k)
    unfold unC
    rw[if_pos ⟨h,q⟩]
   ·refine⟨fun c=>absurd c (by simp;omega),fun _=>?_⟩
    walk_at "zz"
    show _=T.int (unC i k)
    unfold unC
    rw[if_neg (fun c=>q c.2)]
  ·refine⟨fun c=>absurd c (by simp;omega),fun _=>⟨fun c=>absurd c (by decide),fun _=>?_⟩⟩
   walk_at "zz"
   show _=T.int (unC i k)
   unfold unC
   rw[if_neg (fun c=>h c.1)]
theorem ZtW{d:Nat→Int}(hn:n≤900): ZiB [ZP n c,ZP n d]=some (ZP n fun k=>c k+d k):=by
 apply Pk.eq
 unfold ZiB Zmv ZP
 walk_at "zz"
 refine Zno (n:=n+1) (a:=fun i=>.int (c i)) (b:=fun i=>.int (d i)) (c:=fun i=>.int (c i+d i)) (by omega) ?_ (fun i hi=>?_) rfl
 ·walk_at "zz"
  rfl
 ·walk_at "zz"
  rfl
theorem ZlV{d:Nat→Int}(hn:n≤900)(hb1:1≤b)(hb:b≤100000)(bd:∀i,i<n+1→Bd b (d i)): Zfx [ZP n c,ZP n d]=some (ZP n fun k=>c k-d k):=by
 apply Pk.eq
 unfold Zfx Zmx
 walk_at "zz"
 refine Zy (ZeF (by omega) hb bd (show Bd b (-1)by unfold Bd;have:=ZdJ hb1;unfold Bd at this;simpa using this)) ?_
 walk_at "zz"
 refine Zy (ZtW hn) ?_
 walk_at "zz"
 have:(fun k=>c k+d k * -1)=fun k=>c k-d k:=by funext k;omega
 rw[this]
theorem Zsh: unC 0=fun _=>0:=by funext k;unfold unC;rw[if_neg (by omega)]
theorem Zro(hG:GB b n G)(bc:∀i,i<n+1→Bd b (c i)): ∀y,grt n G c=some y→Bd (b+b+n+1) y:=fun y e=>by
 unfold grt at e
 by_cases h:Df n c
 ·rw[ZaB h]at e
  obtain⟨u,d,_,_,_,_,hu,hd,_,_,iu,id_,_,_⟩:=ZgZ h
  rw[iu,id_]at e
  obtain⟨p,q,h1,h2,rfl⟩:=addO_some.mp (show Zak (G u d) (some (c 0))=some y from e)
  cases h2
  exact((hG u d hu hd p h1).add (bc 0 (by omega))).mono (by omega)
 ·rw[ZaC h]at e
  exact(Zrm bc (ZrW hG) n (Zz10 n) y e).mono (by omega)
theorem Zen{c d x:Nat→Int}: ∀n,Zab (fun k=>c k-d k) x n=Zab c x n-Zab d x n
 | 0=>rfl
 | n+1=>by
  simp only[Zab,Zen n,Int.sub_mul]
  omega
theorem ZqF{x:Nat→Int}: ∀n,Zab (fun _=>0) x n=0
 | 0=>rfl
 | n+1=>by simp only[Zab,ZqF n,Int.zero_mul];omega
theorem Zn2{c:Nat→Int}{R:Nat→Int×Int}{x:Nat→Int}{n:Nat}(ok:∀t,t<n→RestOk (R t))(h:∀t,t<n→Zai (R t) (x t)): ∀j,j≤n→Zbr c R j ∣ Zab c x j-ZbI c R j
 | 0,_=>by show(0:Int) ∣ c 0-c 0;rw[Int.sub_self];exact Int.dvd_zero _
 | j+1,hj=>by
  have h1:Zbr c R (j+1) ∣ Zbr c R j:=Int.gcd_dvd_left ..
  have h2:Zbr c R (j+1) ∣ c (j+1)*(R j).1:=Int.gcd_dvd_right ..
  obtain⟨z,hz⟩:=(Zbb (ok j (by omega)).nn (x j)).mp (h j (by omega))
  have h3:=Int.dvd_add (Int.dvd_trans h1 (Zn2 ok h j (by omega))) (Int.dvd_trans h2 (Int.dvd_mul_right _ z))
  rw[show Zab c x (j+1)=Zab c x j+c (j+1)*x j from rfl,show ZbI c R (j+1)=ZbI c R j+c (j+1)*(R j).2 from rfl,show x j=(R j).2+(R j).1*z by omega,Int.mul_add,←Int.mul_assoc]
  generalize c (j+1)*(R j).1*z=u at *
  generalize c (j+1)*(R j).2=v at *
  rwa [show Zab c x j+(v+u)-(ZbI c R j+v)=Zab c x j-ZbI c R j+u by omega]
theorem Zp7{kk:Int}{w at_ m lo:Int}(hk0:0≤kk)(hk9:kk≤1000)(hm:0<m)(hn:n≤9)(hK:K≤K')(hlo:-K'≤-lo)(hhi:m-1-lo≤K')(e0:σ 0=some (scr ns))(e1:σ 1=some (.int kk))(e2:σ 2=some (.int n))(e4:σ 4=some (.int w))(e5:σ 5=some (.int (1+at_)))(e3:σ 3=some (.lst (tab (n+1) fun i=>.int (c i))))(bc:SumB n c K)(h:∀σ' c',σ' 0=some (scr ns)→σ' 1=some (.int kk)→σ' 2=some (.int n)→σ' 4=some (.int w)→σ' 5=some (.int (1+at_))→σ' 3=some (.lst (tab (n+1) fun i=>.int (c' i)))→SumB n c' K'→N σ')(pm plo:PE)(epm:∀σ,pm σ=some (.int m))(eplo:∀σ,plo σ=some (.int lo)): Psk (Zav (Zaw (Zd (Za 2) Zl)) (Z2 7) (Zbq 3 [] (Zc ZaZ (Zp ZbK (Zd (Za 0) (Zd (Zc Zad (Zc Zad (Za 1) (Zj 1)) (Za 7)) (Zd pm Zl)))) plo) ZaY (Zc Zad (Za 7) (Zj 1))) σ) Q N:=by
 refine Za2 (n:=n) (a:=fun i=>.int i) (P:=fun _ σ'=>σ' 0=some (scr ns)∧σ' 1=some (.int kk)∧σ' 2=some (.int n)∧σ' 4=some (.int w)∧σ' 5=some (.int (1+at_))∧∃c',σ' 3=some (.lst (tab (n+1) fun i=>.int (c' i)))∧SumB n c' K') ?_ ⟨e0,e1,e2,e4,e5,c,e3,bc.mono hK⟩ ?_ ?_
 ·walk_at "zz"
  rfl
 ·rintro i σ' hi ⟨f0,f1,f2,f4,f5,c',f3,bc'⟩
  obtain⟨k0,k1⟩:=ZcM ns (kk+1+(i:Int)) hm
  walk_at "zz"
  refine⟨_,epm _,?_⟩
  walk_at "zz"
  refine Zy (ZcN (by omega) (by omega) hm) ?_
  refine⟨_,eplo _,?_⟩
  walk_at "zz"
  refine Zjh (n:=n) (c:=c') (K:=K') (K':=K') (by walk_at "zr") (by omega) (by omega) bc' (Int.le_refl _) (by omega) (by omega) fun c2 bc2=>?_
  exact⟨by walk_at "zr",by walk_at "zr",by walk_at "zr",by walk_at "zr",by walk_at "zr",c2,ZbD,bc2⟩
 ·rintro σ' ⟨f0,f1,f2,f4,f5,c',f3,bc'⟩
  exact h σ' c' f0 f1 f2 f4 f5 f3 bc'
theorem ZyP{kk:Int}(hk0:0≤kk)(hk9:kk≤1000)(hL:Lay ns)(hn:n≤9): Pk (ZiK [scr ns,.int kk,.int n]) fun t=>∃c,t=ZP n c∧SumB n c 1000000000:=by
 unfold ZiK Zm2
 have bn:Bd 140 (Zco ns kk):=ZbL (Zjc ns kk) (by decide)
 obtain⟨p0,p1⟩:=ZcM ns kk (show(0:Int)<6 by decide)
 refine Ze2 rfl ?_
 refine ZcV (fun σ'=>σ' 0=some (scr ns)∧σ' 1=some (.int kk)∧σ' 2=some (.int n)∧∃c,σ' 3=some (.lst (tab (n+1) fun i=>.int (c i)))∧SumB n c 0) ?_ ?_
 ·walk_at "zz"
  refine Zy (ZgU hL (by omega) (by omega)) ?_
  walk_at "zz"
  refine Zxa (by omega) ?_
  refine ZqU (by omega) ?_
  rw[show cn (T.int (Zco ns kk)) (fun _=>T.int 0)=fun i=>T.int (cn (Zco ns kk) (fun _=>0) i)from by funext i;cases i <;> rfl]
  refine⟨Zpy fun _ _=>rfl,?_⟩
  refine⟨rfl,rfl,rfl,_,ZbD,bn,fun i h1 h2=>?_⟩
  cases i with
  | zero=>omega
  | succ i=>exact⟨Int.le_refl 0,Int.le_refl 0⟩
 rintro σ1 ⟨e0,e1,e2,c,e3,bc⟩
 walk_at "zz"
 refine Zy (ZcN (by omega) (by omega) (by decide)) ?_
 by_cases hz:Zbt ns kk 6=0∨n=0
 ·rcases hz with hz | hz
  ·walk_at "zz"
   exact⟨c,rfl,bc.mono (by decide)⟩
  ·by_cases q:Zbt ns kk 6=0
   ·walk_at "zz"
    exact⟨c,rfl,bc.mono (by decide)⟩
   ·have:(n:Int)=0:=by omega
    walk_at "zz"
    exact⟨c,rfl,bc.mono (by decide)⟩
 have hz1:Zbt ns kk 6≠0:=fun q=>hz (.inl q)
 have hn0:(n:Int)≠0:=fun q=>hz (.inr (by omega))
 obtain⟨a0,a1⟩:=ZcM ns (kk+1) (show(0:Int)<n by omega)
 walk_at "zz"
 refine Zy (ZcN (by omega) (by omega) (by omega)) ?_
 refine ZrI ?_
 generalize Zbt ns kk 6=w at *
 generalize Zbt ns (kk+1) n=at_ at *
 let M:Int→TL→Prop:=fun K σ'=>σ' 0=some (scr ns)∧σ' 1=some (.int kk)∧σ' 2=some (.int n)∧σ' 4=some (.int w)∧σ' 5=some (.int (1+at_))∧∃c,σ' 3=some (.lst (tab (n+1) fun i=>.int (c i)))∧SumB n c K
 refine ZcV (M 6) ?_ ?_
 ·walk_at "zz"
  refine⟨fun q=>?_,fun q=>?_⟩
  ·obtain⟨k0,k1⟩:=ZcM ns (kk+2) (show(0:Int)<13 by decide)
   walk_at "zz"
   refine Zy (ZcN (by omega) (by omega) (by decide)) ?_
   walk_at "zz"
   refine Zjh (n:=n) (c:=c) (K:=0) (K':=6) (by walk_at "zr") (by omega) (by omega) bc (by decide) (by omega) (by omega) fun c' bc'=>?_
   exact⟨by walk_at "zr",by walk_at "zr",by walk_at "zr",by walk_at "zr",by walk_at "zr",c',ZbD,bc'⟩
  ·walk_at "zz"
   exact⟨by walk_at "zr",by walk_at "zr",by walk_at "zr",by walk_at "zr",by walk_at "zr",c,by walk_at "zr",bc.mono (by decide)⟩
 clear bc e3 c
 rintro σ2 ⟨f0,f1,f2,f4,f5,c1,f3,bc1⟩
 refine ZcV (M 7) ?_ ?_
 ·have go:Psk ((Zr (ZJ 6 (Zc Zad (Zj 1) (Zp ZbK (Zd (Za 0) (Zd (Zc Zad (Za 1) (Zj 2)) (Zd (Za 2) Zl)))))) (Zr (Zbq 3 [] (Zj 1) ZaY (Za 5)) (Zbq 3 [] (Zc ZaZ (Zc Zm (Za 3) (Za 6)) (Zj 1)) ZaY (Za 6)))) σ2) (fun t=>∃c,t=ZP n c∧SumB n c 1000000000) (M 7):=by
   obtain⟨k0,k1⟩:=ZcM ns (kk+2) (show(0:Int)<n by omega)
   walk_at "zz"
   refine Zy (ZcN (by omega) (by omega) (by omega)) ?_
   generalize Zbt ns (kk+2) n=to_ at *
   walk_at "zz"
   refine Zjh (n:=n) (c:=c1) (K:=6) (K':=6) (by walk_at "zr") (by omega) (by omega) bc1 (by decide) (by decide) (by decide) fun c' bc'=>?_
   have hto:=bc'.2 (1+to_).toNat (by omega) (by omega)
   walk_at "zz"
   refine Zjh (n:=n) (c:=c') (K:=6) (K':=7) (by walk_at "zr") (by omega) (by omega) bc' (by decide) (by omega) (by omega) fun c2 bc2=>?_
   exact⟨by walk_at "zr",by walk_at "zr",by walk_at "zr",by walk_at "zr",by walk_at "zr",c2,ZbD,bc2⟩
  have no:M 7 σ2:=⟨f0,f1,f2,f4,f5,c1,f3,bc1.mono (by decide)⟩
  by_cases q2:w=2
  ·refine Zoe ?_
   refine⟨true,?_,fun _=>go,fun e=>by cases e⟩
   simp[bOr,Zv,Zc,Za,f4,Zj,qEq,Zi7,ZbN,q2]
  ·by_cases q3:w=3
   ·refine Zoe ?_
    refine⟨true,?_,fun _=>go,fun e=>by cases e⟩
    simp[bOr,Zv,Zc,Za,f4,Zj,qEq,Zi7,ZbN,q3]
   ·walk_at "zz"
    exact no
 clear bc1 f3 c1
 clear f0 f1 f2 f4 f5
 rintro σ3 ⟨f0,f1,f2,f4,f5,c1,f3,bc1⟩
 refine ZcV (M 7) ?_ ?_
 ·walk_at "zz"
  refine⟨fun q=>?_,fun q=>?_⟩
  ·exact Zp7 hk0 hk9 (m:=7) (lo:=3) (K:=7) (K':=7) (by decide) hn (by decide) (by decide) (by decide) f0 f1 f2 f4 f5 f3 bc1 (fun σ' c' g0 g1 g2 g4 g5 g3 bc'=>⟨g0,g1,g2,g4,g5,c',g3,bc'⟩) _ _ (fun _=>rfl) (fun _=>rfl)
  ·walk_at "zz"
   exact⟨f0,f1,f2,f4,f5,c1,f3,bc1⟩
 clear bc1 f3 c1
 clear f0 f1 f2 f4 f5
 rintro σ4 ⟨f0,f1,f2,f4,f5,c1,f3,bc1⟩
 refine ZcV (M 1000000000) ?_ ?_
 ·walk_at "zz"
  refine⟨fun q=>?_,fun q=>?_⟩
  ·exact Zp7 hk0 hk9 (m:=2000000001) (lo:=1000000000) (K:=7) (K':=1000000000) (by decide) hn (by decide) (by decide) (by decide) f0 f1 f2 f4 f5 f3 bc1 (fun σ' c' g0 g1 g2 g4 g5 g3 bc'=>⟨g0,g1,g2,g4,g5,c',g3,bc'⟩) _ _ (fun _=>rfl) (fun _=>rfl)
  ·walk_at "zz"
   exact⟨f0,f1,f2,f4,f5,c1,f3,bc1.mono (by decide)⟩
 rintro σ5 ⟨g0,g1,g2,g4,g5,c2,g3,bc2⟩
 walk_at "zz"
 exact⟨c2,rfl,bc2⟩
theorem Zf4{a:Nat}(h:1≤a): unC a a=1:=by unfold unC;rw[if_pos ⟨by omega,rfl⟩]
theorem Zd1{a:Nat}(h:k≠a): unC a k=0:=by unfold unC;rw[if_neg (fun q=>h q.2)]
theorem Zjx(hp:RestOk p)(hq:RestOk q)(h:∀x,Zai p x→Zai q x): RIn p q:=by
 have e:∀x,p.1 ∣ x-p.2→q.1 ∣ x-q.2:=fun x hx=>(Zbb hq.nn x).mp (h x ((Zbb hp.nn x).mpr hx))
 have a1:q.1 ∣ p.2-q.2:=e p.2 (by simp)
 have a2:q.1 ∣ p.2+p.1-q.2:=e (p.2+p.1) (by rw[show p.2+p.1-p.2=p.1 by omega];exact Int.dvd_refl _)
 have c1:q.1 ∣ p.1:=by have:=Int.dvd_sub a2 a1;rwa [show p.2+p.1-q.2-(p.2-q.2)=p.1 by omega]at this
 unfold RIn
 split
 ·rename_i z
  rw[z,Int.zero_dvd]at a1 c1
  exact Prod.ext (by rw[c1,z]) (by omega)
 ·exact⟨Int.emod_eq_zero_of_dvd c1,Int.emod_eq_zero_of_dvd a1⟩
theorem ZtD(hR:∀t,t<n→RestOk (R t))(s:Sharp n G R G2 R2 M k): Zbz n G2 R2 G R:=by
 obtain⟨R1,h1,h2,h3,h4,rfl,h6⟩:=s.go
 refine⟨fun i hi j hj=>?_,fun t ht=>?_⟩
 ·refine Zcg (ZhB (n+1) i j) (Zcg (Zw4 fun b e q=>h3 ⟨i,j,hi,hj,b,e,q⟩) (ZhB (n+1) i j))
 ·refine Zjx (h6 t ht).1.1 (hR t ht) fun x hx=>?_
  have a:=((h6 t ht).2 x).mp hx
  have b:=((h2 t ht).2 x).mp a.1
  exact b.1
theorem ZrY{a:Nat}{x:Nat→Int}(h1:1≤a): ∀n,Zab (unC a) x n=if a≤n then x (a-1)else 0
 | 0=>by rw[if_neg (by omega)];exact Zd1 (by omega)
 | n+1=>by
  show Zab (unC a) x n+unC a (n+1)*x n=_
  rw[ZrY h1 n]
  by_cases q:n+1=a
  ·subst q
   rw[Zf4 h1,if_neg (by omega),if_pos (by omega),Nat.add_sub_cancel];omega
  ·rw[Zd1 q,Int.zero_mul]
   by_cases g:a≤n
   ·rw[if_pos g,if_pos (by omega)];omega
   ·rw[if_neg g,if_neg (by omega)];rfl
noncomputable def Zsi(m:Nat)(D:T): Prop:=D=.none∨∃G R,D=Zz m G R∧(∀i,i<m+1→G i i=some 0)∧∀t,t<m→RestOk (R t)
theorem Zux{K:Nat}(hM:0<M)(bM:Bd K M)(bG:BdG (n+1) k G)(hk:k+n+1≤K)(s:Sharp n G R G2 R2 M K): BdG (n+1) (K+n+2) G2∧∀t,t<n→RBd K (R2 t):=by
 obtain⟨R1,_,h1,_,_,rfl,h2⟩:=s.go
 refine⟨?_,fun t ht=>(h2 t ht).1.bd hM bM⟩
 have b1:BdG (n+1) K (clG G (n+1)):=fun a b c ha hb e=>(Zew bG (n+1) (Zz10 _) a b c ha hb e).mono (by omega)
 have b2:=Zon hM bM b1 fun t ht=>(h1 t ht).1
 exact fun a b c ha hb e=>(Zew b2 (n+1) (Zz10 _) a b c ha hb e).mono (by omega)
theorem Zxd: (oR o).flat=true:=by cases o <;> rfl
theorem Zyf{N:Nat}{ρ:Nat→Option (Int×Int)}: (tab N fun t=>if t=k then oR o else oR (ρ t))=tab N fun t=>oR (if t=k then o else ρ t):=Zbg fun t _=>by
 by_cases c:t=k
 ·rw[if_pos c,if_pos c]
 ·rw[if_neg c,if_neg c]
theorem Zng{a:Nat}{v:Option Int}(h:v=Γ a b): Zcd Γ a b v=Γ:=by
 funext i j
 by_cases c:i=a∧j=b
 ·obtain⟨rfl,rfl⟩:=c
  rw[ZnZ,h]
 ·rw[Zn0 c]
theorem Zyg{b:Option Int}: ZaR none b=b:=by
 unfold ZaR
 by_cases c:leO none b
 ·rw[ZaB c]
  cases b with
  | none=>rfl
  | some y=>exact absurd c Zhh
 ·rw[ZaC c];rfl
theorem Zxe{x:Int}(h:y<x): ZaR (some x) (some y)=some y:=by
 unfold ZaR
 rw[ZaC (by rw[leO_some];omega)]
 rfl
noncomputable def apC(c:Nat→Int)(i j:Nat): Nat→Int:=fun k=>unC i k-unC j k-c k
noncomputable def alC(c:Nat→Int)(i:Nat): Nat→Int:=fun k=>unC i k*c i-c k
theorem Ze6: unC i k=0∨unC i k=1:=by unfold unC;split;exact .inr rfl;exact .inl rfl
theorem ZoA(hb:1≤b)(bc:∀i,i<n+1→Bd b (c i))(i j:Nat): ∀k,k<n+1→Bd (b+2) (apC c i j k):=fun k hk=>by
 have h:=bc k hk
 have h1:=Ze6 (i:=i) (k:=k)
 have h2:=Ze6 (i:=j) (k:=k)
 have h3:2≤2 ^ b:=by
  have:2 ^ 1≤2 ^ b:=Nat.pow_le_pow_right (by decide) hb
  exact this
 unfold Bd apC at *
 rw[Nat.pow_add]
 omega
theorem ZoB(bc:∀i,i<n+1→Bd b (c i))(i:Nat)(hi:i<n+1): ∀k,k<n+1→Bd (b+2) (alC c i k):=fun k hk=>by
 have h:=bc k hk
 have g:=bc i hi
 unfold alC
 rcases Ze6 (i:=i) (k:=k)with e | e
 ·rw[e,Int.zero_mul];unfold Bd at *;rw[Nat.pow_add];omega
 ·rw[e,Int.one_mul];unfold Bd at *;rw[Nat.pow_add];omega
theorem Zo1{d:Nat→Int}(hn:n≤60)(hb:b≤1000)(hb1:1≤b)(hG:GB b n G)(bc:∀i,i<n+1→Bd b (c i))(bd:∀i,i<n+1→Bd b (d i-c i)): Zgr [Zz n G R,ZP n d,ZP n c,.int top]=some (oT (Zak (grt n G fun k=>d k-c k) (some top))):=by
 apply Pk.eq
 unfold Zgr Zk6
 walk_at "zz"
 refine Zy (ZlV (by omega) hb1 (by omega) bc) ?_
 walk_at "zz"
 refine Zy (ZlU hn (by omega) hb1 hG bd) ?_
 walk_at "zz"
 exact Zy (Zfr (b:=some top)) rfl
theorem ZpN{N:Nat}{G':Nat→Nat→Option Int}(h:∀i j,i<N→j<N→G i j=G' i j): ZW N G=ZW N G':=by
 unfold ZW Zaq
 rw[show(tab N fun i=>T.lst (tab N fun j=>oT (G i j)))=tab N fun i=>T.lst (tab N fun j=>oT (G' i j))from Zbg fun i hi=>by rw[Zbg fun j hj=>by rw[h i j hi hj]]]
noncomputable def Wv(w G:Nat→Nat→Option Int)(i j:Nat): Nat→Nat→Option Int:=fun a b=>if a<i∨(a=i∧b<j)then w a b else G a b
theorem Zoo: Zcd (Wv w G i j) i j (w i j)=Wv w G i (j+1):=by
 funext a b
 unfold Zcd Wv
 by_cases h:a=i∧b=j
 ·rw[if_pos h,if_pos (by omega),h.1,h.2]
 ·rw[if_neg h]
  by_cases q:a<i∨(a=i∧b<j)
  ·rw[if_pos q,if_pos (by omega)]
  ·rw[if_neg q,if_neg (by omega)]
theorem ZoC: Wv w G i j i j=G i j:=by unfold Wv;rw[if_neg (by omega)]
theorem Wv_row{N:Nat}: ZW N (Wv w G i N)=ZW N (Wv w G (i+1) 0):=ZpN fun a b ha hb=>by
 unfold Wv
 by_cases q:a<i∨(a=i∧b<N)
 ·rw[if_pos q,if_pos (by omega)]
 ·rw[if_neg q,if_neg (by omega)]
theorem Zsm: Wv w G 0 0=G:=by funext a b;unfold Wv;rw[if_neg (by omega)]
theorem Wv_all{N:Nat}: ZW N (Wv w G N 0)=ZW N w:=ZpN fun a b ha hb=>by unfold Wv;rw[if_pos (.inl ha)]
noncomputable def apW(n:Nat)(G:Nat→Nat→Option Int)(c:Nat→Int)(top:Int)(a b:Nat): Option Int:=if a=b then G a b else ZaR (G a b) (Zak (grt n G (apC c a b)) (some top))
theorem ZsV(hn:n≤60)(hb:b≤900)(hb1:1≤b)(hG:GB b n G)(bc:∀i,i<n+1→Bd b (c i))(hd:∀i,i<n+1→G i i=some 0)(hc:∀y,grt n G (fun k=>-(c k))=some y→-y≤top): Zh3 [ZW (n+1) G,Zz n G R,ZP n c,.int top]=some (ZW (n+1) (apW n G c top)):=by
 apply Pk.eq
 unfold Zh3 ZkO
 refine ZnQ rfl ?_
 have ht:Zz n G R=.tup [ZW (n+1) G,.lst (tab n fun i=>ZT (R i))]:=rfl
 have bu:∀i k,k<n+1→Bd b (unC i k):=fun i k _=>by
  rcases Ze6 (i:=i) (k:=k)with e | e <;> rw[e]
  ·exact Zcp
  ·exact ZdJ hb1
 have hw:∀i j,i<n+1→ZaR (G i j) (Zak (grt n G (apC c i j)) (some top))=apW n G c top i j:=fun i j hi=>by
  unfold apW
  split
  ·rename_i e
   subst e
   rw[hd i hi]
   refine Zem ?_
   have:apC c i i=fun k=>-(c k):=by funext k;unfold apC;omega
   rw[this]
   cases e:grt n G fun k=>-(c k)with
   | none=>exact Zc8
   | some y=>exact leO_some.mpr (by have:=hc y e;omega)
  ·rfl
 rw[ht]
 walk_at "zz"
 rw[←ht]
 refine Za2 (n:=n+1) (a:=fun i=>.int i) (P:=fun i σ=>σ 0=some (ZW (n+1) (Wv (apW n G c top) G i 0))∧σ 1=some (Zz n G R)∧σ 2=some (ZP n c)∧σ 3=some (.int top)∧σ 4=some (.int n)) ?_ ⟨by rw[Zsm];rfl,rfl,rfl,rfl,rfl⟩ ?_ ?_
 ·walk_at "zz"
  exact ZjE (n+1) (by omega) (by omega) rfl
 ·rintro i σ hi ⟨e0,e1,e2,e3,e4⟩
  refine Za2 (n:=n+1) (a:=fun j=>.int j) (P:=fun j σ=>σ 0=some (ZW (n+1) (Wv (apW n G c top) G i j))∧σ 1=some (Zz n G R)∧σ 2=some (ZP n c)∧σ 3=some (.int top)∧σ 4=some (.int n)∧σ 5=some (.int i)) ?_ ⟨by walk_at "zr",by walk_at "zr",by walk_at "zr",by walk_at "zr",by walk_at "zr",by walk_at "zr"⟩ ?_ ?_
  ·walk_at "zz"
   exact ZjE (n+1) (by omega) (by omega) rfl
  ·rintro j σ hj ⟨e0,e1,e2,e3,e4,e5⟩
   walk_at "zz"
   refine Zy (ZiE (by omega)) ?_
   walk_at "zz"
   refine Zy (ZiE (by omega)) ?_
   walk_at "zz"
   refine Zy (ZlV (b:=b) (by omega) hb1 (by omega) (bu j)) ?_
   refine Zho (t:=ZW (n+1) (Wv (apW n G c top) G i j)) (by walk_at "zr") ?_
   walk_at "zz"
   refine Zy (Zo1 (b:=b+2) (d:=fun k=>unC i k-unC j k) hn (by omega) (by omega) (fun a b ha hb y e=>(hG a b ha hb y e).mono (by omega)) (fun k hk=>(bc k hk).mono (by omega)) (ZoA hb1 bc i j)) ?_
   walk_at "zz"
   refine Zy (ZlT hi hj) ?_
   rw[ZoC,show(fun k=>unC i k-unC j k-c k)=apC c i j from rfl,hw i j hi,Zoo]
   exact⟨ZbD,by walk_at "zr",by walk_at "zr",by walk_at "zr",by walk_at "zr",by walk_at "zr"⟩
  ·rintro σ ⟨e0,e1,e2,e3,e4,e5⟩
   exact⟨by rw[←Wv_row];exact e0,e1,e2,e3,e4⟩
 ·rintro σ ⟨e0,e1,e2,e3,e4⟩
  exact⟨_,e0,Wv_all⟩
theorem Zo2{k:Int}(hi:i≤9000)(hk0:k≠0)(hk:Bd i k): Zgs [oT a,.int k]=some (oT (a.map fun x=>x.fdiv k)):=by
 apply Pk.eq
 unfold Zgs Zk8
 cases a with
 | none=>
  simp only[Za1]
  walk_at "zz"
  rfl
 | some x=>
  rw[Zam]
  walk_at "zz"
  refine Zde hk0 (ZdD hk hi) ?_
  rfl
noncomputable def prt(n:Nat)(G:Nat→Nat→Option Int)(c:Nat→Int)(top:Int)(i:Nat): Option Int:=(Zak (grt n G (alC c i)) (some top)).map fun y=>y.fdiv (if c i<0 then -(c i)else c i)
noncomputable def alW(n:Nat)(G:Nat→Nat→Option Int)(c:Nat→Int)(top:Int)(Γ:Nat→Nat→Option Int)(m:Nat): Nat→Nat→Option Int:=fun a b=>if b=0∧1≤a∧a≤m∧0<c a then ZaR (Γ a 0) (prt n G c top a)else if a=0∧1≤b∧b≤m∧c b<0 then ZaR (Γ 0 b) (prt n G c top b)else Γ a b
theorem Zsj: alW n G c top Γ 0=Γ:=by
 funext a b
 unfold alW
 rw[if_neg (by omega),if_neg (by omega)]
theorem Zn3(h:0<c (m+1)): Zcd (alW n G c top Γ m) (m+1) 0 (ZaR (alW n G c top Γ m (m+1) 0) (prt n G c top (m+1)))=alW n G c top Γ (m+1):=by
 have e:alW n G c top Γ m (m+1) 0=Γ (m+1) 0:=by unfold alW;rw[if_neg (by omega),if_neg (by omega)]
 rw[e]
 funext a b
 unfold Zcd alW
 by_cases q:a=m+1∧b=0
 ·obtain⟨rfl,rfl⟩:=q
  rw[if_pos ⟨rfl,rfl⟩,if_pos ⟨rfl,by omega,by omega,h⟩]
 ·have i1:(b=0∧1≤a∧a≤m+1∧0<c a)↔(b=0∧1≤a∧a≤m∧0<c a):=by omega
  have i2:(a=0∧1≤b∧b≤m+1∧c b<0)↔(a=0∧1≤b∧b≤m∧c b<0):=by
   by_cases g:b=m+1
   ·subst g;omega
   ·omega
  rw[if_neg q]
  simp only[i1,i2]
theorem Zn4(h:c (m+1)<0): Zcd (alW n G c top Γ m) 0 (m+1) (ZaR (alW n G c top Γ m 0 (m+1)) (prt n G c top (m+1)))=alW n G c top Γ (m+1):=by
 have e:alW n G c top Γ m 0 (m+1)=Γ 0 (m+1):=by unfold alW;rw[if_neg (by omega),if_neg (by omega)]
 rw[e]
 funext a b
 unfold Zcd alW
 by_cases q:a=0∧b=m+1
 ·obtain⟨rfl,rfl⟩:=q
  rw[if_pos ⟨rfl,rfl⟩,if_neg (by omega),if_pos ⟨rfl,by omega,by omega,h⟩]
 ·have i1:(b=0∧1≤a∧a≤m+1∧0<c a)↔(b=0∧1≤a∧a≤m∧0<c a):=by
   by_cases g:a=m+1
   ·subst g;omega
   ·omega
  have i2:(a=0∧1≤b∧b≤m+1∧c b<0)↔(a=0∧1≤b∧b≤m∧c b<0):=by omega
  rw[if_neg q]
  simp only[i1,i2]
theorem ZqG(h:c (m+1)=0): alW n G c top Γ m=alW n G c top Γ (m+1):=by
 funext a b
 unfold alW
 have i1:(b=0∧1≤a∧a≤m+1∧0<c a)↔(b=0∧1≤a∧a≤m∧0<c a):=by
  by_cases g:a=m+1
  ·subst g;omega
  ·omega
 have i2:(a=0∧1≤b∧b≤m+1∧c b<0)↔(a=0∧1≤b∧b≤m∧c b<0):=by
  by_cases g:b=m+1
  ·subst g;omega
  ·omega
 simp only[i1,i2]
theorem ZsW(hn:n≤60)(hb:b≤900)(hb1:1≤b)(hG:GB b n G)(bc:∀i,i<n+1→Bd b (c i)): Zh5 [ZW (n+1) Γ,Zz n G R,ZP n c,.int top]=some (ZW (n+1) (alW n G c top Γ n)):=by
 apply Pk.eq
 unfold Zh5 ZkQ
 refine ZnQ rfl ?_
 have ht:Zz n G R=.tup [ZW (n+1) G,.lst (tab n fun i=>ZT (R i))]:=rfl
 have bu:∀i k,k<n+1→Bd b (unC i k):=fun i k _=>by
  rcases Ze6 (i:=i) (k:=k)with e | e <;> rw[e]
  ·exact Zcp
  ·exact ZdJ hb1
 rw[ht]
 walk_at "zz"
 rw[←ht]
 refine Za2 (n:=n) (a:=fun i=>.int ((1+i:Nat):Int)) (P:=fun i σ=>σ 0=some (ZW (n+1) (alW n G c top Γ i))∧σ 1=some (Zz n G R)∧σ 2=some (ZP n c)∧σ 3=some (.int top)∧σ 4=some (.int n)) ?_ ⟨by rw[Zsj];rfl,rfl,rfl,rfl,rfl⟩ ?_ ?_
 ·refine ZfN (a:=1) (m:=n) (by omega) (by omega) ?_ rfl
  simp only[Zd,Zj,Zl,Zc,Za,Z1,Option.bind_some,if_true,Zad]
  congr 3
  congr 1
  omega
 ·rintro i σ hi ⟨e0,e1,e2,e3,e4⟩
  have h1:1+i<n+1:=by omega
  have hs:ZP n c=.lst (tab (n+1) fun k=>.int (c k)):=rfl
  rw[hs]at e2
  walk_at "zz"
  rw[←hs]at e2
  have ci:=bc (1+i) h1
  have hG2:GB (b+2) n G:=fun a b ha hb y e=>(hG a b ha hb y e).mono (by omega)
  have bc2:∀k,k<n+1→Bd (b+2) (c k):=fun k hk=>(bc k hk).mono (by omega)
  refine Zy (ZiE (by omega)) ?_
  walk_at "zz"
  refine Zy (ZeF (b:=b) (by omega) (by omega) (bu (1+i)) ci) ?_
  walk_at "zz"
  refine Zy (Zo1 (b:=b+2) (d:=fun k=>unC (1+i) k*c (1+i)) hn (by omega) (by omega) hG2 bc2 (ZoB bc (1+i) h1)) ?_
  rw[show(fun k=>unC (1+i) k*c (1+i)-c k)=alC c (1+i)from rfl]
  have hp:∀k,k=(if c (1+i)<0 then -(c (1+i))else c (1+i))→(Zak (grt n G (alC c (1+i))) (some top)).map (fun y=>y.fdiv k)=prt n G c top (1+i):=fun k e=>by unfold prt;rw[e]
  rw[Nat.add_comm 1 i]at *
  rcases Int.lt_trichotomy (c (i+1)) 0 with q | q | q
  ·have q':¬0<c (i+1):=by omega
   walk_at "zz"
   refine Zho (t:=ZW (n+1) (alW n G c top Γ i)) (by walk_at "zr") ?_
   walk_at "zz"
   refine Zy (Zo2 (i:=b) (by omega) (by omega) (show Bd b (-(c (i+1)))by unfold Bd at *;omega)) ?_
   walk_at "zz"
   refine Zy (ZlT (a:=0) (by omega) h1) ?_
   rw[hp _ (by rw[if_pos q]),Zn4 q]
   exact⟨ZbD,by walk_at "zr",by walk_at "zr",by walk_at "zr",by walk_at "zr"⟩
  ·have q':¬0<c (i+1):=by omega
   have q'':¬c (i+1)<0:=by omega
   walk_at "zz"
   rw[←ZqG q]
   exact⟨by walk_at "zr",by walk_at "zr",by walk_at "zr",by walk_at "zr",by walk_at "zr"⟩
  ·have q':¬c (i+1)<0:=by omega
   walk_at "zz"
   refine Zho (t:=ZW (n+1) (alW n G c top Γ i)) (by walk_at "zr") ?_
   walk_at "zz"
   refine Zy (Zo2 (i:=b) (by omega) (by omega) ci) ?_
   walk_at "zz"
   refine Zy (ZlT (b:=0) h1 (by omega)) ?_
   rw[hp _ (by rw[if_neg q']),Zn3 q]
   walk_at "zz"
   exact⟨by walk_at "zr",by walk_at "zr",by walk_at "zr",by walk_at "zr",by walk_at "zr"⟩
 ·rintro σ ⟨e0,e1,e2,e3,e4⟩
  exact⟨_,e0,rfl⟩
theorem Zit{k:Int}(hn:n≤60)(hi:i<n+1): ZeN [ZP n c,.int i,.int k]=some (ZP n fun a=>c a+unC i a*k):=by
 apply Pk.eq
 unfold ZeN ZpE ZP
 by_cases h:(0:Int)<(i:Int)
 ·walk_at "zz"
  show T.lst _=T.lst _
  congr 1
  refine Zbg fun a _=>?_
  show _=T.int (c a+unC i a*k)
  by_cases q:a=i
  ·rw[if_pos q,q,Zf4 (by omega),Int.one_mul]
  ·rw[if_neg q,Zd1 q,Int.zero_mul,Int.add_zero]
 ·walk_at "zz"
  show T.lst _=T.lst _
  congr 1
  refine Zbg fun a _=>?_
  have:i=0:=by omega
  show T.int (c a)=T.int (c a+unC i a*k)
  rw[this,Zsh,Int.zero_mul,Int.add_zero]
theorem Zh7{b:Option Int}: Zfm [oT a,oT b]=some (oT (ZaR a b)):=by
 apply Pk.eq
 unfold Zfm Zo8
 cases a with
 | none=>
  simp only[Za1]
  walk_at "zz"
  rw[Zyg]
 | some x=>
  rw[Zam]
  cases b with
  | none=>
   rw[Za1]
   walk_at "zz"
   rw[Zem Zc8,Zam]
  | some y=>
   rw[Zam]
   walk_at "zz"
   by_cases h:y<x
   ·rw[if_pos h,Zxe h,Zam]
   ·rw[if_neg h,Zem (leO_some.mpr (by omega)),Zam]
noncomputable def amG(n:Nat)(G:Nat→Nat→Option Int)(c:Nat→Int)(top:Int): Nat→Nat→Option Int:=alW n G c top (apW n G c top) n
noncomputable def gT(N:Nat)(Γ:Nat→Nat→Option Int): T:=.lst (tab N fun a=>.lst (tab N fun b=>oT (Γ a b)))
theorem ZsX(hn:n≤60)(hb:b≤900)(hb1:1≤b)(hG:GB b n G)(bc:∀i,i<n+1→Bd b (c i))(hc:∀y,grt n G (fun k=>-(c k))=some y→-y≤top)(h:Zef [Zz n (amG n G c top) R]=some D): ZcH [Zz n G R,ZP n c,.int top]=some D:=by
 apply Pk.eq
 unfold ZcH Zh6
 have ht:Zz n G R=.tup [gT (n+1) G,.lst (tab n fun i=>ZT (R i))]:=rfl
 have hs:ZP n c=.lst (tab (n+1) fun k=>.int (c k)):=rfl
 have hG2:GB (b+2) n G:=fun a b ha hb y e=>(hG a b ha hb y e).mono (by omega)
 have cp:∀{σ:TL} {N:TL→Prop},σ 0=some (Zz n G R)→(∀t,t=gT (n+1) G→N (Z1 σ 5 t))→Psk (ZJ 5 (Zan (ZaD (Zc Zm (Za 0) (Zj 0))) (Z2 102) Zaa (pFl (Zp Zch (Zd (Za 102) Zl)))) σ) (fun t=>t=D) N:=fun e k=>by
  rw[ht]at e
  unfold gT at e
  walk_at "zz"
  refine Zb8 (n:=n+1) (a:=fun a=>.lst (tab (n+1) fun b=>oT (G a b))) (b:=fun a=>.lst (tab (n+1) fun b=>oT (G a b))) (by omega) ?_ (fun a ha=>?_) ?_
  ·walk_at "zz"
   rfl
  ·walk_at "zz"
   rfl
  ·exact k _ rfl
 have hne:∀{Q:T→Prop},Q (.bool false)→Pk (qIs (Zz n G R) .none) Q:=fun h=>⟨_,by rw[ht];rfl,h⟩
 rw[hs]
 walk_at "zz"
 refine hne ?_
 walk_at "zz"
 refine Zb8 (n:=n+1) (a:=fun k=>.int (c k)) (b:=fun k=>.int (-(c k))) (by omega) ?_ (fun k hk=>?_) ?_
 ·walk_at "zz"
  rfl
 ·walk_at "zz"
  rfl
 rw[show(T.lst (tab (n+1) fun k=>T.int (-(c k))))=ZP n (fun k=>-(c k))from rfl]
 walk_at "zz"
 refine Zy (Zgk (b:=b) hn (by omega) hG (ZfV bc)) ?_
 refine ZcV (fun σ'=>σ' 0=some (Zz n G R)∧σ' 1=some (.lst (tab (n+1) fun k=>.int (c k)))∧σ' 2=some (.int top)∧σ' 3=some (ZP n (fun k=>-(c k)))) ?_ ?_
 ·cases e:grt n G (fun k=>-(c k))with
  | none=>
   rw[Za1]
   walk_at "zz"
   exact⟨by walk_at "zr",by walk_at "zr",by walk_at "zr",by walk_at "zr"⟩
  | some y=>
   have hy:=hc y e
   have hy':¬-y>top:=by omega
   rw[Zam]
   walk_at "zz"
   exact⟨by walk_at "zr",by walk_at "zr",by walk_at "zr",by walk_at "zr"⟩
 rintro σ1 ⟨e0,e1,e2,e3⟩
 have hli:∀{a b:Option Int},Pk (Zfm [oT a,oT b]) fun t=>t=oT (ZaR a b):=Zy Zh7 rfl
 refine Zdd ?_
 refine cp e0 fun t et=>?_
 subst et
 refine ZcV (fun σ'=>σ' 0=some (Zz n G R)∧σ' 1=some (.lst (tab (n+1) fun k=>.int (c k)))∧σ' 2=some (.int top)∧σ' 3=some (ZP n (fun k=>-(c k)))∧σ' 5=some (gT (n+1) (apW n G c top))) ?_ ?_
 ·refine Za2 (n:=n+1) (a:=fun i=>.int i) (P:=fun i σ'=>σ' 0=some (Zz n G R)∧σ' 1=some (.lst (tab (n+1) fun k=>.int (c k)))∧σ' 2=some (.int top)∧σ' 3=some (ZP n (fun k=>-(c k)))∧σ' 5=some (gT (n+1) (Wv (apW n G c top) G i 0))) ?_ ⟨by walk_at "zr",by walk_at "zr",by walk_at "zr",by walk_at "zr",by rw[Zsm];exact ZbD⟩ ?_ ?_
  ·unfold gT
   walk_at "zz"
   rfl
  ·rintro i σ hi ⟨f0,f1,f2,f3,f5⟩
   refine Za2 (n:=n+1) (a:=fun j=>.int j) (P:=fun j σ'=>σ' 0=some (Zz n G R)∧σ' 1=some (.lst (tab (n+1) fun k=>.int (c k)))∧σ' 2=some (.int top)∧σ' 3=some (ZP n (fun k=>-(c k)))∧σ' 5=some (gT (n+1) (Wv (apW n G c top) G i j))∧σ' 6=some (.int i)) ?_ ⟨by walk_at "zr",by walk_at "zr",by walk_at "zr",by walk_at "zr",by walk_at "zr",by walk_at "zr"⟩ ?_ ?_
   ·unfold gT at f5
    walk_at "zz"
    rfl
   ·rintro j σ hj ⟨g0,g1,g2,g3,g5,g6⟩
    have ea:(fun a=>-(c a)+unC i a*1+unC j a * -1)=apC c i j:=by funext a;unfold apC;omega
    have same:apW n G c top i j=G i j→Wv (apW n G c top) G i (j+1)=Wv (apW n G c top) G i j:=fun e=>by rw[←Zoo,Zng (by rw[ZoC,e])]
    walk_at "zz"
    refine Zy (Zit hn hi) ?_
    walk_at "zz"
    refine Zy (Zit hn hj) ?_
    rw[ea]
    walk_at "zz"
    refine Zy (Zgk (b:=b+2) hn (by omega) hG2 (ZoA hb1 bc i j)) ?_
    by_cases q:(i:Int)=j
    ·have q2:i=j:=by omega
     walk_at "zz"
     rw[same (by unfold apW;rw[if_pos q2])]
     exact⟨by walk_at "zr",by walk_at "zr",by walk_at "zr",by walk_at "zr",by walk_at "zr",by walk_at "zr"⟩
    ·have q2:¬i=j:=by omega
     cases e:grt n G (apC c i j)with
     | none=>
      rw[Za1]
      walk_at "zz"
      rw[same (by unfold apW;rw[if_neg q2,e];exact Zem Zc8)]
      exact⟨by walk_at "zr",by walk_at "zr",by walk_at "zr",by walk_at "zr",by walk_at "zr",by walk_at "zr"⟩
     | some y=>
      rw[Zam]
      unfold gT at g5
      walk_at "zz"
      refine Zy (Zh7 (b:=some (y+top))) ?_
      refine⟨ZeS,?_⟩
      walk_at "zz"
      rw[Znf (w:=oT (ZaR (Wv (apW n G c top) G i j i j) (some (y+top)))) (v:=apW n G c top i j) (by rw[ZoC];unfold apW;rw[if_neg q2,e];rfl),Zoo]
      exact⟨by walk_at "zr",by walk_at "zr",by walk_at "zr",by walk_at "zr",ZbD,by walk_at "zr"⟩
   ·rintro σ ⟨g0,g1,g2,g3,g5,g6⟩
    exact⟨g0,g1,g2,g3,by rw[show gT (n+1) (Wv (apW n G c top) G (i+1) 0)=gT (n+1) (Wv (apW n G c top) G i (n+1))from Wv_row.symm];exact g5⟩
  ·rintro σ ⟨g0,g1,g2,g3,g5⟩
   exact⟨g0,g1,g2,g3,by rw[show gT (n+1) (apW n G c top)=gT (n+1) (Wv (apW n G c top) G (n+1) 0)from Wv_all.symm];exact g5⟩
 clear e0 e1 e2 e3
 rintro σ2 ⟨e0,e1,e2,e3,e5⟩
 refine ZcV (fun σ'=>σ' 0=some (Zz n G R)∧σ' 5=some (gT (n+1) (amG n G c top))) ?_ ?_
 ·refine Za2 (n:=n) (a:=fun i=>.int ((1+i:Nat):Int)) (P:=fun i σ'=>σ' 0=some (Zz n G R)∧σ' 1=some (.lst (tab (n+1) fun k=>.int (c k)))∧σ' 2=some (.int top)∧σ' 3=some (ZP n (fun k=>-(c k)))∧σ' 5=some (gT (n+1) (alW n G c top (apW n G c top) i))) ?_ ⟨by walk_at "zr",by walk_at "zr",by walk_at "zr",by walk_at "zr",by rw[Zsj];exact e5⟩ ?_ ?_
  ·refine ZfN (a:=1) (m:=n) (by omega) (by omega) ?_ rfl
   simp only[Zd,Zj,Zl,Za,Zp,e5,gT,Zaj,Zau,Option.bind_some]
   congr 3
   congr 1
   omega
  ·rintro i σ hi ⟨g0,g1,g2,g3,g5⟩
   have h1:1+i<n+1:=by omega
   have ci:=bc (1+i) h1
   have ea:(fun a=>-(c a)+unC (1+i) a*c (1+i))=alC c (1+i):=by funext a;unfold alC;omega
   walk_at "zz"
   refine Zy (Zit hn h1) ?_
   rw[ea]
   walk_at "zz"
   refine Zy (Zgk (b:=b+2) hn (by omega) hG2 (ZoB bc (1+i) h1)) ?_
   rw[Nat.add_comm 1 i]at *
   have no:grt n G (alC c (i+1))=none→c (i+1)≠0→alW n G c top (apW n G c top) (i+1)=alW n G c top (apW n G c top) i:=fun e q=>by
    have ep:prt n G c top (i+1)=none:=by unfold prt;rw[e];rfl
    rcases Int.lt_trichotomy (c (i+1)) 0 with w | w | w
    ·rw[←Zn4 w,ep,Zng (Zem Zc8)]
    ·exact absurd w q
    ·rw[←Zn3 w,ep,Zng (Zem Zc8)]
   rcases Int.lt_trichotomy (c (i+1)) 0 with q | q | q
   ·have q':¬0<c (i+1):=by omega
    cases e:grt n G (alC c (i+1))with
    | none=>
     rw[Za1]
     walk_at "zz"
     rw[no e (by omega)]
     exact⟨by walk_at "zr",by walk_at "zr",by walk_at "zr",by walk_at "zr",by walk_at "zr"⟩
    | some y=>
     rw[Zam]
     unfold gT at g5
     walk_at "zz"
     refine Zde (by omega) (ZdD (i:=b) (show Bd b _ by unfold Bd at *;omega) (by omega)) ?_
     walk_at "zz"
     have ep:prt n G c top (i+1)=some ((y+top).fdiv (if c (i+1)<0 then -(c (i+1))else c (i+1))):=by unfold prt;rw[e];rfl
     refine Zy (Zh7 (b:=some _)) ?_
     refine⟨ZeS,?_⟩
     walk_at "zz"
     rw[←ep,show Int.toNat 0=0 from rfl]
     refine Zrg (n:=n+1) (m:=n+1) (i:=0) (j:=i+1) (f:=fun a b=>oT (alW n G c top (apW n G c top) i a b)) (by walk_at "zr") rfl (by omega) (by omega) (by omega) ?_
     rw[Znf (v:=ZaR (alW n G c top (apW n G c top) i 0 (i+1)) (prt n G c top (i+1))) rfl,Zn4 q]
     exact⟨by walk_at "zr",by walk_at "zr",by walk_at "zr",by walk_at "zr",ZbD⟩
   ·have q':¬0<c (i+1):=by omega
    have q'':¬c (i+1)<0:=by omega
    walk_at "zz"
    rw[←ZqG q]
    exact⟨by walk_at "zr",by walk_at "zr",by walk_at "zr",by walk_at "zr",by walk_at "zr"⟩
   ·have q':¬c (i+1)<0:=by omega
    cases e:grt n G (alC c (i+1))with
    | none=>
     rw[Za1]
     walk_at "zz"
     rw[no e (by omega)]
     exact⟨by walk_at "zr",by walk_at "zr",by walk_at "zr",by walk_at "zr",by walk_at "zr"⟩
    | some y=>
     rw[Zam]
     unfold gT at g5
     walk_at "zz"
     refine Zde (by omega) (ZdD (i:=b) ci (by omega)) ?_
     walk_at "zz"
     have ep:prt n G c top (i+1)=some ((y+top).fdiv (c (i+1))):=by unfold prt;rw[e,if_neg q'];rfl
     refine Zy (Zh7 (b:=some _)) ?_
     refine⟨ZeS,?_⟩
     walk_at "zz"
     rw[←ep,show Int.toNat 0=0 from rfl]
     refine Zrg (n:=n+1) (m:=n+1) (i:=i+1) (j:=0) (f:=fun a b=>oT (alW n G c top (apW n G c top) i a b)) (by walk_at "zr") (by omega) rfl (by omega) (by omega) ?_
     rw[Znf (v:=ZaR (alW n G c top (apW n G c top) i (i+1) 0) (prt n G c top (i+1))) rfl,Zn3 q]
     rw[show(T.lst (tab (n+1) fun a=>T.lst (tab (n+1) fun b=>oT (alW n G c top (apW n G c top) (i+1) a b))))=gT (n+1) (alW n G c top (apW n G c top) (i+1))from rfl]
     walk_at "zz"
     exact⟨by walk_at "zr",by walk_at "zr",by walk_at "zr",by walk_at "zr",by walk_at "zr"⟩
  ·rintro σ ⟨g0,g1,g2,g3,g5⟩
   exact⟨g0,g5⟩
 rintro σ3 ⟨f0,f5⟩
 rw[ht]at f0
 walk_at "zz"
 exact Zy h rfl
theorem Zn5{b:Option Int}(ha:∀y,a=some y→Bd k y)(hb:∀y,b=some y→Bd k y): ∀y,ZaR a b=some y→Bd k y:=fun y e=>by
 rcases ZeV a b with q | q
 ·exact ha y (q▸e)
 ·exact hb y (q▸e)
theorem ZvY{x k:Int}(hk:0<k): (x.fdiv k).natAbs≤x.natAbs:=by
 rw[Int.fdiv_eq_ediv_of_nonneg x (by omega)]
 have e1:x / k*k≤x:=Int.ediv_mul_le x (by omega)
 have e2:x<(x / k+1)*k:=Int.lt_ediv_add_one_mul_self x hk
 generalize x / k=q at *
 rcases Int.lt_trichotomy q 0 with h | h | h
 ·-- q≤-1,x<(q+1) k≤q+1
  have:(q+1)*k≤q+1:=by
   have:=Int.mul_le_mul_of_nonpos_left (a:=q+1) (b:=k) (c:=1) (by omega) (by omega)
   simpa using this
  omega
 ·omega
 ·have:q*1≤q*k:=Int.mul_le_mul_of_nonneg_left (by omega) (by omega)
  omega
theorem Zxf{x k:Int}(h:Bd i x)(hk:0<k): Bd i (x.fdiv k):=Nat.lt_of_le_of_lt (ZvY hk) h
theorem ZyQ{B:Nat}(hb1:1≤b)(hG:GB b n G)(bc:∀i,i<n+1→Bd b (c i))(bt:Bd b top)(hB:b+b+n+6≤B): SmG B n (amG n G c top):=by
 have hG2:GB (b+2) n G:=fun a b ha hb y e=>(hG a b ha hb y e).mono (by omega)
 have s1:∀{d:Nat→Int},(∀k,k<n+1→Bd (b+2) (d k))→∀y,Zak (grt n G d) (some top)=some y→Bd B y:=fun bd y e=>by
  obtain⟨p,q,h1,h2,rfl⟩:=addO_some.mp e
  cases h2
  exact((Zro hG2 bd p h1).add (bt.mono (by omega))).mono (by omega)
 have sG:∀i j,i<n+1→j<n+1→∀y,G i j=some y→Bd B y:=fun i j hi hj y e=>(hG i j hi hj y e).mono (by omega)
 have sA:∀i j,i<n+1→j<n+1→∀y,apW n G c top i j=some y→Bd B y:=fun i j hi hj y e=>by
  unfold apW at e
  split at e
  ·exact sG i j hi hj y e
  ·exact Zn5 (sG i j hi hj) (s1 (ZoA hb1 bc i j)) y e
 have sP:∀i,i<n+1→c i≠0→∀y,prt n G c top i=some y→Bd B y:=fun i hi h0 y e=>by
  unfold prt at e
  obtain⟨z,h1,rfl⟩:=Zz1.mp e
  exact Zxf (s1 (ZoB bc i hi) z h1) (by split <;> omega)
 intro i j hi hj y e
 show Bd B y
 unfold amG alW at e
 split at e
 ·rename_i q
  exact Zn5 (sA i 0 hi (by omega)) (sP i hi (by omega)) y e
 ·split at e
  ·rename_i q
   exact Zn5 (sA 0 j (by omega) hj) (sP j hj (by omega)) y e
  ·exact sA i j hi hj y e
theorem ZyX(hd:∀i,i<n+1→G i i=some 0): ∀i,i<n+1→amG n G c top i i=some 0:=fun i hi=>by
 unfold amG alW
 rw[if_neg (by omega),if_neg (by omega)]
 unfold apW
 rw[if_pos rfl,hd i hi]
theorem ZoD(i j:Nat): leO (apW n G c top i j) (G i j):=by
 unfold apW
 split
 ·exact Zb7
 ·exact Zf3
theorem ZyR(i j:Nat): leO (amG n G c top i j) (G i j):=by
 unfold amG alW
 split
 ·rename_i q
  rw[q.1]
  exact Zcg Zf3 (ZoD i 0)
 ·split
  ·rename_i q
   rw[q.1]
   exact Zcg Zf3 (ZoD 0 j)
  ·exact ZoD i j
theorem ZeX: ∀i,i<n+1→Zab (unC i) x n=Zas x i
 | 0,_=>by rw[Zsh,ZqF];rfl
 | i+1,hi=>by rw[ZrY (by omega),if_pos (by omega)];rfl
theorem ZiQ{u x:Nat→Int}{k:Int}: ∀n,Zab (fun a=>u a*k) x n=Zab u x n*k
 | 0=>rfl
 | n+1=>by
  show Zab (fun a=>u a*k) x n+u (n+1)*k*x n=(Zab u x n+u (n+1)*x n)*k
  rw[ZiQ n,Int.add_mul,Int.mul_assoc,Int.mul_comm k,←Int.mul_assoc]
theorem Znh{b:Option Int}{x:Int}(h:ZaR a b=some y)(ha:∀z,a=some z→x≤z)(hb:∀z,b=some z→x≤z): x≤y:=by
 rcases ZeV a b with q | q
 ·exact ha y (q▸h)
 ·exact hb y (q▸h)
theorem Zrp(h:Zay n G R x)(ht:Zab c x n≤top): Zay n (amG n G c top) R x:=by
 have f1:∀i j,i<n+1→j<n+1→∀y,apW n G c top i j=some y→Zas x i-Zas x j≤y:=fun i j hi hj y e=>by
  unfold apW at e
  split at e
  ·exact h.1 i j hi hj y e
  ·refine Znh e (h.1 i j hi hj) fun z ez=>?_
   obtain⟨p,q,h1,h2,rfl⟩:=addO_some.mp ez
   cases h2
   have:=Zjw h h1
   rw[show apC c i j=fun k=>(fun a=>unC i a-unC j a) k-c k from rfl,Zen,Zen,ZeX i hi,ZeX j hj]at this
   omega
 have f2:∀i,i<n+1→∀z,Zak (grt n G (alC c i)) (some top)=some z→Zas x i*c i≤z:=fun i hi z ez=>by
  obtain⟨p,q,h1,h2,rfl⟩:=addO_some.mp ez
  cases h2
  have:=Zjw h h1
  rw[show alC c i=fun k=>(fun a=>unC i a*c i) k-c k from rfl,Zen,ZiQ,ZeX i hi]at this
  omega
 refine⟨fun i j hi hj y e=>?_,h.2⟩
 unfold amG alW at e
 split at e
 ·rename_i q
  obtain⟨rfl,q1,q2,q3⟩:=q
  refine Znh e (f1 i 0 hi hj) fun z ez=>?_
  unfold prt at ez
  obtain⟨p,h1,rfl⟩:=Zz1.mp ez
  have:=f2 i hi p h1
  rw[if_neg (by omega),show Zas x 0=0 from rfl,Int.sub_zero]
  exact by rw[Int.fdiv_eq_ediv_of_nonneg _ (by omega)];exact(Int.le_ediv_iff_mul_le q3).mpr this
 ·split at e
  ·rename_i q
   obtain⟨rfl,q1,q2,q3⟩:=q
   refine Znh e (f1 0 j hi hj) fun z ez=>?_
   unfold prt at ez
   obtain⟨p,h1,rfl⟩:=Zz1.mp ez
   have:=f2 j hj p h1
   rw[if_pos q3,show Zas x 0=0 from rfl,Int.zero_sub]
   rw[Int.fdiv_eq_ediv_of_nonneg _ (by omega)];refine(Int.le_ediv_iff_mul_le (by omega)).mpr ?_
   rw[Int.neg_mul_neg]
   exact this
  ·exact f1 i j hi hj y e
theorem Zxg(hn:n≤100): Dp 8 (ZW (n+1) G):=by
 refine .lst (fun t m=>?_) (by rw[Zau];omega)
 obtain⟨i,hi,rfl⟩:=ZcL m
 refine .lst (fun t m=>?_) (by rw[Zau];omega)
 obtain⟨j,hj,rfl⟩:=ZcL m
 exact Zsf
theorem ZtE{c t:T}: Zb6 [.none,c,t]=some .none:=by
 apply Pk.eq
 unfold Zb6 ZgS
 walk_at "zz"
 rfl
theorem Zsu{c t:T}: ZcH [.none,c,t]=some .none:=by
 apply Pk.eq
 unfold ZcH Zh6
 walk_at "zz"
 rfl
theorem ZqH(hn:n≤60)(hb:b≤900)(hb1:1≤b)(hG:GB b n G)(bc:∀i,i<n+1→Bd b (c i)): Zhg [Zz n G R,ZP n c]=some (oT ((grt n G fun i=>-(c i)).map fun y=>y * -1)):=ZvX hn (by omega) hb1 hG bc fun y e=>(Zro hG (ZfV bc) y e).mono (by omega)
theorem Zuy(hn:n≤60)(hb:b≤900)(hb1:1≤b)(hG:GB b n G)(bc:∀i,i<n+1→Bd b (c i))(hd:∀i,i<n+1→G i i=some 0)(hc:∀y,grt n G (fun k=>-(c k))=some y→-y≤top)(h:ZdU [Zz n (amG n G c top) R]=some D): Zb6 [Zz n G R,ZP n c,.int top]=some D:=by
 apply Pk.eq
 unfold Zb6 ZgS
 have ht:Zz n G R=.tup [ZW (n+1) G,.lst (tab n fun i=>ZT (R i))]:=rfl
 have hne:∀{Q:T→Prop},Q (.bool false)→Pk (qIs (Zz n G R) .none) Q:=fun h=>⟨_,by rw[ht];rfl,h⟩
 have hx:ZfE [oT ((grt n G fun i=>-(c i)).map fun y=>y * -1),.int top]=some (.bool false):=by
  rw[show T.int top=oT (some top)from rfl,ZpJ,ZaC]
  rintro⟨x,y,h1,h2,h3⟩
  cases h2
  obtain⟨z,e1,rfl⟩:=Zz1.mp h1
  have:=hc z e1
  omega
 have hg:∀{Q:T→Prop},Q (ZW (n+1) G)→Pk (Zm (Zz n G R) (.int 0)) Q:=fun h=>⟨_,by rw[ht];rfl,h⟩
 walk_at "zz"
 refine hne ?_
 walk_at "zz"
 refine Zy (ZqH hn hb hb1 hG bc) ?_
 walk_at "zz"
 refine Zy hx ?_
 walk_at "zz"
 refine hg ?_
 walk_at "zz"
 refine Zy (ZiY (Zxg (by omega))) ?_
 walk_at "zz"
 refine Zho (t:=ZW (n+1) G) (by walk_at "zr") ?_
 walk_at "zz"
 refine Zy (ZsV hn hb hb1 hG bc hd hc) ?_
 walk_at "zz"
 refine Zho (t:=ZW (n+1) (apW n G c top)) (by walk_at "zr") ?_
 walk_at "zz"
 refine Zy (ZsW hn hb hb1 hG bc) ?_
 rw[ht]
 walk_at "zz"
 exact Zy h rfl
theorem ZtX(hn:n≤60)(hb:b≤900)(hb1:1≤b)(hG:GB b n G)(bc:∀i,i<n+1→Bd b (c i))(e:grt n G (fun k=>-(c k))=some y)(hy:top < -y): Zb6 [Zz n G R,ZP n c,.int top]=some .none∧ZcH [Zz n G R,ZP n c,.int top]=some .none:=by
 have ht:Zz n G R=.tup [ZW (n+1) G,.lst (tab n fun i=>ZT (R i))]:=rfl
 have hne:∀{Q:T→Prop},Q (.bool false)→Pk (qIs (Zz n G R) .none) Q:=fun h=>⟨_,by rw[ht];rfl,h⟩
 have hx:ZfE [oT ((grt n G fun i=>-(c i)).map fun y=>y * -1),.int top]=some (.bool true):=by
  rw[show T.int top=oT (some top)from rfl,ZpJ,ZaB]
  exact⟨y * -1,top,by rw[e];rfl,rfl,by omega⟩
 constructor
 ·apply Pk.eq
  unfold Zb6 ZgS
  walk_at "zz"
  refine hne ?_
  walk_at "zz"
  refine Zy (ZqH hn hb hb1 hG bc) ?_
  walk_at "zz"
  refine Zy hx ?_
  walk_at "zz"
  rfl
 ·apply Pk.eq
  unfold ZcH Zh6
  have hs:ZP n c=.lst (tab (n+1) fun k=>.int (c k)):=rfl
  rw[hs]
  walk_at "zz"
  refine hne ?_
  walk_at "zz"
  refine Zb8 (n:=n+1) (a:=fun k=>.int (c k)) (b:=fun k=>.int (-(c k))) (by omega) ?_ (fun k hk=>?_) ?_
  ·walk_at "zz"
   rfl
  ·walk_at "zz"
   rfl
  rw[show(T.lst (tab (n+1) fun k=>T.int (-(c k))))=ZP n (fun k=>-(c k))from rfl]
  walk_at "zz"
  refine Zy (Zgk (b:=b) hn (by omega) hG (ZfV bc)) ?_
  have hy':-y>top:=hy
  rw[e,Zam]
  walk_at "zz"
  rfl
theorem ZrZ{n b:Nat}{c x:Nat→Int}(bc:∀i,i<n+1→Bd b (c i))(bx:∀i,i<n→Bd b (x i)): ∀j,j≤n→Bd (b+b+j) (Zab c x j)
 | 0,_=>(bc 0 (by omega)).mono (by omega)
 | j+1,hj=>by
  have h1:=ZrZ bc bx j (by omega)
  have h2:=((bc (j+1) (by omega)).mul (bx j (by omega))).mono (show b+b≤b+b+j by omega)
  exact h1.add h2
noncomputable def Zcq(c:Nat→Int)(top:Int): Nat→Int:=fun k=>if k=0 then c 0-top else c k
theorem Zyh(bc:∀i,i<n+1→Bd b (c i))(bt:Bd b top): ∀i,i<n+1→Bd (b+1) (Zcq c top i):=fun i hi=>by
 unfold Zcq
 split
 ·exact(bc 0 (by omega)).sub bt
 ·exact(bc i hi).mono (by omega)
theorem su: PyData.strOk (Str.ofString "under")=true:=by decide +kernel
noncomputable def unT(n:Nat)(c:Nat→Int): T:=.tup [.str (Str.ofString "under"),ZP n c]
theorem Zni: (fun k=>c k * -1)=fun k=>-(c k):=by funext k;omega
theorem ZsY(h:Zb6 [T0,ZP n c,.int (-1)]=some D): ZeE [T0,ZP n c,.bool true]=some D:=by
 apply Pk.eq
 unfold ZeE Zid
 walk_at "zz"
 exact Zy h rfl
theorem Ztg(hn:n≤900)(hb1:1≤b)(hb:b≤1000)(bc:∀i,i<n+1→Bd b (c i))(h:Zb6 [T0,ZP n fun k=>-(c k),.int 0]=some D): ZeE [T0,ZP n c,.bool false]=some D:=by
 apply Pk.eq
 unfold ZeE Zid
 walk_at "zz"
 refine Zy (ZeF (b:=b) (by omega) (by omega) bc (show Bd b (-1)by unfold Bd;have:=ZdJ hb1;unfold Bd at this;simpa using this)) ?_
 rw[Zni]
 walk_at "zz"
 exact Zy h rfl
theorem Zrq{b:Bool}(hT:T0=.none∨∃G R,T0=Zz n G R)(h0:T0=.none→D=.none)(h:ZeE [T0,ZP n c,.bool b]=some D): Zcu [T0,unT n c,.bool b]=some D:=by
 apply Pk.eq
 unfold Zcu Zhr
 rcases hT with rfl | ⟨G,R,rfl⟩
 ·rw[h0 rfl]
  walk_at "zz"
  rfl
 ·have ht:Zz n G R=.tup [ZW (n+1) G,.lst (tab n fun i=>ZT (R i))]:=rfl
  have hne:∀{Q:T→Prop},Q (.bool false)→Pk (qIs (Zz n G R) .none) Q:=fun h=>⟨_,by rw[ht];rfl,h⟩
  unfold unT
  walk_at "zz"
  refine hne ?_
  walk_at "zz"
  refine Zbs (n:=1) (m:=1) (.str su) (.str su) ?_
  rw[ZaB rfl]
  walk_at "zz"
  exact Zy h rfl
noncomputable def Tm(n K:Nat)(M:Int)(P:(Nat→Int)→Prop)(I:(Nat→Nat→Option Int)→(Nat→Int×Int)→Prop)(D:T): Prop:=(D=.none∧∀x,¬P x)∨∃G R,D=Zz n G R∧(∀i,i<n+1→G i i=some 0)∧(∀t,t<n→RB M K (R t))∧GB K n G∧(∀x,P x→Zay n G R x)∧I G R
theorem Zrr(hn:n≤20)(hk:k+2*n+4≤7000)(hM:0<M)(bM:Bd k M)(hd:∀i,i<n+1→G i i=some 0)(bG:GB k n G)(hR:∀t,t<n→RB M k (R t)): ∃D,ZdU [Zz n G R]=some D∧Zef [Zz n G R]=some D∧Tm n (k+3*n+7) M (Zay n G R) (fun G2 R2=>Zbz n G2 R2 G R) D:=by
 have bG2:BdG (n+1) k G:=fun a b c ha hb e=>bG a b ha hb c e
 obtain⟨D,et,hD⟩:=ZvT (k:=k) (by omega) (by omega) hM bM hd bG2 hR
 obtain⟨u,eu,hu⟩:=ZtA (k:=k) (by omega) (by omega) hM bM hd bG2 hR
 have:=Zuu hD hu
 subst this
 refine⟨D,et,eu,?_⟩
 rcases hD with⟨G2,R2,rfl,s⟩ | ⟨rfl,f⟩
 ·obtain⟨z1,z2⟩:=Zux hM (bM.mono (by omega)) bG2 (by omega) s
  obtain⟨_,_,_,_,_,_,h6⟩:=s.go
  exact .inr ⟨G2,R2,rfl,(Zuw hd s).1,fun t ht=>(h6 t ht).1.mono (by omega),fun i j hi hj b e=>(z1 i j b hi hj e).mono (by omega),fun x li=>Zuo li s,ZtD (fun t ht=>(hR t ht).1) s⟩
 ·exact .inl ⟨rfl,fun x li=>absurd f (ZtV li)⟩
theorem Zg0(hn:n≤20)(hb1:1≤b)(hb:b≤900)(hB:b+b+n+6≤k)(hk:k+2*n+4≤7000)(hM:0<M)(bM:Bd k M)(hd:∀i,i<n+1→G i i=some 0)(bG:GB b n G)(hR:∀t,t<n→RB M k (R t))(bc:∀i,i<n+1→Bd b (c i))(bt:Bd b top): ∃D,Zb6 [Zz n G R,ZP n c,.int top]=some D∧ZcH [Zz n G R,ZP n c,.int top]=some D∧Tm n (k+3*n+7) M (fun x=>Zay n G R x∧Zab c x n≤top) (fun G2 R2=>Zbz n G2 R2 (amG n G c top) R∧∀y,grt n G (fun k=>-(c k))=some y→-y≤top) D:=by
 by_cases hc:∀y,grt n G (fun k=>-(c k))=some y→-y≤top
 ·obtain⟨D,e1,e2,hD⟩:=Zrr (k:=k) hn hk hM bM (ZyX (c:=c) (top:=top) hd) (ZyQ hb1 bG bc bt hB) hR
  refine⟨D,Zuy (by omega) hb hb1 bG bc hd hc e1,ZsX (by omega) hb hb1 bG bc hc e2,?_⟩
  rcases hD with⟨rfl,no⟩ | ⟨G2,R2,rfl,h1,h2,h3,h4,h5⟩
  ·exact .inl ⟨rfl,fun x h=>no x (Zrp h.1 h.2)⟩
  ·exact .inr ⟨G2,R2,rfl,h1,h2,h3,fun x h=>h4 x (Zrp h.1 h.2),h5,hc⟩
 ·have:∃y,grt n G (fun k=>-(c k))=some y∧top < -y:=by
   refine Classical.byContradiction fun q=>hc fun y e=>?_
   refine Classical.byContradiction fun z=>q ⟨y,e,by omega⟩
  obtain⟨y,e,hy⟩:=this
  obtain⟨a1,a2⟩:=ZtX (R:=R) (b:=b) (by omega) hb hb1 bG bc e hy
  refine⟨.none,a1,a2,.inl ⟨rfl,fun x h=>?_⟩⟩
  have:=Zjw h.1 e
  rw[ZdA]at this
  omega
theorem Zgt(hn:n≤100)(hi:1≤i)(hi2:i≤9000)(bc:∀j,j<n+1→Bd i (c j))(bR:∀j,j<n→RBd i (R j))(ok:∀j,j<n→RestOk (R j)): ZeM [ZP n c,.lst (tab n fun j=>ZT (R j))]=some (ZT (ZaN c R n)):=by
 apply Pk.eq
 unfold ZeM Zml ZP
 walk_at "zz"
 refine Zi9 (n:=n) (a:=fun j=>.int (c (j+1))) (c:=fun j=>ZT (R j)) (P:=fun j σ=>σ 2=some (ZT (ZaN c R j))) ?_ rfl ?_ ?_
 ·refine Zof ?_
  refine ZiM ?_
  walk_at "zz"
  refine⟨_,rfl,?_⟩
  rw[ZiW]
  walk_at "zz"
  rfl
 ·rintro j σ hj e2
  have hr:=(ok j hj).nn
  have bt:Bd (i+i) (Zcv (R j) (c (j+1))).1:=by
   unfold Zcv
   rw[ZdR]
   exact(bR j hj).1.mul (Zq7 (bc (j+1) (by omega)))
  have bv:Bd (i+i) (ZaN c R j).1:=by
   rw[Zdb ok j (by omega),ZdR]
   exact Zjd bc bR j (by omega)
  walk_at "zz"
  refine Zy (ZkU (k:=i) (by omega) hr (bR j hj) (bc (j+1) (by omega))) ?_
  walk_at "zz"
  refine Zy (Zle (k:=i+i) (by omega) bv bt) ?_
  walk_at "zz"
  exact ZbD
 ·rintro σ e2
  walk_at "zz"
  rfl
theorem ZjT(hn:n≤100)(hb:b≤9000)(bc:∀j,j<n+1→Bd b (c j))(bR:∀j,j<n→RBd b (R j))(ok:∀j,j<n→RestOk (R j)): ZhW [ZP n c,.lst (tab n fun j=>ZT (R j))]=some (ZT (ZaN c R n)):=by
 apply Pk.eq
 unfold ZhW ZoV ZP
 rw[Zdb ok n (Zz10 n)]
 walk_at "zz"
 refine Za2 (n:=n) (a:=fun i=>.int i) (P:=fun j σ=>σ 0=some (.lst (tab (n+1) fun i=>.int (c i)))∧σ 1=some (.lst (tab n fun j=>ZT (R j)))∧σ 2=some (.int (Zbr c R j))∧σ 3=some (.int (ZbI c R j))) ?_ ⟨by walk_at "zr",by walk_at "zr",by walk_at "zr",by walk_at "zr"⟩ ?_ ?_
 ·walk_at "zz"
  rfl
 ·rintro j σ hj ⟨e0,e1,e2,e3⟩
  have bj:=bR j hj
  have cj:=bc (j+1) (by omega)
  have h1:j+1<n+1:=by omega
  have e1':Z1 (Z1 (Z1 σ 4 (.int (j:Nat))) 2 (.int (Zbr c R (j+1)))) 3 (.int (ZbI c R (j+1))) 1=some (.lst (tab n fun j=>ZT (R j))):=e1
  unfold ZT at e1
  have e':((j:Int)+1).toNat=j+1:=by omega
  walk_at "zz"
  rw[e']
  refine Zby (ZbM cj bj.1 (by omega) (by omega)) ?_
  walk_at "zz"
  refine Zy (ZmA ((Zjd bc bR j (by omega)).mono (by omega)) ((cj.mul bj.1).mono (by omega))) ?_
  walk_at "zz"
  rw[e']
  refine Zby (ZbM cj bj.2 (by omega) (by omega)) ?_
  walk_at "zz"
  exact⟨by walk_at "zr",e1',by walk_at "zr",by walk_at "zr"⟩
 ·rintro σ ⟨e0,e1,e2,e3⟩
  walk_at "zz"
  exact Zy Zfy rfl
noncomputable def ZaG(c:Nat→Int)(i:Nat): Nat→Int:=fun k=>c k-unC i k*c i
theorem Zyi(bc:∀i,i<n+1→Bd b (c i))(i:Nat)(hi:i<n+1): ∀k,k<n+1→Bd (b+1) (ZaG c i k):=fun k hk=>by
 have h1:=bc k hk
 have h2:=bc i hi
 have h3:Bd b (unC i k*c i):=by
  rcases Ze6 (i:=i) (k:=k)with e | e <;> rw[e]
  ·rw[Int.zero_mul];exact Zcp
  ·rw[Int.one_mul];exact h2
 exact h1.sub h3
noncomputable def Zea(p:Int×Int)(d:Int): Int×Int:=ZaK (Int.gcd p.1 d) p.2
theorem ZoM(hk:k≤200000)(hp:Bd k p.1)(hd:Bd k d): Zgh [ZT p,.int d]=some (ZT (Zea p d)):=by
 apply Pk.eq
 unfold Zgh Zj7 ZT Zea
 walk_at "zz"
 refine Zy (ZmC (ZbL hp hk) (ZbL hd hk)) ?_
 walk_at "zz"
 exact Zy (Zie (by omega)) rfl
noncomputable def Zdk(n:Nat)(R:Nat→Int×Int)(c:Nat→Int)(d:Int)(i:Nat): Int×Int:=ZaK (Int.gcd (ZaN (ZaG c i) R n).1 d) (-(c i)*(ZaN (ZaG c i) R n).2)
theorem Zyj(ok:∀t,t<n→RestOk (R t))(h1:c i=1∨c i = -1): Zea (Zcv (ZaN (ZaG c i) R n) (-(c i))) d=Zdk n R c d i:=by
 have hr:RestOk (ZaN (ZaG c i) R n):=by rw[Zdb ok n (Zz10 n)];exact Zcf (ZdV _ _ _) _
 generalize hp:ZaN (ZaG c i) R n=p at *
 unfold Zea Zdk Zcv
 rw[hp,ZdR]
 have ha:Za6 (-(c i))=1:=by rcases h1 with e | e <;> rw[e] <;> rfl
 rw[ha,Int.mul_one]
 refine Zpa (by omega) ?_
 have h2:((Int.gcd p.1 d:Nat):Int) ∣ p.1:=Int.gcd_dvd_left ..
 have:=Int.dvd_trans h2 (ZiD (m:=p.1) (r:=p.2 * -(c i)) hr.nn)
 rwa [Int.mul_comm (-(c i))]
theorem Zop: RestOk (Zdk n R c d i):=Zcf (by omega) _
noncomputable def Zb4(n:Nat)(R:Nat→Int×Int)(c:Nat→Int)(d:Int)(t:Nat)(o:Option (Int×Int)): Prop:=if c (t+1)=1∨c (t+1) = -1 then Met (R t) (Zdk n R c d (t+1)) o else o=some (R t)
theorem Zji(ok:∀t,t<n→RestOk (R t))(bm:∀t,t<n→Bd m (R t).1)(bR:∀t,t<n→RBd k (R t))(bc:∀i,i<n+1→Bd k (c i)): RBd (k+k+n) (ZaN c R n):=by
 rw[Zdb ok n (Zz10 n)]
 exact ZgV (ZdV _ _ _) ((Zjd bc bR n (Zz10 n)).mono (by omega)) (Zq8 bc bR n (Zz10 n))
theorem Zoq(ok:∀t,t<n→RestOk (R t))(bR:∀t,t<n→RBd k (R t))(bc:∀j,j<n+1→Bd k (ZaG c i j))(bd:Bd k d)(h1:c i=1∨c i = -1): RBd (k+k+n) (Zdk n R c d i):=by
 have h:=Zji (m:=k) ok (fun t ht=>(bR t ht).1) bR bc
 generalize hp:ZaN (ZaG c i) R n=p at *
 unfold Zdk
 rw[hp]
 refine ZgV (by omega) (Zjv h.1 (bd.mono (by omega))) ?_
 rcases h1 with e | e <;> rw[e]
 ·have:=h.2;unfold Bd at *;omega
 ·have:=h.2;unfold Bd at *;omega
theorem ZsZ(hn:n≤60)(hk1:1≤k)(hk:k+k+n≤8000)(ht:t<n)(ok:∀t,t<n→RestOk (R t))(bR:∀t,t<n→RBd k (R t))(bc:∀j,j<n+1→Bd k (c j))(bo:∀j,j<n+1→Bd k (ZaG c (t+1) j))(bd:Bd k d): Pk (Zgo [.lst (tab n fun j=>ZT (R j)),ZP n c,.int d,.int ((t+1:Nat):Int)]) fun u=>∃o,u=oR o∧Zb4 n R c d t o:=by
 unfold Zgo ZkT
 have hs:ZP n c=.lst (tab (n+1) fun k=>.int (c k)):=rfl
 have h1:t+1<n+1:=by omega
 have e1:(((t+1:Nat):Int)).toNat=t+1:=by omega
 have e2:(((t+1:Nat):Int)-1).toNat=t:=by omega
 have ab:Za6 (c (t+1))=1↔(c (t+1)=1∨c (t+1) = -1):=by unfold Za6;split <;> omega
 have bu:∀j,j<n+1→Bd k (unC (t+1) j):=fun j _=>by
  rcases Ze6 (i:=t+1) (k:=j)with e | e <;> rw[e]
  ·exact Zcp
  ·exact ZdJ hk1
 rw[hs]
 walk_at "zz"
 rw[←hs]
 rw[e2]
 by_cases q:c (t+1)=1∨c (t+1) = -1
 ·have qa:=ab.mpr q
  have bp:=Zji (m:=k) ok (fun t ht=>(bR t ht).1) bR bo
  have op:RestOk (ZaN (ZaG c (t+1)) R n):=by rw[Zdb ok n (Zz10 n)];exact Zcf (ZdV _ _ _) _
  have bs:=Zoq ok bR bo bd q
  have bk:=bc (t+1) h1
  have be:=Zyj (d:=d) ok q
  walk_at "zz"
  refine Zy (ZiE (i:=t+1) (n:=n) (by omega)) ?_
  walk_at "zz"
  refine Zy (ZeF (b:=k) (by omega) (by omega) bu bk) ?_
  walk_at "zz"
  refine Zy (ZlV (b:=k+k) (by omega) (by omega) (by omega) (fun j hj=>(bu j hj).mul bk)) ?_
  rw[show(fun k=>c k-unC (t+1) k*c (t+1))=ZaG c (t+1)from rfl]
  walk_at "zz"
  refine Zy (Zgt (i:=k) (by omega) hk1 (by omega) bo bR ok) ?_
  walk_at "zz"
  refine Zy (ZkU (k:=k+k+n) (by omega) op.nn bp (show Bd (k+k+n) (-(c (t+1)))by have:=bk.mono (show k≤k+k+n by omega);unfold Bd at *;omega)) ?_
  walk_at "zz"
  refine Zy (ZoM (k:=k+k+n+k) (by omega) (by unfold Zcv;rw[ZdR];exact bp.1.mul (Zq7 (show Bd k (-(c (t+1)))by unfold Bd at *;omega))) (bd.mono (by omega))) ?_
  rw[be]
  walk_at "zz"
  refine(ZlR (k:=k+k+n) hk (ok t ht) Zop ⟨(bR t ht).1.mono (by omega),(bR t ht).2.mono (by omega)⟩ bs).mono ?_
  rintro _ ⟨o,rfl,hm,_⟩
  exact⟨o,rfl,by unfold Zb4;rw[if_pos q];exact hm⟩
 ·have qa:¬Za6 (c (t+1))=1:=fun h=>q (ab.mp h)
  walk_at "zz"
  exact⟨some (R t),rfl,by unfold Zb4;rw[if_neg q]⟩
theorem ZtF(hn:n≤60)(hk1:1≤k)(hk:k+k+n≤8000)(ok:∀t,t<n→RestOk (R t))(bR:∀t,t<n→RBd k (R t))(bc:∀j,j<n+1→Bd k (c j))(bo:∀t,t<n→∀j,j<n+1→Bd k (ZaG c (t+1) j))(bd:Bd k d): ∃o:Nat→Option (Int×Int),(∀t,t<n→Zb4 n R c d t (o t))∧((∃t,t<n∧o t=none)→Zdm [Zz n G R,ZP n c,.int d]=some .none)∧∀R' D,(∀t,t<n→o t=some (R' t))→ZdU [Zz n G R']=some D→Zdm [Zz n G R,ZP n c,.int d]=some D:=by
 have ex:∀t,∃o,t<n→Zgo [.lst (tab n fun j=>ZT (R j)),ZP n c,.int d,.int ((t+1:Nat):Int)]=some (oR o)∧Zb4 n R c d t o:=fun t=>by
  by_cases ht:t<n
  ·obtain⟨u,e,o,rfl,h⟩:=ZsZ hn hk1 hk ht ok bR bc (bo t ht) bd
   exact⟨o,fun _=>⟨e,h⟩⟩
  ·exact⟨none,fun h=>absurd h ht⟩
 obtain⟨o,ho⟩:=Classical.axiomOfChoice ex
 refine⟨o,fun t ht=>(ho t ht).2,?_⟩
 have ht:Zz n G R=.tup [ZW (n+1) G,.lst (tab n fun i=>ZT (R i))]:=rfl
 have hs:ZP n c=.lst (tab (n+1) fun k=>.int (c k)):=rfl
 have key:∀{D:T},((∃t,t<n∧o t=none)∧D=.none∨(¬(∃t,t<n∧o t=none))∧ZdU [.tup [ZW (n+1) G,.lst (tab n fun t=>oR (o t))]]=some D)→Zdm [Zz n G R,ZP n c,.int d]=some D:=fun {D} hD=>by
  apply Pk.eq
  unfold Zdm Zio
  rw[ht,hs]
  walk_at "zz"
  rw[←hs]
  refine Zb8 (n:=n) (a:=fun i=>.int ((1+i:Nat):Int)) (b:=fun t=>oR (o t)) (by omega) ?_ (fun t ht'=>?_) ?_
  ·refine ZfN (a:=1) (m:=n) (by omega) (by omega) ?_ rfl
   simp only[Zd,Zj,Zl,Za,Zp,hs,Zaj,Zau,Option.bind_some]
   show some [T.int 1,T.int (((tab (n+1) fun k=>T.int (c k)).length:Nat):Int)]=_
   rw[Zau]
   congr 3
   congr 1
   omega
  ·rw[Nat.add_comm 1 t]
   walk_at "zz"
   exact Zy (ho t ht').1 rfl
  walk_at "zz"
  refine Zf9 (.none (n:=0)) (Zer (n:=1) fun i _=>ZjJ) ?_
  rcases hD with⟨⟨t,h1,h2⟩,rfl⟩ | ⟨hc,hD⟩
  ·rw[ZaB (show T.none∈tab n fun i=>oR (o i)from List.mem_of_getElem? (i:=t) (by rw[Zbx h1,h2];rfl))]
   walk_at "zz"
   rfl
  ·rw[ZaC (show ¬T.none∈tab n fun i=>oR (o i)from fun h=>by
    obtain⟨i,hi,e⟩:=ZcL h
    exact hc ⟨i,hi,oR_none.mp e.symm⟩)]
   walk_at "zz"
   exact Zy hD rfl
 refine⟨fun h=>key (.inl ⟨h,rfl⟩),fun R' D h hD=>key (.inr ⟨fun⟨t,h1,h2⟩=>(by rw[h t h1]at h2;cases h2),?_⟩)⟩
 have e:T.tup [ZW (n+1) G,.lst (tab n fun t=>oR (o t))]=Zz n G R':=by
  show T.tup [ZW (n+1) G,.lst (tab n fun t=>oR (o t))]=.tup [ZW (n+1) G,.lst (tab n fun i=>ZT (R' i))]
  rw[Zbg fun i hi=>(show oR (o i)=ZT (R' i)by rw[h i hi];rfl)]
 rw[e]
 exact hD
theorem ZtY{o:Nat→Option (Int×Int)}(hn:n≤60)(hk1:1≤k)(hk:k+k+n≤8000)(ok:∀t,t<n→RestOk (R t))(bR:∀t,t<n→RBd k (R t))(bc:∀j,j<n+1→Bd k (c j))(bo:∀t,t<n→∀j,j<n+1→Bd k (ZaG c (t+1) j))(bd:Bd k d)(ho:∀t,t<n→Zb4 n R c d t (o t)): ((∃t,t<n∧o t=none)→ZeO [Zz n G R,ZP n c,.int d]=some .none)∧∀R' D,(∀t,t<n→o t=some (R' t))→Zef [Zz n G R']=some D→ZeO [Zz n G R,ZP n c,.int d]=some D:=by
 have ht:Zz n G R=.tup [ZW (n+1) G,.lst (tab n fun i=>ZT (R i))]:=rfl
 have hs:ZP n c=.lst (tab (n+1) fun k=>.int (c k)):=rfl
 have key:∀{D:T},((∃t,t<n∧o t=none)∧D=.none∨(¬(∃t,t<n∧o t=none))∧Zef [.tup [ZW (n+1) G,.lst (tab n fun t=>oR (o t))]]=some D)→ZeO [Zz n G R,ZP n c,.int d]=some D:=fun {D} hD=>by
  apply Pk.eq
  unfold ZeO ZpF
  let ρ:Nat→Nat→Option (Int×Int):=fun m t=>if t<m then o t else some (R t)
  have hw:∀{t:Nat} {Q:T→Prop},t<n→Q (ZP n (ZaG c (t+1)))→Pk (ZeN [ZP n c,.int ((t+1:Nat):Int),.int (-(c (t+1)))]) Q:=fun {t Q} h q=>Zy (Zit (by omega) (by omega)) (by rw[show(fun a=>c a+unC (t+1) a * -(c (t+1)))=ZaG c (t+1)by funext a;unfold ZaG;rw[Int.mul_neg];omega];exact q)
  rw[ht,hs]
  walk_at "zz"
  refine Za2 (n:=n) (a:=fun i=>.int ((1+i:Nat):Int)) (P:=fun m σ=>σ 0=some (.tup [ZW (n+1) G,.lst (tab n fun i=>ZT (R i))])∧σ 1=some (.lst (tab (n+1) fun k=>.int (c k)))∧σ 2=some (.int d)∧σ 3=some (.lst (tab n fun t=>oR (ρ m t)))) ?_ ⟨by walk_at "zr",by walk_at "zr",by walk_at "zr",?_⟩ ?_ ?_
  ·refine ZfN (a:=1) (m:=n) (by omega) (by omega) ?_ rfl
   show some [T.int 1,T.int (((tab (n+1) fun k=>T.int (c k)).length:Nat):Int)]=_
   rw[Zau]
   congr 3
   congr 1
   omega
  ·walk_at "zz"
   rfl
  ·rintro t σ ht' ⟨e0,e1,e2,e3⟩
   have h1:t+1<n+1:=by omega
   have i1:(((t+1:Nat):Int)).toNat=t+1:=by omega
   have i2:(((t+1:Nat):Int)-1).toNat=t:=by omega
   have hr:ρ t t=some (R t):=by show(if t<t then _ else _)=_;rw[if_neg (by omega)]
   have hne:∀a,a≠t→ρ (t+1) a=ρ t a:=fun a ha=>by
    show(if a<t+1 then _ else _)=(if a<t then _ else _)
    by_cases q:a<t
    ·rw[if_pos q,if_pos (by omega)]
    ·rw[if_neg q,if_neg (by omega)]
   have hat:ρ (t+1) t=o t:=by show(if t<t+1 then _ else _)=_;rw[if_pos (by omega)]
   have hb:=ho t ht'
   rw[Nat.add_comm 1 t]
   by_cases q:c (t+1)=1∨c (t+1) = -1
   ·unfold Zb4 at hb
    rw[if_pos q]at hb
    have bp:=Zji (m:=k) ok (fun t ht=>(bR t ht).1) bR (bo t ht')
    have op:RestOk (ZaN (ZaG c (t+1)) R n):=by rw[Zdb ok n (Zz10 n)];exact Zcf (ZdV _ _ _) _
    have bs:=Zoq ok bR (bo t ht') bd q
    have bn:Bd (k+k+n) (-(c (t+1))):=by have:=(bc (t+1) h1).mono (show k≤k+k+n by omega);unfold Bd at *;omega
    have em:ZT (Zdk n R c d (t+1))=ZT (ZaK (Int.gcd (ZaN (ZaG c (t+1)) R n).1 d) (-(c (t+1))*(ZaN (ZaG c (t+1)) R n).2)):=rfl
    have q':c (t+1)=1∨(¬c (t+1)=1∧c (t+1) = -1):=by omega
    have ep:ZT (ZaN (ZaG c (t+1)) R n)=.tup [.int (ZaN (ZaG c (t+1)) R n).1,.int (ZaN (ZaG c (t+1)) R n).2]:=rfl
    rcases q' with q1 | ⟨q1,q2⟩
    all_goals
     walk_at "zz"
     refine hw ht' ?_
     walk_at "zz"
     refine Zy (ZjT (b:=k) (by omega) (by omega) (bo t ht') bR ok) ?_
     rw[ep]
     walk_at "zz"
     refine Zy (ZmA (bp.1.mono (by omega)) (bd.mono (by omega))) ?_
     walk_at "zz"
     refine Zby (ZbM bn bp.2 (by omega) (by omega)) ?_
     walk_at "zz"
     refine Zy Zfy ?_
     rw[←em]
     walk_at "zz"
     rw[i2,hr]
     refine(ZpL (k:=k+k+n) hk (ok t ht') Zop ⟨(bR t ht').1.mono (by omega),(bR t ht').2.mono (by omega)⟩ bs).mono ?_
     rintro _ ⟨o',rfl,hm⟩
     refine⟨Zxd,?_⟩
     walk_at "zz"
     refine ZmM (n:=n) (f:=fun a=>oR (ρ t a)) (by walk_at "zr") (by omega) (by omega) ?_
     rw[i2,Zyf,ZpH hm hb]
     refine⟨by walk_at "zr",by walk_at "zr",by walk_at "zr",?_⟩
     rw[show(tab n fun a=>oR (ρ (t+1) a))=tab n fun a=>oR (if a=t then o t else ρ t a)from Zbg fun a _=>by
      by_cases z:a=t
      ·rw[z,hat,if_pos rfl]
      ·rw[hne a z,if_neg z]]
     walk_at "zr"
   ·have q1:¬c (t+1)=1:=fun h=>q (.inl h)
    have q2:¬c (t+1) = -1:=fun h=>q (.inr h)
    unfold Zb4 at hb
    rw[if_neg q]at hb
    walk_at "zz"
    refine⟨by walk_at "zr",by walk_at "zr",by walk_at "zr",?_⟩
    rw[show(tab n fun a=>oR (ρ (t+1) a))=tab n fun a=>oR (ρ t a)from Zbg fun a _=>by
     by_cases z:a=t
     ·rw[z,hat,hr,hb]
     ·rw[hne a z]]
    walk_at "zr"
  ·rintro σ ⟨e0,e1,e2,e3⟩
   rw[show(tab n fun a=>oR (ρ n a))=tab n fun a=>oR (o a)from Zbg fun a ha=>by show oR (if a<n then _ else _)=_;rw[if_pos ha]]at e3
   walk_at "zz"
   refine Zf9 (.none (n:=0)) (Zer (n:=1) fun i _=>ZjJ) ?_
   rcases hD with⟨⟨t,h1,h2⟩,rfl⟩ | ⟨hc,hD⟩
   ·rw[ZaB (show T.none∈tab n fun i=>oR (o i)from List.mem_of_getElem? (i:=t) (by rw[Zbx h1,h2];rfl))]
    walk_at "zz"
    rfl
   ·rw[ZaC (show ¬T.none∈tab n fun i=>oR (o i)from fun h=>by
     obtain⟨i,hi,e⟩:=ZcL h
     exact hc ⟨i,hi,oR_none.mp e.symm⟩)]
    walk_at "zz"
    exact Zy hD rfl
 refine⟨fun h=>key (.inl ⟨h,rfl⟩),fun R' D h hD=>key (.inr ⟨fun⟨t,h1,h2⟩=>(by rw[h t h1]at h2;cases h2),?_⟩)⟩
 have e:T.tup [ZW (n+1) G,.lst (tab n fun t=>oR (o t))]=Zz n G R':=by
  show T.tup [ZW (n+1) G,.lst (tab n fun t=>oR (o t))]=.tup [ZW (n+1) G,.lst (tab n fun i=>ZT (R' i))]
  rw[Zbg fun i hi=>(show oR (o i)=ZT (R' i)by rw[h i hi];rfl)]
 rw[e]
 exact hD
theorem ZqI{c:Nat→Int}{R:Nat→Int×Int}{n i m:Nat}(bc:∀j,j<n+1→Bd i (c j))(bm:∀j,j<n→Bd m (R j).1): ∀j,j≤n→Bd (i+m) (Zbr c R j)
 | 0,_=>Zcp
 | j+1,h=>Zjv (ZqI bc bm j (by omega)) ((bc (j+1) (by omega)).mul (bm j (by omega)))
theorem Zr0{a b:Int}(ha:Bd i a)(hb:Bd j b): Bd (i+j) ((Int.lcm a b:Nat):Int):=by
 unfold Bd at *
 by_cases h:a=0∨b=0
 ·rcases h with e | e <;> subst e
  ·rw[Int.lcm_zero_left];exact Nat.pow_pos (by decide)
  ·rw[Int.lcm_zero_right];exact Nat.pow_pos (by decide)
 ·have:Int.lcm a b≤a.natAbs*b.natAbs:=Nat.le_of_dvd (Nat.mul_pos (by omega) (by omega)) (Nat.lcm_dvd_mul _ _)
  rw[Int.natAbs_natCast,Nat.pow_add]
  exact Nat.lt_of_le_of_lt this (Nat.mul_lt_mul'' ha hb)
theorem Zxh(ok:∀t,t<n→RestOk (R t))(bm:∀t,t<n→Bd m (R t).1)(bo:∀j,j<n+1→Bd b (ZaG c (t+1) j))(bd:Bd (b+m) d): Bd (b+m) (Zdk n R c d (t+1)).1:=by
 unfold Zdk
 rw[ZdR,Zdb ok n (Zz10 n),ZdR]
 exact Zjv (ZqI bo bm n (Zz10 n)) bd
theorem Zxi{r:Int×Int}(hk:k+k+n≤8000)(ht:t<n)(ok:∀t,t<n→RestOk (R t))(bm:∀t,t<n→Bd m (R t).1)(bR:∀t,t<n→RBd k (R t))(bo:∀j,j<n+1→Bd b (ZaG c (t+1) j))(hbk:b+m≤k)(bd:Bd (b+m) d)(h:Zb4 n R c d t (some r)): RestOk r∧Bd (b+m+m) r.1∧Bd (k+k+n) r.2:=by
 have g1:Bd (k+k+n) (R t).2:=(bR t ht).2.mono (by omega)
 unfold Zb4 at h
 split at h
 ·rename_i q
  have bs:=Zoq ok bR (fun j hj=>(bo j hj).mono (by omega)) (bd.mono (by omega)) q
  have hm:=Zxh ok bm bo bd
  have wh:=ZrT (k:=k+k+n) hk (ok t ht) Zop ⟨(bR t ht).1.mono (by omega),g1⟩ bs h r rfl
  refine⟨h.1,?_,?_⟩
  ·rcases wh with rfl | rfl | ⟨_,_,e⟩
   ·exact(bm t ht).mono (by omega)
   ·exact hm.mono (by omega)
   ·rw[e]
    exact(Zr0 (bm t ht) hm).mono (by omega)
  ·rcases wh with rfl | rfl | ⟨z1,z2,e⟩
   ·exact g1
   ·exact bs.2
   ·have b1:Bd (k+k+n) r.1:=by rw[e];exact(Zr0 (bm t ht) hm).mono (by omega)
    have n0:r.1≠0:=by rw[e];intro h;exact(Int.lcm_ne_zero z1 z2) (by omega)
    rcases h.1 with q | ⟨_,q2,q3⟩
    ·exact absurd q n0
    ·unfold Bd at *;omega
 ·cases h
  exact⟨ok t ht,(bm t ht).mono (by omega),g1⟩
noncomputable def Tf(n:Nat)(P:(Nat→Int)→Prop)(I:(Nat→Nat→Option Int)→(Nat→Int×Int)→Prop)(D:T): Prop:=(D=.none∧∀x,¬P x)∨∃G R,D=Zz n G R∧(∀i,i<n+1→G i i=some 0)∧(∀t,t<n→RestOk (R t))∧(∀x,P x→Zay n G R x)∧I G R
theorem Tm.tf{K:Nat}(h:Tm n K M P I D): Tf n P I D:=by
 rcases h with h | ⟨G,R,rfl,h1,h2,h3,h4,h5⟩
 ·exact .inl h
 ·exact .inr ⟨G,R,rfl,h1,fun t ht=>(h2 t ht).1,h4,h5⟩
theorem Tf.due(h:Tf n P I D): Zsi n D:=by
 rcases h with⟨rfl,_⟩ | ⟨G,R,rfl,h1,h2,h3,h4⟩
 ·exact .inl rfl
 ·exact .inr ⟨G,R,rfl,h1,h2⟩
theorem Zxj(ht:t<n)(ok:∀t,t<n→RestOk (R t))(hx:∀t,t<n→Zai (R t) (x t))(hd:d ∣ Zab c x n)(q:c (t+1)=1∨c (t+1) = -1): Zai (Zdk n R c d (t+1)) (x t):=by
 unfold Zdk
 refine(ZcI (by omega) _).mpr ?_
 have hv:Zab (ZaG c (t+1)) x n=Zab c x n-x t*c (t+1):=by
  rw[show ZaG c (t+1)=fun k=>c k-(fun a=>unC (t+1) a*c (t+1)) k from rfl,Zen,ZiQ,ZeX (t+1) (by omega)]
  rfl
 have h1:=Zn2 (c:=ZaG c (t+1)) ok hx n (Zz10 n)
 rw[Zdb ok n (Zz10 n),ZdR]
 have h2:=ZiD (m:=Zbr (ZaG c (t+1)) R n) (r:=ZbI (ZaG c (t+1)) R n) (ZdV _ _ _)
 have g1:((Int.gcd (Zbr (ZaG c (t+1)) R n) d:Nat):Int) ∣ Zbr (ZaG c (t+1)) R n:=Int.gcd_dvd_left ..
 have g2:((Int.gcd (Zbr (ZaG c (t+1)) R n) d:Nat):Int) ∣ d:=Int.gcd_dvd_right ..
 have h3:=Int.dvd_trans g1 (Int.dvd_sub h1 h2)
 have h4:=Int.dvd_trans g2 hd
 rw[hv]at h3
 generalize ((Int.gcd (Zbr (ZaG c (t+1)) R n) d:Nat):Int)=g at *
 generalize (ZaK (Zbr (ZaG c (t+1)) R n) (ZbI (ZaG c (t+1)) R n)).2=s at *
 generalize ZbI (ZaG c (t+1)) R n=r at *
 have h5:=Int.dvd_sub h4 h3
 rcases q with e | e <;> rw[e]at h5 ⊢
 ·rwa [show Zab c x n-(Zab c x n-x t*1-r-(s-r))=x t - -1*s by omega]at h5
 ·have:=(Int.dvd_neg).mpr h5
  rwa [show -(Zab c x n-(Zab c x n-x t * -1-r-(s-r)))=x t - -(-1)*s by omega]at this
theorem ZqJ(ht:t<n)(ok:∀t,t<n→RestOk (R t))(hx:∀t,t<n→Zai (R t) (x t))(hd:d ∣ Zab c x n)(h:Zb4 n R c d t o): ∃r,o=some r∧Zai r (x t):=by
 unfold Zb4 at h
 split at h
 ·rename_i q
  have hb:=Zxj ht ok hx hd q
  cases o with
  | none=>exact absurd ⟨hx t ht,hb⟩ (h (x t))
  | some r=>exact⟨r,rfl,(h.2 (x t)).mpr ⟨hx t ht,hb⟩⟩
 ·exact⟨R t,h,hx t ht⟩
theorem Zrs{K:Nat}(hn:n≤20)(hk1:1≤k)(hk:k+k+n≤K)(hbk:b+m≤k)(hb1:1≤b)(hK:(b+m+m)*n+1≤K)(hK2:K+2*n+4≤7000)(hd0:∀i,i<n+1→G i i=some 0)(bG:GB K n G)(ok:∀t,t<n→RestOk (R t))(bm:∀t,t<n→Bd m (R t).1)(bR:∀t,t<n→RBd k (R t))(bc:∀j,j<n+1→Bd k (c j))(bo:∀t,t<n→∀j,j<n+1→Bd b (ZaG c (t+1) j))(bd:Bd (b+m) d): ∃D,Zdm [Zz n G R,ZP n c,.int d]=some D∧ZeO [Zz n G R,ZP n c,.int d]=some D∧Tf n (fun x=>Zay n G R x∧d ∣ Zab c x n) (fun G2 R2=>∃R',(∀t,t<n→RestOk (R' t))∧(∀t,t<n→Zb4 n R c d t (some (R' t)))∧Zbz n G2 R2 G R') D:=by
 have bo2:∀t,t<n→∀j,j<n+1→Bd k (ZaG c (t+1) j):=fun t ht j hj=>(bo t ht j hj).mono (by omega)
 obtain⟨o,ho,a1,a2⟩:=ZtF (G:=G) (c:=c) (d:=d) (by omega) hk1 (by omega) ok bR bc bo2 (bd.mono (by omega))
 obtain⟨l1,l2⟩:=ZtY (G:=G) (c:=c) (d:=d) (by omega) hk1 (by omega) ok bR bc bo2 (bd.mono (by omega)) ho
 by_cases hc:∃t,t<n∧o t=none
 ·refine⟨.none,a1 hc,l1 hc,.inl ⟨rfl,fun x h=>?_⟩⟩
  obtain⟨t,h1,h2⟩:=hc
  obtain⟨r,e,_⟩:=ZqJ h1 ok h.1.2 h.2 (ho t h1)
  rw[h2]at e
  cases e
 ·have hs:∀t,t<n→o t=some ((o t).getD (1,0)):=fun t ht=>by
   cases e:o t with
   | none=>exact absurd ⟨t,ht,e⟩ hc
   | some q=>rfl
  generalize hR':(fun t=>(o t).getD (1,0))=R'
  have hs2:∀t,t<n→o t=some (R' t):=fun t ht=>by rw[←hR'];exact hs t ht
  have hB:∀t,t<n→Zb4 n R c d t (some (R' t)):=fun t ht=>by rw[←hs2 t ht];exact ho t ht
  have hr:=fun t (ht:t<n)=>Zxi (k:=k) (by omega) ht ok bm bR (bo t ht) hbk bd (hB t ht)
  have bM:Bd K (ZcQ R' n):=(Zg7 (k:=b+m+m) (by omega) (fun t ht=>(hr t ht).2.1) n (Zz10 n)).mono (by omega)
  obtain⟨D,e1,e2,hD⟩:=Zrr (k:=K) (R:=R') hn hK2 (ZgX (fun t ht=>(hr t ht).1) n (Zz10 n)) bM hd0 bG (fun t ht=>⟨(hr t ht).1,ZgY n t ht,(hr t ht).2.2.mono (by omega)⟩)
  refine⟨D,a2 R' D hs2 e1,l2 R' D hs2 e2,?_⟩
  have lies:∀x,Zay n G R x∧d ∣ Zab c x n→Zay n G R' x:=fun x h=>⟨h.1.1,fun t ht=>by
   obtain⟨r,e,q⟩:=ZqJ ht ok h.1.2 h.2 (hB t ht)
   cases e
   exact q⟩
  rcases hD.tf with⟨rfl,no⟩ | ⟨G2,R2,rfl,h1,h2,h3,h4⟩
  ·exact .inl ⟨rfl,fun x h=>no x (lies x h)⟩
  ·exact .inr ⟨G2,R2,rfl,h1,h2,fun x h=>h3 x (lies x h),R',fun t ht=>(hr t ht).1,hB,h4⟩
theorem Zjj{x:Int}(op:RestOk p)(oq:RestOk q)(h:RIn p q)(hx:Zai p x): Zai q x:=by
 unfold RIn at h
 split at h
 ·rw[←h];exact hx
 ·refine(Zbb oq.nn x).mpr ?_
  have a:=(Zbb op.nn x).mp hx
  have b:=Int.dvd_trans (Int.dvd_of_emod_eq_zero h.1) a
  have:=Int.dvd_add b (Int.dvd_of_emod_eq_zero h.2)
  rwa [show x-p.2+(p.2-q.2)=x-q.2 by omega]at this
theorem ZeY(o2:∀t,t<n→RestOk (R2 t))(o:∀t,t<n→RestOk (R t))(h:Zbz n G2 R2 G R)(l:Zay n G2 R2 x): Zay n G R x:=by
 refine⟨fun i j hi hj b e=>?_,fun t ht=>Zjj (o2 t ht) (o t ht) (h.2 t ht) (l.2 t ht)⟩
 obtain⟨y,h1,h2⟩:=h.1 i hi j hj b e
 have:=l.1 i j hi hj y h1
 omega
theorem Zgu{G1 G3:Nat→Nat→Option Int}{R1 R3:Nat→Int×Int}(o1:∀t,t<n→RestOk (R1 t))(o2:∀t,t<n→RestOk (R2 t))(o3:∀t,t<n→RestOk (R3 t))(h:Zbz n G1 R1 G2 R2)(k:Zbz n G2 R2 G3 R3): Zbz n G1 R1 G3 R3:=⟨fun i hi j hj=>Zcg (h.1 i hi j hj) (k.1 i hi j hj),fun t ht=>Zjx (o1 t ht) (o3 t ht) fun x hx=>Zjj (o2 t ht) (o3 t ht) (k.2 t ht) (Zjj (o1 t ht) (o2 t ht) (h.2 t ht) hx)⟩
theorem Zg1(o:∀t,t<n→RestOk (R t))(h:Zbz n G2 R2 (amG n G c top) R): Zbz n G2 R2 G R:=⟨fun i hi j hj=>Zcg (h.1 i hi j hj) (ZyR i j),h.2⟩
noncomputable def AM(n:Nat)(c:Nat→Int)(top:Int)(x:Nat→Int): Prop:=∃G R,(∀y,grt n G (fun k=>-(c k))=some y→-y≤top)∧Zay n (amG n G c top) R x
theorem ZoX{a b:T}: Zdm [.none,a,b]=some .none:=by
 apply Pk.eq
 unfold Zdm Zio
 walk_at "zz"
 rfl
theorem Zyk(hM:0<M)(bM:Bd m M)(h:RB M k q): Bd m q.1:=by
 rcases h.2.1 with e | e
 ·rw[e];exact Zcp
 ·have:=Nat.le_of_dvd (by omega) (Int.natAbs_dvd_natAbs.mpr e)
  unfold Bd at *
  omega
theorem Zp8(h:RestOk q): Zai q 0↔q.2=0:=by
 rw[Zbb h.nn]
 constructor
 ·intro d
  rcases h with z | ⟨z1,z2,z3⟩
  ·rw[z]at d
   have:=Int.zero_dvd.mp d
   omega
  ·refine Classical.byContradiction fun q=>?_
   have:=Int.le_of_dvd (by omega) ((Int.dvd_neg).mpr d)
   omega
 ·intro e
  rw[e]
  exact Int.dvd_zero _
theorem ZnC(ok:∀t,t<n→RestOk (R t))(h:∀t,t<n→Zai (R t) (x t)): Zai (ZaN c R n) (Zab c x n):=by
 rw[Zdb ok n (Zz10 n)]
 exact(ZcI (ZdV _ _ _) _).mpr (Zn2 ok h n (Zz10 n))
theorem ZfW(ok:∀t,t<n→RestOk (R t)): RestOk (ZaN c R n):=by
 rw[Zdb ok n (Zz10 n)]
 exact Zcf (ZdV _ _ _) _
theorem Zn6(hn:n≤20)(ok:∀t,t<n→RestOk (R t))(bR:∀t,t<n→RBd 300 (R t))(bc:∀i,i<n+1→Bd 300 (c i))(hr:Zai (ZaN c R n) 0)(h1:Zb6 [Zz n G R,ZP n c,.int 0]=some D1∧ZcH [Zz n G R,ZP n c,.int 0]=some D1)(h2:Zb6 [D1,ZP n fun k=>-(c k),.int 0]=some D2∧ZcH [D1,ZP n fun k=>-(c k),.int 0]=some D2)(h3:Zdm [D2,ZP n c,.int 0]=some D)(h4:(D2=.none∧D=.none)∨((∃G R,D2=Zz n G R)∧ZeO [D2,ZP n c,.int 0]=some D)): Zeg [Zz n G R,ZP n c]=some D∧Zgj [Zz n G R,ZP n c]=some D:=by
 have ht:Zz n G R=.tup [ZW (n+1) G,.lst (tab n fun i=>ZT (R i))]:=rfl
 have hs:ZP n c=.lst (tab (n+1) fun k=>.int (c k)):=rfl
 have hg:∀{Q:T→Prop},Q (.lst (tab n fun i=>ZT (R i)))→Pk (Zm (Zz n G R) (.int 1)) Q:=fun h=>⟨_,by rw[ht];rfl,h⟩
 have bn:Bd 300 (-1):=(show Bd 1 (-1)by unfold Bd;decide).mono (by decide)
 have ep:ZT (ZaN c R n)=.tup [.int (ZaN c R n).1,.int (ZaN c R n).2]:=rfl
 have hz:=(Zp8 (ZfW (c:=c) ok)).mp hr
 constructor
 ·apply Pk.eq
  unfold Zeg Zir
  walk_at "zz"
  refine hg ?_
  walk_at "zz"
  refine Zy (Zgt (i:=300) (by omega) (by decide) (by decide) bc bR ok) ?_
  walk_at "zz"
  refine Zy (ZeJ (ZfW ok)) ?_
  rw[ZaB hr]
  walk_at "zz"
  refine Zy h1.1 ?_
  walk_at "zz"
  refine Zy (ZeF (b:=300) (by omega) (by decide) bc bn) ?_
  rw[Zni]
  walk_at "zz"
  refine Zy h2.1 ?_
  walk_at "zz"
  exact Zy h3 rfl
 ·apply Pk.eq
  unfold Zgj Zkd
  have hcp:∀{σ:TL},σ 1=some (ZP n c)→Pk (Zan (ZaD (Za 1)) (Z2 100) Zaa (pUn Za0 (Za 100)) σ) fun t=>t=ZP n fun k=>-(c k):=fun e=>by
   unfold ZP at e
   refine Zb8 (n:=n+1) (a:=fun k=>.int (c k)) (b:=fun k=>.int (-(c k))) (by omega) ?_ (fun k hk=>?_) rfl
   ·walk_at "zz"
    rfl
   ·walk_at "zz"
    rfl
  walk_at "zz"
  refine hg ?_
  walk_at "zz"
  refine Zy (ZjT (b:=300) (by omega) (by decide) bc bR ok) ?_
  rw[ep,hz]
  walk_at "zz"
  refine Zy h1.2 ?_
  walk_at "zz"
  refine(hcp (by walk_at "zr")).mono ?_
  rintro _ rfl
  walk_at "zz"
  refine Zy h2.2 ?_
  rcases h4 with⟨rfl,rfl⟩ | ⟨⟨G3,R3,rfl⟩,h4⟩
  ·walk_at "zz"
   rfl
  ·have hne:∀{Q:T→Prop},Q (.bool false)→Pk (qIs (Zz n G3 R3) .none) Q:=fun h=>⟨_,rfl,h⟩
   walk_at "zz"
   refine hne ?_
   walk_at "zz"
   exact Zy h4 rfl
theorem ZvZ(hn:n≤20)(ok:∀t,t<n→RestOk (R t))(bR:∀t,t<n→RBd 300 (R t))(bc:∀i,i<n+1→Bd 300 (c i))(hr:¬Zai (ZaN c R n) 0): Zeg [Zz n G R,ZP n c]=some .none∧Zgj [Zz n G R,ZP n c]=some .none:=by
 have ht:Zz n G R=.tup [ZW (n+1) G,.lst (tab n fun i=>ZT (R i))]:=rfl
 have hg:∀{Q:T→Prop},Q (.lst (tab n fun i=>ZT (R i)))→Pk (Zm (Zz n G R) (.int 1)) Q:=fun h=>⟨_,by rw[ht];rfl,h⟩
 have ep:ZT (ZaN c R n)=.tup [.int (ZaN c R n).1,.int (ZaN c R n).2]:=rfl
 have hz:¬(ZaN c R n).2=0:=fun h=>hr ((Zp8 (ZfW (c:=c) ok)).mpr h)
 constructor
 ·apply Pk.eq
  unfold Zeg Zir
  walk_at "zz"
  refine hg ?_
  walk_at "zz"
  refine Zy (Zgt (i:=300) (by omega) (by decide) (by decide) bc bR ok) ?_
  walk_at "zz"
  refine Zy (ZeJ (ZfW ok)) ?_
  rw[ZaC hr]
  walk_at "zz"
  rfl
 ·apply Pk.eq
  unfold Zgj Zkd
  walk_at "zz"
  refine hg ?_
  walk_at "zz"
  refine Zy (ZjT (b:=300) (by omega) (by decide) bc bR ok) ?_
  rw[ep]
  walk_at "zz"
  rfl
theorem Zrt(bc:∀i,i<n+1→Bd b (c i)): ∀t,t<n→∀j,j<n+1→Bd (b+1) (ZaG c (t+1) j):=fun t ht=>Zyi bc (t+1) (by omega)
theorem Zyl(hn:n≤4)(hd:∀i,i<n+1→G i i=some 0)(ok:∀t,t<n→RestOk (R t))(sG:SmG 137 n G)(sR:SmR 137 n R)(bc:∀i,i<n+1→Bd 300 (c i)): ∃D,Zeg [Zz n G R,ZP n c]=some D∧Zgj [Zz n G R,ZP n c]=some D∧Tf n (fun x=>Zay n G R x∧Zab c x n=0) (fun G2 R2=>Zbz n G2 R2 G R∧∀x,Zay n G2 R2 x→AM n c 0 x∧AM n (fun k=>-(c k)) 0 x) D:=by
 have bR:∀t,t<n→RBd 300 (R t):=fun t ht=>⟨(show Bd 137 _ from(sR t ht).1).mono (by decide),(show Bd 137 _ from(sR t ht).2).mono (by decide)⟩
 have bM:Bd 549 (ZcQ R n):=(Zg7 (k:=137) (by decide) (fun t ht=>(sR t ht).1) n (Zz10 n)).mono (by omega)
 have hM:=ZgX ok n (Zz10 n)
 have hR:∀t,t<n→RB (ZcQ R n) 610 (R t):=fun t ht=>⟨ok t ht,ZgY n t ht,(show Bd 137 _ from(sR t ht).2).mono (by decide)⟩
 by_cases hr:Zai (ZaN c R n) 0
 ·obtain⟨D1,a1,b1,t1⟩:=Zg0 (b:=300) (k:=610) (c:=c) (top:=0) (by omega) (by decide) (by decide) (by omega) (by omega) hM (bM.mono (by decide)) hd (fun i j hi hj y e=>(show Bd 137 y from sG i j hi hj y e).mono (by decide)) hR bc Zcp
  rcases t1 with⟨rfl,no⟩ | ⟨G1,R1,rfl,hd1,hR1,bG1,li1,in1,hc1⟩
  ·obtain⟨e1,e2⟩:=Zn6 (D:=.none) (by omega) ok bR bc hr ⟨a1,b1⟩ ⟨ZtE,Zsu⟩ ZoX (.inl ⟨rfl,rfl⟩)
   exact⟨.none,e1,e2,.inl ⟨rfl,fun x h=>no x ⟨h.1,by omega⟩⟩⟩
  ·obtain⟨D2,a2,b2,t2⟩:=Zg0 (b:=629) (k:=1268) (c:=fun k=>-(c k)) (top:=0) (by omega) (by decide) (by decide) (by omega) (by omega) hM (bM.mono (by decide)) hd1 (fun i j hi hj y e=>(bG1 i j hi hj y e).mono (by omega)) (fun t ht=>(hR1 t ht).mono (by omega)) (fun i hi=>(ZfV bc i hi).mono (by decide)) Zcp
   rcases t2 with⟨rfl,no⟩ | ⟨G2,R2,rfl,hd2,hR2,bG2,li2,in2,hc2⟩
   ·obtain⟨e1,e2⟩:=Zn6 (D:=.none) (by omega) ok bR bc hr ⟨a1,b1⟩ ⟨a2,b2⟩ ZoX (.inl ⟨rfl,rfl⟩)
    exact⟨.none,e1,e2,.inl ⟨rfl,fun x h=>no x ⟨li1 x ⟨h.1,by omega⟩,by rw[ZdA];omega⟩⟩⟩
   ·obtain⟨D,a3,b3,t3⟩:=Zrs (k:=1287) (b:=301) (m:=549) (K:=5600) (G:=G2) (R:=R2) (c:=c) (d:=0) (by omega) (by decide) (by omega) (by decide) (by decide) (by omega) (by omega) hd2 (fun i j hi hj y e=>(bG2 i j hi hj y e).mono (by omega)) (fun t ht=>(hR2 t ht).1) (fun t ht=>Zyk hM bM (hR2 t ht)) (fun t ht=>((hR2 t ht).mono (show 1268+3*n+7≤1287 by omega)).bd hM (bM.mono (by decide))) (fun i hi=>(bc i hi).mono (by decide)) (Zrt bc) Zcp
    obtain⟨e1,e2⟩:=Zn6 (by omega) ok bR bc hr ⟨a1,b1⟩ ⟨a2,b2⟩ a3 (.inr ⟨⟨G2,R2,rfl⟩,b3⟩)
    refine⟨D,e1,e2,?_⟩
    rcases t3 with⟨rfl,no⟩ | ⟨G3,R3,rfl,hd3,ok3,li3,R',ok',bes,in3⟩
    ·exact .inl ⟨rfl,fun x h=>no x ⟨li2 x ⟨li1 x ⟨h.1,by omega⟩,by rw[ZdA];omega⟩,by rw[h.2];exact Int.dvd_zero _⟩⟩
    ·have ok1:∀t,t<n→RestOk (R1 t):=fun t ht=>(hR1 t ht).1
     have ok2:∀t,t<n→RestOk (R2 t):=fun t ht=>(hR2 t ht).1
     have i32:Zbz n G3 R3 G2 R2:=Zgu ok3 ok' ok2 in3 ⟨fun i hi j hj=>Zb7,fun t ht=>by
      refine Zjx (ok' t ht) (ok2 t ht) fun x hx=>?_
      have b:=bes t ht
      unfold Zb4 at b
      split at b
      ·exact((b.2 x).mp hx).1
      ·rw[Option.some.inj b]at hx;exact hx⟩
     have i31:Zbz n G3 R3 (amG n G1 (fun k=>-(c k)) 0) R1:=Zgu ok3 ok2 ok1 i32 in2
     have i30:Zbz n G3 R3 (amG n G c 0) R:=Zgu ok3 ok1 ok (Zg1 ok1 i31) in1
     refine .inr ⟨G3,R3,rfl,hd3,ok3,fun x h=>li3 x ⟨li2 x ⟨li1 x ⟨h.1,by omega⟩,by rw[ZdA];omega⟩,by rw[h.2];exact Int.dvd_zero _⟩,Zg1 ok i30,fun x l=>⟨⟨G,R,hc1,ZeY ok3 ok i30 l⟩,⟨G1,R1,hc2,ZeY ok3 ok1 i31 l⟩⟩⟩
 ·obtain⟨e1,e2⟩:=ZvZ (G:=G) (by omega) ok bR bc hr
  exact⟨.none,e1,e2,.inl ⟨rfl,fun x h=>hr (by rw[←h.2];exact ZnC ok h.1.2)⟩⟩
noncomputable def Off(n:Nat)(c:Nat→Int)(D D':T): Prop:=(D=.none∧D'=.none)∨∃G R,D=Zz n G R∧Zeb [D,ZP n c]=some (oT (grt n G c))∧(((∃y,grt n G c=some y∧y≤0)∧ZcH [D,ZP n c,.int (-1)]=some D')∨((¬∃y,grt n G c=some y∧y≤0)∧D'=D))
theorem Zth{a:T}: Zdx [.none,a]=some .none:=by
 apply Pk.eq
 unfold Zdx ZgL
 walk_at "zz"
 rfl
theorem leO_0: leO a (some 0)↔∃y,a=some y∧y≤0:=⟨fun h=>h 0 rfl,fun h z e=>by cases e;exact h⟩
theorem Zr1(hn:n≤20)(hb1:1≤b)(hb:b≤900)(hB:b+b+n+6≤k)(hk:k+2*n+4≤7000)(hM:0<M)(bM:Bd k M)(hd:∀i,i<n+1→G i i=some 0)(bG:GB b n G)(hR:∀t,t<n→RB M k (R t))(bc:∀i,i<n+1→Bd b (c i)): ∃D,Zdx [Zz n G R,ZP n c]=some D∧Off n c (Zz n G R) D∧Tm n (k+3*n+7) M (fun x=>Zay n G R x∧Zab c x n≠0) (fun G2 R2=>Zbz n G2 R2 G R∧∀x,Zay n G2 R2 x→(∃y,grt n G c=some y∧y≤0)→AM n c (-1) x) D:=by
 have ht:Zz n G R=.tup [ZW (n+1) G,.lst (tab n fun i=>ZT (R i))]:=rfl
 have hne:∀{Q:T→Prop},Q (.bool true)→Pk (ZaU (Zz n G R) .none) Q:=fun h=>⟨_,by rw[ht];rfl,h⟩
 have hg:=ZlU (R:=R) (c:=c) (b:=b) (by omega) (by omega) hb1 bG bc
 have hlg:=Zgk (R:=R) (c:=c) (b:=b) (by omega) (by omega) bG bc
 have ok:∀t,t<n→RestOk (R t):=fun t ht=>(hR t ht).1
 by_cases h:∃y,grt n G c=some y∧y≤0
 ·obtain⟨D,e1,e2,hD⟩:=Zg0 (top:=-1) hn hb1 hb hB hk hM bM hd bG hR bc ((show Bd 1 (-1)by unfold Bd;decide).mono hb1)
  refine⟨D,?_,.inr ⟨G,R,rfl,hlg,.inl ⟨h,e2⟩⟩,?_⟩
  ·apply Pk.eq
   unfold Zdx ZgL
   walk_at "zz"
   refine hne ?_
   walk_at "zz"
   refine Zy hg ?_
   walk_at "zz"
   refine Zy (Zlc (b:=some 0)) ?_
   rw[ZaB (leO_0.mpr h)]
   walk_at "zz"
   exact Zy e1 rfl
  ·have lt:∀x,Zay n G R x∧Zab c x n≠0→Zab c x n≤-1:=fun x q=>by
    obtain⟨y,h1,h2⟩:=h
    have:=Zjw q.1 h1
    omega
   rcases hD with⟨rfl,no⟩ | ⟨G2,R2,rfl,h1,h2,h3,h4,h5,hc⟩
   ·exact .inl ⟨rfl,fun x q=>no x ⟨q.1,lt x q⟩⟩
   ·exact .inr ⟨G2,R2,rfl,h1,h2,h3,fun x q=>h4 x ⟨q.1,lt x q⟩,Zg1 ok h5,fun x l _=>⟨G,R,hc,ZeY (fun t ht=>(h2 t ht).1) ok h5 l⟩⟩
 ·refine⟨_,?_,.inr ⟨G,R,rfl,hlg,.inr ⟨h,rfl⟩⟩,.inr ⟨G,R,rfl,hd,fun t ht=>(hR t ht).mono (by omega),fun i j hi hj y e=>(bG i j hi hj y e).mono (by omega),fun x q=>q.1,⟨fun i hi j hj=>Zb7,fun t ht=>Zqu⟩,fun x _ q=>absurd q h⟩⟩
  apply Pk.eq
  unfold Zdx ZgL
  walk_at "zz"
  refine hne ?_
  walk_at "zz"
  refine Zy hg ?_
  walk_at "zz"
  refine Zy (Zlc (b:=some 0)) ?_
  rw[ZaC (fun q=>h (leO_0.mp q))]
  walk_at "zz"
  rfl
theorem Zp9(hn:n≤20)(h1:Off n c D D1)(h2:Off n (fun k=>-(c k)) D1 D2): Zlb [D,ZP n c]=some D2:=by
 apply Pk.eq
 unfold Zlb Zo9
 have hs:ZP n c=.lst (tab (n+1) fun k=>.int (c k)):=rfl
 have step:∀{c:Nat→Int} {D D':T} {σ:TL} {P:T→Prop} {N:TL→Prop},Off n c D D'→σ 0=some D→(∀σ',σ' 0=some D'→N σ')→Psk (ZL (Zv (Zc ZaU (Za 0) (ZU))) (Zr (ZJ 3 (Zp Zeb (Zd (Za 0) (Zd (Za 2) Zl)))) (ZL (Zah (Zv (Zc ZaU (Za 3) (ZU))) (Zah (Zv (Zc qLe (Za 3) (Zj 0))) Zaa)) (ZJ 0 (Zp ZcH (Zd (Za 0) (Zd (Za 2) (Zd (pUn Za0 (Zj 1)) Zl))))) ZN)) ZN (Z1 σ 2 (ZP n c))) P N:=fun {c D D' σ P N} h e0 hN=>by
  rcases h with⟨rfl,rfl⟩ | ⟨G,R,rfl,hg,h⟩
  ·walk_at "zz"
   exact hN _ (by walk_at "zr")
  ·have hne:∀{Q:T→Prop},Q (.bool true)→Pk (ZaU (Zz n G R) .none) Q:=fun h=>⟨_,rfl,h⟩
   generalize Zz n G R=T0 at *
   walk_at "zz"
   refine hne ?_
   walk_at "zz"
   refine Zy hg ?_
   walk_at "zz"
   rcases h with⟨⟨y,ey,hy⟩,ha⟩ | ⟨h,rfl⟩
   ·rw[ey,Zam]
    walk_at "zz"
    refine Zy ha ?_
    exact hN _ ZbD
   ·cases e:grt n G c with
    | none=>
     rw[Za1]
     walk_at "zz"
     exact hN _ (by walk_at "zr")
    | some y=>
     have hy:¬y≤0:=fun q=>h ⟨y,e,q⟩
     rw[Zam]
     walk_at "zz"
     exact hN _ (by walk_at "zr")
 have hcp:∀{σ:TL},σ 1=some (ZP n c)→Pk (Zan (ZaD (Za 1)) (Z2 100) Zaa (pUn Za0 (Za 100)) σ) fun t=>t=ZP n fun k=>-(c k):=fun e=>by
  unfold ZP at e
  refine Zb8 (n:=n+1) (a:=fun k=>.int (c k)) (b:=fun k=>.int (-(c k))) (by omega) ?_ (fun k hk=>?_) rfl
  ·walk_at "zz"
   rfl
  ·walk_at "zz"
   rfl
 refine Ze2 rfl ?_
 refine Zdd ?_
 refine ZnL (ts:=[ZP n c,ZP n fun k=>-(c k)]) (P:=fun m σ=>σ 0=some (if m=0 then D else if m=1 then D1 else D2)) ?_ rfl ?_ ?_
 ·walk_at "zz"
  refine(hcp (by walk_at "zr")).mono ?_
  rintro _ rfl
  walk_at "zz"
  rfl
 ·rintro i t σ ei e0
  match i,ei with
  | 0,ei=>cases ei;exact step h1 e0 fun σ' h=>h
  | 1,ei=>cases ei;exact step h2 e0 fun σ' h=>h
 ·rintro σ e0
  have e0:σ 0=some D2:=e0
  walk_at "zz"
  rfl
theorem ZoN(hn:n≤20)(bc:∀i,i<n+1→Bd 300 (c i))(h1:Zdx [T0,ZP n c]=some D1)(h2:Zdx [D1,ZP n fun k=>-(c k)]=some D2)(h3:Zsi n D2): Zfi [T0,ZP n c]=some D2:=by
 apply Pk.eq
 unfold Zfi Zkc
 have bn:Bd 300 (-1):=(show Bd 1 (-1)by unfold Bd;decide).mono (by decide)
 have hf:ZeU [D2]=some D2:=by
  rcases h3 with rfl | ⟨G,R,rfl,_⟩
  ·exact ZiY .none
  ·exact ZiY ((Zre (by omega)).mono (by decide))
 walk_at "zz"
 refine Zy h1 ?_
 walk_at "zz"
 refine Zy (ZeF (b:=300) (by omega) (by decide) bc bn) ?_
 rw[Zni]
 walk_at "zz"
 refine Zy h2 ?_
 walk_at "zz"
 exact Zy hf rfl
theorem Zv0(hn:n≤4)(hd:∀i,i<n+1→G i i=some 0)(ok:∀t,t<n→RestOk (R t))(sG:SmG 137 n G)(sR:SmR 137 n R)(bc:∀i,i<n+1→Bd 300 (c i)): ∃D,Zfi [Zz n G R,ZP n c]=some D∧Zlb [Zz n G R,ZP n c]=some D∧Tf n (fun x=>Zay n G R x∧Zab c x n≠0) (fun G2 R2=>Zbz n G2 R2 G R∧∀x,Zay n G2 R2 x→(∃y,grt n G c=some y∧y≤0)→AM n c (-1) x) D:=by
 have bM:Bd 549 (ZcQ R n):=(Zg7 (k:=137) (by decide) (fun t ht=>(sR t ht).1) n (Zz10 n)).mono (by omega)
 have hM:=ZgX ok n (Zz10 n)
 have hR:∀t,t<n→RB (ZcQ R n) 610 (R t):=fun t ht=>⟨ok t ht,ZgY n t ht,(show Bd 137 _ from(sR t ht).2).mono (by decide)⟩
 obtain⟨D1,a1,o1,t1⟩:=Zr1 (b:=300) (k:=610) (c:=c) (by omega) (by decide) (by decide) (by omega) (by omega) hM (bM.mono (by decide)) hd (fun i j hi hj y e=>(show Bd 137 y from sG i j hi hj y e).mono (by decide)) hR bc
 rcases t1 with⟨rfl,no⟩ | ⟨G1,R1,rfl,hd1,hR1,bG1,li1,in1,am1⟩
 ·exact⟨.none,ZoN (by omega) bc a1 Zth (.inl rfl),Zp9 (by omega) o1 (.inl ⟨rfl,rfl⟩),.inl ⟨rfl,no⟩⟩
 ·obtain⟨D2,a2,o2,t2⟩:=Zr1 (b:=629) (k:=1268) (c:=fun k=>-(c k)) (by omega) (by decide) (by decide) (by omega) (by omega) hM (bM.mono (by decide)) hd1 (fun i j hi hj y e=>(bG1 i j hi hj y e).mono (by omega)) (fun t ht=>(hR1 t ht).mono (by omega)) (fun i hi=>(ZfV bc i hi).mono (by decide))
  have t3:=t2.tf
  refine⟨D2,ZoN (by omega) bc a1 a2 t3.due,Zp9 (by omega) o1 o2,?_⟩
  rcases t3 with⟨rfl,no⟩ | ⟨G2,R2,rfl,hd2,ok2,li2,in2,am2⟩
  ·exact .inl ⟨rfl,fun x h=>no x ⟨li1 x h,by rw[ZdA];omega⟩⟩
  ·exact .inr ⟨G2,R2,rfl,hd2,ok2,fun x h=>li2 x ⟨li1 x h,by rw[ZdA];omega⟩,Zgu ok2 (fun t ht=>(hR1 t ht).1) ok in2 in1,fun x l=>am1 x (ZeY ok2 (fun t ht=>(hR1 t ht).1) in2 l)⟩
theorem Zxk: [T.int (c 0-top)]++(tab (n+1) fun i=>T.int (c i)).drop 1=tab (n+1) fun i=>T.int (Zcq c top i):=by
 apply List.ext_getElem
 ·simp[tab]
 ·intro i h1 h2
  cases i with
  | zero=>simp[tab,Zcq]
  | succ i=>simp[tab,Zcq]
theorem Zxl(hn:n≤100)(ok:∀t,t<n→RestOk (R t)): Pk (Zc4 [Zz n G R,Zaz n x]) fun t=>t=.bool false∨(t=.bool true∧Zay n G R x):=by
 unfold Zc4 ZgH Zz ZW Zaq ZaQ Zaz
 walk_at "zz"
 rw[Zol]
 refine Za2 (n:=n+1) (a:=fun i=>.int i) (P:=fun m σ=>σ 0=some (Zz n G R)∧σ 1=some (.lst (tab n fun i=>.int (x i)))∧σ 2=some (.lst (tab (n+1) fun i=>.int (Zas x i)))∧∀i j,i<m→j<n+1→∀b,G i j=some b→Zas x i-Zas x j≤b) ?_ ⟨by walk_at "zr",by walk_at "zr",by walk_at "zr",fun i j hi=>by omega⟩ ?_ ?_
 ·walk_at "zz"
  rfl
 ·rintro i σ hi ⟨e0,e1,e2,hm⟩
  refine Za2 (n:=n+1) (a:=fun i=>.int i) (P:=fun m σ=>σ 0=some (Zz n G R)∧σ 1=some (.lst (tab n fun i=>.int (x i)))∧σ 2=some (.lst (tab (n+1) fun i=>.int (Zas x i)))∧σ 3=some (.int i)∧∀j,j<m→∀b,G i j=some b→Zas x i-Zas x j≤b) ?_ ⟨by walk_at "zr",by walk_at "zr",by walk_at "zr",by walk_at "zr",fun j hj=>by omega⟩ ?_ ?_
  ·walk_at "zz"
   rfl
  ·rintro j σ hj ⟨f0,f1,f2,f3,hj2⟩
   unfold Zz ZW Zaq ZaQ at f0
   walk_at "zz"
   cases hg:G i j with
   | none=>
    rw[Za1]
    walk_at "zz"
    refine⟨by walk_at "zr",by walk_at "zr",by walk_at "zr",by walk_at "zr",fun j' h' b e=>?_⟩
    by_cases z:j'=j
    ·rw[z,hg]at e;cases e
    ·exact hj2 j' (by omega) b e
   | some b=>
    rw[Zam]
    walk_at "zz"
    rw[hg,Zam]
    walk_at "zz"
    refine⟨fun q=>?_,fun q=>?_⟩
    ·walk_at "zz"
     exact .inl rfl
    ·walk_at "zz"
     refine⟨by walk_at "zr",by walk_at "zr",by walk_at "zr",by walk_at "zr",fun j' h' b' e=>?_⟩
     by_cases z:j'=j
     ·rw[z,hg]at e
      cases e
      have:=of_decide_eq_false q
      rw[z]
      omega
     ·exact hj2 j' (by omega) b' e
  ·rintro σ ⟨f0,f1,f2,f3,f4⟩
   refine⟨f0,f1,f2,fun i' j hi' hj b e=>?_⟩
   by_cases z:i'=i
   ·rw[z]at e ⊢;exact f4 j hj b e
   ·exact hm i' j (by omega) hj b e
 ·rintro σ ⟨e0,e1,e2,hm⟩
  refine Zdd ?_
  refine Za2 (n:=n) (a:=fun i=>.int i) (P:=fun m σ=>σ 0=some (Zz n G R)∧σ 1=some (.lst (tab n fun i=>.int (x i)))∧∀t,t<m→Zai (R t) (x t)) ?_ ⟨e0,e1,fun t h=>by omega⟩ ?_ ?_
  ·walk_at "zz"
   rfl
  ·rintro t σ ht ⟨f0,f1,hr⟩
   unfold Zz ZW Zaq ZaQ ZT at f0
   have ho:=ok t ht
   have step:Zai (R t) (x t)→∀t',t'<t+1→Zai (R t') (x t'):=fun h t' ht'=>by
    by_cases z:t'=t
    ·rw[z];exact h
    ·exact hr t' (by omega)
   walk_at "zz"
   by_cases c:(R t).1=0
   ·by_cases d:x t-(R t).2=0
    ·walk_at "zz"
     refine⟨by walk_at "zr",by walk_at "zr",step ?_⟩
     unfold Zai
     exact⟨fun _=>by omega,fun q=>by omega⟩
    ·walk_at "zz"
     exact .inl rfl
   ·have hp:0<(R t).1:=by have:=ho.nn;omega
    walk_at "zz"
    rw[Int.fmod_eq_emod_of_nonneg _ (by omega)]
    refine⟨fun q=>?_,fun q=>?_⟩
    ·walk_at "zz"
     exact .inl rfl
    ·walk_at "zz"
     refine⟨by walk_at "zr",by walk_at "zr",step ?_⟩
     unfold Zai
     refine⟨fun z=>absurd z c,fun _=>?_⟩
     have:=of_decide_eq_false q
     exact Classical.byContradiction fun h=>this h
  ·rintro σ ⟨f0,f1,hr⟩
   walk_at "zz"
   exact .inr ⟨rfl,hm,hr⟩
theorem ZqK(hn:n≤100)(ok:∀t,t<n→RestOk (R t)): ∃b,Zc4 [Zz n G R,Zaz n x]=some (.bool b)∧(b=true↔Zay n G R x):=by
 obtain⟨t,e,h⟩:=Zxl (x:=x) (G:=G) hn ok
 rcases h with rfl | ⟨rfl,h⟩
 ·refine⟨false,e,⟨fun q=>(by cases q),fun h=>?_⟩⟩
  have:=Zvb hn h ok
  rw[e]at this
  cases this
 ·exact⟨true,e,⟨fun _=>h,fun _=>rfl⟩⟩
theorem Zvc: Zc4 [.none,Zaz n x]=some (.bool false):=by
 apply Pk.eq
 unfold Zc4 ZgH
 walk_at "zz"
 rfl
noncomputable def Zce(n:Nat)(c:Nat→Int): Prop:=∀k,1≤k→k≤n→c k=0
theorem Zjk(h:Zce n c): grt n G c=some (c 0):=by
 unfold grt
 have hu:ZaE c n=[]:=List.eq_nil_iff_forall_not_mem.mpr fun i hi=>by
  have:=ups_mem.mp hi
  have z:=h i (by omega) (by omega)
  omega
 have hd:¬Df n c:=fun q=>by have:=(df_iff.mp q).1;rw[hu]at this;cases this
 rw[ZaC hd]
 have:∀j,j≤n→ZbZ c (S40 G) j=(some (c 0),some (c 0)):=fun j=>by
  induction j with
  | zero=>intro _;rfl
  | succ j ih=>
   intro hj
   show ZjI (ZbZ c (S40 G) j) (Zcw (S40 G j) (c (j+1)))=_
   rw[ih (by omega),h (j+1) (by omega) hj]
   show(some (c 0+0),some (c 0+0))=_
   rw[Int.add_zero]
 show(ZbZ c (S40 G) n).2=some (c 0)
 rw[this n (Zz10 n)]
theorem ZeZ{n:Nat}{c x:Nat→Int}(h:Zce n c): ∀j,j≤n→Zab c x j=c 0
 | 0,_=>rfl
 | j+1,hj=>by
  show Zab c x j+c (j+1)*x j=_
  rw[ZeZ h j (by omega),h (j+1) (by omega) hj,Int.zero_mul,Int.add_zero]
noncomputable def ZhL(n:Nat)(c:Nat→Int)(i:Nat): Prop:=1≤i∧i≤n∧∀k,1≤k→k≤n→k≠i→c k=0
noncomputable def Zsn(n:Nat)(c:Nat→Int)(i j:Nat): Prop:=1≤i∧i≤n∧1≤j∧j≤n∧i≠j∧c i=1∧c j = -1∧∀k,1≤k→k≤n→k≠i→k≠j→c k=0
noncomputable def PlC(n:Nat)(c:Nat→Int): Prop:=Zce n c∨(∃i,ZhL n c i∧c i≠0)∨∃i j,Zsn n c i j
theorem PlC.neg(h:PlC n c): PlC n fun k=>-(c k):=by
 rcases h with h | ⟨i,⟨h1,h2,h3⟩,h4⟩ | ⟨i,j,h1,h2,h3,h4,h5,h6,h7,h8⟩
 ·exact .inl fun k a b=>by show -(c k)=0;rw[h k a b];rfl
 ·exact .inr (.inl ⟨i,⟨h1,h2,fun k a b q=>by show -(c k)=0;rw[h3 k a b q];rfl⟩,fun q=>h4 (by have:-(c i)=0:=q;omega)⟩)
 ·exact .inr (.inr ⟨j,i,h3,h4,h1,h2,Ne.symm h5,by show -(c j)=1;rw[h7];rfl,by show -(c i) = -1;rw[h6],fun k a b q r=>by show -(c k)=0;rw[h8 k a b r q];rfl⟩)
theorem Zhu: unC i 0=0:=by unfold unC;rw[if_neg (by omega)]
theorem Zru(h:ZhL n c i): Zce n (ZaG c i):=fun k a b=>by
 show c k-unC i k*c i=0
 by_cases q:k=i
 ·rw[q,Zf4 h.1];omega
 ·rw[Zd1 q,h.2.2 k a b q];omega
theorem Zrv(h:ZhL n c i): Zab c x n=c 0+Zas x i*c i:=by
 have hv:Zab (ZaG c i) x n=Zab c x n-Zas x i*c i:=by
  rw[show ZaG c i=fun k=>c k-(fun a=>unC i a*c i) k from rfl,Zen,ZiQ,ZeX i (by have:=h.2.1;omega)]
 rw[ZeZ (Zru h) n (Zz10 n)]at hv
 have:ZaG c i 0=c 0:=by show c 0-unC i 0*c i=c 0;rw[Zhu];omega
 omega
theorem Zg9(h:PlC n c)(a:AM n c top x): Zab c x n≤top:=by
 obtain⟨G,R,hc,l⟩:=a
 rcases h with h | ⟨i,h,h0⟩ | ⟨i,j,h1,h2,h3,h4,h5,h6,h7,h8⟩
 ·have z:=hc (-(c 0)) (Zjk (c:=fun k=>-(c k)) fun k a b=>by show -(c k)=0;rw[h k a b];rfl)
  rw[ZeZ h n (Zz10 n)]
  omega
 ·have hi:=h.1
  have hn:=h.2.1
  have hcon:Zce n (alC c i):=fun k a b=>by
   show unC i k*c i-c k=0
   by_cases q:k=i
   ·rw[q,Zf4 h.1];omega
   ·rw[Zd1 q,h.2.2 k a b q];omega
  have e0:alC c i 0 = -(c 0):=by show unC i 0*c i-c 0=_;rw[Zhu];omega
  have ep:prt n G c top i=some ((-(c 0)+top).fdiv (if c i<0 then -(c i)else c i)):=by unfold prt;rw[Zjk hcon,e0];rfl
  rw[Zrv h]
  have f0:Zas x 0=0:=rfl
  rcases Int.lt_trichotomy (c i) 0 with q | q | q
  ·have e:amG n G c top 0 i=ZaR (apW n G c top 0 i) (prt n G c top i):=by
    unfold amG alW
    rw[if_neg (by omega),if_pos ⟨rfl,hi,hn,q⟩]
   obtain⟨y,e1,e2⟩:=Zhs (a:=apW n G c top 0 i) (b:=prt n G c top i) _ ep
   have:=l.1 0 i (by omega) (by omega) y (e.trans e1)
   rw[if_pos q]at e2
   rw[Int.fdiv_eq_ediv_of_nonneg _ (by omega)]at e2
   have m:=(Int.le_ediv_iff_mul_le (show 0 < -(c i)by omega)).mp (show -(Zas x i)≤(-(c 0)+top) / -(c i)by omega)
   rw[Int.neg_mul_neg]at m
   omega
  ·exact absurd q h0
  ·have e:amG n G c top i 0=ZaR (apW n G c top i 0) (prt n G c top i):=by
    unfold amG alW
    rw[if_pos ⟨rfl,hi,hn,q⟩]
   obtain⟨y,e1,e2⟩:=Zhs (a:=apW n G c top i 0) (b:=prt n G c top i) _ ep
   have:=l.1 i 0 (by omega) (by omega) y (e.trans e1)
   rw[if_neg (by omega)]at e2
   rw[Int.fdiv_eq_ediv_of_nonneg _ (by omega)]at e2
   have m:=(Int.le_ediv_iff_mul_le q).mp (show Zas x i≤(-(c 0)+top) / c i by omega)
   omega
 ·have hcon:Zce n (apC c i j):=fun k a b=>by
   show unC i k-unC j k-c k=0
   by_cases q:k=i
   ·rw[q,Zf4 h1,Zd1 h5,h6];rfl
   ·by_cases r:k=j
    ·rw[r,Zf4 h3,Zd1 (Ne.symm h5),h7];rfl
    ·rw[Zd1 q,Zd1 r,h8 k a b q r];rfl
  have e0:apC c i j 0 = -(c 0):=by show unC i 0-unC j 0-c 0=_;rw[Zhu,Zhu];omega
  have hv:Zab (apC c i j) x n=Zas x i-Zas x j-Zab c x n:=by
   rw[show apC c i j=fun k=>(fun a=>unC i a-unC j a) k-c k from rfl,Zen,Zen,ZeX i (by omega),ZeX j (by omega)]
  rw[ZeZ hcon n (Zz10 n),e0]at hv
  have e:amG n G c top i j=ZaR (G i j) (some (-(c 0)+top)):=by
   unfold amG alW
   rw[if_neg (by omega),if_neg (by omega)]
   unfold apW
   rw[if_neg h5,Zjk hcon,e0]
   rfl
  obtain⟨y,e1,e2⟩:=Zhs (a:=G i j) (b:=some (-(c 0)+top)) _ rfl
  have:=l.1 i j (by omega) (by omega) y (e.trans e1)
  omega
theorem ZnD(ok:∀t,t<n→RestOk (R t))(h:Zce n c): ZaN c R n=(0,c 0):=by
 have h1:∀j,j≤n→Zbr c R j=0∧ZbI c R j=c 0:=fun j=>by
  induction j with
  | zero=>intro _;exact⟨rfl,rfl⟩
  | succ j ih=>
   intro hj
   obtain⟨a,b⟩:=ih (by omega)
   have z:=h (j+1) (by omega) hj
   constructor
   ·show((Int.gcd (Zbr c R j) (c (j+1)*(R j).1):Nat):Int)=0
    rw[a,z,Int.zero_mul]
    rfl
   ·show ZbI c R j+c (j+1)*(R j).2=c 0
    rw[b,z,Int.zero_mul,Int.add_zero]
 obtain⟨a,b⟩:=h1 n (Zz10 n)
 rw[Zdb ok n (Zz10 n),a,b]
 rfl
theorem Zsk(h:0<d): ((Int.gcd 0 d:Nat):Int)=d:=by
 rw[Int.gcd_zero_left]
 omega
theorem Zxm(op:RestOk p)(h:Zai p v)(hd:d ∣ v): Zai (Zea p d) 0:=by
 unfold Zea
 refine(ZcI (by omega) _).mpr ?_
 have a:=(Zbb op.nn v).mp h
 have g1:((Int.gcd p.1 d:Nat):Int) ∣ p.1:=Int.gcd_dvd_left ..
 have g2:((Int.gcd p.1 d:Nat):Int) ∣ d:=Int.gcd_dvd_right ..
 have:=Int.dvd_sub (Int.dvd_trans g1 a) (Int.dvd_trans g2 hd)
 rwa [show v-p.2-v=0-p.2 by omega]at this
theorem Zr2: RestOk (Zea p d):=Zcf (by omega) _
noncomputable def EvC(n:Nat)(c:Nat→Int): Prop:=Zce n c∨∃i,ZhL n c i∧(c i=1∨c i = -1)
theorem Zuz(hd:0<d)(ok:∀t,t<n→RestOk (R t))(h0:Zai (Zea (ZaN c R n) d) 0)(hb:∀t,t<n→Zb4 n R c d t (some (R' t)))(l:∀t,t<n→Zai (R' t) (x t))(h:EvC n c): d ∣ Zab c x n:=by
 rcases h with h | ⟨i,h,q⟩
 ·rw[ZnD ok h]at h0
  have:=(ZcI (by omega) _).mp h0
  rw[Zsk hd]at this
  rw[ZeZ h n (Zz10 n)]
  have t:=(Int.dvd_neg).mpr this
  rwa [show -(0-(0,c 0).2)=c 0 by show -(0-c 0)=c 0;omega]at t
 ·obtain⟨t,rfl⟩:∃t,i=t+1:=⟨i-1,by have:=h.1;omega⟩
  have ht:t<n:=by have:=h.2.1;omega
  have b:=hb t ht
  unfold Zb4 at b
  rw[if_pos q]at b
  have hx:=((b.2 (x t)).mp (l t ht)).2
  unfold Zdk at hx
  rw[ZnD ok (Zru h)]at hx
  have hx:=(ZcI (by omega) _).mp hx
  have e0:ZaG c (t+1) 0=c 0:=by show c 0-unC (t+1) 0*c (t+1)=c 0;rw[Zhu];omega
  rw[Zsk hd,e0]at hx
  rw[Zrv h]
  have hx:d ∣ x t - -(c (t+1))*c 0:=hx
  show d ∣ c 0+x t*c (t+1)
  rcases q with e | e <;> rw[e]at hx ⊢
  ·rwa [show x t - -1*c 0=c 0+x t*1 by omega]at hx
  ·have:=(Int.dvd_neg).mpr hx
   rwa [show -(x t - -(-1)*c 0)=c 0+x t * -1 by omega]at this
theorem Zr3(hn:n≤4)(hd:∀i,i<n+1→G i i=some 0)(ok:∀t,t<n→RestOk (R t))(sG:SmG 137 n G)(sR:SmR 137 n R)(bc:∀i,i<n+1→Bd 301 (c i))(hd0:0<d)(bd:Bd 140 d): ∃D,ZeI [Zz n G R,ZP n c,.int d]=some D∧Tf n (fun x=>Zay n G R x∧d ∣ Zab c x n) (fun G2 R2=>Zbz n G2 R2 G R∧∀x,Zay n G2 R2 x→EvC n c→d ∣ Zab c x n) D:=by
 have bR:∀t,t<n→RBd 500 (R t):=fun t ht=>⟨(show Bd 137 _ from(sR t ht).1).mono (by decide),(show Bd 137 _ from(sR t ht).2).mono (by decide)⟩
 have bc5:∀i,i<n+1→Bd 500 (c i):=fun i hi=>(bc i hi).mono (by decide)
 have ht:Zz n G R=.tup [ZW (n+1) G,.lst (tab n fun i=>ZT (R i))]:=rfl
 have hg:∀{Q:T→Prop},Q (.lst (tab n fun i=>ZT (R i)))→Pk (Zm (Zz n G R) (.int 1)) Q:=fun h=>⟨_,by rw[ht];rfl,h⟩
 have bp:=Zji (m:=500) ok (fun t ht=>(bR t ht).1) bR bc5
 have hs:=Zgt (i:=500) (R:=R) (by omega) (by decide) (by decide) bc5 bR ok
 have hl:=ZoM (p:=ZaN c R n) (d:=d) (k:=1100) (by decide) (bp.1.mono (by omega)) (bd.mono (by decide))
 by_cases hr:Zai (Zea (ZaN c R n) d) 0
 ·obtain⟨D,a,_,t⟩:=Zrs (k:=500) (b:=302) (m:=137) (K:=2400) (G:=G) (R:=R) (c:=c) (d:=d) (by omega) (by decide) (by omega) (by decide) (by decide) (by omega) (by omega) hd (fun i j hi hj y e=>(show Bd 137 y from sG i j hi hj y e).mono (by decide)) ok (fun t ht=>(sR t ht).1) bR bc5 (Zrt bc) (bd.mono (by decide))
  refine⟨D,?_,?_⟩
  ·apply Pk.eq
   unfold ZeI Ziq
   clear t ht
   generalize Zz n G R=T0 at *
   walk_at "zz"
   refine hg ?_
   walk_at "zz"
   refine Zy hs ?_
   walk_at "zz"
   refine Zy hl ?_
   walk_at "zz"
   refine Zy (ZeJ Zr2) ?_
   rw[ZaB hr]
   walk_at "zz"
   exact Zy a rfl
  ·rcases t with h | ⟨G2,R2,rfl,h1,h2,h3,R',ok',bes,ins⟩
   ·exact .inl h
   ·refine .inr ⟨G2,R2,rfl,h1,h2,h3,Zgu h2 ok' ok ins ⟨fun i hi j hj=>Zb7,fun t ht=>?_⟩,fun x l e=>Zuz hd0 ok hr bes (ZeY h2 ok' ins l).2 e⟩
    refine Zjx (ok' t ht) (ok t ht) fun x hx=>?_
    have b:=bes t ht
    unfold Zb4 at b
    split at b
    ·exact((b.2 x).mp hx).1
    ·rw[Option.some.inj b]at hx;exact hx
 ·refine⟨.none,?_,.inl ⟨rfl,fun x h=>hr (Zxm (ZfW ok) (ZnC ok h.1.2) h.2)⟩⟩
  apply Pk.eq
  unfold ZeI Ziq
  walk_at "zz"
  refine hg ?_
  walk_at "zz"
  refine Zy hs ?_
  walk_at "zz"
  refine Zy hl ?_
  walk_at "zz"
  refine Zy (ZeJ Zr2) ?_
  rw[ZaC hr]
  walk_at "zz"
  rfl
theorem ss_: PyData.strOk (Str.ofString "same")=true:=by decide +kernel
theorem Zr4: ¬(T.str (Str.ofString "same")=T.str (Str.ofString "under")):=by
 intro h
 have:=T.str.inj h
 revert this
 decide +kernel
noncomputable def smT(n:Nat)(c:Nat→Int): T:=.tup [.str (Str.ofString "same"),ZP n c]
theorem Zrw{b:Bool}(h:(if b then Zeg [Zz n G R,ZP n c]else Zfi [Zz n G R,ZP n c])=some D): Zcu [Zz n G R,smT n c,.bool b]=some D:=by
 apply Pk.eq
 unfold Zcu Zhr
 have ht:Zz n G R=.tup [ZW (n+1) G,.lst (tab n fun i=>ZT (R i))]:=rfl
 have hne:∀{Q:T→Prop},Q (.bool false)→Pk (qIs (Zz n G R) .none) Q:=fun h=>⟨_,by rw[ht];rfl,h⟩
 unfold smT
 walk_at "zz"
 refine hne ?_
 walk_at "zz"
 refine Zbs (n:=1) (m:=1) (.str ss_) (.str su) ?_
 rw[ZaC Zr4]
 walk_at "zz"
 refine Zbs (n:=1) (m:=1) (.str ss_) (.str ss_) ?_
 rw[ZaB rfl]
 cases b with
 | true=>
  rw[if_pos rfl]at h
  walk_at "zz"
  exact Zy h rfl
 | false=>
  rw[if_neg (by decide)]at h
  walk_at "zz"
  exact Zy h rfl
theorem Zrx{c x:Nat→Int}{top:Int}: ∀j,Zab (Zcq c top) x j=Zab c x j-top
 | 0=>rfl
 | j+1=>by
  show Zab (Zcq c top) x j+Zcq c top (j+1)*x j=Zab c x j+c (j+1)*x j-top
  rw[Zrx j,show Zcq c top (j+1)=c (j+1)from rfl]
  omega
theorem Zym(h:EvC n c): EvC n (Zcq c top):=by
 have e:∀k,1≤k→Zcq c top k=c k:=fun k hk=>by unfold Zcq;rw[if_neg (by omega)]
 rcases h with h | ⟨i,⟨h1,h2,h3⟩,q⟩
 ·exact .inl fun k a b=>by rw[e k a];exact h k a b
 ·exact .inr ⟨i,⟨h1,h2,fun k a b r=>by rw[e k a];exact h3 k a b r⟩,by rw[e i h1];exact q⟩
theorem ZyS(hd:0<d): Zai (d,0) v↔d ∣ v:=by
 rw[Zbb (show(0:Int)≤(d,(0:Int)).1 from by show 0≤d;omega)]
 show d ∣ v-0↔d ∣ v
 rw[Int.sub_zero]
theorem Zso(hd:0<d): RestOk (d,0):=.inr ⟨hd,Int.le_refl 0,hd⟩
noncomputable def NeC(n:Nat)(c:Nat→Int)(d:Int): Prop:=Zce n c∨d=1∨(d=2∧EvC n c)
theorem ZuA(hn:n≤4)(hd:∀i,i<n+1→G i i=some 0)(ok:∀t,t<n→RestOk (R t))(sG:SmG 137 n G)(sR:SmR 137 n R)(bc:∀i,i<n+1→Bd 300 (c i))(hd0:0<d)(bd:Bd 140 d): ∃D,ZeB [Zz n G R,ZP n c,.int d]=some D∧Tf n (fun x=>Zay n G R x∧¬d ∣ Zab c x n) (fun G2 R2=>Zbz n G2 R2 G R∧∀x,Zay n G2 R2 x→NeC n c d→¬d ∣ Zab c x n) D:=by
 have bR:∀t,t<n→RBd 500 (R t):=fun t ht=>⟨(show Bd 137 _ from(sR t ht).1).mono (by decide),(show Bd 137 _ from(sR t ht).2).mono (by decide)⟩
 have bc5:∀i,i<n+1→Bd 500 (c i):=fun i hi=>(bc i hi).mono (by decide)
 have ht:Zz n G R=.tup [ZW (n+1) G,.lst (tab n fun i=>ZT (R i))]:=rfl
 have hg:∀{Q:T→Prop},Q (.lst (tab n fun i=>ZT (R i)))→Pk (Zm (Zz n G R) (.int 1)) Q:=fun h=>⟨_,by rw[ht];rfl,h⟩
 have hs:=Zgt (i:=500) (R:=R) (by omega) (by decide) (by decide) bc5 bR ok
 have hri:=ZsO (p:=ZaN c R n) (Zso hd0)
 have ed:ZT (d,(0:Int))=.tup [.int d,.int 0]:=rfl
 rw[ed]at hri
 have hq0:∀{Q:T→Prop},Q (.int (c 0))→Pk (Zm (ZP n c) (.int 0)) Q:=fun h=>by
  unfold ZP
  walk_at "zz"
  exact h
 by_cases hr:RIn (ZaN c R n) (d,0)
 ·refine⟨.none,?_,.inl ⟨rfl,fun x h=>h.2 ((ZyS hd0).mp (Zjj (ZfW ok) (Zso hd0) hr (ZnC ok h.1.2)))⟩⟩
  apply Pk.eq
  unfold ZeB Zgi
  walk_at "zz"
  refine hg ?_
  walk_at "zz"
  refine Zy hs ?_
  walk_at "zz"
  refine Zy hri ?_
  rw[ZaB hr]
  walk_at "zz"
  rfl
 ·have con:Zce n c→∀x,¬d ∣ Zab c x n:=fun h x q=>hr (by
   rw[ZeZ h n (Zz10 n)]at q
   rw[ZnD ok h]
   unfold RIn
   rw[if_neg (by show ¬d=0;omega)]
   exact⟨Int.zero_emod d,by show(c 0-0) % d=0;rw[Int.sub_zero];exact Int.emod_eq_zero_of_dvd q⟩)
  have one:d≠1:=fun e=>hr (by
   subst e
   unfold RIn
   rw[if_neg (by decide)]
   exact⟨Int.emod_one _,Int.emod_one _⟩)
  by_cases h2:d=2
  ·subst h2
   obtain⟨D,a,t⟩:=Zr3 (c:=Zcq c (-1)) hn hd ok sG sR (Zyh bc ((show Bd 1 (-1)by unfold Bd;decide).mono (by decide))) (by decide) bd
   refine⟨D,?_,?_⟩
   ·apply Pk.eq
    unfold ZeB Zgi
    clear t ht
    generalize Zz n G R=T0 at *
    walk_at "zz"
    refine hg ?_
    walk_at "zz"
    refine Zy hs ?_
    walk_at "zz"
    refine Zy hri ?_
    rw[ZaC hr]
    walk_at "zz"
    refine hq0 ?_
    walk_at "zz"
    refine ZiM ?_
    walk_at "zz"
    refine⟨_,rfl,?_⟩
    refine Zrf (by simp[tab];omega) ?_
    rw[show c 0+1=c 0 - -1 by omega,Zxk,show T.lst (tab (n+1) fun i=>T.int (Zcq c (-1) i))=ZP n (Zcq c (-1))from rfl]
    walk_at "zz"
    exact Zy a rfl
   ·have vl:∀x,Zab (Zcq c (-1)) x n=Zab c x n+1:=fun x=>by rw[Zrx];omega
    rcases t with⟨rfl,no⟩ | ⟨G2,R2,rfl,h1,h2,h3,h4,h5⟩
    ·exact .inl ⟨rfl,fun x h=>no x ⟨h.1,by rw[vl];omega⟩⟩
    ·refine .inr ⟨G2,R2,rfl,h1,h2,fun x h=>h3 x ⟨h.1,by rw[vl];omega⟩,h4,fun x l p=>?_⟩
     rcases p with p | p | ⟨_,p⟩
     ·exact con p x
     ·exact absurd p one
     ·have:=h5 x l (Zym p)
      rw[vl]at this
      omega
  ·refine⟨Zz n G R,?_,.inr ⟨G,R,rfl,hd,ok,fun x h=>h.1,⟨fun i hi j hj=>Zb7,fun t ht=>Zqu⟩,fun x l p=>?_⟩⟩
   ·have hf:ZeU [Zz n G R]=some (Zz n G R):=ZiY ((Zre (by omega)).mono (by decide))
    apply Pk.eq
    unfold ZeB Zgi
    clear ht
    generalize Zz n G R=T0 at *
    walk_at "zz"
    refine hg ?_
    walk_at "zz"
    refine Zy hs ?_
    walk_at "zz"
    refine Zy hri ?_
    rw[ZaC hr]
    walk_at "zz"
    exact Zy hf rfl
   ·rcases p with p | p | ⟨p,_⟩
    ·exact con p x
    ·exact absurd p one
    ·exact absurd p h2
theorem Zry: nzI (n+1) c=nzI n c++(if c (n+1)≠0 then [c (n+1)]else []):=by
 unfold nzI xsI
 rw[show(tab (n+1) fun i=>c (i+1))=(tab n fun i=>c (i+1))++[c (n+1)]by simp[tab,List.range_succ]]
 rw[List.filter_append]
 by_cases h:c (n+1)=0 <;> simp[h]
theorem Zhv{c:Nat→Int}: ∀{n:Nat},nzI n c=[]→Zce n c
 | 0,_=>fun k a b=>by omega
 | n+1,h=>fun k a b=>by
  rw[Zry]at h
  obtain⟨h1,h2⟩:=List.append_eq_nil_iff.mp h
  by_cases q:k=n+1
  ·subst q
   refine Classical.byContradiction fun z=>?_
   rw[if_pos z]at h2
   cases h2
  ·exact Zhv h1 k a (by omega)
theorem Zor{c:Nat→Int}{v:Int}: ∀{n:Nat},nzI n c=[v]→∃i,ZhL n c i∧c i=v∧c i≠0
 | 0,h=>by cases h
 | n+1,h=>by
  rw[Zry]at h
  by_cases z:c (n+1)=0
  ·rw[if_neg (by simp[z]),List.append_nil]at h
   obtain⟨i,⟨h1,h2,h3⟩,h4,h5⟩:=Zor h
   refine⟨i,⟨h1,by omega,fun k a b q=>?_⟩,h4,h5⟩
   by_cases r:k=n+1
   ·rw[r];exact z
   ·exact h3 k a (by omega) q
  ·rw[if_pos z]at h
   cases e:nzI n c with
   | nil=>
    rw[e]at h
    refine⟨n+1,⟨by omega,Nat.le_refl _,fun k a b q=>Zhv e k a (by omega)⟩,?_,z⟩
    simpa using h
   | cons a l=>
    rw[e]at h
    have:=congrArg List.length h
    simp at this
theorem Zyn(h:Df n c): ∃i j,Zsn n c i j:=by
 obtain⟨u,d,e1,e2,e3,e4,h1,h2,h3,h4,_⟩:=ZgZ h
 refine⟨u,d,h3,by omega,h4,by omega,fun q=>(by rw[q,e4]at e3;cases e3),e3,e4,fun k a b q r=>?_⟩
 have n1:¬0<c k:=fun z=>q (by have:=ups_mem.mpr ⟨a,b,z⟩;rw[e1]at this;simpa using this)
 have n2:¬c k<0:=fun z=>r (by have:=dns_mem.mpr ⟨a,b,z⟩;rw[e2]at this;simpa using this)
 omega
theorem se_: PyData.strOk (Str.ofString "even")=true:=by decide +kernel
theorem Zhw{a b:Str}(h:a≠b): ¬(T.str a=T.str b):=fun q=>h (T.str.inj q)
noncomputable def evT(n:Nat)(c:Nat→Int)(d:Int): T:=.tup [.str (Str.ofString "even"),ZP n c,.int d]
theorem Zn7(hn:n≤60)(hi:Zm Cl (.int 1)=some (ZP n c))(e:σ 0=some Cl): Pk (Zan (ZaD (ZfZ (Zc Zm (Za 0) (Zj 1)) (Zhj (Zj 1)) Zhi)) (Z2 100) (Zv (Zc qNe (Za 100) (Zj 0))) (Za 100) σ) fun t=>t=.lst ((nzI n c).map T.int):=by
 refine ZiO (ts:=(xsI n c).map T.int) (P:=fun t=>match t with | .int x=>decide (x≠0) | _=>false) (by simp[xsI,Zau];omega) ?_ (fun t m=>?_) ?_
 ·refine Zhc ?_
  refine ZyO ?_
  have hq:Pk (Zc Zm (Za 0) (Zj 1) σ) fun t=>t=ZP n c:=by
   walk_at "zz"
   exact Zy hi rfl
  refine hq.mono ?_
  rintro _ rfl
  refine⟨_,rfl,?_⟩
  walk_at "zz"
  refine⟨1,rfl,?_⟩
  rw[ZiW]
  refine Sq.lst ?_
  unfold xsI
  rw[tab_map]
 ·obtain⟨x,_,rfl⟩:=Zz11.mp m
  walk_at "zz"
  rfl
 ·unfold nzI
  rw[List.filter_map]
  rfl
theorem Zyo: (nzI n c).length≤n:=by
 unfold nzI
 refine Nat.le_trans (List.length_filter_le _ _) ?_
 simp[xsI,Zau]
theorem Zr5: ¬(T.str (Str.ofString "under")=T.str (Str.ofString "even")):=Zhw (by decide +kernel)
theorem Zr6: ¬(T.str (Str.ofString "same")=T.str (Str.ofString "even")):=Zhw (by decide +kernel)
theorem Zyp: ¬(T.str (Str.ofString "under")=T.str (Str.ofString "same")):=Zhw (by decide +kernel)
theorem Zr7: ¬(T.str (Str.ofString "even")=T.str (Str.ofString "under")):=Zhw (by decide +kernel)
theorem Zr8: ¬(T.str (Str.ofString "even")=T.str (Str.ofString "same")):=Zhw (by decide +kernel)
theorem Zv1(h:ZdO [ZP n c,Zaz n x]=some (.int v)): Zdv [unT n c,Zaz n x]=some (.bool (decide (v<0))):=by
 apply Pk.eq
 unfold Zdv ZgA unT
 walk_at "zz"
 refine Zy h ?_
 walk_at "zz"
 refine Zbs (n:=1) (m:=1) (.str su) (.str su) ?_
 rw[ZaB rfl]
 walk_at "zz"
 rfl
theorem Zv2(h:ZdO [ZP n c,Zaz n x]=some (.int v)): Zdv [smT n c,Zaz n x]=some (.bool (decide (v=0))):=by
 apply Pk.eq
 unfold Zdv ZgA smT
 walk_at "zz"
 refine Zy h ?_
 walk_at "zz"
 refine Zbs (n:=1) (m:=1) (.str ss_) (.str su) ?_
 rw[ZaC Zr4]
 walk_at "zz"
 refine Zbs (n:=1) (m:=1) (.str ss_) (.str ss_) ?_
 rw[ZaB rfl]
 walk_at "zz"
 rfl
theorem Zv3(hd:0<d)(h:ZdO [ZP n c,Zaz n x]=some (.int v)): Zdv [evT n c d,Zaz n x]=some (.bool (decide (v.fmod d=0))):=by
 apply Pk.eq
 unfold Zdv ZgA evT
 walk_at "zz"
 refine Zy h ?_
 walk_at "zz"
 refine Zbs (n:=1) (m:=1) (.str se_) (.str su) ?_
 rw[ZaC Zr7]
 walk_at "zz"
 refine Zbs (n:=1) (m:=1) (.str se_) (.str ss_) ?_
 rw[ZaC Zr8]
 walk_at "zz"
 rfl
theorem Zsp(h:(nzI n c).length=1): ∃v,nzI n c=[v]:=by
 match e:nzI n c,h with
 | [v],_=>exact⟨v,rfl⟩
theorem Zyq(h:nzI n c=[v]): Zm (.lst ((nzI n c).map T.int)) (.int 0)=some (.int v):=by rw[h];rfl
theorem Zr9(h:(((nzI n c).map T.int).length:Int)=1): PlC n c:=by
 obtain⟨v,ev⟩:=Zsp (n:=n) (c:=c) (by rw[List.length_map]at h;omega)
 obtain⟨i,h2,_,h3⟩:=Zor ev
 exact .inr (.inl ⟨i,h2,h3⟩)
theorem ZpO(hn:n≤60)(e:σ 2=some (.lst ((nzI n c).map T.int))): Pk (Zc qEq (Zp ZeT (Zd (Za 2) Zl)) (ZbB (Zd (pUn Za0 (Zj 1)) (Zd (Zj 1) Zl))) σ) fun t=>∃p,t=.bool p∧(p=true→PlC n c):=by
 have hl:=Zyo (n:=n) (c:=c)
 walk_at "zz"
 refine⟨.lst ((PM.Zdg (nzI n c)).map T.int),?_,?_⟩
 ·simp only[ZeT,Zg8,Option.bind_some,List.length_map]
  rw[if_pos (by omega)]
 walk_at "zz"
 refine Zbs (n:=1) (m:=1) (Zjf _) (Zjf [-1,1]) ?_
 exact⟨_,rfl,fun q=>.inr (.inr (Zyn (Zpq (b:=[-1,1]) (T.lst.inj (dec_iff.mp q)))))⟩
theorem Zv4{b:Bool}(hn:n≤60): Pk (Zdw [unT n c,.bool b]) fun t=>∃p,t=.bool p∧(p=true→PlC n c):=by
 unfold Zdw ZgB
 have h0:∀{Q:T→Prop},Q (.str (Str.ofString "under"))→Pk (Zm (unT n c) (.int 0)) Q:=fun h=>⟨_,rfl,h⟩
 refine Ze2 rfl ?_
 refine Zdd ?_
 refine Ze1 ?_
 refine(Zn7 (c:=c) hn rfl rfl).mono ?_
 rintro _ rfl
 by_cases hz:(nzI n c).length=0
 ·have hz':(((nzI n c).map T.int).length:Int)=0:=by rw[List.length_map];omega
  walk_at "zz"
  exact⟨true,rfl,fun _=>.inl (Zhv (List.length_eq_zero_iff.mp hz))⟩
 ·have hz':¬(((nzI n c).map T.int).length:Int)=0:=by rw[List.length_map];omega
  walk_at "zz"
  refine h0 ?_
  walk_at "zz"
  refine Zbs (n:=1) (m:=1) (.str su) (.str se_) ?_
  rw[ZaC Zr5]
  walk_at "zz"
  refine h0 ?_
  walk_at "zz"
  refine Zbs (n:=1) (m:=1) (.str su) (.str se_) ?_
  rw[ZaC Zr5]
  walk_at "zz"
  refine h0 ?_
  walk_at "zz"
  refine Zbs (n:=1) (m:=1) (.str su) (.str ss_) ?_
  rw[ZaC Zyp]
  walk_at "zz"
  exact⟨fun q=>⟨_,rfl,fun _=>Zr9 (of_decide_eq_true q)⟩,fun _=>ZpO hn (by walk_at "zr")⟩
theorem Zv5{b:Bool}(hn:n≤60): Pk (Zdw [smT n c,.bool b]) fun t=>∃p,t=.bool p∧(p=true→if b then PlC n c else Zce n c):=by
 unfold Zdw ZgB
 have h0:∀{Q:T→Prop},Q (.str (Str.ofString "same"))→Pk (Zm (smT n c) (.int 0)) Q:=fun h=>⟨_,rfl,h⟩
 refine Ze2 rfl ?_
 refine Zdd ?_
 refine Ze1 ?_
 refine(Zn7 (c:=c) hn rfl rfl).mono ?_
 rintro _ rfl
 by_cases hz:(nzI n c).length=0
 ·have hz':(((nzI n c).map T.int).length:Int)=0:=by rw[List.length_map];omega
  have hc:Zce n c:=Zhv (List.length_eq_zero_iff.mp hz)
  walk_at "zz"
  exact⟨true,rfl,fun _=>by cases b;exact hc;exact .inl hc⟩
 ·have hz':¬(((nzI n c).map T.int).length:Int)=0:=by rw[List.length_map];omega
  walk_at "zz"
  refine h0 ?_
  walk_at "zz"
  refine Zbs (n:=1) (m:=1) (.str ss_) (.str se_) ?_
  rw[ZaC Zr6]
  walk_at "zz"
  refine h0 ?_
  walk_at "zz"
  refine Zbs (n:=1) (m:=1) (.str ss_) (.str se_) ?_
  rw[ZaC Zr6]
  walk_at "zz"
  refine h0 ?_
  walk_at "zz"
  refine Zbs (n:=1) (m:=1) (.str ss_) (.str ss_) ?_
  rw[ZaB rfl]
  cases b with
  | true=>
   walk_at "zz"
   exact⟨fun q=>⟨_,rfl,fun _=>Zr9 (of_decide_eq_true q)⟩,fun _=>ZpO hn (by walk_at "zr")⟩
  | false=>
   walk_at "zz"
   exact⟨false,rfl,fun q=>by cases q⟩
theorem Zyr(h:nzI n c=[v])(a:Za6 v=1): EvC n c:=by
 obtain⟨i,h2,h3,_⟩:=Zor h
 refine .inr ⟨i,h2,?_⟩
 rw[h3]
 unfold Za6 at a
 split at a <;> omega
theorem Zv6{b:Bool}(hn:n≤60): Pk (Zdw [evT n c d,.bool b]) fun t=>∃p,t=.bool p∧(p=true→if b then EvC n c else NeC n c d):=by
 unfold Zdw ZgB
 have h0:∀{Q:T→Prop},Q (.str (Str.ofString "even"))→Pk (Zm (evT n c d) (.int 0)) Q:=fun h=>⟨_,rfl,h⟩
 have h2:∀{Q:T→Prop},Q (.int d)→Pk (Zm (evT n c d) (.int 2)) Q:=fun h=>⟨_,rfl,h⟩
 refine Ze2 rfl ?_
 refine Zdd ?_
 refine Ze1 ?_
 refine(Zn7 (c:=c) hn rfl rfl).mono ?_
 rintro _ rfl
 by_cases hz:(nzI n c).length=0
 ·have hz':(((nzI n c).map T.int).length:Int)=0:=by rw[List.length_map];omega
  have hc:Zce n c:=Zhv (List.length_eq_zero_iff.mp hz)
  walk_at "zz"
  exact⟨true,rfl,fun _=>by cases b;exact .inl hc;exact .inl hc⟩
 ·have hz':¬(((nzI n c).map T.int).length:Int)=0:=by rw[List.length_map];omega
  walk_at "zz"
  refine h0 ?_
  walk_at "zz"
  refine Zbs (n:=1) (m:=1) (.str se_) (.str se_) ?_
  rw[ZaB rfl]
  by_cases h1:(nzI n c).length=1
  ·have h1':(((nzI n c).map T.int).length:Int)=1:=by rw[List.length_map];omega
   obtain⟨v,ev⟩:=Zsp h1
   have hx:=Zyq ev
   have oe:=Zyr ev
   generalize (nzI n c).map T.int=L0 at *
   cases b with
   | true=>
    walk_at "zz"
    refine Zy hx ?_
    walk_at "zz"
    exact⟨_,rfl,fun q=>oe (of_decide_eq_true q)⟩
   | false=>
    walk_at "zz"
    refine h0 ?_
    walk_at "zz"
    refine Zbs (n:=1) (m:=1) (.str se_) (.str se_) ?_
    rw[ZaB rfl]
    walk_at "zz"
    refine h2 ?_
    walk_at "zz"
    refine⟨fun q=>⟨_,rfl,fun _=>.inr (.inl (of_decide_eq_true q))⟩,fun q=>?_⟩
    walk_at "zz"
    refine h2 ?_
    walk_at "zz"
    refine⟨fun q2=>?_,fun q2=>?_⟩
    ·walk_at "zz"
     refine Zy hx ?_
     walk_at "zz"
     exact⟨_,rfl,fun z=>.inr (.inr ⟨of_decide_eq_true q2,oe (of_decide_eq_true z)⟩)⟩
    ·walk_at "zz"
     exact⟨_,rfl,fun z=>absurd z (by rw[q2];decide)⟩
  ·have h1':¬(((nzI n c).map T.int).length:Int)=1:=by rw[List.length_map];omega
   cases b with
   | true=>
    walk_at "zz"
    exact⟨_,rfl,fun z=>absurd (of_decide_eq_true z) h1'⟩
   | false=>
    walk_at "zz"
    refine h0 ?_
    walk_at "zz"
    refine Zbs (n:=1) (m:=1) (.str se_) (.str se_) ?_
    rw[ZaB rfl]
    walk_at "zz"
    refine h2 ?_
    walk_at "zz"
    refine⟨fun q=>⟨_,rfl,fun _=>.inr (.inl (of_decide_eq_true q))⟩,fun q=>?_⟩
    walk_at "zz"
    refine h2 ?_
    walk_at "zz"
    refine⟨fun q2=>?_,fun q2=>?_⟩
    ·walk_at "zz"
     exact⟨_,rfl,fun z=>absurd (of_decide_eq_true z) h1'⟩
    ·walk_at "zz"
     exact⟨_,rfl,fun z=>absurd z (by rw[q2];decide)⟩
noncomputable def Fnd(n:Nat)(G:Nat→Nat→Option Int)(R:Nat→Int×Int)(c:Nat→Int)(hb:Int→Bool)(PL:Prop)(b:Bool)(D:T): Prop:=Tf n (fun x=>Zay n G R x∧hb (Zab c x n)=b) (fun G2 R2=>Zbz n G2 R2 G R∧∀x,Zay n G2 R2 x→PL→hb (Zab c x n)=b) D
theorem Zv7{b:Bool}(hn:n≤100)(h:Fnd n G R c hb PL b D): ∃l,Zc4 [D,Zaz n x]=some (.bool l)∧(Zay n G R x→hb (Zab c x n)=b→l=true)∧(l=true→PL→hb (Zab c x n)=b):=by
 rcases h with⟨rfl,no⟩ | ⟨G2,R2,rfl,h1,h2,h3,h4,h5⟩
 ·exact⟨false,Zvc,fun a q=>absurd ⟨a,q⟩ (no x),fun q=>by cases q⟩
 ·obtain⟨l,e,hl⟩:=ZqK (x:=x) (G:=G2) hn h2
  exact⟨l,e,fun a q=>hl.mpr (h3 x ⟨a,q⟩),fun q p=>h5 x (hl.mp q) p⟩
theorem Zrz{b:Bool}(hn:n≤100)(ok:∀t,t<n→RestOk (R t))(hh:Zdv [Cl,Zaz n x]=some (.bool (hb (Zab c x n))))(hp:Pk (Zdw [Cl,.bool b]) fun t=>∃p,t=.bool p∧(p=true→PL))(hD:Fnd n G R c hb PL b D): Zdl [Zz n G R,Cl,.bool b,Zaz n x,D]=some (.bool true):=by
 obtain⟨lD,eD,d1,d2⟩:=Zv7 (x:=x) hn hD
 obtain⟨lT,eT,hT⟩:=ZqK (x:=x) (G:=G) hn ok
 obtain⟨_,ep,p,rfl,hpl⟩:=hp
 apply Pk.eq
 unfold Zdl Zki
 clear hD
 generalize Zz n G R=T0 at *
 generalize Zaz n x=B at *
 generalize hb (Zab c x n)=v at *
 walk_at "zz"
 refine Zy hh ?_
 walk_at "zz"
 by_cases hr:v=b
 ·have e:(v == b)=true:=by simp[hr]
  rw[e]
  walk_at "zz"
  refine Zy eT ?_
  cases lT with
  | true=>
   walk_at "zz"
   refine Zy eD ?_
   rw[d1 (hT.mp rfl) hr]
  | false=>
   walk_at "zz"
   rfl
 ·have e:(v == b)=false:=by simpa using hr
  rw[e]
  walk_at "zz"
  refine Zy ep ?_
  cases p with
  | false=>
   walk_at "zz"
   rfl
  | true=>
   walk_at "zz"
   refine Zy eD ?_
   cases lD with
   | true=>exact absurd (d2 rfl (hpl rfl)) hr
   | false=>
    walk_at "zz"
    rfl
theorem ZrA{b:Bool}(h:(if b then ZeI [Zz n G R,ZP n c,.int d]else ZeB [Zz n G R,ZP n c,.int d])=some D): Zcu [Zz n G R,evT n c d,.bool b]=some D:=by
 apply Pk.eq
 unfold Zcu Zhr
 have ht:Zz n G R=.tup [ZW (n+1) G,.lst (tab n fun i=>ZT (R i))]:=rfl
 have hne:∀{Q:T→Prop},Q (.bool false)→Pk (qIs (Zz n G R) .none) Q:=fun h=>⟨_,by rw[ht];rfl,h⟩
 unfold evT
 walk_at "zz"
 refine hne ?_
 walk_at "zz"
 refine Zbs (n:=1) (m:=1) (.str se_) (.str su) ?_
 rw[ZaC Zr7]
 walk_at "zz"
 refine Zbs (n:=1) (m:=1) (.str se_) (.str ss_) ?_
 rw[ZaC Zr8]
 cases b with
 | true=>
  rw[if_pos rfl]at h
  walk_at "zz"
  exact Zy h rfl
 | false=>
  rw[if_neg (by decide)]at h
  walk_at "zz"
  exact Zy h rfl
theorem Zf5{b:Bool}(h:Tf n P I D)(hP:∀x,Zay n G R x→hb (Zab c x n)=b→P x)(hI:∀G2 R2,(∀t,t<n→RestOk (R2 t))→I G2 R2→Zbz n G2 R2 G R∧∀x,Zay n G2 R2 x→PL→hb (Zab c x n)=b): Fnd n G R c hb PL b D:=by
 rcases h with⟨rfl,no⟩ | ⟨G2,R2,rfl,h1,h2,h3,h4⟩
 ·exact .inl ⟨rfl,fun x q=>no x (hP x q.1 q.2)⟩
 ·exact .inr ⟨G2,R2,rfl,h1,h2,fun x q=>h3 x (hP x q.1 q.2),hI G2 R2 h2 h4⟩
section
variable {n:Nat} {G:Nat→Nat→Option Int} {R:Nat→Int×Int} {c:Nat→Int} (hn:n≤4) (hd:∀i,i<n+1→G i i=some 0) (ok:∀t,t<n→RestOk (R t)) (sG:SmG 137 n G) (sR:SmR 137 n R) (bc:∀i,i<n+1→Bd 300 (c i))
include hn hd ok sG sR bc
theorem Zv8(b:Bool): ∃D,Zcu [Zz n G R,unT n c,.bool b]=some D∧Fnd n G R c (fun v=>decide (v<0)) (PlC n c) b D:=by
 have bM:Bd 549 (ZcQ R n):=(Zg7 (k:=137) (by decide) (fun t ht=>(sR t ht).1) n (Zz10 n)).mono (by omega)
 have hM:=ZgX ok n (Zz10 n)
 have hR:∀t,t<n→RB (ZcQ R n) 610 (R t):=fun t ht=>⟨ok t ht,ZgY n t ht,(show Bd 137 _ from(sR t ht).2).mono (by decide)⟩
 have gG:GB 300 n G:=fun i j hi hj y e=>(show Bd 137 y from sG i j hi hj y e).mono (by decide)
 cases b with
 | true=>
  obtain⟨D,a,_,t⟩:=Zg0 (b:=300) (k:=610) (c:=c) (top:=-1) (by omega) (by decide) (by decide) (by omega) (by omega) hM (bM.mono (by decide)) hd gG hR bc ((show Bd 1 (-1)by unfold Bd;decide).mono (by decide))
  refine⟨D,Zrq (.inr ⟨G,R,rfl⟩) (fun h=>by cases h) (ZsY a),Zf5 t.tf (fun x l q=>⟨l,by have:=of_decide_eq_true q;omega⟩) fun G2 R2 o2 i=>⟨Zg1 ok i.1,fun x l p=>decide_eq_true (by have:=Zg9 p ⟨G,R,i.2,ZeY o2 ok i.1 l⟩;omega)⟩⟩
 | false=>
  obtain⟨D,a,_,t⟩:=Zg0 (b:=300) (k:=610) (c:=fun k=>-(c k)) (top:=0) (by omega) (by decide) (by decide) (by omega) (by omega) hM (bM.mono (by decide)) hd gG hR (ZfV bc) Zcp
  refine⟨D,Zrq (.inr ⟨G,R,rfl⟩) (fun h=>by cases h) (Ztg (b:=300) (by omega) (by decide) (by decide) bc a),Zf5 t.tf (fun x l q=>⟨l,by have:=of_decide_eq_false q;rw[ZdA];omega⟩) fun G2 R2 o2 i=>⟨Zg1 ok i.1,fun x l p=>decide_eq_false (by have:=Zg9 p.neg ⟨G,R,i.2,ZeY o2 ok i.1 l⟩;rw[ZdA]at this;omega)⟩⟩
theorem Zv9(b:Bool): ∃D,Zcu [Zz n G R,smT n c,.bool b]=some D∧Fnd n G R c (fun v=>decide (v=0)) (if b then PlC n c else Zce n c) b D:=by
 cases b with
 | true=>
  obtain⟨D,a,_,t⟩:=Zyl hn hd ok sG sR bc
  refine⟨D,Zrw a,Zf5 t (fun x l q=>⟨l,of_decide_eq_true q⟩) fun G2 R2 o2 i=>⟨i.1,fun x l p=>decide_eq_true ?_⟩⟩
  have p:PlC n c:=p
  obtain⟨a1,a2⟩:=i.2 x l
  have h1:=Zg9 p a1
  have h2:=Zg9 p.neg a2
  rw[ZdA]at h2
  omega
 | false=>
  obtain⟨D,a,_,t⟩:=Zv0 hn hd ok sG sR bc
  refine⟨D,Zrw a,Zf5 t (fun x l q=>⟨l,of_decide_eq_false q⟩) fun G2 R2 o2 i=>⟨i.1,fun x l p=>decide_eq_false fun z=>?_⟩⟩
  have p:Zce n c:=p
  have e:=ZeZ (x:=x) p n (Zz10 n)
  have:=Zg9 (.inl p) (i.2 x l ⟨c 0,Zjk p,by omega⟩)
  omega
theorem Zwa(hd0:0<d)(bd:Bd 140 d)(b:Bool): ∃D,Zcu [Zz n G R,evT n c d,.bool b]=some D∧Fnd n G R c (fun v=>decide (v.fmod d=0)) (if b then EvC n c else NeC n c d) b D:=by
 have hm:∀v:Int,v.fmod d=0↔d ∣ v:=fun v=>by
  rw[Int.fmod_eq_emod_of_nonneg _ (by omega)]
  exact⟨Int.dvd_of_emod_eq_zero,Int.emod_eq_zero_of_dvd⟩
 cases b with
 | true=>
  obtain⟨D,a,t⟩:=Zr3 hn hd ok sG sR (fun i hi=>(bc i hi).mono (by decide)) hd0 bd
  exact⟨D,ZrA a,Zf5 t (fun x l q=>⟨l,(hm _).mp (of_decide_eq_true q)⟩) fun G2 R2 o2 i=>⟨i.1,fun x l p=>decide_eq_true ((hm _).mpr (i.2 x l p))⟩⟩
 | false=>
  obtain⟨D,a,t⟩:=ZuA hn hd ok sG sR bc hd0 bd
  exact⟨D,ZrA a,Zf5 t (fun x l q=>⟨l,fun z=>of_decide_eq_false q ((hm _).mpr z)⟩) fun G2 R2 o2 i=>⟨i.1,fun x l p=>decide_eq_false fun z=>i.2 x l p ((hm _).mp z)⟩⟩
end
noncomputable def ClT(n:Nat)(c:Nat→Int)(t:T): Prop:=t=unT n c∨t=smT n c∨∃d,0<d∧Bd 140 d∧t=evT n c d
theorem Zxn(hL:Lay ns)(hn:n≤4)(bx:∀i,i<n→Bd 140 (x i)): Pk (ZhR [scr ns,Zaz n x]) fun t=>∃c,(∀i,i<n+1→Bd 300 (c i))∧ClT n c t:=by
 unfold ZhR Zkg Zaz
 walk_at "zz"
 refine(ZyP (n:=n) (kk:=8) (by decide) (by decide) hL (by omega)).mono ?_
 rintro _ ⟨c0,rfl,hc⟩
 have bc:=hc.bd (by decide)
 have hv:=ZnB (n:=n) (b:=140) (c:=c0) (x:=x) (by omega) (by decide) bc bx
 have bv:=(ZrZ bc bx n (Zz10 n)).mono (show 140+140+n≤285 by omega)
 refine ZcV (fun σ'=>σ' 0=some (scr ns)∧∃c,σ' 2=some (ZP n c)∧∀i,i<n+1→Bd 300 (c i)) ?_ ?_
 ·walk_at "zz"
  refine Zy (ZcN (by decide) (by decide) (by decide)) ?_
  walk_at "zz"
  refine⟨fun q=>?_,fun q=>?_⟩
  ·have hs:ZP n c0=.lst (tab (n+1) fun k=>.int (c0 k)):=rfl
   rw[hs]at hv ⊢
   walk_at "zz"
   refine Zy hv ?_
   walk_at "zz"
   refine Zy (ZcN (by decide) (by decide) (by decide)) ?_
   walk_at "zz"
   obtain⟨z0,z1⟩:=ZcM ns 6 (show(0:Int)<5 by decide)
   generalize Zbt ns 6 5=pp at *
   refine ZmM (n:=n+1) (f:=fun k=>.int (c0 k)) (by walk_at "zr") (by omega) (by omega) ?_
   rw[show Int.toNat 0=0 from rfl]
   refine⟨by walk_at "zr",fun k=>if k=0 then c0 0-Zab c0 x n+pp-2 else c0 k,?_,fun i hi=>?_⟩
   ·rw[show(ZP n fun k=>if k=0 then c0 0-Zab c0 x n+pp-2 else c0 k)=.lst (tab (n+1) fun k=>if k=0 then T.int (c0 0-Zab c0 x n+pp-2)else .int (c0 k))from congrArg T.lst (Zbg fun k _=>by by_cases z:k=0 <;> simp only[z,if_true,if_false])]
    walk_at "zr"
   ·show Bd 300 (if i=0 then _ else _)
    split
    ·have h1:Bd 286 (pp-2):=(show Bd 3 (pp-2)by unfold Bd;omega).mono (by decide)
     have h2:=((bc 0 (by omega)).mono (show 140≤285 by decide)).sub bv
     rw[show c0 0-Zab c0 x n+pp-2=c0 0-Zab c0 x n+(pp-2)by omega]
     exact(h2.add h1).mono (by decide)
    ·exact(bc i hi).mono (by decide)
  ·walk_at "zz"
   exact⟨by walk_at "zr",c0,by walk_at "zr",fun i hi=>(bc i hi).mono (by decide)⟩
 rintro σ1 ⟨e0,c,e2,bc'⟩
 walk_at "zz"
 refine Zy (ZcN (by decide) (by decide) (by decide)) ?_
 generalize Zbt ns 13 12=wy at *
 walk_at "zz"
 refine⟨fun q=>?_,fun q=>?_⟩
 ·walk_at "zz"
  exact⟨c,bc',.inl rfl⟩
 walk_at "zz"
 refine⟨fun q=>?_,fun q=>?_⟩
 ·walk_at "zz"
  exact⟨c,bc',.inr (.inl rfl)⟩
 walk_at "zz"
 refine⟨fun q=>?_,fun q=>?_⟩
 ·walk_at "zz"
  refine Zy (ZgU hL (by decide) (by decide)) ?_
  have b1:Bd 134 (Zco ns 1):=Zjc ns 1
  generalize Zco ns 1=nu at *
  walk_at "zz"
  refine⟨c,bc',.inr (.inr ⟨_,?_,?_,rfl⟩)⟩
  ·split <;> split <;> omega
  ·refine(show Bd 135 _ from ?_).mono (by decide)
   have:1<2 ^ 134:=by decide
   unfold Bd at *
   rw[Nat.pow_succ]
   split <;> split <;> omega
 ·walk_at "zz"
  refine Zy (ZcN (by decide) (by decide) (by decide)) ?_
  obtain⟨z0,z1⟩:=ZcM ns 1 (show(0:Int)<4 by decide)
  generalize Zbt ns 1 4=pp at *
  walk_at "zz"
  exact⟨c,bc',.inr (.inr ⟨1+pp,by omega,(show Bd 3 (1+pp)by unfold Bd;omega).mono (by decide),rfl⟩)⟩
theorem Zys(hn:n≤4)(hd:∀i,i<n+1→G i i=some 0)(ok:∀t,t<n→RestOk (R t))(sG:SmG 137 n G)(sR:SmR 137 n R)(bc:∀i,i<n+1→Bd 300 (c i))(h:ClT n c Cl): ∃(hb:Int→Bool) (PL:Bool→Prop),(∀x v,ZdO [ZP n c,Zaz n x]=some (.int v)→Zdv [Cl,Zaz n x]=some (.bool (hb v)))∧(∀b,Pk (Zdw [Cl,.bool b]) fun t=>∃p,t=.bool p∧(p=true→PL b))∧∀b,∃D,Zcu [Zz n G R,Cl,.bool b]=some D∧Fnd n G R c hb (PL b) b D:=by
 rcases h with rfl | rfl | ⟨d,h1,h2,rfl⟩
 ·exact⟨_,fun _=>PlC n c,fun x v e=>Zv1 e,fun b=>Zv4 (by omega),Zv8 hn hd ok sG sR bc⟩
 ·exact⟨_,fun b=>if b then PlC n c else Zce n c,fun x v e=>Zv2 e,fun b=>Zv5 (by omega),Zv9 hn hd ok sG sR bc⟩
 ·exact⟨_,fun b=>if b then EvC n c else NeC n c d,fun x v e=>Zv3 h1 e,fun b=>Zv6 (by omega),Zwa hn hd ok sG sR bc h1 h2⟩
theorem Zxo{x2:Nat→Int}{b:Bool}(hn:n≤4)(ok:∀t,t<n→RestOk (R t))(a:∃D,Zcu [Zz n G R,Cl,.bool b]=some D∧(D=.none∨∃G2 R2,D=Zz n G2 R2∧(∀i,i<n+1→G2 i i=some 0)∧(∀t,t<n→RestOk (R2 t))∧Zbz n G2 R2 G R)∧Zdl [Zz n G R,Cl,.bool b,Zaz n x,D]=some (.bool true)∧Zdl [Zz n G R,Cl,.bool b,Zaz n x2,D]=some (.bool true))(e2:σ 2=some (Zaz n x))(e3:σ 3=some (Zz n G R))(e4:σ 4=some (Zz n G R))(e5:σ 5=some Cl)(e6:σ 6=some (Zaz n x2))(e8:σ 8=some (.bool b))(hN:∀σ',σ' 2=some (Zaz n x)→σ' 3=some (Zz n G R)→σ' 4=some (Zz n G R)→σ' 5=some Cl→σ' 6=some (Zaz n x2)→N σ'): Psk ((Zr (ZJ 9 (Zp Zcu (Zd (Za 3) (Zd (Za 5) (Zd (Za 8) Zl))))) (Zr (ZL (bOr (Zah (Zv (Zc ZaU (Za 9) (ZU))) (Zah (Zbp (Zv (Zp Zfq (Zd (Za 9) (Zd (Zp Zaj (Zd (Za 2) Zl)) Zl))))) Zaa)) (bOr (Zv (Zc qNe (Za 3) (Za 4))) ZbO)) (Zx (ZaX false)) ZN) (Zr (ZL (bOr (Zbp (Zv (Zp Zee (Zd (Za 9) (Zd (Za 3) Zl))))) (bOr (Zbp (Zv (Zp Zdl (Zd (Za 3) (Zd (Za 5) (Zd (Za 8) (Zd (Za 2) (Zd (Za 9) Zl)))))))) ZbO)) (Zx (ZaX false)) ZN) (ZL (Zbp (Zv (Zp Zdl (Zd (Za 3) (Zd (Za 5) (Zd (Za 8) (Zd (Za 6) (Zd (Za 9) Zl)))))))) (Zx (ZaX false)) ZN)))) σ) (fun t=>t=.bool true) N:=by
 obtain⟨D,w,hD,k1,k2⟩:=a
 have pl:Pln 3 (Zz n G R):=ZvB
 have hlen:∀{Q:T→Prop},Q (.int n)→Pk (Zaj [Zaz n x]) Q:=fun h=>by
  unfold Zaz
  walk_at "zz"
  exact h
 have hin:Zee [D,Zz n G R]=some (.bool true):=by
  rcases hD with rfl | ⟨G2,R2,rfl,_,_,i⟩
  ·exact Ztd
  ·rw[Ztc (by omega) ok,ZaB i]
 have hsh:∀{Q:T→Prop},(D=.none→Q (.bool false))→((∃G2 R2,D=Zz n G2 R2)→Zfq [D,.int n]=some (.bool true)→Q (.bool true))→Pk (ZaU D .none) Q:=fun {Q} h1 h2=>by
  rcases hD with e | ⟨G2,R2,e,d2,o2,_⟩
  ·exact⟨_,by rw[e];rfl,h1 e⟩
  ·exact⟨_,by rw[e];rfl,h2 ⟨G2,R2,e⟩ (by rw[e];exact Zuv (by omega) d2 o2)⟩
 clear hD
 generalize Zz n G R=T0 at *
 have fin:∀{σ:TL},σ 2=some (Zaz n x)→σ 3=some T0→σ 4=some T0→σ 5=some Cl→σ 6=some (Zaz n x2)→σ 8=some (.bool b)→σ 9=some D→True:=fun _ _ _ _ _ _ _=>trivial
 walk_at "zz"
 refine Zy w ?_
 walk_at "zz"
 refine hsh (fun z=>?_) (fun z zs=>?_)
 all_goals
  walk_at "zz"
  try (refine hlen ?_;walk_at "zz";refine Zy zs ?_;walk_at "zz")
  refine Zya pl pl ?_
  rw[ZaB rfl]
  walk_at "zz"
  refine Zy hin ?_
  walk_at "zz"
  refine Zy k1 ?_
  walk_at "zz"
  refine Zy k2 ?_
  walk_at "zz"
  exact hN _ (by walk_at "zr") (by walk_at "zr") (by walk_at "zr") (by walk_at "zr") (by walk_at "zr")
theorem ZtZ(hL:Lay ns): Znx [scr ns]=some (.bool true):=by
 apply Pk.eq
 unfold Znx Znw
 obtain⟨p0,p1⟩:=ZcM ns 0 (show(0:Int)<9 by decide)
 obtain⟨w,ew,hw⟩:=ZrP p0 (show Zbt ns 0 9<(9:Nat)by omega)
 walk_at "zz"
 refine Zy (ZcN (by decide) (by decide) (by decide)) ?_
 rw[ew]
 obtain⟨n,hn,hidx⟩:∃n:Nat,n≤4∧[T.int 0,.int 1,.int 2,.int 1,.int 2,.int 1,.int 3,.int 2,.int 4][w]?=some (.int n):=by
  match w,hw with
  | 0,_=>exact⟨0,by decide,rfl⟩
  | 1,_=>exact⟨1,by decide,rfl⟩
  | 2,_=>exact⟨2,by decide,rfl⟩
  | 3,_=>exact⟨1,by decide,rfl⟩
  | 4,_=>exact⟨2,by decide,rfl⟩
  | 5,_=>exact⟨1,by decide,rfl⟩
  | 6,_=>exact⟨3,by decide,rfl⟩
  | 7,_=>exact⟨2,by decide,rfl⟩
  | 8,_=>exact⟨4,by decide,rfl⟩
 refine Zi8 (t:=.int n) (by omega) (by rw[Int.toNat_natCast];exact hidx) ?_
 walk_at "zz"
 refine Zb8 (n:=n) (a:=fun i=>.int i) (b:=fun i=>.int (Zco ns (2+i))) (by omega) ?_ (fun t ht=>?_) ?_
 ·walk_at "zz"
  rfl
 ·walk_at "zz"
  exact Zy (ZgU hL (by omega) (by omega)) rfl
 generalize hx:(fun i:Nat=>Zco ns (2+i))=x
 have sx:∀i,i<n→(x i).natAbs<2 ^ 134:=fun i _=>by rw[←hx];exact Zjc ns _
 rw[show(fun i:Nat=>T.int (Zco ns (2+i)))=fun i=>T.int (x i)by rw[←hx]]
 walk_at "zz"
 refine Zy (ZwX (x:=x) hL (by decide) (by decide) (by omega)) ?_
 have gd:=ZuX ns 14 n x
 have smG:SmG 136 n (Zck ns 14 n x):=ZvQ sx
 have smR:SmR 136 n (Zga ns 14 n x):=fun t ht=>⟨ZbL (Zqt (ns:=ns) (k:=14) sx t ht).1 (by decide),ZbL (Zqt (ns:=ns) (k:=14) sx t ht).2 (by decide)⟩
 generalize Zck ns 14 n x=G at *
 generalize Zga ns 14 n x=R at *
 walk_at "zz"
 have bx:∀i,i<n→Bd 140 (x i):=fun i hi=>ZbL (sx i hi) (by decide)
 have sG:SmG 137 n G:=fun a b ha hb c e=>ZbL (smG a b ha hb c e) (by decide)
 have sR:SmR 137 n R:=fun t ht=>⟨ZbL (smR t ht).1 (by decide),ZbL (smR t ht).2 (by decide)⟩
 have cp:ZgD [Zz n G R]=some (Zz n G R):=ZwY (by omega)
 have hbx:T.lst (tab n fun i=>T.int (x i))=Zaz n x:=rfl
 refine Zy cp ?_
 rw[hbx]
 walk_at "zz"
 refine(Zxn hL hn bx).mono ?_
 rintro Cl ⟨c,bc,hCl⟩
 obtain⟨hb,PL,k1,k2,k3⟩:=Zys hn gd.1 gd.2 sG sR bc hCl
 clear hCl
 refine Zdd ?_
 refine Ze1 ?_
 have hls:∀{σ:TL},σ 2=some (Zaz n x)→Pk (pFl (Zp Zch (Zd (Za 2) Zl)) σ) fun t=>t=Zaz n x:=fun e=>by
  unfold Zaz at e ⊢
  walk_at "zz"
  rfl
 refine(hls (by walk_at "zr")).mono ?_
 rintro _ rfl
 refine ZcV (fun σ'=>σ' 2=some (Zaz n x)∧σ' 3=some (Zz n G R)∧σ' 4=some (Zz n G R)∧σ' 5=some Cl∧∃x2,σ' 6=some (Zaz n x2)∧∀i,i<n→Bd 140 (x2 i)) ?_ ?_
 ·clear k1 k2 k3 smG smR
  have hs:Zaz n x=.lst (tab n fun i=>.int (x i)):=rfl
  by_cases h0:n=0
  ·subst h0
   have hz:¬(0:Int)>0:=by decide
   rw[hs]
   walk_at "zz"
   exact⟨by walk_at "zr",by walk_at "zr",by walk_at "zr",by walk_at "zr",x,by walk_at "zr",bx⟩
  ·have hp:((n:Nat):Int)>0:=by omega
   obtain⟨y0,y1⟩:=ZcM ns 43 (show(0:Int)<((n:Nat):Int)by omega)
   obtain⟨z0,z1⟩:=ZcM ns 44 (show(0:Int)<5 by decide)
   rw[hs]
   walk_at "zz"
   refine Zy (ZcN (by decide) (by decide) (by omega)) ?_
   obtain⟨a,ea,ha⟩:=ZrP y0 (show Zbt ns 43 ((n:Nat):Int)<(n:Nat)by omega)
   rw[ea]
   walk_at "zz"
   refine Zy (ZcN (by decide) (by decide) (by decide)) ?_
   generalize Zbt ns 44 5=pp at *
   walk_at "zz"
   refine⟨by walk_at "zr",by walk_at "zr",by walk_at "zr",by walk_at "zr",fun k=>if k=a then x a+pp-2 else x k,?_,fun i hi=>?_⟩
   ·rw[show(Zaz n fun k=>if k=a then x a+pp-2 else x k)=.lst (tab n fun k=>if k=a then T.int (x a+pp-2)else .int (x k))from congrArg T.lst (Zbg fun k _=>by by_cases z:k=a <;> simp only[z,if_true,if_false])]
    walk_at "zr"
   ·show Bd 140 (if i=a then _ else _)
    split
    ·have h1:Bd 134 (x a):=sx a ha
     have h2:Bd 134 (pp-2):=(show Bd 3 (pp-2)by unfold Bd;omega).mono (by decide)
     rw[show x a+pp-2=x a+(pp-2)by omega]
     exact(h1.add h2).mono (by decide)
    ·exact bx i hi
 rintro σ1 ⟨e2,e3,e4,e5,x2,e6,bx2⟩
 have bc3:∀i,i<n+1→Bd 300 (c i):=bc
 have hv:=ZnB (n:=n) (b:=300) (c:=c) (x:=x) (by omega) (by decide) bc (fun i hi=>(bx i hi).mono (by decide))
 have hv2:=ZnB (n:=n) (b:=300) (c:=c) (x:=x2) (by omega) (by decide) bc (fun i hi=>(bx2 i hi).mono (by decide))
 have all:∀b,∃D,Zcu [Zz n G R,Cl,.bool b]=some D∧(D=.none∨∃G2 R2,D=Zz n G2 R2∧(∀i,i<n+1→G2 i i=some 0)∧(∀t,t<n→RestOk (R2 t))∧Zbz n G2 R2 G R)∧Zdl [Zz n G R,Cl,.bool b,Zaz n x,D]=some (.bool true)∧Zdl [Zz n G R,Cl,.bool b,Zaz n x2,D]=some (.bool true):=fun b=>by
  obtain⟨D,w,f⟩:=k3 b
  refine⟨D,w,?_,Zrz (by omega) gd.2 (k1 x _ hv) (k2 b) f,Zrz (by omega) gd.2 (k1 x2 _ hv2) (k2 b) f⟩
  rcases f with⟨e,_⟩ | ⟨G2,R2,e,h1,h2,h3,h4,_⟩
  ·exact .inl e
  ·exact .inr ⟨G2,R2,e,h1,h2,h4⟩
 refine Zdd ?_
 refine ZnL (ts:=[.bool true,.bool false]) (P:=fun _ σ'=>σ' 2=some (Zaz n x)∧σ' 3=some (Zz n G R)∧σ' 4=some (Zz n G R)∧σ' 5=some Cl∧σ' 6=some (Zaz n x2)) ?_ ⟨e2,e3,e4,e5,e6⟩ ?_ ?_
 ·walk_at "zz"
  rfl
 ·rintro i t σ' ei ⟨f2,f3,f4,f5,f6⟩
  have:∃b,t=.bool b:=by
   match i,ei with
   | 0,ei=>cases ei;exact⟨_,rfl⟩
   | 1,ei=>cases ei;exact⟨_,rfl⟩
  obtain⟨b,rfl⟩:=this
  exact Zxo hn gd.2 (all b) (by walk_at "zr") (by walk_at "zr") (by walk_at "zr") (by walk_at "zr") (by walk_at "zr") (by walk_at "zr") fun σ'' g2 g3 g4 g5 g6=>⟨g2,g3,g4,g5,g6⟩
 ·rintro σ' _
  walk_at "zz"
  rfl
theorem ZtG(hlen:ns.length≤63)(hL:PyData.layable0 (.list (ns.map .int))=true): ∃H',Zqp [.ref 0] [ns.map V.int]=some (.bool true,H'):=ZuP ZvL ns (ZtZ hL)
end L
end
section
open PySem PySem.W PyProof.Rows
namespace PySem.W.Fast
def tw13698048360955963301:=0
def tw550859730669387710:=0
def tw8005766506721756608:=0
def tw10667965978278278033:=0
def tw3520363519792060846:=0
def tw12048056826642495367:=0
def tw10609323587221475018:=0
def tw13436231055378572716:=0
def tw5055051069096525434:=0
def tw12533650973541477374:=0
def tw2496939508604703423:=0
def tw4006126910494036212:=0
def tw12027893231959348502:=0
def tw16550838102048051623:=0
def tw13412699021565736533:=0
def tw6012122021747098740:=0
def tw16459021049253542911:=0
def tw1541540961381408409:=0
def tw15622835117965313283:=0
def tw10785849952161257653:=0
def tw7363425622247834253:=0
def tw3094701115853657799:=0
def tw16279701975793424917:=0
def tw15213048550514571353:=0
def tw17334881123488906936:=0
def tw6459200953577825518:=0
def tw1147522009701800784:=0
def tw14846608996346228861:=0
def tw8646929664414959583:=0
def tw1880258362356491002:=0
def tw14439765378166140033:=0
def tw13432873828021710899:=0
def tw12059592832596718669:=0
def tw1286790713380490605:=0
def tw10188337973796604112:=0
def tw5488966160659634681:=0
def tw12221415409051222339:=0
def tw9685044298169568939:=0
def tw3241244739717862871:=0
def tw6951939212644042833:=0
def tw9032336229301285499:=0
def tw4218939439129018664:=0
def tw5759927347364260171:=0
def tw4952506757814975653:=0
def tw9516800180062724845:=0
def tw10042499479572932358:=0
def tw10015853644003576960:=0
def tw931956834028986255:=0
def tw1157979631877120646:=0
def tw13673065589402620214:=0
def tw15740581520725410121:=0
def tw16406923672382228973:=0
def tw3555141088238359772:=0
def tw17093224777342109595:=0
def tw9218752888244210615:=0
def tw1611551182742943237:=0
def tw5764117369366255280:=0
def tw11717690317537128808:=0
def tw14987661418082201831:=0
def tw2754692670688779762:=0
def tw5266450434754204200:=0
def tw10069975712529536831:=0
def tw2337977823195543630:=0
def tw17698735102306075112:=0
def tw4227517698962585424:=0
def tw1647960591809683682:=0
def tw4185518321428705831:=0
def tw13991396874942911051:=0
def tw7089793799200125183:=0
def tw14734032772098568817:=0
def tw8667492640987031791:=0
def tw6905212232875527693:=0
def tw12674656310777702994:=0
def tw12392129776423771058:=0
def tw3934833063311361131:=0
def tw15261137711255440680:=0
def tw18182889222666715495:=0
def tw7894344252036594922:=0
def tw17338234738716814015:=0
def tw9161490523856799436:=0
def tw3133745999044795564:=0
def tw670427922429333600:=0
def tw3302770140995672700:=0
def tw16884622931589843948:=0
def tw11586196018267737339:=0
def tw8558524655760831906:=0
def tw8249347019533418915:=0
def tw1173414789623836638:=0
def tw7945405709010385892:=0
def tw12694112234171929671:=0
def tw7717702957765121957:=0
def tw5674458297940323589:=0
def tw11269825475406603969:=0
def tw10184835648761350555:=0
def tw16970792351503237766:=0
def tw1620389302784492585:=0
def tw3478894487363246031:=0
def tw9835382159548102362:=0
def tw1833547357909804662:=0
def tw12328853128172473661:=0
end PySem.W.Fast
set_option maxRecDepth 100000 in
set_option maxHeartbeats 8000000 in
open_top head for PySem.Challenge.rw_seer_k47_claims_keep_boxes
end
section
open PySem PySem.W PySem.Calls PyProof.Rows PM
namespace L
noncomputable abbrev DD(w:World)(s₀:Shared)(mg mb:Str→Option Value)(f:Addr)(r:Nat)(F:List V→Hp→Option (V×Hp)): Prop:=Def PySem.Challenge.rw_seer_k47_claims_keep_boxes.row.prog w (head.heap_39 w.params) head.view_39 (looseW head.view_39 []) (ExcName.means s₀.heap) mg mb f r F
section
variable {w:World} {s₀:Shared} {mg mb:Str→Option Value}
theorem Zpr: DD w s₀ mg mb 414 1 Zig:=by
 unfold DD;k_fill
 refine Dof (names:=["_law_script","_law_k","_law_number_here"]) (g:=Zlh) ?_
 exact fun _ _ _ _ _ _ _ c _ _=>(ZG (Zae sL (ZX (ZX (ZX vL vL ZbV) jI ZbV) jI ZaJ)) (ZG (Z7 (Z4 (ZaA (nB c) (Zg vL Zt) Za7) jI Zd2) (ZA (Zae sL (ZX vL (ZE vL (ZX vL (ZaA (nB c) (Zg vL Zt) Za7) Zbj)) ZaJ))) Z6) (ZA (ZK vL))))
theorem law_pick_d: DD w s₀ mg mb 421 2 Zb5:=by
 unfold DD;k_fill
 refine Dof (names:=["_law_script","_law_k","_law_many"]) (g:=Zl0) ?_
 exact fun _ _ _ _ _ _ _ c _ _=>(ZA (ZK (ZX (ZX (ZX (cF c Zpr (Zg vL (Zg vL Zt))) jI ZbV) jI Zbj) vL Zbj)))
theorem Zgv: DD w s₀ mg mb 428 2 ZeD:=by
 unfold DD;k_fill
 refine Dof (names:=["_law_script","_law_k","_law_number_here","_law_reach"]) (g:=ZkV) ?_
 exact fun _ _ _ _ _ _ _ c _ _=>(ZG (Zae sL (cF c Zpr (Zg vL (Zg vL Zt)))) (ZG (Zae sL (ZE (J.list (Zg jI (Zg jI (Zg (ZX jI jI Zn9) (Zg (ZX jI jI Zn9) Zt))))) (ZX (ZX (ZX vL jI ZbV) jI Zbj) jI Zbj))) (ZA (ZK (ZX (ZX (ZX vL (ZX jI jI Zn9) ZbV) (ZX (ZX jI vL ZbV) jI ZaJ) Zbj) vL Zb0)))))
theorem Zt0: DD w s₀ mg mb 435 3 Zlk:=by
 unfold DD;k_fill
 refine Dof (names:=["_law_script","_law_k","_law_way"]) (g:=Zlj) ?_
 exact fun _ _ _ _ _ _ _ c _ _=>(ZG (Zae sL (cF c law_pick_d (Zg vL (Zg vL (Zg jI Zt))))) (ZG (Z7 (Z4 (ZX vL jI Zbj) jI ZdF) (ZA (ZK jN)) Z6) (ZG (Z7 (Z4 (ZX vL jI Zbj) jI ZdF) (ZA (ZK jI)) Z6) (ZG (Z7 (Z4 (ZX vL jI Zbj) jI Zar) (ZA (ZK (ZX vL jI Ze0))) Z6) (ZA (ZK (ZaA (nB c) (Zg (cF c Zgv (Zg vL (Zg vL Zt))) Zt) ZdX)))))))
theorem Zo3: DD w s₀ mg mb 442 1 ZhX:=by
 unfold DD;k_fill
 refine Dof (names:=["_law_m","_law_r"]) (g:=Zkv) ?_
 exact fun _ _ _ _ _ _ _ c _ _=>(ZG (Z7 (Z4 vL jI Zar) (ZA (ZK (J.tup (Zg jI (Zg vL Zt))))) Z6) (ZA (ZK (J.tup (Zg vL (Zg (ZX vL vL Zbj) Zt))))))
theorem ZuB: DD w s₀ mg mb 449 3 Zl3:=by
 unfold DD;k_fill
 refine Dof (names:=["_law_script","_law_k","_law_number_here","_law_way"]) (g:=Zl2) ?_
 exact fun _ _ _ _ _ _ _ c _ _=>(ZG (Zae sL (cF c law_pick_d (Zg vL (Zg vL (Zg jI Zt))))) (ZG (Z7 (Z4 (ZX vL jI Zbj) jI ZdF) (ZA (ZK (J.tup (Zg jI (Zg jI Zt))))) Z6) (ZG (Z7 (Z4 (ZX vL jI Zbj) jI Zar) (ZA (ZK (J.tup (Zg jI (Zg vL Zt))))) Z6) (ZG (Z7 (Z4 (ZX vL jI Zbj) jI Zar) (ZA (ZK (cF c Zo3 (Zg (ZX (ZX vL jI Ze0) jI ZaJ) (Zg vL Zt))))) Z6) (ZA (ZK (cF c Zo3 (Zg (ZaA (nB c) (Zg (cF c Zgv (Zg vL (Zg vL Zt))) Zt) ZdX) (Zg vL Zt)))))))))
theorem ZuC: DD w s₀ mg mb 454 4 Zl6:=by
 unfold DD;k_fill
 refine Dof (names:=["_law_script","_law_k","_law_boxes","_law_full","_law_size","_law_bounds","_law_i","_law_row","_law_j","_law_top"]) (g:=Zl5) ?_
 exact fun _ _ _ _ _ _ _ c _ _=>(ZG (Zae sL (ZX (J.list (Zg jI Zt)) vC ZaJ)) (ZG (Zae sC (ZaA (nB c) (Zg vL Zt) Za7)) (ZG (Zae sL (J.list Zt)) (ZG (Zb1 sL (JI.range (nB c) (Zg vC Zt)) (ZG (Zae sL (J.list Zt)) (ZG (Zb1 sL (JI.range (nB c) (Zg vC Zt)) (ZG (Zae sL (cF c Zt0 (Zg vC (Zg (ZX (ZX vC (ZX vL vC ZbV) ZaJ) vL ZaJ) Zt)))) (ZG (Z7 (Z4 vL jN Zc6) (ZA (Zae sL (ZX (ZX (ZE vL vL) (ZE vL vL) Zb0) vL ZaJ))) Z6) (ZA (Zep (J.append vL vL)))))) (ZG (S1.put jI vL vL) (ZA (Zep (J.append vL vL))))))) (ZA (ZK (J.tup (Zg vL (Zg (by refine cO ?_ ?_ ?_;(exact(JI.range (nB c) (Zg (ZX vC jI Zb0) Zt)));(exact fun _ _=>(cF (Zc7 c) ZuB (Zg vD (Zg (ZX (ZX vD (ZX vD vD ZbV) ZaJ) vO ZaJ) (Zg (ZE vD vO) Zt)))));(exact fun _ _=>JF.nil)) Zt)))))))))
theorem ZuD: DD w s₀ mg mb 459 1 Zl9:=by
 unfold DD;k_fill
 refine Dof (names:=["_law_told_here"]) (g:=Zl8) ?_
 exact fun _ _ _ _ _ _ _ c _ _=>(ZG (Z7 (Z4 vL jN ZbX) (ZA (ZK jN)) Z6) (ZA (ZK (J.tup (Zg (by refine cO ?_ ?_ ?_;(exact(JI.seq (ZE vL jI)));(exact fun _ _=>(ZiZ (nB (Zc7 c)) (Zg vO Zt) Znk));(exact fun _ _=>JF.nil)) (Zg (ZiZ (nB c) (Zg (ZE vL jI) Zt) Znk) Zt))))))
theorem Zvd: DD w s₀ mg mb 515 3 Zm1:=by
 unfold DD;k_fill
 refine Dof (names:=["_law_script","_law_k","_law_many","_law_one","_law_way","_law_at","_law_to","_law_i"]) (g:=Zm0) ?_
 exact fun _ _ _ _ _ _ _ c _ _=>(ZG (Zae sL (ZX (J.list (Zg (cF c Zgv (Zg vL (Zg vL Zt))) Zt)) (ZX (J.list (Zg jI Zt)) vL ZbV) ZaJ)) (ZG (Zae sL (cF c law_pick_d (Zg vL (Zg vL (Zg jI Zt))))) (ZG (Z7 (Zbi (Zbf (Z4 vL jI Zar) (Zbf (Z4 vL jI Zar) ZcJ))) (ZA (ZK vL)) Z6) (ZG (Zae sL (ZX jI (cF c law_pick_d (Zg vL (Zg (ZX vL jI ZaJ) (Zg vL Zt)))) ZaJ)) (ZG (Z7 (Z4 vL jI Zar) (ZA (S1.put (ZX (cF c law_pick_d (Zg vL (Zg (ZX vL jI ZaJ) (Zg jI Zt)))) jI Zb0) vL vL)) Z6) (ZG (Z7 (Zbi (Zbf (Z4 vL jI Zar) (Zbf (Z4 vL jI Zar) ZcJ))) (ZG (Zae sL (ZX jI (cF c law_pick_d (Zg vL (Zg (ZX vL jI ZaJ) (Zg vL Zt)))) ZaJ)) (ZG (S1.put jI vL vL) (ZA (S1.put (ZX (ZE vL vL) jI Zb0) vL vL)))) Z6) (ZG (Z7 (Z4 vL jI Zar) (ZA (Zb1 sL (JI.range (nB c) (Zg vL Zt)) (ZA (S1.put (ZX (cF c law_pick_d (Zg vL (Zg (ZX (ZX vL jI ZaJ) vL ZaJ) (Zg jI Zt)))) jI Zb0) vL (ZX vL jI ZaJ))))) Z6) (ZG (Z7 (Z4 vL jI Zar) (ZA (Zb1 sL (JI.range (nB c) (Zg vL Zt)) (ZA (S1.put (ZX (cF c law_pick_d (Zg vL (Zg (ZX (ZX vL jI ZaJ) vL ZaJ) (Zg jI Zt)))) jI Zb0) vL (ZX vL jI ZaJ))))) Z6) (ZA (ZK vL))))))))))
theorem Zps: DD w s₀ mg mb 520 1 Zim:=by
 unfold DD;k_fill
 refine Dof (names:=["_law_one","_law_boxes"]) (g:=ZlH) ?_
 exact fun _ _ _ _ _ _ _ c _ _=>(ZA (ZK (ZX (ZE vC jI) (ZaA (nB c) (Zg (by refine cO ?_ ?_ ?_;(exact(JI.range (nB c) (Zg (ZaA (nB c) (Zg vC Zt) Za7) Zt)));(exact fun _ _=>(ZX (ZE vD (ZX vO jI ZaJ)) (ZE vD vO) ZbV));(exact fun _ _=>JF.nil)) Zt) Zxq) ZaJ)))
theorem ZsF: DD w s₀ mg mb 539 4 Zkf:=by
 unfold DD;k_fill
 refine Dof (names:=["_law_script","_law_boxes","_law_one","_law_way"]) (g:=Zke) ?_
 exact fun _ _ _ _ _ _ _ c _ _=>(ZG (Zae sL (cF c Zvd (Zg vL (Zg jI (Zg (ZaA (nB c) (Zg vL Zt) Za7) Zt))))) (ZG (Z7 (Z4 (cF c law_pick_d (Zg vL (Zg jI (Zg jI Zt)))) jI Zd2) (ZA (S1.put (ZX (ZX (ZX (ZE vL jI) (cF c Zps (Zg vL (Zg vL Zt))) Zb0) (cF c law_pick_d (Zg vL (Zg jI (Zg jI Zt)))) ZaJ) jI Zb0) vL jI)) Z6) (ZG (Zae sL (cF c law_pick_d (Zg vL (Zg jI (Zg jI Zt))))) (ZG (Z7 (Z4 (ZX vL jI Zbj) jI Zar) (ZA (ZK (J.tup (Zg jS (Zg vL Zt))))) Z6) (ZG (Z7 (Z4 (ZX vL jI Zbj) jI Zar) (ZA (ZK (J.tup (Zg jS (Zg vL Zt))))) Z6) (ZG (Z7 (Z4 vL jI Zar) (ZA (ZK (J.tup (Zg jS (Zg vL (Zg (ZaA (nB c) (Zg jI (Zg (ZaA (nB c) (Zg (cF c Zgv (Zg vL (Zg jI Zt))) Zt) ZdX) Zt)) Zwd) Zt)))))) Z6) (ZA (ZK (J.tup (Zg jS (Zg vL (Zg (ZX jI (cF c law_pick_d (Zg vL (Zg jI (Zg jI Zt)))) ZaJ) Zt))))))))))))
theorem ZqL: ∀n:Nat,Def PySem.Challenge.rw_seer_k47_claims_keep_boxes.row.prog w (head.heap_39 w.params) head.view_39 (looseW head.view_39 []) (ExcName.means s₀.heap) mg mb 19 n (ZfL n)
 | 0=>by intro Γ dp un clr hd hu W ρ H fr s Q E as xs v H' r hx hF post;cases hF
 | n+1=>by
  have ih:=ZqL n
  k_fill
  refine' ZrD (names:=["thing"]) (n:=1) (room:=n) (g:=ZnU (ZfL n)) (ho:=?ho) (hcd:=?hcd) (nd:=by decide) (hn:=by decide) (hbind:=?hb) (hkinds:=?hk) (hone:=?h1) (hco:=?z1) (hgen:=?z2) (hk:=?z3) (hbody:=?hbody)
  case ho=>k_is
  case z1=>rfl
  case z2=>rfl
  case z3=>rfl
  case hcd=>k_is
  case hb=>intro s xs hx;match xs,hx with | [x0],_=>exact BindsTo.of_eq rfl
  case hk=>decide
  case h1=>decide +kernel
  case hbody=>
   intro dp un gd L outer h₀ hu clr hd1 hu1
   exact(ZG (Z7 (ZaT (ZdS (nB clr) (nB clr) (.inr (.inr (.inl rfl))) vL)) (ZA (ZK (by refine cO ?_ ?_ ?_;(exact(JI.seq vL));(exact fun _ _=>(cF (Zc7 clr) ih (Zg vO Zt)));(exact fun _ _=>JF.nil)))) Z6) (ZG (Z7 (ZaT (ZdS (nB clr) (nB clr) (.inr (.inr (.inr rfl))) vL)) (ZA (ZK (ZiZ (nB clr) (Zg (by refine cO ?_ ?_ ?_;(exact(JI.seq vL));(exact fun _ _=>(cF (Zc7 clr) ih (Zg vO Zt)));(exact fun _ _=>JF.nil)) Zt) ZuM))) Z6) (ZA (ZK vL))))
theorem Zn8: Def PySem.Challenge.rw_seer_k47_claims_keep_boxes.row.prog w (head.heap_39 w.params) head.view_39 (looseW head.view_39 []) (ExcName.means s₀.heap) mg mb 19 9 Zhf:=ZqL 9
theorem ZuE: DD w s₀ mg mb 209 1 Zmu:=by
 unfold DD;k_fill
 refine Dof (names:=["one","other"]) (g:=Zmt) ?_
 exact fun _ _ _ _ _ _ _ c _ _=>(ZA (ZK (by refine cT ?_ ?_;(exact(JI2.zip (nB c) vL vL));(exact fun _ _=>(ZX vO vO ZaJ)))))
theorem ZeK: DD w s₀ mg mb 214 1 ZdN:=by
 unfold DD;k_fill
 refine Dof (names:=["one","k"]) (g:=ZlF) ?_
 exact fun _ _ _ _ _ _ _ c _ _=>(ZA (ZK (by refine cO ?_ ?_ ?_;(exact(JI.seq vL));(exact fun _ _=>(ZX vO vD ZbV));(exact fun _ _=>JF.nil))))
theorem ZmG: DD w s₀ mg mb 221 2 ZgK:=by
 unfold DD;k_fill
 refine Dof (names:=["one","other"]) (g:=Zmw) ?_
 exact fun _ _ _ _ _ _ _ c _ _=>(ZA (ZK (cF c ZuE (Zg vL (Zg (cF c ZeK (Zg vL (Zg (ZcD jI Zct) Zt))) Zt)))))
theorem Zpt: DD w s₀ mg mb 93 1 Zii:=by
 unfold DD;k_fill
 refine Dof (names:=["one","other"]) (g:=Zlm) ?_
 exact fun _ _ _ _ _ _ _ c _ _=>(ZA (ZK (ZjK (Zbd vL jN ZbX) (Zeu (Zbd vL jN Zc6) (Zbd vL vL ZjA)))))
theorem ZqM: DD w s₀ mg mb 100 2 ZiT:=by
 unfold DD;k_fill
 refine Dof (names:=["one","other"]) (g:=Znq) ?_
 exact fun _ _ _ _ _ _ _ c _ _=>(ZA (ZK (Ze7 (ZaT (cF c Zpt (Zg vL (Zg vL Zt)))) vL vL)))
theorem ZmH: DD w s₀ mg mb 107 3 ZgI:=by
 unfold DD;k_fill
 refine Dof (names:=["bounds","i","j","bound"]) (g:=ZiA) ?_
 exact fun _ _ _ _ _ _ _ c _ _=>(ZA (S1.put (cF c ZqM (Zg (ZE (ZE vL vL) vL) (Zg vL Zt))) (ZE vL vL) vL))
theorem ZiR: DD w s₀ mg mb 204 1 ZfG:=by
 unfold DD;k_fill
 refine Dof (names:=["i","n"]) (g:=Zm3) ?_
 exact fun _ _ _ _ _ _ _ c _ _=>(ZA (ZK (by refine cO ?_ ?_ ?_;(exact(JI.range (nB c) (Zg (ZX vL jI ZaJ) Zt)));(exact fun _ _=>(Ze7 (Zbi (Zbl (Z4 vD jI Zd2) (Zbl (Z4 vO vD Zar) ZcU))) jI jI));(exact fun _ _=>JF.nil))))
theorem ZfA: DD w s₀ mg mb 65 1 Zei:=by
 unfold DD;k_fill
 refine Dof (names:=["one","other"]) (g:=Zmf) ?_
 exact fun _ _ _ _ _ _ _ c _ _=>(ZG (Z7 (Zbi (Zbf (Z4 vL jN ZbX) (Zbf (Z4 vL jN ZbX) ZcJ))) (ZA (ZK jN)) Z6) (ZA (ZK (ZX vL vL ZaJ))))
theorem ZsG: DD w s₀ mg mb 311 1 Zj4:=by
 unfold DD;k_fill
 refine Dof (names:=["one"]) (g:=Zj3) ?_
 exact fun _ _ _ _ _ _ _ c _ _=>(ZA (ZK (Zbd (ZaA (nB c) (Zg (by refine cO ?_ ?_ ?_;(exact(JI.seq (Zjl vL jI)));(exact fun _ _=>vO);(exact fun _ _=>JF.one (Z4 vO jI Zcx))) Zt) ZpV) (J.list (Zg (ZcD jI Zct) (Zg jI Zt))) Zar)))
theorem Zs0: DD w s₀ mg mb 58 2 Zkn:=by
 unfold DD;k_fill
 refine Dof (names:=["one","other"]) (g:=Zkm) ?_
 exact fun _ _ _ _ _ _ _ c _ _=>(ZA (ZK (J.tup (Zg (cF c ZfA (Zg (ZE vL jI) (Zg (ZE vL jI) Zt))) (Zg (cF c ZfA (Zg (ZE vL jI) (Zg (ZE vL jI) Zt))) Zt)))))
theorem Ziu: DD w s₀ mg mb 79 1 Zfp:=by
 unfold DD;k_fill
 refine Dof (names:=["end","k"]) (g:=ZlA) ?_
 exact fun _ _ _ _ _ _ _ c _ _=>(ZG (Z7 (Z4 vL jN ZbX) (ZA (ZK jN)) Z6) (ZA (ZK (ZX vL vL ZbV))))
theorem ZsH: DD w s₀ mg mb 72 2 ZjY:=by
 unfold DD;k_fill
 refine Dof (names:=["one","k","lo","hi"]) (g:=ZjX) ?_
 exact fun _ _ _ _ _ _ _ c _ _=>(ZG (Z7 (Z4 vL jI Zar) (ZA (ZK (J.tup (Zg jI (Zg jI Zt))))) Z6) (ZG (Zae sL (cF c Ziu (Zg (ZE vL jI) (Zg vL Zt)))) (ZG (Zae sL (cF c Ziu (Zg (ZE vL jI) (Zg vL Zt)))) (ZG (Z7 (Z4 vL jI ZdF) (ZA (ZK (J.tup (Zg vL (Zg vL Zt))))) Z6) (ZA (ZK (J.tup (Zg vL (Zg vL Zt)))))))))
theorem Zti: DD w s₀ mg mb 228 3 ZkE:=by
 unfold DD;k_fill
 refine Dof (names:=["one","stretches","whole","k","part"]) (g:=ZkD) ?_
 exact fun _ _ _ _ _ _ _ c _ _=>(ZG (Zae sL (J.tup (Zg (ZE vL jI) (Zg (ZE vL jI) Zt)))) (ZG (Zi0 sL sL (JI2.zip (nB c) (Zjl vL jI) vL) (ZA (Zae sL (cF c Zs0 (Zg vL (Zg (cF c ZsH (Zg vL (Zg vL Zt))) Zt)))))) (ZA (ZK vL))))
theorem Zs1: DD w s₀ mg mb 299 2 Zks:=by
 unfold DD;k_fill
 refine Dof (names:=["told","bounds"]) (g:=Zkr) ?_
 exact fun _ _ _ _ _ _ _ c _ _=>(ZG (Zae sC (ZE vL jI)) (ZA (ZK (by refine cO ?_ ?_ ?_;(exact(JI.range (nB c) (Zg jI (Zg (ZaA (nB c) (Zg vC Zt) Za7) Zt))));(exact fun _ _=>(J.tup (Zg (cF (Zc7 c) Ziu (Zg (ZE (ZE vD jI) vO) (Zg (ZcD jI Zct) Zt))) (Zg (ZE (ZE vD vO) jI) Zt))));(exact fun _ _=>JF.nil)))))
theorem ZmI: DD w s₀ mg mb 306 4 ZgJ:=by
 unfold DD;k_fill
 refine Dof (names:=["told","one"]) (g:=Zmq) ?_
 exact fun _ _ _ _ _ _ _ c _ _=>(ZG (Z7 (ZaT (cF c ZsG (Zg vL Zt))) (ZA (ZK (cF c ZfA (Zg (ZE (ZE (ZE vL jI) (J.index vL jI jI)) (J.index vL (ZcD jI Zct) jI)) (Zg (ZE vL jI) Zt))))) Z6) (ZA (ZK (ZE (cF c Zti (Zg vL (Zg (cF c Zs1 (Zg vL Zt)) Zt))) jI))))
theorem Zpb: DD w s₀ mg mb 346 5 Zib:=by
 unfold DD;k_fill
 refine Dof (names:=["told","part","one","top"]) (g:=Zk5) ?_
 exact fun _ _ _ _ _ _ _ c _ _=>(ZA (ZK (cF c ZfA (Zg (cF c ZmI (Zg vL (Zg (cF c ZmG (Zg vL (Zg vL Zt))) Zt))) (Zg vL Zt)))))
theorem Ztj: DD w s₀ mg mb 332 6 ZkN:=by
 unfold DD;k_fill
 refine Dof (names:=["bounds","told","one","top","n","i","j","apart"]) (g:=Zh2) ?_
 exact fun _ _ _ _ _ _ _ c _ _=>(ZG (Zae sL (ZaA (nB c) (Zg (ZE vL jI) Zt) Za7)) (ZA (Zb1 sL (JI.range (nB c) (Zg (ZX vL jI ZaJ) Zt)) (ZA (Zb1 sL (JI.range (nB c) (Zg (ZX vL jI ZaJ) Zt)) (ZG (Zae sL (cF c ZmG (Zg (cF c ZiR (Zg vL (Zg vL Zt))) (Zg (cF c ZiR (Zg vL (Zg vL Zt))) Zt)))) (ZA (Zep (cF c ZmH (Zg vL (Zg vL (Zg vL (Zg (cF c Zpb (Zg vL (Zg vL (Zg vL (Zg vL Zt))))) Zt)))))))))))))
theorem Zpc: DD w s₀ mg mb 86 1 Zic:=by
 unfold DD;k_fill
 refine Dof (names:=["end","k"]) (g:=Zk7) ?_
 exact fun _ _ _ _ _ _ _ c _ _=>(ZG (Z7 (Z4 vL jN ZbX) (ZA (ZK jN)) Z6) (ZA (ZK (ZX vL vL Ze0))))
theorem Ztk: DD w s₀ mg mb 339 6 ZkP:=by
 unfold DD;k_fill
 refine Dof (names:=["bounds","told","one","top","n","i","k","bound"]) (g:=Zh4) ?_
 exact fun _ _ _ _ _ _ _ c _ _=>(ZG (Zae sL (ZaA (nB c) (Zg (ZE vL jI) Zt) Za7)) (ZA (Zb1 sL (JI.range (nB c) (Zg jI (Zg (ZX vL jI ZaJ) Zt))) (ZG (Zae sL (ZE vL vL)) (ZG (Zae sL (cF c Zpb (Zg vL (Zg (cF c ZeK (Zg (cF c ZiR (Zg vL (Zg vL Zt))) (Zg vL Zt))) (Zg vL (Zg vL Zt)))))) (ZG (Z7 (Z4 vL jI Zd2) (ZA (Zep (cF c ZmH (Zg vL (Zg vL (Zg jI (Zg (cF c Zpc (Zg vL (Zg vL Zt))) Zt))))))) Z6) (ZA (Z7 (Z4 vL jI ZdF) (ZA (Zep (cF c ZmH (Zg vL (Zg jI (Zg vL (Zg (cF c Zpc (Zg vL (Zg (ZcD vL Zct) Zt))) Zt))))))) Z6))))))))
theorem Zo4: DD w s₀ mg mb 268 1 Zfj:=by
 unfold DD;k_fill
 refine Dof (names:=["rests"]) (g:=ZkG) ?_
 exact fun _ _ _ _ _ _ _ c _ _=>(ZA (ZK (ZX (J.list (Zg (J.tup (Zg jI (Zg jI Zt))) Zt)) vL ZaJ)))
theorem Znj: DD w s₀ mg mb 136 1 ZgR:=by
 unfold DD;k_fill
 refine Dof (names:=["one","other","left","right","over"]) (g:=ZmP) ?_
 exact fun _ _ _ _ _ _ _ c _ _=>(ZG (Zae sL (ZaA (nB c) (Zg vL Zt) ZdX)) (ZG (Zae sL (ZaA (nB c) (Zg vL Zt) ZdX)) (ZG (Zqc 1000000 (Z4 vL jI Zcx) (ZG (Zae sL (ZX vL vL Zbj)) (ZG (Zae sL vL) (ZA (Zae sL vL))))) (ZA (ZK vL)))))
theorem Zjy: DD w s₀ mg mb 150 1 Zf1:=by
 unfold DD;k_fill
 refine Dof (names:=["m","r"]) (g:=Zog) ?_
 exact fun _ _ _ _ _ _ _ c _ _=>(ZG (Z7 (Z4 vL jI ZdF) (ZA (ZyJ)) Z6) (ZG (Z7 (Z4 vL jI Zar) (ZA (ZK (J.tup (Zg jI (Zg vL Zt))))) Z6) (ZA (ZK (J.tup (Zg vL (Zg (ZX vL vL Zbj) Zt)))))))
theorem Zve: DD w s₀ mg mb 143 1 ZmT:=by
 unfold DD;k_fill
 refine Dof (names:=["one","by","left","right","left_turns","right_turns","part","over","over_turns"]) (g:=ZmS) ?_
 exact fun _ _ _ _ _ _ _ c _ _=>(ZG (Zae sL (ZX vL vL Zbj)) (ZG (Zae sL vL) (ZG (Zae sL jI) (ZG (Zae sL jI) (ZG (Zqc 1000000 (Z4 vL jI Zcx) (ZG (Zae sL (ZX vL vL Ze0)) (ZG (Zae sL (ZX vL (ZX vL vL ZbV) Zb0)) (ZG (Zae sL (ZX vL (ZX vL vL ZbV) Zb0)) (ZG (Zae sL vL) (ZG (Zae sL vL) (ZG (Zae sL vL) (ZA (Zae sL vL))))))))) (ZA (ZK (ZX vL vL Zbj))))))))
theorem ZgO: DD w s₀ mg mb 157 1 ZeL:=by
 unfold DD;k_fill
 refine Dof (names:=["one","number"]) (g:=Zmb) ?_
 exact fun _ _ _ _ _ _ _ c _ _=>(ZG (Z7 (Z4 (ZE vL jI) jI Zar) (ZA (ZK (Zbd vL (ZE vL jI) Zar))) Z6) (ZA (ZK (Zbd (ZX vL (ZE vL jI) Zbj) (ZE vL jI) Zar))))
theorem ZpP: DD w s₀ mg mb 171 2 Zix:=by
 unfold DD;k_fill
 refine Dof (names:=["one","other","common","apart","width","turns"]) (g:=Zmd) ?_
 exact fun _ _ _ _ _ _ _ c _ _=>(ZG (Z7 (Z4 (ZE vL jI) jI Zar) (ZA (ZK (Ze7 (ZaT (cF c ZgO (Zg vL (Zg (ZE vL jI) Zt)))) vL jN))) Z6) (ZG (Z7 (Z4 (ZE vL jI) jI Zar) (ZA (ZK (Ze7 (ZaT (cF c ZgO (Zg vL (Zg (ZE vL jI) Zt)))) vL jN))) Z6) (ZG (Zae sL (cF c Znj (Zg (ZE vL jI) (Zg (ZE vL jI) Zt)))) (ZG (Zae sL (ZX (ZE vL jI) (ZE vL jI) Zb0)) (ZG (Z7 (Z4 (ZX vL vL Zbj) jI Zcx) (ZA (ZK jN)) Z6) (ZG (Zae sL (ZX (ZE vL jI) vL Ze0)) (ZG (Zae sL (ZX (ZX vL vL Ze0) (cF c Zve (Zg (ZX (ZE vL jI) vL Ze0) (Zg vL Zt))) ZbV)) (ZA (ZK (cF c Zjy (Zg (ZX (ZE vL jI) vL ZbV) (Zg (ZX (ZE vL jI) (ZX (ZE vL jI) vL ZbV) ZaJ) Zt))))))))))))
theorem ZlW: DD w s₀ mg mb 178 2 Zgy:=by
 unfold DD;k_fill
 refine Dof (names:=["one","other"]) (g:=Zlr) ?_
 exact fun _ _ _ _ _ _ _ c _ _=>(ZA (ZK (cF c Zjy (Zg (cF c Znj (Zg (ZE vL jI) (Zg (ZE vL jI) Zt))) (Zg (ZX (ZE vL jI) (ZE vL jI) ZaJ) Zt)))))
theorem Zs2: DD w s₀ mg mb 275 3 Zgl:=by
 unfold DD;k_fill
 refine Dof (names:=["bounds","rests","i","met","j","other"]) (g:=Zkp) ?_
 exact fun _ _ _ _ _ _ _ c _ _=>(ZG (Zae sL (ZE vL vL)) (ZG (Zi0 sL sL (ZvC (nB c) vL) (ZA (Z7 (Zbi (Zbl (Z4 vL jN Zc6) (Zbl (Z4 (cF c ZfA (Zg (ZE (ZE vL vL) vL) (Zg (ZE (ZE vL vL) vL) Zt))) jI Zar) ZcU))) (ZA (Zae sL (cF c ZpP (Zg vL (Zg (cF c ZlW (Zg vL (Zg (J.tup (Zg jI (Zg (ZE (ZE vL vL) vL) Zt))) Zt))) Zt))))) Z6))) (ZA (ZK vL))))
theorem Ztl: DD w s₀ mg mb 261 4 Zec:=by
 unfold DD;k_fill
 refine Dof (names:=["told","rests","met"]) (g:=Zgm) ?_
 exact fun _ _ _ _ _ _ _ c _ _=>(ZG (Z7 (Z4 vC jN ZbX) (ZA (ZK jN)) Z6) (ZG (Zae sC (cF c Zo4 (Zg (ZE vC jI) Zt))) (ZG (by refine sO sL ?_ ?_ ?_;(exact(JI.range (nB c) (Zg jI (Zg (ZaA (nB c) (Zg vC Zt) Za7) Zt))));(exact fun _ _=>(cF (Zc7 c) Zs2 (Zg (ZE vD jI) (Zg vD (Zg vO Zt)))));(exact fun _ _=>JF.nil)) (ZG (Z7 (Z4 jN vL Zoy) (ZA (ZK jN)) Z6) (ZA (ZK (J.tup (Zg (ZE vC jI) (Zg vL Zt)))))))))
theorem ZsI: DD w s₀ mg mb 124 3 ZjV:=by
 unfold DD;k_fill
 refine Dof (names:=["row","there","further"]) (g:=ZjU) ?_
 exact fun _ _ _ _ _ _ _ c _ _=>(ZA (ZK (by refine cT ?_ ?_;(exact(JI2.zip (nB c) vL vL));(exact fun _ _=>(cF (Zc7 c) ZqM (Zg vO (Zg (cF (Zc7 c) ZfA (Zg vD (Zg vO Zt))) Zt)))))))
theorem Zt1: DD w s₀ mg mb 119 4 Zlv:=by
 unfold DD;k_fill
 refine Dof (names:=["bounds","mid"]) (g:=Zlu) ?_
 exact fun _ _ _ _ _ _ _ c _ _=>(ZA (ZK (by refine cO ?_ ?_ ?_;(exact(JI.seq vC));(exact fun _ _=>(cF (Zc7 c) ZsI (Zg vO (Zg (ZE vO vD) (Zg (ZE vD vD) Zt)))));(exact fun _ _=>JF.nil))))
theorem Zs3: DD w s₀ mg mb 129 1 Zkk:=by
 unfold DD;k_fill
 refine Dof (names:=["bounds"]) (g:=Zkj) ?_
 exact fun _ _ _ _ _ _ _ c _ _=>(ZA (ZK (ZaA (nB c) (Zg (by refine cO ?_ ?_ ?_;(exact(JI.range (nB c) (Zg (ZaA (nB c) (Zg vC Zt) Za7) Zt)));(exact fun _ _=>(Zbd (ZE (ZE vD vO) vO) jI ZdF));(exact fun _ _=>JF.nil)) Zt) Zxw)))
theorem Zwb: DD w s₀ mg mb 114 5 ZfK:=by
 unfold DD;k_fill
 refine Dof (names:=["bounds","near","mid"]) (g:=Zns) ?_
 exact fun _ _ _ _ _ _ _ c _ _=>(ZG (Zae sL vL) (ZG (Zb1 sL (JI.range (nB c) (Zg (ZaA (nB c) (Zg vL Zt) Za7) Zt)) (ZG (Zae sL (cF c Zt1 (Zg vL (Zg vL Zt)))) (ZA (Z7 (ZaT (cF c Zs3 (Zg vL Zt))) (ZA (ZK jN)) Z6)))) (ZA (ZK vL))))
theorem Zyt: DD w s₀ mg mb 256 6 Zes:=by
 unfold DD;k_fill
 refine Dof (names:=["told","bounds"]) (g:=Zjs) ?_
 exact fun _ _ _ _ _ _ _ c _ _=>(ZG (Z7 (Z4 vL jN ZbX) (ZA (ZK jN)) Z6) (ZG (Zae sL (cF c Zwb (Zg (ZE vL jI) Zt))) (ZG (Z7 (Z4 vL jN ZbX) (ZA (ZK jN)) Z6) (ZA (ZK (J.tup (Zg vL (Zg (ZE vL jI) Zt))))))))
theorem Zsa: DD w s₀ mg mb 249 7 Zf2:=by
 unfold DD;k_fill
 refine Dof (names:=["told"]) (g:=Zoi) ?_
 exact fun _ _ _ _ _ _ _ c _ _=>(ZA (ZK (cF c Ztl (Zg (cF c Zyt (Zg vL Zt)) Zt))))
theorem ZtH: DD w s₀ mg mb 199 1 Zk3:=by
 unfold DD;k_fill
 refine Dof (names:=["one","top"]) (g:=Zk2) ?_
 exact fun _ _ _ _ _ _ _ c _ _=>(ZG (Z7 (Z4 (ZE vL jI) jI Zar) (ZA (ZK (Ze7 (Z4 (ZE vL jI) vL ZjA) (ZE vL jI) jN))) Z6) (ZA (ZK (ZX vL (ZX (ZX vL (ZE vL jI) Zb0) (ZE vL jI) Zbj) Zb0))))
theorem ZsJ: DD w s₀ mg mb 294 2 Zj1:=by
 unfold DD;k_fill
 refine Dof (names:=["bound","left"]) (g:=Zj0) ?_
 exact fun _ _ _ _ _ _ _ c _ _=>(ZG (Z7 (Z4 vL jN Zc6) (ZA (ZK (cF c ZtH (Zg vL (Zg vL Zt))))) Z6) (ZG (Z7 (Z4 (ZE vL jI) jI Zar) (ZA (ZK (ZE vL jI))) Z6) (ZA (ZK jN))))
theorem Zlg: DD w s₀ mg mb 185 2 Zgq:=by
 unfold DD;k_fill
 refine Dof (names:=["one","k"]) (g:=ZkZ) ?_
 exact fun _ _ _ _ _ _ _ c _ _=>(ZA (ZK (cF c Zjy (Zg (ZX (ZE vL jI) (ZaA (nB c) (Zg vL Zt) ZdX) ZbV) (Zg (ZX (ZE vL jI) vL ZbV) Zt)))))
theorem Ztm: DD w s₀ mg mb 287 3 ZkK:=by
 unfold DD;k_fill
 refine Dof (names:=["row","left","rests","new","bound","other","low"]) (g:=ZkJ) ?_
 exact fun _ _ _ _ _ _ _ c _ _=>(ZG (Zae sL (J.list Zt)) (ZG (Zi0 sL sL (JI2.zip (nB c) vL vL) (ZG (Zae sL (cF c ZsJ (Zg vL (Zg (cF c ZlW (Zg vL (Zg (cF c Zlg (Zg vL (Zg (ZcD jI Zct) Zt))) Zt))) Zt)))) (ZG (Z7 (Zbi (Zbl (Z4 vL jN ZbX) (Zbl (Z4 vL jN Zc6) ZcU))) (ZA (ZK jN)) Z6) (ZA (Zep (J.append vL vL)))))) (ZA (ZK vL))))
theorem Zvf: DD w s₀ mg mb 280 4 ZmZ:=by
 unfold DD;k_fill
 refine Dof (names:=["told","rests","bounds"]) (g:=ZmY) ?_
 exact fun _ _ _ _ _ _ _ c _ _=>(ZG (Z7 (Z4 vL jN ZbX) (ZA (ZK jN)) Z6) (ZG (Zae sC (cF c Zo4 (Zg (ZE vL jI) Zt))) (ZG (by refine sT sL ?_ ?_;(exact(JI2.zip (nB c) (ZE vL jI) vC));(exact fun _ _=>(cF (Zc7 c) Ztm (Zg vO (Zg vO (Zg vD Zt)))))) (ZG (Z7 (Z4 jN vL Zoy) (ZA (ZK jN)) Z6) (ZA (ZK (J.tup (Zg vL (Zg (ZE vL jI) Zt)))))))))
theorem ZrB: DD w s₀ mg mb 242 8 Zja:=by
 unfold DD;k_fill
 refine Dof (names:=["told"]) (g:=ZnS) ?_
 exact fun _ _ _ _ _ _ _ c _ _=>(ZA (ZK (cF c Zsa (Zg (cF c Zvf (Zg (cF c Zsa (Zg vL Zt)) Zt)) Zt))))
theorem Zvg: DD w s₀ mg mb 51 1 ZmW:=by
 unfold DD;k_fill
 refine Dof (names:=["lo","hi"]) (g:=ZmV) ?_
 exact fun _ _ _ _ _ _ _ c _ _=>(ZA (ZK (ZrK (Zbd vL jN Zc6) (Zeu (Zbd vL jN Zc6) (Zbd vL vL Zd2)))))
theorem Zxp: DD w s₀ mg mb 318 5 ZnX:=by
 unfold DD;k_fill
 refine Dof (names:=["told","one"]) (g:=ZnW) ?_
 exact fun _ _ _ _ _ _ _ c _ _=>(ZA (ZK (cF c Ziu (Zg (cF c ZmI (Zg vL (Zg (cF c ZeK (Zg vL (Zg (ZcD jI Zct) Zt))) Zt))) (Zg (ZcD jI Zct) Zt)))))
theorem Zg2: DD w s₀ mg mb 325 10 ZeQ:=by
 unfold DD;k_fill
 refine Dof (names:=["told","one","top","bounds"]) (g:=Zm5) ?_
 exact fun _ _ _ _ _ _ _ c _ _=>(ZG (Z7 (Zbi (Zbf (Z4 vL jN ZbX) (Zbf (ZaT (cF c Zvg (Zg (cF c Zxp (Zg vL (Zg vL Zt))) (Zg vL Zt)))) ZcJ))) (ZA (ZK jN)) Z6) (ZG (Zae sL (cF c Zn8 (Zg (ZE vL jI) Zt))) (ZG (Zep (cF c Ztj (Zg vL (Zg vL (Zg vL (Zg vL Zt)))))) (ZG (Zep (cF c Ztk (Zg vL (Zg vL (Zg vL (Zg vL Zt)))))) (ZA (ZK (cF c ZrB (Zg (J.tup (Zg vL (Zg (ZE vL jI) Zt))) Zt))))))))
theorem ZtI: DD w s₀ mg mb 360 11 Zla:=by
 unfold DD;k_fill
 refine Dof (names:=["told","one","truth"]) (g:=Zk9) ?_
 exact fun _ _ _ _ _ _ _ c _ _=>(ZG (Z7 (ZaT vL) (ZA (ZK (cF c Zg2 (Zg vL (Zg vL (Zg (ZcD jI Zct) Zt)))))) Z6) (ZA (ZK (cF c Zg2 (Zg vL (Zg (cF c ZeK (Zg vL (Zg (ZcD jI Zct) Zt))) (Zg jI Zt)))))))
theorem ZoQ: DD w s₀ mg mb 192 2 ZhQ:=by
 unfold DD;k_fill
 refine Dof (names:=["one","k"]) (g:=Zj6) ?_
 exact fun _ _ _ _ _ _ _ c _ _=>(ZA (ZK (cF c Zjy (Zg (cF c Znj (Zg (ZE vL jI) (Zg vL Zt))) (Zg (ZE vL jI) Zt)))))
theorem ZiF: DD w s₀ mg mb 235 3 Zfu:=by
 unfold DD;k_fill
 refine Dof (names:=["one","rests","whole","k","part"]) (g:=Zmk) ?_
 exact fun _ _ _ _ _ _ _ c _ _=>(ZG (Zae sL (J.tup (Zg jI (Zg (ZE vL jI) Zt)))) (ZG (Zi0 sL sL (JI2.zip (nB c) (Zjl vL jI) vL) (ZA (Zae sL (cF c ZlW (Zg vL (Zg (cF c Zlg (Zg vL (Zg vL Zt))) Zt)))))) (ZA (ZK vL))))
theorem Ztn: DD w s₀ mg mb 407 4 ZkS:=by
 unfold DD;k_fill
 refine Dof (names:=["rests","one","d","i","k","left","others"]) (g:=ZkR) ?_
 exact fun _ _ _ _ _ _ _ c _ _=>(ZG (Zae sL (ZE vL vL)) (ZG (Zae sL (ZE vL (ZX vL jI Zb0))) (ZG (Z7 (Z4 (ZaA (nB c) (Zg vL Zt) ZdX) jI Zcx) (ZA (ZK vL)) Z6) (ZG (Zae sL (cF c ZmG (Zg vL (Zg (cF c ZeK (Zg (cF c ZiR (Zg vL (Zg (ZaA (nB c) (Zg vL Zt) Za7) Zt))) (Zg vL Zt))) Zt)))) (ZA (ZK (cF c ZpP (Zg vL (Zg (cF c ZoQ (Zg (cF c Zlg (Zg (cF c ZiF (Zg vL (Zg vL Zt))) (Zg (ZcD vL Zct) Zt))) (Zg vL Zt))) Zt)))))))))
theorem Zpu: DD w s₀ mg mb 400 9 Zin:=by
 unfold DD;k_fill
 refine Dof (names:=["told","one","d","rests"]) (g:=ZlJ) ?_
 exact fun _ _ _ _ _ _ _ c _ _=>(ZG (Z7 (Z4 vC jN ZbX) (ZA (ZK jN)) Z6) (ZG (by refine sO sL ?_ ?_ ?_;(exact(JI.range (nB c) (Zg jI (Zg (ZaA (nB c) (Zg vC Zt) Za7) Zt))));(exact fun _ _=>(cF (Zc7 c) Ztn (Zg (ZE vD jI) (Zg vD (Zg vD (Zg vO Zt))))));(exact fun _ _=>JF.nil)) (ZG (Z7 (Z4 jN vL Zoy) (ZA (ZK jN)) Z6) (ZA (ZK (cF c ZrB (Zg (J.tup (Zg (ZE vC jI) (Zg vL Zt))) Zt)))))))
theorem Zpv: DD w s₀ mg mb 388 10 Zip:=by
 unfold DD;k_fill
 refine Dof (names:=["told","one","d"]) (g:=ZlK) ?_
 exact fun _ _ _ _ _ _ _ c _ _=>(ZG (Z7 (ZbU (ZaT (cF c ZgO (Zg (cF c ZoQ (Zg (cF c ZiF (Zg vL (Zg (ZE vL jI) Zt))) (Zg vL Zt))) (Zg jI Zt))))) (ZA (ZK jN)) Z6) (ZA (ZK (cF c Zpu (Zg vL (Zg vL (Zg vL Zt)))))))
theorem Zto: DD w s₀ mg mb 164 2 Zky:=by
 unfold DD;k_fill
 refine Dof (names:=["one","other"]) (g:=Zkx) ?_
 exact fun _ _ _ _ _ _ _ c _ _=>(ZG (Z7 (Z4 (ZE vL jI) jI Zar) (ZA (ZK (Zbd vL vL Zar))) Z6) (ZA (ZK (Zeu (Zbd (ZX (ZE vL jI) (ZE vL jI) Zbj) jI Zar) (cF c ZgO (Zg vL (Zg (ZE vL jI) Zt)))))))
theorem ZsK: DD w s₀ mg mb 395 11 Zj9:=by
 unfold DD;k_fill
 refine Dof (names:=["told","one","d"]) (g:=Zj8) ?_
 exact fun _ _ _ _ _ _ _ c _ _=>(ZG (Z7 (ZaT (cF c Zto (Zg (cF c ZiF (Zg vL (Zg (ZE vL jI) Zt))) (Zg (J.tup (Zg vL (Zg jI Zt))) Zt)))) (ZA (ZK jN)) Z6) (ZG (Z7 (Z4 vL jI Zar) (ZA (ZK (cF c Zpv (Zg vL (Zg (ZX (J.list (Zg (ZX (ZE vL jI) jI ZaJ) Zt)) (Zjl vL jI) ZaJ) (Zg jI Zt)))))) Z6) (ZA (ZK (cF c Zn8 (Zg vL Zt))))))
theorem Zt2: DD w s₀ mg mb 367 11 ZlM:=by
 unfold DD;k_fill
 refine Dof (names:=["told","one","held"]) (g:=ZlL) ?_
 exact fun _ _ _ _ _ _ _ c _ _=>(ZG (Z7 (ZbU (ZaT (cF c ZgO (Zg (cF c ZiF (Zg vL (Zg (ZE vL jI) Zt))) (Zg jI Zt))))) (ZA (ZK jN)) Z6) (ZG (Zae sL (cF c Zg2 (Zg (cF c Zg2 (Zg vL (Zg vL (Zg jI Zt)))) (Zg (cF c ZeK (Zg vL (Zg (ZcD jI Zct) Zt))) (Zg jI Zt))))) (ZA (ZK (cF c Zpu (Zg vL (Zg vL (Zg jI Zt))))))))
theorem ZpQ: DD w s₀ mg mb 381 11 ZiC:=by
 unfold DD;k_fill
 refine Dof (names:=["told","one"]) (g:=Zmz) ?_
 exact fun _ _ _ _ _ _ _ c _ _=>(ZG (Z7 (Zbi (Zbl (Z4 vL jN Zc6) (Zbl (ZaT (cF c Zpt (Zg (cF c ZmI (Zg vL (Zg vL Zt))) (Zg jI Zt)))) ZcU))) (ZA (ZK (cF c Zg2 (Zg vL (Zg vL (Zg (ZcD jI Zct) Zt)))))) Z6) (ZA (ZK vL)))
theorem ZsL: DD w s₀ mg mb 374 12 Zkb:=by
 unfold DD;k_fill
 refine Dof (names:=["told","one"]) (g:=Zka) ?_
 exact fun _ _ _ _ _ _ _ c _ _=>(ZA (ZK (cF c Zn8 (Zg (cF c ZpQ (Zg (cF c ZpQ (Zg vL (Zg vL Zt))) (Zg (cF c ZeK (Zg vL (Zg (ZcD jI Zct) Zt))) Zt))) Zt))))
theorem Zyu: DD w s₀ mg mb 353 13 Zok:=by
 unfold DD;k_fill
 refine Dof (names:=["told","claim","truth"]) (g:=Zoj) ?_
 exact fun _ _ _ _ _ _ _ c _ _=>(ZG (Z7 (Z4 vL jN ZbX) (ZA (ZK jN)) Z6) (ZG (Z7 (Z4 (ZE vL jI) jS Zar) (ZA (ZK (cF c ZtI (Zg vL (Zg (ZE vL jI) (Zg vL Zt)))))) Z6) (ZG (Z7 (Z4 (ZE vL jI) jS Zar) (ZA (ZK (Ze7 (ZaT vL) (cF c Zt2 (Zg vL (Zg (ZE vL jI) Zt))) (cF c ZsL (Zg vL (Zg (ZE vL jI) Zt)))))) Z6) (ZA (ZK (Ze7 (ZaT vL) (cF c Zpv (Zg vL (Zg (ZE vL jI) (Zg (ZE vL jI) Zt)))) (cF c ZsK (Zg vL (Zg (ZE vL jI) (Zg (ZE vL jI) Zt))))))))))
theorem Zt3: DD w s₀ mg mb 527 2 ZlO:=by
 unfold DD;k_fill
 refine Dof (names:=["_law_claim_here","_law_boxes","_law_number_here"]) (g:=ZlN) ?_
 exact fun _ _ _ _ _ _ _ c _ _=>(ZG (Zae sL (cF c Zps (Zg (ZE vL jI) (Zg vL Zt)))) (ZG (Z7 (Z4 (ZE vL jI) jS Zar) (ZA (ZK (Zbd vL jI ZdF))) Z6) (ZG (Z7 (Z4 (ZE vL jI) jS Zar) (ZA (ZK (Zbd vL jI Zar))) Z6) (ZA (ZK (Zbd (ZX vL (ZE vL jI) Zbj) jI Zar))))))
theorem ZmJ: DD w s₀ mg mb 466 1 ZgG:=by
 unfold DD;k_fill
 refine Dof (names:=["_law_told_here","_law_boxes","_law_full","_law_i","_law_j","_law_t","_law_apart"]) (g:=Zmm) ?_
 exact fun _ _ _ _ _ _ _ c _ _=>(ZG (Z7 (Z4 vL jN ZbX) (ZA (ZK jB)) Z6) (ZG (Zae sL (ZX (J.list (Zg jI Zt)) vL ZaJ)) (ZG (Zb1 sL (JI.range (nB c) (Zg (ZaA (nB c) (Zg vL Zt) Za7) Zt)) (ZA (Zb1 sL (JI.range (nB c) (Zg (ZaA (nB c) (Zg vL Zt) Za7) Zt)) (ZA (Z7 (Zbi (Zbl (Z4 (ZE (ZE (ZE vL jI) vL) vL) jN Zc6) (Zbl (Z4 (ZE vL vL) (ZX (ZE vL vL) (ZE (ZE (ZE vL jI) vL) vL) ZaJ) Zd2) ZcU))) (ZA (ZK jB)) Z6))))) (ZG (Zb1 sL (JI.range (nB c) (Zg (ZaA (nB c) (Zg vL Zt) Za7) Zt)) (ZG (Zae sL (ZX (ZE vL vL) (ZE (ZE (ZE vL jI) vL) jI) Zb0)) (ZG (Z7 (Zbi (Zbl (Z4 (ZE (ZE (ZE vL jI) vL) jI) jI Zar) (Zbl (Z4 vL jI Zcx) ZcU))) (ZA (ZK jB)) Z6) (ZA (Z7 (Zbi (Zbl (Z4 (ZE (ZE (ZE vL jI) vL) jI) jI Zd2) (Zbl (Z4 (ZX vL (ZE (ZE (ZE vL jI) vL) jI) Zbj) jI Zcx) ZcU))) (ZA (ZK jB)) Z6))))) (ZA (ZK jB))))))
theorem Zt4: DD w s₀ mg mb 532 1 ZlQ:=by
 unfold DD;k_fill
 refine Dof (names:=["_law_claim_here","_law_truth","_law_some"]) (g:=ZlP) ?_
 exact fun _ _ _ _ _ _ _ c _ _=>(ZG (by refine sO sL ?_ ?_ ?_;(exact(JI.seq (ZvJ (ZE vL jI) (JP.some jI) JP.none)));(exact fun _ _=>vO);(exact fun _ _=>JF.one (Z4 vO jI Zcx))) (ZG (Z7 (Z4 (ZaA (nB c) (Zg vL Zt) Za7) jI Zar) (ZA (ZK jB)) Z6) (ZG (Z7 (Zbi (Zbl (Z4 (ZE vL jI) jS Zar) (Zbl (ZaT vL) ZcU))) (ZA (ZK (Zeu (Zbd (ZaA (nB c) (Zg vL Zt) Za7) jI Zar) (Zbd (ZaA (nB c) (Zg (ZE vL jI) Zt) ZdX) jI Zar)))) Z6) (ZG (Z7 (Z4 (ZE vL jI) jS Zar) (ZA (ZK (ZjK (Zbd (ZE vL jI) jI Zar) (ZrK (Zbd (ZE vL jI) jI Zar) (Zeu (Zbd (ZaA (nB c) (Zg vL Zt) Za7) jI Zar) (Zbd (ZaA (nB c) (Zg (ZE vL jI) Zt) ZdX) jI Zar)))))) Z6) (ZG (Z7 (Zbi (Zbl (Z4 (ZE vL jI) jS Zar) (Zbl (ZbU (ZaT vL)) ZcU))) (ZA (ZK jB)) Z6) (ZA (ZK (ZjK (Zbd (ZaA (nB c) (Zg vL Zt) Za7) jI Zar) (Zbd (ZaA (nB c) (Zg vL Zt) ZpV) (J.list (Zg (ZcD jI Zct) (Zg jI Zt))) Zar)))))))))
theorem ZoR: DD w s₀ mg mb 546 3 ZhS:=by
 unfold DD;k_fill
 refine Dof (names:=["_law_told_here","_law_claim_here","_law_truth","_law_some","_law_found","_law_right"]) (g:=Zkh) ?_
 exact fun _ _ _ _ _ _ _ c _ _=>(ZG (Zae sL (Zbd (cF c Zt3 (Zg vL (Zg vL Zt))) vL Zar)) (ZG (Z7 (Zbi (Zbl (ZaT vL) (Zbl (ZaT (cF c ZmJ (Zg vL (Zg vL Zt)))) ZcU))) (ZA (ZK (cF c ZmJ (Zg vL (Zg vL Zt))))) Z6) (ZA (ZK (ZyK vL (ZjK (Zos (cF c Zt4 (Zg vL (Zg vL Zt)))) (Zos (cF c ZmJ (Zg vL (Zg vL Zt))))))))))
theorem Ztp: DD w s₀ mg mb 501 1 ZkB:=by
 unfold DD;k_fill
 refine Dof (names:=["_law_one","_law_other"]) (g:=ZkA) ?_
 exact fun _ _ _ _ _ _ _ c _ _=>(ZG (Z7 (Z4 (ZE vL jI) jI Zar) (ZA (ZK (Zbd vL vL Zar))) Z6) (ZA (ZK (Zeu (Zbd (ZX (ZE vL jI) (ZE vL jI) Zbj) jI Zar) (Zbd (ZX (ZX (ZE vL jI) (ZE vL jI) Zb0) (ZE vL jI) Zbj) jI Zar)))))
theorem Zt5: DD w s₀ mg mb 494 1 Zlp:=by
 unfold DD;k_fill
 refine Dof (names:=["_law_one","_law_other"]) (g:=Zlo) ?_
 exact fun _ _ _ _ _ _ _ c _ _=>(ZG (Z7 (Z4 vL jN ZbX) (ZA (ZK jB)) Z6) (ZA (ZK (Zeu (Zbd vL jN Zc6) (Zbd vL vL ZjA)))))
theorem ZtJ: DD w s₀ mg mb 508 2 ZkY:=by
 unfold DD;k_fill
 refine Dof (names:=["_law_one","_law_other","_law_i","_law_j","_law_t"]) (g:=ZkX) ?_
 exact fun _ _ _ _ _ _ _ c _ _=>(ZG (Z7 (Zbi (Zbf (Z4 vL jN ZbX) (Zbf (Z4 vL jN ZbX) ZcJ))) (ZA (ZK (Zbd vL jN ZbX))) Z6) (ZG (Zb1 sL (JI.range (nB c) (Zg (ZaA (nB c) (Zg (ZE vL jI) Zt) Za7) Zt)) (ZA (Zb1 sL (JI.range (nB c) (Zg (ZaA (nB c) (Zg (ZE vL jI) Zt) Za7) Zt)) (ZA (Z7 (ZbU (ZaT (cF c Zt5 (Zg (ZE (ZE (ZE vL jI) vL) vL) (Zg (ZE (ZE (ZE vL jI) vL) vL) Zt))))) (ZA (ZK jB)) Z6))))) (ZG (Zb1 sL (JI.range (nB c) (Zg (ZaA (nB c) (Zg (ZE vL jI) Zt) Za7) Zt)) (ZA (Z7 (ZbU (ZaT (cF c Ztp (Zg (ZE (ZE vL jI) vL) (Zg (ZE (ZE vL jI) vL) Zt))))) (ZA (ZK jB)) Z6))) (ZA (ZK jB)))))
theorem ZlX: DD w s₀ mg mb 473 1 Zgz:=by
 unfold DD;k_fill
 refine Dof (names:=["_law_thing"]) (g:=Zlx) ?_
 exact fun _ _ _ _ _ _ _ c _ _=>(ZA (ZK (Zeu (ZdS (nB c) (nB c) (.inl rfl) vL) (Zos (ZdS (nB c) (nB c) (.inr (.inl rfl)) vL)))))
theorem ZuF: DD w s₀ mg mb 480 2 Zmi:=by
 unfold DD;k_fill
 refine Dof (names:=["_law_thing","_law_size","_law_i","_law_top"]) (g:=Zmh) ?_
 exact fun _ _ _ _ _ _ _ c _ _=>(ZG (Z7 (Zbi (Zbf (ZbU (ZaT (ZdS (nB c) (nB c) (.inr (.inr (.inl rfl))) vL))) (Zbf (Z4 (ZaA (nB c) (Zg vL Zt) Za7) vL Zcx) ZcJ))) (ZA (ZK jB)) Z6) (ZG (Zb1 sL (JI.range (nB c) (Zg vL Zt)) (ZG (Z7 (Zbi (Zbf (ZbU (ZaT (ZdS (nB c) (nB c) (.inr (.inr (.inl rfl))) (ZE vL vL)))) (Zbf (Z4 (ZaA (nB c) (Zg (ZE vL vL) Zt) Za7) vL Zcx) ZcJ))) (ZA (ZK jB)) Z6) (ZG (Zb1 sL (JI.seq (ZE vL vL)) (ZA (Z7 (Zbi (Zbl (Z4 vL jN Zc6) (Zbl (ZbU (ZaT (cF c ZlX (Zg vL Zt)))) ZcU))) (ZA (ZK jB)) Z6))) (ZA (Z7 (Z4 (ZE (ZE vL vL) vL) jI Zcx) (ZA (ZK jB)) Z6))))) (ZA (ZK jB))))
theorem Zt6: DD w s₀ mg mb 487 3 ZlD:=by
 unfold DD;k_fill
 refine Dof (names:=["_law_thing","_law_many","_law_pair"]) (g:=ZlC) ?_
 exact fun _ _ _ _ _ _ _ c _ _=>(ZG (Z7 (Zbi (Zbf (ZbU (ZaT (ZdS (nB c) (nB c) (.inr (.inr (.inr rfl))) vL))) (Zbf (Z4 (ZaA (nB c) (Zg vL Zt) Za7) jI Zcx) (Zbf (ZbU (ZaT (cF c ZuF (Zg (ZE vL jI) (Zg (ZX vL jI ZaJ) Zt))))) ZcJ)))) (ZA (ZK jB)) Z6) (ZG (Z7 (Zbi (Zbf (ZbU (ZaT (ZdS (nB c) (nB c) (.inr (.inr (.inl rfl))) (ZE vL jI)))) (Zbf (Z4 (ZaA (nB c) (Zg (ZE vL jI) Zt) Za7) vL Zcx) ZcJ))) (ZA (ZK jB)) Z6) (ZG (Zb1 sL (JI.seq (ZE vL jI)) (ZG (Z7 (Zbi (Zbf (ZbU (ZaT (ZdS (nB c) (nB c) (.inr (.inr (.inr rfl))) vL))) (Zbf (Z4 (ZaA (nB c) (Zg vL Zt) Za7) jI Zcx) ZcJ))) (ZA (ZK jB)) Z6) (ZG (Z7 (Zbi (Zbf (ZbU (ZaT (cF c ZlX (Zg (ZE vL jI) Zt)))) (Zbf (ZbU (ZaT (cF c ZlX (Zg (ZE vL jI) Zt)))) ZcJ))) (ZA (ZK jB)) Z6) (ZA (Z7 (Zbi (Zbf (Z4 (ZE vL jI) jI ZdF) (Zbf (Zbi (Zbl (Z4 (ZE vL jI) jI Zd2) (Zbl (ZbU (ZvF jI (ZE vL jI) (ZE vL jI) ZjA ZdF)) ZcU))) ZcJ))) (ZA (ZK jB)) Z6))))) (ZA (ZK jB)))))
end
end L
end
section
open PySem PySem.W PySem.Calls PyProof.Rows PM
open L
theorem PySem.Challenge.cw_seer_k47_claims_keep_boxes_holds : PySem.Challenge.rw_seer_k47_claims_keep_boxes.Holds :=
 head (by
  w_strict (k_go0;(rename Well _ _ _ _=>w9);(rename Frag.In _ _=>kx9);(rename Top _ _ _ _ _ _=>t9);(rename Fr _ _ _ _=>f9);(rename News _ _ _ _=>n9);(rename CellsAre _ _ _=>x9);(rename (PyData.layable0 _=true)=>hl9);(obtain⟨H9,e9⟩:=L.ZtG (by omega) hl9);(refine' PM.Zwj (names:=["_law_script","_law_many","_law_boxes","_law_told_here","_law_kept","_law_claim_here","_law_moved","_law_at","_law_truth","_law_found"]) (g:=Znv) (room:=13) ?hb ?h1 ?h2 ?h3 ?h4 kx9 t9 w9 ?len f9 n9 x9 e9 ?post);(case h1=>decide);(case h2=>decide);(case h3=>rfl);(case h4=>rfl);(case len=>(rw[PM.Zbm];omega));(case hb=>(intro dp un gd L a ccd outer h₀ hu clr hd1 hu1;exact(ZG (Zae sL (ZE (J.list (Zg jI (Zg jI (Zg jI (Zg jI (Zg jI (Zg jI (Zg jI (Zg jI (Zg jI Zt)))))))))) (cF clr law_pick_d (Zg vC (Zg jI (Zg jI Zt)))))) (ZG (by refine sO sL ?_ ?_ ?_;(exact(JI.range (nB clr) (Zg vL Zt)));(exact fun _ _=>(cF (Zc7 clr) Zgv (Zg vD (Zg (ZX jI vO ZaJ) Zt))));(exact fun _ _=>JF.nil)) (ZG (Zae sL (cF clr ZuC (Zg vC (Zg jI (Zg vL Zt))))) (ZG (Zae sL (cF clr ZuD (Zg vL Zt))) (ZG (Zae sL (cF clr ZsF (Zg vC (Zg vL Zt)))) (ZG (Zae sL (ZiZ (nB clr) (Zg vL Zt) Znk)) (ZG (Z7 (Z4 (ZaA (nB clr) (Zg vL Zt) Za7) jI Zd2) (ZG (Zae sL (cF clr law_pick_d (Zg vC (Zg jI (Zg (ZaA (nB clr) (Zg vL Zt) Za7) Zt))))) (ZA (S1.put (ZX (ZX (ZE vL vL) (cF clr law_pick_d (Zg vC (Zg jI (Zg jI Zt)))) ZaJ) jI Zb0) vL vL))) Z6) (ZG (Zb1 sL (JI.seq (J.list (Zg jB (Zg jB Zt)))) (ZG (Zae sL (cF clr Zyu (Zg vL (Zg vL (Zg vL Zt))))) (ZG (Z7 (Zbi (Zbf (Zbi (Zbl (Z4 vL jN Zc6) (Zbl (ZbU (ZaT (cF clr Zt6 (Zg vL (Zg (ZaA (nB clr) (Zg vL Zt) Za7) Zt))))) ZcU))) (Zbf (Z4 vL vL Zcx) ZcJ))) (ZA (ZK jB)) Z6) (ZG (Z7 (Zbi (Zbf (ZbU (ZaT (cF clr ZtJ (Zg vL (Zg vL Zt))))) (Zbf (ZbU (ZaT (cF clr ZoR (Zg vL (Zg vL (Zg vL (Zg vL (Zg vL Zt)))))))) ZcJ))) (ZA (ZK jB)) Z6) (ZA (Z7 (ZbU (ZaT (cF clr ZoR (Zg vL (Zg vL (Zg vL (Zg vL (Zg vL Zt)))))))) (ZA (ZK jB)) Z6)))))) (ZA (ZK jB))))))))))));(case post=>(intro h' tk' m' F';k_steps)))
  )
end
