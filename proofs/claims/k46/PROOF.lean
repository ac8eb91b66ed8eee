import PyProof.Rows.All
import Wide.All
import OpenK.AllK
import Wide.FinOn
import PySem.Challenge.RW_seer_k46_even_claims
import PyProof.Rows.News
import PyProof.Rows.Nodes
import PyProof.Rows.Chain
import PyProof.Rows.TupSub
import PyProof.PureInt
import PyProof.Rules2
import PyProof.Rules3
import PyProof.Rows.Globals
import PyProof.Rows.RuleB_mod
import PyProof.Rows.RuleB_floordiv
import PyProof.Rows.RuleB_small
import PyProof.NoPylong
import PyProof.Rows.RuleB_pow
import PyProof.Rows.EqDataRows
import PyProof.Rows.StrTemp
import PyProof.Rows.TupAdd
import PyProof.Rows.ListMul
import PyProof.ListIndexNeg
import PyProof.SliceList
import PyProof.Methods
import PyProof.Rows.Tup
import PyProof.IsiPairs
import PyProof.IsiHeapPairs
import PyProof.IsiNone
import PyProof.Rows.RuleN_abs
import PyProof.Rows.SumAny
import PyProof.WalkInts
import PyProof.PvWalk
import PyProof.RulesRaise
import PyProof.Raises
import PyProof.Dict
import PyProof.Seq
import PyProof.Rows.ListAppend
import PyProof.ForAppend
import PyProof.ForAny
import PyProof.Walks
import PyProof.WalksT
import KE.KItem
import PyProof.WalksMore
import PyProof.RangeFor
import PyProof.Rows.Range3
import OpenK.KCell
import KE.KTree
import KE.RegLcTurns
import KE.KCompFold
import KE.KLcPair
import KE.LcTurns
import PyProof.CompUse
import PyProof.Rows.ZipGen
import OpenK.KLine
import KE.KState
import Wide.Well
import PyProof.ListCopy
import PyProof.Rows.TupleOfSeqD
import KE.LcSums
import KE.KCellOne
import PyProof.FitsBits
import KE.KEqDeep
import PyProof.Rows.TupMore
import PyProof.Rows.NestLooks
import PyProof.EnumMake
import PyProof.WalksEnum
import PyProof.Rows.SortWalk
import PyProof.DictStraight
import PyProof.EqAt
import PyProof.Rows.SeqMore2
import KE.KAnyBase
import PyProof.Rows.SeqSlice
set_option linter.all false
set_option maxRecDepth 100000
set_option maxHeartbeats 8000000
abbrev Zz0:=@Option.bind_eq_some_iff
abbrev Zz1:=@Option.map_eq_some_iff
abbrev Zz2:=@List.mem_cons_of_mem
abbrev Zz3:=@List.mem_append_right
abbrev Zz4:=@List.mem_append_left
abbrev Zz5:=@List.mem_cons_self
abbrev Zz6:=@List.getElem?_eq_some_iff
abbrev Zz7:=@List.mem_cons
abbrev Zz8:=@List.mem_append
abbrev Zz9:=@List.mem_singleton
abbrev Zz10:=@Nat.le_refl
abbrev Zz11:=@List.mem_map
set_option Elab.async false
set_option compiler.extract_closed false
section
/-! The plain machine: values as trees, lists as places; and how it stands for the model's heap. -/
namespace PM
open PySem PyProof.Rows
inductive V where
 | none
 | bool (b:Bool)
 | int (i:Int)
 | str (s:Str)
 | tup (vs:List V)
 | ref (a:Nat)
noncomputable abbrev Hp:=List (List V)
noncomputable abbrev Lc:=Nat→Option V
noncomputable def LEN: Nat:=100000
theorem Zbh: LEN=100000:=rfl
theorem ZcX{n:Nat}(h:n≤LEN): n≤sizeLine:=by
 have:sizeLine=2 ^ 24:=rfl
 rw[this];rw[Zbh]at h;omega
noncomputable abbrev ZeE(xs:List Value)(k:Nat): Obj:={ cls:=.type "tuple",data:=.seq xs.toArray k }
noncomputable abbrev ZbM(xs:List Value)(k:Nat): Obj:={ cls:=.type "list",data:=.seq xs.toArray k }
structure Wd where
 pi:List Addr
 tups:List (Addr×Obj)
 sc:Addr×Obj
structure Wd.Le(W W':Wd): Prop where
 pi:W.pi <+: W'.pi
 tups:∀q∈W.tups,q∈W'.tups
 sc:W'.sc=W.sc
theorem Wd.Le.refl(W:Wd): W.Le W:=⟨List.prefix_refl _,fun _ h=>h,rfl⟩
theorem Wd.Le.trans{W W' W'':Wd}(a:W.Le W')(b:W'.Le W''): W.Le W'':=⟨a.pi.trans b.pi,fun q h=>b.tups q (a.tups q h),b.sc.trans a.sc⟩
theorem Wd.Le.at{W W':Wd}(h:W.Le W'){i:Nat}{a:Addr}(e:W.pi[i]?=some a): W'.pi[i]?=some a:=by
 obtain⟨t,ht⟩:=h.pi
 have hi:i<W.pi.length:=(Zz6.mp e).1
 rw[←ht,List.getElem?_append_left hi]
 exact e
mutual
inductive VR(W:Wd): V→Value→Prop where
 | none:VR W .none .none
 | bool (b:Bool):VR W (.bool b) (.bool b)
 | int (i:Int) (t:Tok):VR W (.int i) (.int i t)
 | str (s:Str) (t:Tok):VR W (.str s) (.str s t)
 | tup {vs:List V} {a:Addr} {xs:List Value} {k:Nat}:(a,ZeE xs k)∈W.tups→vs.length≤LEN→VRs W vs xs→VR W (.tup vs) (.ref a)
 | ref {i:Nat} {a:Addr}:W.pi[i]?=some a→VR W (.ref i) (.ref a)
inductive VRs(W:Wd): List V→List Value→Prop where
 | nil:VRs W [] []
 | cons {v:V} {x:Value} {vs:List V} {xs:List Value}:VR W v x→VRs W vs xs→VRs W (v::vs) (x::xs)
end
mutual
theorem VR.mono{W W':Wd}(h:W.Le W'){v:V}{x:Value}(r:VR W v x): VR W' v x:=by
 cases r with
 | none=>exact .none
 | bool b=>exact .bool b
 | int i t=>exact .int i t
 | str s t=>exact .str s t
 | tup hm hl hs=>exact .tup (h.tups _ hm) hl (VRs.mono h hs)
 | ref e=>exact .ref (h.at e)
theorem VRs.mono{W W':Wd}(h:W.Le W'){vs:List V}{xs:List Value}(r:VRs W vs xs): VRs W' vs xs:=by
 cases r with
 | nil=>exact .nil
 | cons a b=>exact .cons (VR.mono h a) (VRs.mono h b)
end
theorem VRs.length{W:Wd}: ∀{vs:List V} {xs:List Value},VRs W vs xs→xs.length=vs.length
 | _,_,.nil=>rfl
 | _,_,.cons _ r=>by rw[List.length_cons,List.length_cons,r.length]
theorem VRs.at{W:Wd}: ∀{vs:List V} {xs:List Value} {i:Nat} {v:V},VRs W vs xs→vs[i]?=some v→∃x,xs[i]?=some x∧VR W v x
 | _,_,_,_,.nil,e=>by simp at e
 | _,_,0,_,.cons a _,e=>by
  simp at e
  exact⟨_,by simp,e▸a⟩
 | _,_,i+1,_,.cons _ r,e=>by
  simp at e
  obtain⟨x,hx,hr⟩:=r.at e
  exact⟨x,by simpa using hx,hr⟩
theorem VRs.append{W:Wd}: ∀{vs us:List V} {xs ys:List Value},VRs W vs xs→VRs W us ys→VRs W (vs++us) (xs++ys)
 | _,_,_,_,.nil,h=>h
 | _,_,_,_,.cons a r,h=>.cons a (r.append h)
theorem VRs.snoc{W:Wd}{vs:List V}{xs:List Value}{v:V}{x:Value}(h:VRs W vs xs)(r:VR W v x): VRs W (vs++[v]) (xs++[x]):=h.append (.cons r .nil)
theorem VRs.set{W:Wd}: ∀{vs:List V} {xs:List Value} {v:V} {x:Value} (i:Nat),VRs W vs xs→VR W v x→VRs W (vs.set i v) (xs.set i x)
 | _,_,_,_,_,.nil,_=>.nil
 | _,_,_,_,0,.cons _ r,h=>.cons h r
 | _,_,_,_,i+1,.cons a r,h=>.cons a (r.set i h)
theorem VRs.drop{W:Wd}: ∀{vs:List V} {xs:List Value} (i:Nat),VRs W vs xs→VRs W (vs.drop i) (xs.drop i)
 | _,_,0,h=>h
 | _,_,_+1,.nil=>.nil
 | _,_,i+1,.cons _ r=>r.drop i
structure HR(W:Wd)(H:Hp)(led:List (Addr×Obj)): Prop where
 len:W.pi.length=H.length
 nd:W.pi.Nodup
 lists:∀(i:Nat) (vs:List V),H[i]?=some vs→vs.length≤LEN∧∃a xs k,W.pi[i]?=some a∧(a,ZbM xs k)∈led∧VRs W vs xs
 tups:∀q∈W.tups,q∈led
 kind:∀q∈W.tups,∃xs k,q.2=ZeE xs k
theorem HR.mono{W:Wd}{H:Hp}{led led':List (Addr×Obj)}(R:HR W H led)(h:∀q∈led,q∈led'): HR W H led':=
 ⟨R.len,R.nd,fun i vs e=>by
  obtain⟨l,a,xs,k,h1,h2,h3⟩:=R.lists i vs e
  exact⟨l,a,xs,k,h1,h _ h2,h3⟩,fun q hq=>h q (R.tups q hq),R.kind⟩
structure Cx where
 A:Around
 env:Env
 h₀:Heap
 L:Addr
 hh:A.handled=none
 hu:A.units+200<cLine
 Own:Wd→Lc→(Str→Option Value)→List (Addr×Obj)→Prop
 mono:∀{W W':Wd} {ρ:Lc} {m:Str→Option Value} {c:List (Addr×Obj)},W.Le W'→Own W ρ m c→Own W' ρ m c
structure Rep'(Γ:Cx)(W:Wd)(ρ:Lc)(H:Hp)(fr:List (Addr×Obj))(h:Heap)(m:Str→Option Value)(cells led:List (Addr×Obj)): Prop where
 F:Fr Γ.h₀ Γ.L h m
 N:News Γ.h₀ Γ.L h led
 R:HR W H (W.sc::led)
 sc:Γ.h₀.get? W.sc.1=some W.sc.2
 sc0:W.pi[0]?=some W.sc.1
 frIn:∀q∈fr,q∈led
 frOff:∀q∈fr,q.1∉W.pi
 clIn:∀q∈cells,q∈led
 clOff:∀q∈cells,q.1∉W.pi
 apart:∀q∈cells,∀r∈fr,q.1≠r.1
 frTup:∀q∈fr,∀t∈W.tups,q.1≠t.1
 clTup:∀q∈cells,∀t∈W.tups,q.1≠t.1
 own:Γ.Own W ρ m cells
def Rep(Γ:Cx)(W:Wd)(ρ:Lc)(H:Hp)(fr:List (Addr×Obj))(h:Heap): Prop:=∃m cells led,Rep' Γ W ρ H fr h m cells led
theorem Rep.grown{Γ:Cx}{W:Wd}{ρ:Lc}{H:Hp}{fr:List (Addr×Obj)}{h h':Heap}(r:Rep Γ W ρ H fr h)(up:∀b o,h.get? b=some o→h'.get? b=some o): Rep Γ W ρ H fr h':=by
 obtain⟨m,c,led,r⟩:=r
 refine⟨m,c,led,⟨⟨?_,fun b o e=>up b o (r.F.keep b o e),r.F.above⟩,fun q hq=>⟨up _ _ (r.N q hq).1,(r.N q hq).2⟩,r.R,r.sc,r.sc0,r.frIn,r.frOff,r.clIn,r.clOff,r.apart,r.frTup,r.clTup,r.own⟩⟩
 obtain⟨o,es,ep,h1,h2⟩:=r.F.ns
 exact⟨o,es,ep,up _ _ h1,h2⟩
theorem Rep.push{Γ:Cx}{W:Wd}{ρ:Lc}{H:Hp}{fr:List (Addr×Obj)}{h:Heap}(r:Rep Γ W ρ H fr h)(o:Obj): Rep Γ W ρ H fr (h.push o):=r.grown fun _ _ e=>Heap.get?_push_of_some _ e
theorem Zd6{q s:Addr×Obj}{l l':List (Addr×Obj)}(h:q∈s::l)(m:q∈l→q∈l'): q∈s::l':=by
 rcases Zz7.mp h with e | h
 ·exact e▸List.mem_cons_self
 ·exact Zz2 _ (m h)
theorem Zfq{q s:Addr×Obj}{l l':List (Addr×Obj)}(h:q∈s::l)(m:∀x∈l,x∈l'): q∈s::l':=by
 rcases Zz7.mp h with e | h
 ·exact e▸List.mem_cons_self
 ·exact Zz2 _ (m q h)
theorem Rep'.get{Γ:Cx}{W:Wd}{ρ:Lc}{H:Hp}{fr:List (Addr×Obj)}{h:Heap}{m:Str→Option Value}{c led:List (Addr×Obj)}(r:Rep' Γ W ρ H fr h m c led){q:Addr×Obj}(hq:q∈W.sc::led): h.get? q.1=some q.2:=by
 rcases Zz7.mp hq with e | hq
 ·rw[e]
  exact r.F.keep _ _ r.sc
 ·exact(r.N q hq).1
theorem Rep'.off{Γ:Cx}{W:Wd}{ρ:Lc}{H:Hp}{fr:List (Addr×Obj)}{h:Heap}{m:Str→Option Value}{c led:List (Addr×Obj)}(r:Rep' Γ W ρ H fr h m c led): ∀q∈W.sc::led,q.1≠h.objs.size:=fun q hq=>Nat.ne_of_lt (Heap.lt_size (r.get hq))
theorem Rep'.same{Γ:Cx}{W:Wd}{ρ:Lc}{H:Hp}{fr:List (Addr×Obj)}{h h':Heap}{m:Str→Option Value}{c led:List (Addr×Obj)}(r:Rep' Γ W ρ H fr h m c led)(F':Fr Γ.h₀ Γ.L h' m)(N':News Γ.h₀ Γ.L h' led): Rep Γ W ρ H fr h':=
 ⟨m,c,led,F',N',r.R,r.sc,r.sc0,r.frIn,r.frOff,r.clIn,r.clOff,r.apart,r.frTup,r.clTup,r.own⟩
theorem Rep'.piIn{Γ:Cx}{W:Wd}{ρ:Lc}{H:Hp}{fr:List (Addr×Obj)}{h:Heap}{m:Str→Option Value}{c led:List (Addr×Obj)}(r:Rep' Γ W ρ H fr h m c led): ∀a∈W.pi,∃o,(a,o)∈W.sc::led:=by
 intro a ha
 obtain⟨i,hi,e⟩:=List.getElem_of_mem ha
 have hi':i<H.length:=r.R.len▸hi
 obtain⟨_,b,xs,k,h1,h2,_⟩:=r.R.lists i H[i] (List.getElem?_eq_getElem hi')
 have:b=a:=by rw[List.getElem?_eq_getElem hi,e]at h1;exact(Option.some.inj h1).symm
 exact⟨_,this▸h2⟩
theorem Rep'.inLed{Γ:Cx}{W:Wd}{ρ:Lc}{H:Hp}{fr:List (Addr×Obj)}{h:Heap}{m:Str→Option Value}{c led:List (Addr×Obj)}(r:Rep' Γ W ρ H fr h m c led){i:Nat}{a:Addr}{o:Obj}(hi:i≠0)(ea:W.pi[i]?=some a)(hm:(a,o)∈W.sc::led): (a,o)∈led:=by
 rcases Zz7.mp hm with e | hm
 ·have e1:a=W.sc.1:=congrArg (·.1) e
  have hl:i<W.pi.length:=(Zz6.mp ea).1
  have:i=0:=(List.getElem?_inj hl r.R.nd).mp (by rw[ea,r.sc0,e1])
  exact absurd this hi
 ·exact hm
theorem Rep'.notSc{Γ:Cx}{W:Wd}{ρ:Lc}{H:Hp}{fr:List (Addr×Obj)}{h:Heap}{m:Str→Option Value}{c led:List (Addr×Obj)}(r:Rep' Γ W ρ H fr h m c led): ∀q∈led,q.1≠W.sc.1:=fun q hq e=>by
 have:=(r.N q hq).2.2
 rw[e,r.sc]at this
 cases this
theorem Rep'.newTup{Γ:Cx}{W:Wd}{ρ:Lc}{H:Hp}{fr:List (Addr×Obj)}{h h':Heap}{m:Str→Option Value}{c led:List (Addr×Obj)}{vs:List V}{xs:List Value}{k:Nat}{n:Addr}(r:Rep' Γ W ρ H fr h m c led)(F':Fr Γ.h₀ Γ.L h' m)(N':News Γ.h₀ Γ.L h' ((n,ZeE xs k)::led))(hn:∀q∈W.sc::led,q.1≠n)(hv:VRs W vs xs)(hl:vs.length≤LEN):
  ∃W',W.Le W'∧Rep Γ W' ρ H fr h'∧VR W' (.tup vs) (.ref n):=by
 have le:W.Le ⟨W.pi,(n,ZeE xs k)::W.tups,W.sc⟩:=⟨List.prefix_refl _,fun q hq=>List.mem_cons_of_mem _ hq,rfl⟩
 refine⟨⟨W.pi,(n,ZeE xs k)::W.tups,W.sc⟩,le,⟨m,c,(n,ZeE xs k)::led,⟨F',N',?_,r.sc,r.sc0,fun q hq=>List.mem_cons_of_mem _ (r.frIn q hq),r.frOff,fun q hq=>List.mem_cons_of_mem _ (r.clIn q hq),r.clOff,r.apart,fun q hq t ht=>?_,fun q hq t ht=>?_,Γ.mono le r.own⟩⟩,.tup Zz5 hl (hv.mono le)⟩
 ·refine⟨r.R.len,r.R.nd,fun i us e=>?_,fun q hq=>?_,fun q hq=>?_⟩
  ·obtain⟨l,a,ys,j,h1,h2,h3⟩:=r.R.lists i us e
   exact⟨l,a,ys,j,h1,Zfq h2 fun x hx=>List.mem_cons_of_mem _ hx,h3.mono le⟩
  ·rcases Zz7.mp hq with e | hq
   ·exact e▸List.mem_cons_of_mem _ Zz5
   ·exact Zfq (r.R.tups q hq) fun x hx=>List.mem_cons_of_mem _ hx
  ·rcases Zz7.mp hq with e | hq
   ·exact⟨xs,k,by rw[e]⟩
   ·exact r.R.kind q hq
 ·rcases Zz7.mp ht with e | ht
  ·rw[e]
   exact hn q (Zz2 _ (r.frIn q hq))
  ·exact r.frTup q hq t ht
 ·rcases Zz7.mp ht with e | ht
  ·rw[e]
   exact hn q (Zz2 _ (r.clIn q hq))
  ·exact r.clTup q hq t ht
theorem Rep.tuple{Γ:Cx}{W:Wd}{ρ:Lc}{H:Hp}{fr:List (Addr×Obj)}{h:Heap}{vs:List V}{xs:List Value}{k:Nat}(r:Rep Γ W ρ H fr h)(hv:VRs W vs xs)(hl:vs.length≤LEN):
  ∃W',W.Le W'∧Rep Γ W' ρ H fr (h.push (ZeE xs k))∧VR W' (.tup vs) (.ref h.objs.size):=by
 obtain⟨m,c,led,r⟩:=r
 exact r.newTup (r.F.push _) (News.push r.F r.N _) r.off hv hl
theorem Rep'.newList{Γ:Cx}{W:Wd}{ρ:Lc}{H:Hp}{fr:List (Addr×Obj)}{h h':Heap}{m:Str→Option Value}{c led:List (Addr×Obj)}{vs:List V}{xs:List Value}{k:Nat}{n:Addr}(r:Rep' Γ W ρ H fr h m c led)(F':Fr Γ.h₀ Γ.L h' m)(N':News Γ.h₀ Γ.L h' ((n,ZbM xs k)::led))(hn:∀q∈W.sc::led,q.1≠n)(hv:VRs W vs xs)(hl:vs.length≤LEN):
  ∃W',W.Le W'∧Rep Γ W' ρ (H++[vs]) fr h'∧VR W' (.ref H.length) (.ref n):=by
 have le:W.Le ⟨W.pi++[n],W.tups,W.sc⟩:=⟨List.prefix_append _ _,fun q hq=>hq,rfl⟩
 have h0:0<W.pi.length:=(Zz6.mp r.sc0).1
 have at_n:(W.pi++[n])[H.length]?=some n:=by rw[←r.R.len];simp
 refine⟨⟨W.pi++[n],W.tups,W.sc⟩,le,⟨m,c,(n,ZbM xs k)::led,⟨F',N',?_,r.sc,(List.getElem?_append_left h0).trans r.sc0,fun q hq=>List.mem_cons_of_mem _ (r.frIn q hq),fun q hq=>?_,fun q hq=>List.mem_cons_of_mem _ (r.clIn q hq),fun q hq=>?_,r.apart,r.frTup,r.clTup,Γ.mono le r.own⟩⟩,.ref at_n⟩
 ·refine⟨by simp[r.R.len],?_,fun i us e=>?_,fun q hq=>Zfq (r.R.tups q hq) fun x hx=>List.mem_cons_of_mem _ hx,r.R.kind⟩
  ·show(W.pi++[n]).Nodup
   rw[List.nodup_append]
   refine⟨r.R.nd,by simp,fun a ha b hb=>?_⟩
   rw[List.mem_singleton.mp hb]
   obtain⟨o,ho⟩:=r.piIn a ha
   exact hn _ ho
  ·by_cases hi:i<H.length
   ·rw[List.getElem?_append_left hi]at e
    obtain⟨l,a,ys,j,h1,h2,h3⟩:=r.R.lists i us e
    exact⟨l,a,ys,j,le.at h1,Zfq h2 fun x hx=>List.mem_cons_of_mem _ hx,h3.mono le⟩
   ·have:i=H.length:=by
     have:=(Zz6.mp e).1
     simp at this
     omega
    subst this
    simp at e
    subst e
    exact⟨hl,n,xs,k,at_n,List.mem_cons_of_mem _ Zz5,hv.mono le⟩
 ·intro hm
  rcases Zz8.mp hm with hm | hm
  ·exact r.frOff q hq hm
  ·exact hn q (Zz2 _ (r.frIn q hq)) (Zz9.mp hm)
 ·intro hm
  rcases Zz8.mp hm with hm | hm
  ·exact r.clOff q hq hm
  ·exact hn q (Zz2 _ (r.clIn q hq)) (Zz9.mp hm)
theorem Rep.list{Γ:Cx}{W:Wd}{ρ:Lc}{H:Hp}{fr:List (Addr×Obj)}{h:Heap}{vs:List V}{xs:List Value}{k:Nat}(r:Rep Γ W ρ H fr h)(hv:VRs W vs xs)(hl:vs.length≤LEN):
  ∃W',W.Le W'∧Rep Γ W' ρ (H++[vs]) fr (h.push (ZbM xs k))∧VR W' (.ref H.length) (.ref h.objs.size):=by
 obtain⟨m,c,led,r⟩:=r
 exact r.newList (r.F.push _) (News.push r.F r.N _) r.off hv hl
theorem Rep.at{Γ:Cx}{W:Wd}{ρ:Lc}{H:Hp}{fr:List (Addr×Obj)}{h:Heap}{i:Nat}{a:Addr}{vs:List V}(r:Rep Γ W ρ H fr h)(e:H[i]?=some vs)(ea:W.pi[i]?=some a): vs.length≤LEN∧∃xs k,h.get? a=some (ZbM xs k)∧VRs W vs xs:=by
 obtain⟨m,c,led,r⟩:=r
 obtain⟨l,b,xs,k,h1,h2,h3⟩:=r.R.lists i vs e
 rw[ea]at h1
 cases h1
 exact⟨l,xs,k,r.get h2,h3⟩
theorem Rep.tupAt{Γ:Cx}{W:Wd}{ρ:Lc}{H:Hp}{fr:List (Addr×Obj)}{h:Heap}{q:Addr×Obj}(r:Rep Γ W ρ H fr h)(e:q∈W.tups): h.get? q.1=some q.2:=by
 obtain⟨m,c,led,r⟩:=r
 exact r.get (r.R.tups _ e)
theorem Rep'.changed{Γ:Cx}{W:Wd}{ρ:Lc}{H:Hp}{fr:List (Addr×Obj)}{h h':Heap}{m:Str→Option Value}{c led:List (Addr×Obj)}{i:Nat}{a:Addr}{vs us:List V}{ys:List Value}{k:Nat}(r:Rep' Γ W ρ H fr h m c led)(i0:i≠0)(e:H[i]?=some vs)(ea:W.pi[i]?=some a)(F':Fr Γ.h₀ Γ.L h' m)(N':News Γ.h₀ Γ.L h' ((a,ZbM ys k)::led.filter (fun q=>decide (q.1≠a))))(hv:VRs W us ys)(hl:us.length≤LEN):
  Rep Γ W ρ (H.set i us) fr h':=by
 obtain⟨_,b,xs,j,h1,h2,h3⟩:=r.R.lists i vs e
 rw[ea]at h1
 cases h1
 have h2:=r.inLed i0 ea h2
 have hN:=r.N _ h2
 have hm:a∈W.pi:=List.mem_of_getElem? ea
 have hi:i<H.length:=(Zz6.mp e).1
 refine⟨m,c,(a,ZbM ys k)::led.filter (fun q=>decide (q.1≠a)),⟨F',N',?_,r.sc,r.sc0,fun q hq=>?_,r.frOff,fun q hq=>?_,r.clOff,r.apart,r.frTup,r.clTup,r.own⟩⟩
 ·refine⟨by simp[r.R.len],r.R.nd,fun n ws en=>?_,fun q hq=>?_,r.R.kind⟩
  ·by_cases hn:n=i
   ·subst hn
    rw[List.getElem?_set_self hi]at en
    cases en
    exact⟨hl,a,ys,k,ea,List.mem_cons_of_mem _ Zz5,hv⟩
   ·rw[List.getElem?_set_ne (Ne.symm hn)]at en
    obtain⟨l,d,zs,j',g1,g2,g3⟩:=r.R.lists n ws en
    refine⟨l,d,zs,j',g1,Zd6 g2 fun g2=>List.mem_cons_of_mem _ (List.mem_filter.mpr ⟨g2,?_⟩),g3⟩
    have:d≠a:=fun e=>by
     subst e
     exact hn ((List.getElem?_inj (Zz6.mp g1).1 r.R.nd).mp (g1.trans ea.symm))
    simpa using this
  ·refine Zd6 (r.R.tups q hq) fun g2=>List.mem_cons_of_mem _ (List.mem_filter.mpr ⟨g2,?_⟩)
   have:q.1≠a:=fun e=>by
    obtain⟨zs,j',hk⟩:=r.R.kind q hq
    have g:=r.get (r.R.tups q hq)
    rw[e,hN.1,hk]at g
    have c:=congrArg Obj.cls (Option.some.inj g)
    exact absurd c (by simp)
   simpa using this
 ·refine Zz2 _ (List.mem_filter.mpr ⟨r.frIn q hq,?_⟩)
  have:q.1≠a:=fun e=>r.frOff q hq (e▸hm)
  simpa using this
 ·refine Zz2 _ (List.mem_filter.mpr ⟨r.clIn q hq,?_⟩)
  have:q.1≠a:=fun e=>r.clOff q hq (e▸hm)
  simpa using this
theorem Rep.change{Γ:Cx}{W:Wd}{ρ:Lc}{H:Hp}{fr:List (Addr×Obj)}{h h':Heap}{i:Nat}{a:Addr}{vs us:List V}{ys:List Value}{k:Nat}(r:Rep Γ W ρ H fr h)(i0:i≠0)(e:H[i]?=some vs)(ea:W.pi[i]?=some a)(sb:Heap.SameBut a h h')(ha:h'.get? a=some (ZbM ys k))(hv:VRs W us ys)(hl:us.length≤LEN):
  Rep Γ W ρ (H.set i us) fr h':=by
 obtain⟨m,c,led,r⟩:=r
 obtain⟨_,b,xs,j,h1,h2,h3⟩:=r.R.lists i vs e
 rw[ea]at h1
 cases h1
 have h2:=r.inLed i0 ea h2
 have hN:=r.N _ h2
 have keep:∀q∈led,q.1≠a→h'.get? q.1=some q.2:=fun q hq hn=>sb.extBut _ _ hn (r.N q hq).1
 refine r.changed (k:=k) i0 e ea ⟨r.F.ns.sameBut sb (Ne.symm hN.2.1),fun b o eb=>sb.extBut b o (fun q=>?_) (r.F.keep b o eb),r.F.above⟩ (fun q hq=>?_) hv hl
 ·subst q
  rw[hN.2.2]at eb
  cases eb
 ·rcases Zz7.mp hq with e | hq
  ·subst e
   exact⟨ha,hN.2⟩
  ·obtain⟨h1,h2⟩:=List.mem_filter.mp hq
   exact⟨keep q h1 (by simpa using h2),(r.N q h1).2⟩
theorem Rep.swap{Γ:Cx}{W:Wd}{ρ:Lc}{H:Hp}{fs fs' fr:List (Addr×Obj)}{h h':Heap}(r:Rep Γ W ρ H (fs++fr) h)(ap:∀q∈fs,∀t∈fr,q.1≠t.1)(keep:∀b o,b∉fs.map (·.1)→h.get? b=some o→h'.get? b=some o)(new:∀q∈fs',h'.get? q.1=some q.2∧q.1∈fs.map (·.1)): Rep Γ W ρ H (fs'++fr) h':=by
 obtain⟨m,c,led,r⟩:=r
 have inF:∀q∈fs,q∈fs++fr:=fun q hq=>List.mem_append_left _ hq
 have nL:∀a∈fs.map (·.1),a≠Γ.L∧Γ.h₀.get? a=none:=fun a ha=>by
  obtain⟨q,hq,e⟩:=Zz11.mp ha
  exact e▸(r.N q (r.frIn q (inF q hq))).2
 have kp:∀q∈led,q.1∉fs.map (·.1)→h'.get? q.1=some q.2:=fun q hq hn=>keep _ _ hn (r.N q hq).1
 refine⟨m,c,fs'++led.filter (fun q=>decide (q.1∉fs.map (·.1))),⟨⟨?_,fun b o e=>?_,r.F.above⟩,fun q hq=>?_,⟨r.R.len,r.R.nd,fun i vs e=>?_,fun q hq=>?_,r.R.kind⟩,r.sc,r.sc0,fun q hq=>?_,fun q hq=>?_,fun q hq=>?_,r.clOff,fun q hq t ht=>?_,fun q hq t ht=>?_,r.clTup,r.own⟩⟩
 ·obtain⟨o,es,ep,h1,h2⟩:=r.F.ns
  exact⟨o,es,ep,keep _ _ (fun q=>(nL _ q).1 rfl) h1,h2⟩
 ·refine keep b o (fun q=>?_) (r.F.keep b o e)
  rw[(nL b q).2]at e
  cases e
 ·rcases Zz8.mp hq with hq | hq
  ·obtain⟨h1,h2⟩:=new q hq
   exact⟨h1,nL _ h2⟩
  ·obtain⟨h1,h2⟩:=List.mem_filter.mp hq
   exact⟨kp q h1 (by simpa using h2),(r.N q h1).2⟩
 ·obtain⟨l,a,xs,k,h1,h2,h3⟩:=r.R.lists i vs e
  refine⟨l,a,xs,k,h1,Zd6 h2 fun h2=>List.mem_append_right _ (List.mem_filter.mpr ⟨h2,?_⟩),h3⟩
  have:a∉fs.map (·.1):=fun q=>by
   obtain⟨t,ht,e⟩:=Zz11.mp q
   exact r.frOff t (inF t ht) (e▸List.mem_of_getElem? h1)
  simpa using this
 ·refine Zd6 (r.R.tups q hq) fun h2=>List.mem_append_right _ (List.mem_filter.mpr ⟨h2,?_⟩)
  have:q.1∉fs.map (·.1):=fun z=>by
   obtain⟨t,ht,e⟩:=Zz11.mp z
   exact r.frTup t (inF t ht) q hq e
  simpa using this
 ·rcases Zz8.mp hq with hq | hq
  ·exact Zz4 _ hq
  ·refine Zz3 _ (List.mem_filter.mpr ⟨r.frIn q (Zz3 _ hq),?_⟩)
   have:q.1∉fs.map (·.1):=fun z=>by
    obtain⟨t,ht,e⟩:=Zz11.mp z
    exact ap t ht q hq e
   simpa using this
 ·rcases Zz8.mp hq with hq | hq
  ·obtain⟨t,ht,e⟩:=Zz11.mp (new q hq).2
   exact e▸r.frOff t (inF t ht)
  ·exact r.frOff q (Zz3 _ hq)
 ·refine Zz3 _ (List.mem_filter.mpr ⟨r.clIn q hq,?_⟩)
  have:q.1∉fs.map (·.1):=fun z=>by
   obtain⟨t,ht,e⟩:=Zz11.mp z
   exact r.apart q hq t (inF t ht) e.symm
  simpa using this
 ·rcases Zz8.mp ht with ht | ht
  ·obtain⟨u,hu,e⟩:=Zz11.mp (new t ht).2
   exact e▸r.apart q hq u (inF u hu)
  ·exact r.apart q hq t (Zz3 _ ht)
 ·rcases Zz8.mp hq with hq | hq
  ·obtain⟨u,hu,e⟩:=Zz11.mp (new q hq).2
   exact e▸r.frTup u (inF u hu) t ht
  ·exact r.frTup q (Zz3 _ hq) t ht
theorem Rep.more{Γ:Cx}{W:Wd}{ρ:Lc}{H:Hp}{fs fr:List (Addr×Obj)}{h h':Heap}(r:Rep Γ W ρ H fr h)(up:∀b o,h.get? b=some o→h'.get? b=some o)(new:∀q∈fs,h'.get? q.1=some q.2∧h.objs.size≤q.1): Rep Γ W ρ H (fs++fr) h'∧∀q∈fs,∀t∈fr,q.1≠t.1:=by
 have r':=r.grown up
 obtain⟨m,c,led,r⟩:=r
 have lt:∀q∈W.sc::led,q.1<h.objs.size:=fun q hq=>Heap.lt_size (r.get hq)
 have ne:∀q∈fs,∀t∈W.sc::led,q.1≠t.1:=fun q hq t ht=>Nat.ne_of_gt (Nat.lt_of_lt_of_le (lt t ht) (new q hq).2)
 refine⟨⟨m,c,fs++led,⟨⟨?_,fun b o e=>up b o (r.F.keep b o e),r.F.above⟩,fun q hq=>?_,r.R.mono fun q hq=>Zfq hq fun x hx=>List.mem_append_right _ hx,r.sc,r.sc0,fun q hq=>?_,fun q hq=>?_,fun q hq=>List.mem_append_right _ (r.clIn q hq),r.clOff,fun q hq t ht=>?_,fun q hq t ht=>?_,r.clTup,r.own⟩⟩,fun q hq t ht=>ne q hq t (Zz2 _ (r.frIn t ht))⟩
 ·obtain⟨o,es,ep,h1,h2⟩:=r.F.ns
  exact⟨o,es,ep,up _ _ h1,h2⟩
 ·rcases Zz8.mp hq with hq | hq
  ·obtain⟨h1,h2⟩:=new q hq
   refine⟨h1,fun e=>?_,?_⟩
   ·exact absurd (e▸r.F.ns.lt) (Nat.not_lt.mpr h2)
   ·cases e:Γ.h₀.get? q.1 with
    | none=>rfl
    | some o=>exact absurd (Heap.lt_size (r.F.keep _ _ e)) (Nat.not_lt.mpr h2)
  ·exact⟨up _ _ (r.N q hq).1,(r.N q hq).2⟩
 ·rcases Zz8.mp hq with hq | hq
  ·exact Zz4 _ hq
  ·exact Zz3 _ (r.frIn q hq)
 ·rcases Zz8.mp hq with hq | hq
  ·intro hm
   obtain⟨o,ho⟩:=r.piIn _ hm
   exact ne q hq _ ho rfl
  ·exact r.frOff q hq
 ·rcases Zz8.mp ht with ht | ht
  ·exact(ne t ht q (Zz2 _ (r.clIn q hq))).symm
  ·exact r.apart q hq t ht
 ·rcases Zz8.mp hq with hq | hq
  ·exact ne q hq t (r.R.tups t ht)
  ·exact r.frTup q hq t ht
theorem Rep.less{Γ:Cx}{W:Wd}{ρ:Lc}{H:Hp}{fs fr:List (Addr×Obj)}{h:Heap}(r:Rep Γ W ρ H fs h)(sub:∀q∈fr,q∈fs): Rep Γ W ρ H fr h:=by
 obtain⟨m,c,led,r⟩:=r
 exact⟨m,c,led,⟨r.F,r.N,r.R,r.sc,r.sc0,fun q hq=>r.frIn q (sub q hq),fun q hq=>r.frOff q (sub q hq),r.clIn,r.clOff,fun q hq t ht=>r.apart q hq t (sub t ht),fun q hq=>r.frTup q (sub q hq),r.clTup,r.own⟩⟩
theorem Rep.frAt{Γ:Cx}{W:Wd}{ρ:Lc}{H:Hp}{fr:List (Addr×Obj)}{h:Heap}{q:Addr×Obj}(r:Rep Γ W ρ H fr h)(hq:q∈fr): h.get? q.1=some q.2:=by
 obtain⟨m,c,led,r⟩:=r
 exact(r.N q (r.frIn q hq)).1
end PM
end
section
namespace PM
open PySem PyProof.Rows PyProof
noncomputable abbrev Ex:=Lc→Hp→Option (V×Hp)
noncomputable abbrev Exs:=Lc→Hp→Option (List V×Hp)
noncomputable abbrev Ts:=Lc→Hp→Option (Bool×Hp)
noncomputable abbrev ZgE(Γ:Cx)(W:Wd)(ρ:Lc)(H:Hp)(fr:List (Addr×Obj))(s:Shared)(Q:Value→Shared→Prop)(v:V): Prop:=
 ∀(W':Wd) (h':Heap) (tk':Nat) (x:Value),W.Le W'→Rep Γ W' ρ H fr h'→VR W' v x→Q x { s with heap:=h',toks:=tk' }
noncomputable abbrev Zim(Γ:Cx)(W:Wd)(ρ:Lc)(H:Hp)(fr:List (Addr×Obj))(s:Shared)(Q:Bool→Shared→Prop)(b:Bool): Prop:=
 ∀(W':Wd) (h':Heap) (tk':Nat),W.Le W'→Rep Γ W' ρ H fr h'→Q b { s with heap:=h',toks:=tk' }
section
variable (prog:Program) (w:World)
def J(Γ:Cx)(e:Expr)(f:Ex): Prop:=∀(W:Wd) (ρ:Lc) (H:Hp) (fr:List (Addr×Obj)) (s:Shared) (Q E:Value→Shared→Prop) (v:V) (H':Hp),
 Rep Γ W ρ H fr s.heap→f ρ H=some (v,H')→ZgE Γ W ρ H' fr s Q v→wpAny (model prog w) Γ.A (eval e Γ.env) Q E s
def Js(Γ:Cx)(es:List Expr)(f:Exs): Prop:=∀(pos:Pos) (W:Wd) (ρ:Lc) (H:Hp) (fr:List (Addr×Obj)) (s:Shared) (Q:List Value→Shared→Prop) (E:Value→Shared→Prop) (vs:List V) (H':Hp),
 Rep Γ W ρ H fr s.heap→f ρ H=some (vs,H')→(∀(W':Wd) (h':Heap) (tk':Nat) (xs:List Value),W.Le W'→Rep Γ W' ρ H' fr h'→VRs W' vs xs→Q xs { s with heap:=h',toks:=tk' })→wpAny (model prog w) Γ.A (spliced (backTo pos (starEach es Γ.env))) Q E s
def JT(Γ:Cx)(e:Expr)(f:Ts): Prop:=∀(W:Wd) (ρ:Lc) (H:Hp) (fr:List (Addr×Obj)) (s:Shared) (Q:Bool→Shared→Prop) (E:Value→Shared→Prop) (b:Bool) (H':Hp),
 Rep Γ W ρ H fr s.heap→f ρ H=some (b,H')→Zim Γ W ρ H' fr s Q b→wpAny (model prog w) Γ.A (isTrue e Γ.env (eval e Γ.env)) Q E s
def Op2(m:Value→Value→Sem Value)(o:V→V→Hp→Option (V×Hp)): Prop:=∀(Γ:Cx) (W:Wd) (ρ:Lc) (H:Hp) (fr:List (Addr×Obj)) (s:Shared) (Q E:Value→Shared→Prop) (a b:V) (x y:Value) (v:V) (H':Hp),
 Rep Γ W ρ H fr s.heap→VR W a x→VR W b y→o a b H=some (v,H')→ZgE Γ W ρ H' fr s Q v→wpAny (model prog w) Γ.A (m x y) Q E s
def Op1(m:Value→Sem Value)(o:V→Hp→Option (V×Hp)): Prop:=∀(Γ:Cx) (W:Wd) (ρ:Lc) (H:Hp) (fr:List (Addr×Obj)) (s:Shared) (Q E:Value→Shared→Prop) (a:V) (x:Value) (v:V) (H':Hp),
 Rep Γ W ρ H fr s.heap→VR W a x→o a H=some (v,H')→ZgE Γ W ρ H' fr s Q v→wpAny (model prog w) Γ.A (m x) Q E s
def OpT(m:Value→Sem Bool)(o:V→Hp→Option Bool): Prop:=∀(Γ:Cx) (W:Wd) (ρ:Lc) (H:Hp) (fr:List (Addr×Obj)) (s:Shared) (Q:Bool→Shared→Prop) (E:Value→Shared→Prop) (a:V) (x:Value) (b:Bool),
 Rep Γ W ρ H fr s.heap→VR W a x→o a H=some b→Zim Γ W ρ H fr s Q b→wpAny (model prog w) Γ.A (m x) Q E s
end
noncomputable def Zk(k:Int): Ex:=fun _ H=>some (.int k,H)
noncomputable def ZZ: Ex:=fun _ H=>some (.none,H)
noncomputable def ZbD(b:Bool): Ex:=fun _ H=>some (.bool b,H)
noncomputable def ZeF(x:Str): Ex:=fun _ H=>some (.str x,H)
noncomputable def Zb(i:Nat): Ex:=fun ρ H=>(ρ i).map fun v=>(v,H)
noncomputable def Zg(o:V→V→Hp→Option (V×Hp))(f g:Ex): Ex:=fun ρ H=>(f ρ H).bind fun p=>(g ρ p.2).bind fun q=>o p.1 q.1 q.2
noncomputable def eUn(o:V→Hp→Option (V×Hp))(f:Ex): Ex:=fun ρ H=>(f ρ H).bind fun p=>o p.1 p.2
noncomputable def eIf(t:Ts)(f g:Ex): Ex:=fun ρ H=>(t ρ H).bind fun p=>if p.1 then f ρ p.2 else g ρ p.2
noncomputable def Zn: Exs:=fun _ H=>some ([],H)
noncomputable def Ze(f:Ex)(g:Exs): Exs:=fun ρ H=>(f ρ H).bind fun p=>(g ρ p.2).bind fun q=>some (p.1::q.1,q.2)
noncomputable def ZaD(g:Exs): Ex:=fun ρ H=>(g ρ H).bind fun p=>if p.1.length≤LEN then some (.tup p.1,p.2)else none
noncomputable def ZbZ(g:Exs): Ex:=fun ρ H=>(g ρ H).bind fun p=>if p.1.length≤LEN then some (.ref p.2.length,p.2++[p.1])else none
noncomputable def ZcB: V→Hp→Option Bool
 | .bool b,_=>some b
 | .int i,_=>some (i != 0)
 | .none,_=>some false
 | _,_=>none
noncomputable def ZG(f:Ex): Ts:=fun ρ H=>(f ρ H).bind fun p=>(ZcB p.1 p.2).map fun b=>(b,p.2)
noncomputable def Zcj(t:Ts): Ts:=fun ρ H=>(t ρ H).map fun p=>(!p.1,p.2)
noncomputable def Zao: Ts:=fun _ H=>some (true,H)
noncomputable def Zb7: Ts:=fun _ H=>some (false,H)
noncomputable def ZaK(t u:Ts): Ts:=fun ρ H=>(t ρ H).bind fun p=>if p.1 then u ρ p.2 else some (false,p.2)
noncomputable def tOr(t u:Ts): Ts:=fun ρ H=>(t ρ H).bind fun p=>if p.1 then some (true,p.2)else u ρ p.2
noncomputable def Ziv(f:Ex): Ex:=fun ρ H=>(f ρ H).bind fun p=>(ZcB p.1 p.2).map fun b=>(.bool (!b),p.2)
noncomputable def Zc6(f g:Ex): Ex:=fun ρ H=>(f ρ H).bind fun p=>(ZcB p.1 p.2).bind fun b=>if b then g ρ p.2 else some p
noncomputable def eOr(f g:Ex): Ex:=fun ρ H=>(f ρ H).bind fun p=>(ZcB p.1 p.2).bind fun b=>if b then some p else g ρ p.2
section
variable {prog:Program} {w:World} {Γ:Cx}
theorem J.int(k:Int)(n:Nat)(pos:Pos): J prog w Γ (.Constant (.int k) n pos) (Zk k):=fun W ρ H fr s Q E v H' r e post=>by
 cases e
 exact wpAny_Constant_int (post W s.heap _ _ (.refl W) r (.int k _))
theorem J.none(n:Nat)(pos:Pos): J prog w Γ (.Constant .none n pos) ZZ:=fun W ρ H fr s Q E v H' r e post=>by
 cases e
 exact wpAny_Constant_none (post W s.heap s.toks _ (.refl W) r .none)
theorem J.bool(b:Bool)(n:Nat)(pos:Pos): J prog w Γ (.Constant (.bool b) n pos) (ZbD b):=fun W ρ H fr s Q E v H' r e post=>by
 cases e
 exact wpAny_Constant_bool (post W s.heap s.toks _ (.refl W) r (.bool b))
theorem J.str(x:Str)(n:Nat)(pos:Pos): J prog w Γ (.Constant (.str x) n pos) (ZeF x):=fun W ρ H fr s Q E v H' r e post=>by
 cases e
 exact wpAny_Constant_str (post W s.heap _ _ (.refl W) r (.str x _))
theorem ZJ{e1 e2:Expr}{op:Operator}{pos:Pos}{f g:Ex}{o:V→V→Hp→Option (V×Hp)}(h1:J prog w Γ e1 f)(h2:J prog w Γ e2 g)(ho:Op2 prog w (binaryOp op) o): J prog w Γ (.BinOp e1 op e2 pos) (Zg o f g):=by
 intro W ρ H fr s Q E v H' r hf post
 obtain⟨p,e1,hf⟩:=Zz0.mp hf
 obtain⟨q,e2,e3⟩:=Zz0.mp hf
 refine wpAny_BinOp (h1 W ρ H fr s _ E _ _ r e1 fun W1 k1 t1 x l1 r1 x1=>?_)
 refine h2 W1 ρ _ fr _ _ E _ _ r1 e2 fun W2 k2 t2 y l2 r2 y2=>?_
 exact ho Γ W2 ρ _ fr _ Q E _ _ x y v H' r2 (x1.mono l2) y2 e3 fun W3 k3 t3 z l3 r3 z3=>post W3 k3 t3 z ((l1.trans l2).trans l3) r3 z3
theorem Zcw{e1 e2:Expr}{op:CmpOp}{pos:Pos}{f g:Ex}{o:V→V→Hp→Option (V×Hp)}(h1:J prog w Γ e1 f)(h2:J prog w Γ e2 g)(ho:Op2 prog w (compareOp op) o)(hm:behindInMarks op e2=false:=by with_unfolding_all rfl): J prog w Γ (.Compare e1 [op] [e2] pos) (Zg o f g):=by
 intro W ρ H fr s Q E v H' r hf post
 obtain⟨p,e1,hf⟩:=Zz0.mp hf
 obtain⟨q,e2,e3⟩:=Zz0.mp hf
 refine wpAny_Compare1 (h1 W ρ H fr s _ E _ _ r e1 fun W1 k1 t1 x l1 r1 x1=>?_) hm
 refine h2 W1 ρ _ fr _ _ E _ _ r1 e2 fun W2 k2 t2 y l2 r2 y2=>?_
 exact ho Γ W2 ρ _ fr _ Q E _ _ x y v H' r2 (x1.mono l2) y2 e3 fun W3 k3 t3 z l3 r3 z3=>post W3 k3 t3 z ((l1.trans l2).trans l3) r3 z3
theorem Zb2{e1:Expr}{op:UnaryOp}{pos:Pos}{f:Ex}{o:V→Hp→Option (V×Hp)}(h1:J prog w Γ e1 f)(ho:Op1 prog w (unaryOp op) o): J prog w Γ (.UnaryOp op e1 pos) (eUn o f):=by
 intro W ρ H fr s Q E v H' r hf post
 obtain⟨p,e1,hf⟩:=Zz0.mp hf
 refine wpAny_UnaryOp (h1 W ρ H fr s _ E _ _ r e1 fun W1 k1 t1 x l1 r1 x1=>?_)
 exact ho Γ W1 ρ _ fr _ Q E _ x v H' r1 x1 hf fun W3 k3 t3 z l3 r3 z3=>post W3 k3 t3 z (l1.trans l3) r3 z3
theorem truth: OpT prog w truthy ZcB:=by
 intro Γ W ρ H fr s Q E a x b r hx ho post
 cases hx with
 | none=>cases ho;exact truthy_none (post W s.heap s.toks (.refl W) r)
 | bool c=>cases ho;exact fun _ _ _=>post W s.heap s.toks (.refl W) r
 | int i t=>cases ho;exact P.truthy_int (post W s.heap s.toks (.refl W) r)
 | str _ _=>cases ho
 | tup _ _ _=>cases ho
 | ref _=>cases ho
theorem ZvX{e1:Expr}{pos:Pos}{f:Ex}(h1:J prog w Γ e1 f): J prog w Γ (.UnaryOp .Not e1 pos) (Ziv f):=by
 intro W ρ H fr s Q E v H' r hf post
 obtain⟨p,e1,hf⟩:=Zz0.mp hf
 obtain⟨b,e2,e3⟩:=Zz1.mp hf
 cases e3
 refine wpAny_UnaryOp (h1 W ρ H fr s _ E _ _ r e1 fun W1 k1 t1 x l1 r1 x1=>?_)
 exact not_of (truth Γ W1 ρ _ fr _ _ E _ x b r1 x1 e2 fun W2 k2 t2 l2 r2=>post W2 k2 t2 _ (l1.trans l2) r2 (.bool _))
theorem Zgw{e1 e2:Expr}{pos:Pos}{f g:Ex}(h1:J prog w Γ e1 f)(h2:J prog w Γ e2 g): J prog w Γ (.BoolOp .And [e1,e2] pos) (Zc6 f g):=by
 intro W ρ H fr s Q E v H' r hf post
 obtain⟨p,e1,hf⟩:=Zz0.mp hf
 obtain⟨b,e2,e3⟩:=Zz0.mp hf
 refine wpAny_And2 (h1 W ρ H fr s _ E _ _ r e1 fun W1 k1 t1 x l1 r1 x1=>?_)
 refine truth Γ W1 ρ _ fr _ _ E _ x b r1 x1 e2 fun W2 k2 t2 l2 r2=>?_
 cases b with
 | true=>exact h2 W2 ρ _ fr _ Q E v H' r2 e3 fun W3 k3 t3 z l3 r3 z3=>post W3 k3 t3 z ((l1.trans l2).trans l3) r3 z3
 | false=>
  cases e3
  exact post W2 k2 t2 x (l1.trans l2) r2 (x1.mono l2)
theorem Zwn{e1 e2:Expr}{pos:Pos}{f g:Ex}(h1:J prog w Γ e1 f)(h2:J prog w Γ e2 g): J prog w Γ (.BoolOp .Or [e1,e2] pos) (eOr f g):=by
 intro W ρ H fr s Q E v H' r hf post
 obtain⟨p,e1,hf⟩:=Zz0.mp hf
 obtain⟨b,e2,e3⟩:=Zz0.mp hf
 refine wpAny_Or2 (h1 W ρ H fr s _ E _ _ r e1 fun W1 k1 t1 x l1 r1 x1=>?_)
 refine truth Γ W1 ρ _ fr _ _ E _ x b r1 x1 e2 fun W2 k2 t2 l2 r2=>?_
 cases b with
 | false=>exact h2 W2 ρ _ fr _ Q E v H' r2 e3 fun W3 k3 t3 z l3 r3 z3=>post W3 k3 t3 z ((l1.trans l2).trans l3) r3 z3
 | true=>
  cases e3
  exact post W2 k2 t2 x (l1.trans l2) r2 (x1.mono l2)
theorem Zex{t e1 e2:Expr}{pos:Pos}{u:Ts}{f g:Ex}(ht:JT prog w Γ t u)(h1:J prog w Γ e1 f)(h2:J prog w Γ e2 g): J prog w Γ (.IfExp t e1 e2 pos) (eIf u f g):=by
 intro W ρ H fr s Q E v H' r hf post
 obtain⟨p,e1,hf⟩:=Zz0.mp hf
 refine wpAny_IfExp (ht W ρ H fr s _ E _ _ r e1 fun W1 k1 t1 l1 r1=>?_)
 obtain⟨b,H1⟩:=p
 cases b with
 | true=>exact h1 W1 ρ _ fr _ Q E v H' r1 hf fun W3 k3 t3 z l3 r3 z3=>post W3 k3 t3 z (l1.trans l3) r3 z3
 | false=>exact h2 W1 ρ _ fr _ Q E v H' r1 hf fun W3 k3 t3 z l3 r3 z3=>post W3 k3 t3 z (l1.trans l3) r3 z3
theorem Zp: Js prog w Γ [] Zn:=fun pos W ρ H fr s Q E vs H' r hf post=>by
 cases hf
 exact wpAny_items_nil (post W s.heap s.toks [] (.refl W) r .nil)
theorem ZtG{e:Expr}{es:List Expr}{f:Ex}{g:Exs}(h1:J prog w Γ e f)(h2:Js prog w Γ es g)(he:starEach (e::es) Γ.env=(false,eval e Γ.env)::starEach es Γ.env:=by rfl): Js prog w Γ (e::es) (Ze f g):=by
 intro pos W ρ H fr s Q E vs H' r hf post
 obtain⟨p,e1,hf⟩:=Zz0.mp hf
 obtain⟨q,e2,e3⟩:=Zz0.mp hf
 cases e3
 refine wpAny_items_cons (h1 W ρ H fr s _ E _ _ r e1 fun W1 k1 t1 x l1 r1 x1=>?_) he
 exact h2 pos W1 ρ _ fr _ _ E _ _ r1 e2 fun W2 k2 t2 ys l2 r2 y2=>post W2 k2 t2 _ (l1.trans l2) r2 (.cons (x1.mono l2) y2)
theorem J.tup{es:List Expr}{k:Nat}{pos:Pos}{g:Exs}(h:Js prog w Γ es g): J prog w Γ (.Tuple es k pos) (ZaD g):=by
 intro W ρ H fr s Q E v H' r hf post
 obtain⟨p,e1,hf⟩:=Zz0.mp hf
 by_cases hl:p.1.length≤LEN
 ·rw[if_pos hl]at hf
  cases hf
  refine wpAny_Tuple (h pos W ρ H fr s _ E _ _ r e1 fun W1 k1 t1 xs l1 r1 x1=>⟨ZcX (by rw[x1.length];exact hl),?_⟩)
  obtain⟨W2,l2,r2,v2⟩:=r1.tuple (k:=0) x1 hl
  exact post W2 _ _ _ (l1.trans l2) r2 v2
 ·rw[if_neg hl]at hf
  cases hf
theorem J.list{es:List Expr}{pos:Pos}{g:Exs}(h:Js prog w Γ es g): J prog w Γ (.List es pos) (ZbZ g):=by
 intro W ρ H fr s Q E v H' r hf post
 obtain⟨p,e1,hf⟩:=Zz0.mp hf
 by_cases hl:p.1.length≤LEN
 ·rw[if_pos hl]at hf
  cases hf
  refine wpAny_List (h pos W ρ H fr s _ E _ _ r e1 fun W1 k1 t1 xs l1 r1 x1=>⟨ZcX (by rw[x1.length];exact hl),?_⟩)
  obtain⟨W2,l2,r2,v2⟩:=r1.list (k:=0) x1 hl
  exact post W2 _ _ _ (l1.trans l2) r2 v2
 ·rw[if_neg hl]at hf
  cases hf
theorem ZcC{e:Expr}{pos:Pos}{t:Ts}(h:JT prog w Γ e t): JT prog w Γ (.UnaryOp .Not e pos) (Zcj t):=by
 intro W ρ H fr s Q E b H' r hf post
 obtain⟨p,e1,e2⟩:=Zz1.mp hf
 cases e2
 exact isTrue_not (h W ρ H fr s _ E _ _ r e1 post)
def JA(prog:Program)(w:World)(Γ:Cx)(op:BoolOp)(es:List Expr)(f:Ts): Prop:=∀(W:Wd) (ρ:Lc) (H:Hp) (fr:List (Addr×Obj)) (s:Shared) (Q:Bool→Shared→Prop) (E:Value→Shared→Prop) (b:Bool) (H':Hp),
 Rep Γ W ρ H fr s.heap→f ρ H=some (b,H')→Zim Γ W ρ H' fr s Q b→wpAny (model prog w) Γ.A (allTrue op es Γ.env) Q E s
theorem Zct: JA prog w Γ .And [] Zao:=fun W ρ H fr s Q E b H' r hf post=>by
 cases hf
 exact wpAny_allTrue_And_nil (post W s.heap s.toks (.refl W) r)
theorem Zcu: JA prog w Γ .Or [] Zb7:=fun W ρ H fr s Q E b H' r hf post=>by
 cases hf
 exact wpAny_allTrue_Or_nil (post W s.heap s.toks (.refl W) r)
theorem ZaS{e:Expr}{es:List Expr}{t u:Ts}(h1:JT prog w Γ e t)(h2:JA prog w Γ .And es u): JA prog w Γ .And (e::es) (ZaK t u):=by
 intro W ρ H fr s Q E b H' r hf post
 obtain⟨p,e1,hf⟩:=Zz0.mp hf
 refine wpAny_allTrue_And_cons (h1 W ρ H fr s _ E _ _ r e1 fun W1 k1 t1 l1 r1=>?_)
 obtain⟨c,H1⟩:=p
 cases c with
 | true=>exact h2 W1 ρ _ fr _ Q E b H' r1 hf fun W3 k3 t3 l3 r3=>post W3 k3 t3 (l1.trans l3) r3
 | false=>
  cases hf
  exact post W1 k1 t1 l1 r1
theorem Za0{e:Expr}{es:List Expr}{t u:Ts}(h1:JT prog w Γ e t)(h2:JA prog w Γ .Or es u): JA prog w Γ .Or (e::es) (tOr t u):=by
 intro W ρ H fr s Q E b H' r hf post
 obtain⟨p,e1,hf⟩:=Zz0.mp hf
 refine wpAny_allTrue_Or_cons (h1 W ρ H fr s _ E _ _ r e1 fun W1 k1 t1 l1 r1=>?_)
 obtain⟨c,H1⟩:=p
 cases c with
 | false=>exact h2 W1 ρ _ fr _ Q E b H' r1 hf fun W3 k3 t3 l3 r3=>post W3 k3 t3 (l1.trans l3) r3
 | true=>
  cases hf
  exact post W1 k1 t1 l1 r1
theorem Za7{op:BoolOp}{es:List Expr}{pos:Pos}{t:Ts}(h:JA prog w Γ op es t): JT prog w Γ (.BoolOp op es pos) t:=fun W ρ H fr s Q E b H' r hf post=>wpAny_isTrue_BoolOp (h W ρ H fr s Q E b H' r hf post)
theorem Zbb{e:Expr}{f:Ex}(h:J prog w Γ e f)(he:isTrue e Γ.env (eval e Γ.env)=(do let v ←eval e Γ.env;standAt e.pos;holding [v] (truthy v)):=by rfl): JT prog w Γ e (ZG f):=by
 intro W ρ H fr s Q E b H' r hf post
 obtain⟨p,e1,hf⟩:=Zz0.mp hf
 obtain⟨c,e2,e3⟩:=Zz1.mp hf
 cases e3
 refine isTrue_plain (h W ρ H fr s _ E _ _ r e1 fun W1 k1 t1 x l1 r1 x1=>?_) he
 exact truth Γ W1 ρ _ fr _ _ E _ x b r1 x1 e2 fun W2 k2 t2 l2 r2=>post W2 k2 t2 (l1.trans l2) r2
theorem ZR{e1 e2:Expr}{op:CmpOp}{pos:Pos}{f g:Ex}{o:V→V→Hp→Option (V×Hp)}(h1:J prog w Γ e1 f)(h2:J prog w Γ e2 g)(ho:Op2 prog w (compareOp op) o)(hm:behindInMarks op e2=false:=by with_unfolding_all rfl): JT prog w Γ (.Compare e1 [op] [e2] pos) (ZG (Zg o f g)):=by
 intro W ρ H fr s Q E b H' r hf post
 obtain⟨pp,e0,hf0⟩:=Zz0.mp hf
 obtain⟨c,e4,e5⟩:=Zz1.mp hf0
 cases e5
 obtain⟨p,e1,hf⟩:=Zz0.mp e0
 obtain⟨q,e2,e3⟩:=Zz0.mp hf
 refine wpAny_isTrue_Compare1 (h1 W ρ H fr s _ E _ _ r e1 fun W1 k1 t1 x l1 r1 x1=>?_) hm
 refine h2 W1 ρ _ fr _ _ E _ _ r1 e2 fun W2 k2 t2 y l2 r2 y2=>?_
 refine ho Γ W2 ρ _ fr _ _ E _ _ x y _ _ r2 (x1.mono l2) y2 e3 fun W3 k3 t3 z l3 r3 z3=>?_
 exact truth Γ W3 ρ _ fr _ _ E _ z b r3 z3 e4 fun W4 k4 t4 l4 r4=>post W4 k4 t4 (((l1.trans l2).trans l3).trans l4) r4
end
end PM
end
section
namespace PM
open PySem PyProof.Rows PyProof
noncomputable def mulOk(a b:Int): Bool:=!(decide (Builtin.Int.intBits a>shortFactorBits) && decide (Builtin.Int.intBits b>shortFactorBits) && Builtin.Int.intTooBig (Builtin.Int.intBits a+Builtin.Int.intBits b))
theorem ZsV{a b:Int}(h:mulOk a b=true): IntMulOk a b:=by
 unfold mulOk at h
 unfold IntMulOk
 intro c
 rw[c]at h
 cases h
noncomputable def Za9: V→V→Hp→Option (V×Hp)
 | .int a,.int b,H=>some (.int (a-b),H)
 | _,_,_=>none
noncomputable def oDiv: V→V→Hp→Option (V×Hp)
 | .int a,.int b,H=>if b≠0∧Builtin.divisionGoesByPylong a b=false then some (.int (a.fdiv b),H)else none
 | _,_,_=>none
noncomputable def oMod: V→V→Hp→Option (V×Hp)
 | .int a,.int b,H=>if b≠0 then some (.int (a.fmod b),H)else none
 | _,_,_=>none
noncomputable def oPow: V→V→Hp→Option (V×Hp)
 | .int a,.int b,H=>if 0≤b∧(Builtin.Int.intBits a:Int)*b≤2 ^ 27 then some (.int (a ^ b.toNat),H)else none
 | _,_,_=>none
noncomputable def ZbN: V→Hp→Option (V×Hp)
 | .int a,H=>some (.int (-a),H)
 | _,_=>none
noncomputable def Ziw(p:Int→Int→Bool): V→V→Hp→Option (V×Hp)
 | .int a,.int b,H=>some (.bool (p a b),H)
 | _,_,_=>none
noncomputable def oLt:=Ziw fun a b=>decide (a<b)
noncomputable def oLe:=Ziw fun a b=>decide (a≤b)
noncomputable def oGt:=Ziw fun a b=>decide (b<a)
section
variable {prog:Program} {w:World}
theorem Zbi: Op2 prog w (binaryOp .Sub) Za9:=by
 intro Γ W ρ H fr s Q E a b x y v H' r hx hy ho post
 cases hx <;> first | (cases ho;done) | skip
 cases hy <;> first | (cases ho;done) | skip
 cases ho
 exact PySem.P.sub_int (post W s.heap _ _ (.refl W) r (.int _ _))
theorem ZaV: Op2 prog w (binaryOp .Mod) oMod:=by
 intro Γ W ρ H fr s Q E a b x y v H' r hx hy ho post
 cases hx <;> first | (cases ho;done) | skip
 cases hy <;> first | (cases ho;done) | skip
 rename_i i t j u
 simp only[oMod]at ho
 by_cases hb:j≠0
 ·rw[if_pos hb]at ho
  cases ho
  exact mod_int' hb (post W s.heap _ _ (.refl W) r (.int _ _))
 ·rw[if_neg hb]at ho
  cases ho
theorem Zdj: Op2 prog w (binaryOp .FloorDiv) oDiv:=by
 intro Γ W ρ H fr s Q E a b x y v H' r hx hy ho post
 cases hx <;> first | (cases ho;done) | skip
 cases hy <;> first | (cases ho;done) | skip
 rename_i i t j u
 simp only[oDiv]at ho
 by_cases hb:j≠0∧Builtin.divisionGoesByPylong i j=false
 ·rw[if_pos hb]at ho
  cases ho
  exact floordiv_int hb.1 (post W s.heap _ _ (.refl W) r (.int _ _)) (.inl hb.2)
 ·rw[if_neg hb]at ho
  cases ho
theorem Zmp: Op2 prog w (binaryOp .Pow) oPow:=by
 intro Γ W ρ H fr s Q E a b x y v H' r hx hy ho post
 cases hx <;> first | (cases ho;done) | skip
 cases hy <;> first | (cases ho;done) | skip
 rename_i i t j u
 simp only[oPow]at ho
 by_cases hb:0≤j∧(Builtin.Int.intBits i:Int)*j≤2 ^ 27
 ·rw[if_pos hb]at ho
  cases ho
  exact pow_int hb.1 hb.2 (post W s.heap _ _ (.refl W) r (.int _ _))
 ·rw[if_neg hb]at ho
  cases ho
theorem ZbW: Op1 prog w (unaryOp .USub) ZbN:=by
 intro Γ W ρ H fr s Q E a x v H' r hx ho post
 cases hx <;> first | (cases ho;done) | skip
 cases ho
 exact PySem.P.neg_int (post W s.heap _ _ (.refl W) r (.int _ _))
theorem Zcr: Op2 prog w (compareOp .Lt) oLt:=by
 intro Γ W ρ H fr s Q E a b x y v H' r hx hy ho post
 cases hx <;> first | (cases ho;done) | skip
 cases hy <;> first | (cases ho;done) | skip
 cases ho
 exact PySem.P.lt_int (post W s.heap s.toks _ (.refl W) r (.bool _))
theorem ZmP: Op2 prog w (compareOp .LtE) oLe:=by
 intro Γ W ρ H fr s Q E a b x y v H' r hx hy ho post
 cases hx <;> first | (cases ho;done) | skip
 cases hy <;> first | (cases ho;done) | skip
 cases ho
 exact PySem.P.le_int (post W s.heap s.toks _ (.refl W) r (.bool _))
theorem Zey: Op2 prog w (compareOp .Gt) oGt:=by
 intro Γ W ρ H fr s Q E a b x y v H' r hx hy ho post
 cases hx <;> first | (cases ho;done) | skip
 cases hy <;> first | (cases ho;done) | skip
 cases ho
 exact PySem.P.gt_int (post W s.heap s.toks _ (.refl W) r (.bool _))
end
end PM
end
section
namespace PM
open PySem PyProof.Rows PyProof
noncomputable def Zfu(f:V→Option PyData): List V→Option (List PyData)
 | []=>some []
 | v::vs=>(f v).bind fun d=>(Zfu f vs).bind fun ds=>some (d::ds)
noncomputable def toD(H:Hp): Nat→V→Option PyData
 | _,.none=>some .none
 | _,.bool b=>some (.bool b)
 | _,.int i=>some (.int i)
 | _,.str x=>some (.str x)
 | n+1,.tup vs=>(Zfu (toD H n) vs).map .tuple
 | n+1,.ref a=>H[a]?.bind fun vs=>(Zfu (toD H n) vs).map .list
 | 0,.tup _=>none
 | 0,.ref _=>none
theorem Zkw{W:Wd}{h:Heap}{f:V→Option PyData}(ih:∀v x d,VR W v x→f v=some d→∃as,Reads h x d as): ∀{vs:List V} {xs:List Value} {ds:List PyData},VRs W vs xs→Zfu f vs=some ds→∃as,ReadsAll h xs ds as
 | _,_,_,.nil,e=>by
  cases e
  exact⟨_,.nil⟩
 | _,_,_,.cons a r,e=>by
  obtain⟨d,e1,e⟩:=Zz0.mp e
  obtain⟨ds,e2,e3⟩:=Zz0.mp e
  cases e3
  obtain⟨as,h1⟩:=ih _ _ _ a e1
  obtain⟨bs,h2⟩:=Zkw ih r e2
  exact⟨_,.cons h1 h2⟩
theorem Ze0{Γ:Cx}{W:Wd}{ρ:Lc}{H:Hp}{fr:List (Addr×Obj)}{h:Heap}(r:Rep Γ W ρ H fr h): ∀(n:Nat) (v:V) (x:Value) (d:PyData),VR W v x→toD H n v=some d→∃as,Reads h x d as:=by
 intro n
 induction n with
 | zero=>
  intro v x d hv e
  cases hv with
  | none=>cases e;exact⟨_,.none⟩
  | bool b=>cases e;exact⟨_,.bool b⟩
  | int i t=>cases e;exact⟨_,.int i t⟩
  | str y t=>cases e;exact⟨_,.str y t⟩
  | tup _ _ _=>cases e
  | ref _=>cases e
 | succ n ih=>
  intro v x d hv e
  cases hv with
  | none=>cases e;exact⟨_,.none⟩
  | bool b=>cases e;exact⟨_,.bool b⟩
  | int i t=>cases e;exact⟨_,.int i t⟩
  | str y t=>cases e;exact⟨_,.str y t⟩
  | @tup vs a xs k hm hl hs=>
   obtain⟨ds,e1,e2⟩:=Zz1.mp e
   subst e2
   obtain⟨as,h1⟩:=Zkw ih hs e1
   exact⟨_,.tuple (r.tupAt hm) rfl rfl (by simpa using h1)⟩
  | @ref i a ea=>
   obtain⟨vs,e0,e⟩:=Zz0.mp e
   obtain⟨ds,e1,e2⟩:=Zz1.mp e
   subst e2
   obtain⟨hl,xs,k,hg,hs⟩:=r.at e0 ea
   obtain⟨as,h1⟩:=Zkw ih hs e1
   exact⟨_,.list hg rfl rfl (by simpa using h1)⟩
noncomputable def ZbO: Nat:=8
noncomputable def Zix(a b:V)(H:Hp): Option Bool:=(toD H ZbO a).bind fun d=>(toD H ZbO b).bind fun e=>if SeqAt.shaped d=true∧SeqAt.shaped e=true then some (PyData.eqv d e)else none
noncomputable def oEq(a b:V)(H:Hp): Option (V×Hp):=(Zix a b H).map fun c=>(.bool c,H)
noncomputable def oNe(a b:V)(H:Hp): Option (V×Hp):=(Zix a b H).map fun c=>(.bool (!c),H)
noncomputable def oIs: V→V→Hp→Option (V×Hp)
 | .none,.none,H=>some (.bool true,H)
 | .bool _,.none,H=>some (.bool false,H)
 | .int _,.none,H=>some (.bool false,H)
 | .str _,.none,H=>some (.bool false,H)
 | .tup _,.none,H=>some (.bool false,H)
 | .ref _,.none,H=>some (.bool false,H)
 | _,_,_=>none
noncomputable def ZbX(a b:V)(H:Hp): Option (V×Hp):=(oIs a b H).bind fun p=>match p.1 with | .bool c=>some (.bool (!c),p.2) | _=>none
section
variable {prog:Program} {w:World}
theorem Zau: Op2 prog w (compareOp .Eq) oEq:=by
 intro Γ W ρ H fr s Q E a b x y v H' r hx hy ho post
 obtain⟨c,e1,e2⟩:=Zz1.mp ho
 cases e2
 obtain⟨d,h1,e1⟩:=Zz0.mp e1
 obtain⟨e,h2,e1⟩:=Zz0.mp e1
 by_cases hs:SeqAt.shaped d=true∧SeqAt.shaped e=true
 ·rw[if_pos hs]at e1
  cases e1
  obtain⟨as,R1⟩:=Ze0 r ZbO a x d hx h1
  obtain⟨bs,R2⟩:=Ze0 r ZbO b y e hy h2
  exact eq_dataH R1 R2 hs.1 hs.2 (by have:=Γ.hu;omega) (post W s.heap s.toks _ (.refl W) r (.bool _))
 ·rw[if_neg hs]at e1
  cases e1
theorem Zbu: Op2 prog w (compareOp .NotEq) oNe:=by
 intro Γ W ρ H fr s Q E a b x y v H' r hx hy ho post
 obtain⟨c,e1,e2⟩:=Zz1.mp ho
 cases e2
 obtain⟨d,h1,e1⟩:=Zz0.mp e1
 obtain⟨e,h2,e1⟩:=Zz0.mp e1
 by_cases hs:SeqAt.shaped d=true∧SeqAt.shaped e=true
 ·rw[if_pos hs]at e1
  cases e1
  obtain⟨as,R1⟩:=Ze0 r ZbO a x d hx h1
  obtain⟨bs,R2⟩:=Ze0 r ZbO b y e hy h2
  exact ne_dataH R1 R2 hs.1 hs.2 (by have:=Γ.hu;omega) (post W s.heap s.toks _ (.refl W) r (.bool _))
 ·rw[if_neg hs]at e1
  cases e1
theorem Zbj: Op2 prog w (compareOp .Is) oIs:=by
 intro Γ W ρ H fr s Q E a b x y v H' r hx hy ho post
 cases hy <;> first | (cases hx <;> cases ho;done) | skip
 refine PySem.is_none ?_
 cases hx <;> (cases ho;exact post W s.heap s.toks _ (.refl W) r (.bool _))
theorem Zcb: Op2 prog w (compareOp .IsNot) ZbX:=by
 intro Γ W ρ H fr s Q E a b x y v H' r hx hy ho post
 cases hy <;> first | (cases hx <;> cases ho;done) | skip
 refine PySem.isNot_none ?_
 cases hx <;> (cases ho;exact post W s.heap s.toks _ (.refl W) r (.bool _))
end
end PM
end
section
namespace PM
open PySem PyProof.Rows PyProof
noncomputable def Zu: V→V→Hp→Option (V×Hp)
 | .ref a,.int k,H=>H[a]?.bind fun vs=>(seqIndex? k vs.length).bind fun j=>vs[j]?.map fun v=>(v,H)
 | .tup vs,.int k,H=>(seqIndex? k vs.length).bind fun j=>vs[j]?.map fun v=>(v,H)
 | _,_,_=>none
theorem ZnJ{k:Int}{n j:Nat}(h:seqIndex? k n=some j): j<n∧(k:Int)<n∧-(n:Int)≤k∧(0≤k→k.toNat=j)∧(k<0→(k+n).toNat=j):=by
 unfold seqIndex? at h
 by_cases c:k<0
 ·simp only[c,if_true]at h
  split at h
  ·rename_i d
   simp at d h
   omega
  ·cases h
 ·simp only[c,if_false]at h
  split at h
  ·rename_i d
   simp at d h
   omega
  ·cases h
section
variable {prog:Program} {w:World} {Γ:Cx}
theorem Zz{e1 e2:Expr}{pos:Pos}{f g:Ex}(h1:J prog w Γ e1 f)(h2:J prog w Γ e2 g)(hs:∀a k u,subscripted e2 false (.ref a) (.int k u)=operate [.ref a,.int k u] (getItem (.ref a) (.int k u)):=by intros;with_unfolding_all rfl): J prog w Γ (.Subscript e1 e2 pos) (Zg Zu f g):=by
 intro W ρ H fr s Q E v H' r hf post
 obtain⟨p,e1,hf⟩:=Zz0.mp hf
 obtain⟨q,e2,e3⟩:=Zz0.mp hf
 refine Subscript_ (h1 W ρ H fr s _ E _ _ r e1 fun W1 k1 t1 x l1 r1 x1=>?_)
 refine h2 W1 ρ _ fr _ _ E _ _ r1 e2 fun W2 k2 t2 y l2 r2 y2=>?_
 have x2:=x1.mono l2
 obtain⟨v1,H1⟩:=p
 obtain⟨v2,H2⟩:=q
 simp only at e3 r2 x2 y2
 cases y2 <;> first | (cases x2 <;> cases e3;done) | skip
 rename_i k u
 cases x2 <;> first | (cases e3;done) | skip
 ·rename_i vs a xs kk hm hl hv
  obtain⟨j,hj,e4⟩:=Zz0.mp e3
  obtain⟨z,hz,e5⟩:=Zz1.mp e4
  cases e5
  obtain⟨z',hz',rz⟩:=hv.at hz
  have hx:xs.length=vs.length:=hv.length
  have hb:=ZnJ hj
  rw[Zbh]at hl
  have it:IsTup k2 a xs.toArray:=⟨_,r2.tupAt hm,rfl,kk,rfl⟩
  exact item_tupleT it (by omega) (by omega) (by rw[hx];exact hj) hz' (post W2 k2 t2 z' (l1.trans l2) r2 rz) (hs _ _ _)
 ·rename_i i a ea
  obtain⟨vs,hvs,e3⟩:=Zz0.mp e3
  obtain⟨j,hj,e4⟩:=Zz0.mp e3
  obtain⟨z,hz,e5⟩:=Zz1.mp e4
  cases e5
  obtain⟨hl,xs,kk,hg,hv⟩:=r2.at hvs ea
  obtain⟨z',hz',rz⟩:=hv.at hz
  have hx:xs.length=vs.length:=hv.length
  have hb:=ZnJ hj
  rw[Zbh]at hl
  have isl:k2.IsList a xs.toArray:=⟨_,hg,rfl,kk,rfl⟩
  refine tail_any (s:={ s with heap:=k2,toks:=t2 }) isl.typeIs slot_list_getitem.lookup ?_ (hs _ _ _)
  by_cases hk:0≤k
  ·exact wpAny_getItem_list isl hk (by omega) (by rw[hb.2.2.2.1 hk];simpa using hz') (post W2 k2 t2 z' (l1.trans l2) r2 rz)
  ·refine wpAny_getItem_list_neg isl (by omega) (by simp;omega) (by omega) ?_ (post W2 k2 t2 z' (l1.trans l2) r2 rz)
   have:=hb.2.2.2.2 (by omega)
   rw[←hx]at this
   simpa [this]using hz'
end
noncomputable def ZcP{α:Type}(vs:List α)(lo hi:Option Int): List α:=(sliceRange (sliceBounds lo hi none vs.length).1 (sliceBounds lo hi none vs.length).2.1 (sliceBounds lo hi none vs.length).2.2).filterMap fun i=>vs[i]?
theorem VRs.pick{W:Wd}{vs:List V}{xs:List Value}(h:VRs W vs xs)(l:List Nat): VRs W (l.filterMap fun i=>vs[i]?) (l.filterMap fun i=>xs[i]?):=by
 induction l with
 | nil=>exact .nil
 | cons i l ih=>
  simp only[List.filterMap_cons]
  have hl:=h.length
  cases e:vs[i]? with
  | none=>
   have:xs[i]?=none:=by rw[List.getElem?_eq_none_iff]at e ⊢;omega
   rw[this]
   exact ih
  | some v=>
   obtain⟨x,hx,hr⟩:=h.at e
   rw[hx]
   exact .cons hr ih
theorem ZsW{α:Type}(vs:List α)(lo hi:Option Int): (ZcP vs lo hi).length≤vs.length:=by
 unfold ZcP
 refine Nat.le_trans (List.length_filterMap_le _ _) ?_
 refine sliceRange_length_le _ _ _ _ (fun _=>?_) fun c=>?_
 ·unfold sliceBounds
  cases lo <;> cases hi <;> simp <;> omega
 ·exact absurd (by unfold sliceBounds;simp) c
theorem ZsX{α:Type}(vs:List α)(a:Nat): ∀m:Nat,a+m≤vs.length→((List.range m).map fun k=>a+k).filterMap (fun i=>vs[i]?)=(vs.drop a).take m:=by
 intro m
 induction m with
 | zero=>intro _;simp
 | succ m ih=>
  intro h
  rw[List.range_succ,List.map_append,List.filterMap_append,ih (by omega),List.take_add_one]
  congr 1
  simp only[List.map_cons,List.map_nil,List.filterMap_cons,List.filterMap_nil,List.getElem?_drop]
  cases e:vs[a+m]? with
  | none=>rw[List.getElem?_eq_none_iff]at e;omega
  | some v=>rfl
theorem Zpa{α:Type}(vs:List α)(lo hi:Option Int){a b:Nat}(ha:(sliceBounds lo hi none vs.length).1=(a:Int))(hb:(sliceBounds lo hi none vs.length).2.1=(b:Int))(h:b≤vs.length): ZcP vs lo hi=(vs.drop a).take (b-a):=by
 have hc:(sliceBounds lo hi none vs.length).2.2=1:=by unfold sliceBounds;rfl
 unfold ZcP
 rw[ha,hb,hc]
 have e:sliceRange (a:Int) (b:Int) 1=(List.range (b-a)).map fun k=>a+k:=by
  unfold sliceRange
  simp only[show(1:Int)>0 from by decide,if_true]
  by_cases c:(a:Int)<b
  ·rw[if_pos c]
   have:((b:Int)-a+1-1) / 1=((b-a:Nat):Int):=by omega
   rw[this]
   simp only[Int.toNat_natCast]
   refine List.map_congr_left fun k _=>?_
   omega
  ·rw[if_neg c]
   have:b-a=0:=by omega
   rw[this]
   rfl
 rw[e]
 by_cases c:a≤b
 ·exact ZsX vs a (b-a) (by omega)
 ·have:b-a=0:=by omega
  rw[this]
  simp
theorem Zsg{α:Type}(vs:List α){k:Int}{a:Nat}(e:k=(a:Int)): ZcP vs (some k) none=vs.drop a:=by
 by_cases h:a≤vs.length
 ·rw[Zpa vs (some k) none (a:=a) (b:=vs.length) (by unfold sliceBounds;simp;omega) (by unfold sliceBounds;simp) (Zz10 _)]
  rw[List.take_of_length_le (by simp)]
 ·rw[Zpa vs (some k) none (a:=vs.length) (b:=vs.length) (by unfold sliceBounds;simp;omega) (by unfold sliceBounds;simp) (Zz10 _)]
  simp
  omega
noncomputable def Zgx: Option V→Option (Option Int)
 | none=>some none
 | some (.int k)=>some (some k)
 | _=>none
noncomputable abbrev Pt:=Lc→Hp→Option (Option V×Hp)
noncomputable def Zgy: Pt:=fun _ H=>some (none,H)
noncomputable def ZmQ(f:Ex): Pt:=fun ρ H=>(f ρ H).map fun p=>(some p.1,p.2)
noncomputable def Zmq(f:Ex)(lo hi:Pt): Ex:=fun ρ H=>(f ρ H).bind fun p=>(lo ρ p.2).bind fun q=>(hi ρ q.2).bind fun u=>(Zgx q.1).bind fun a=>(Zgx u.1).bind fun b=>match p.1 with
 | .ref i=>u.2[i]?.bind fun vs=>some (.ref u.2.length,u.2++[ZcP vs a b])
 | _=>none
inductive VP(W:Wd): Option V→Value→Prop where
 | none:VP W none .none
 | some {v:V} {x:Value}:VR W v x→VP W (some v) x
theorem VP.mono{W W':Wd}{v:Option V}{x:Value}(l:W.Le W')(h:VP W v x): VP W' v x:=by
 cases h with
 | none=>exact .none
 | some h=>exact .some (h.mono l)
theorem VP.part{W:Wd}{v:Option V}{x:Value}{k:Option Int}(h:VP W v x)(e:Zgx v=Option.some k): IsPart x k:=by
 cases h with
 | none=>cases e;exact .none
 | some h=>cases h <;> cases e;exact .int _ _
def JP(prog:Program)(w:World)(Γ:Cx)(e:Option Expr)(f:Pt): Prop:=∀(W:Wd) (ρ:Lc) (H:Hp) (fr:List (Addr×Obj)) (s:Shared) (Q E:Value→Shared→Prop) (v:Option V) (H':Hp),
 Rep Γ W ρ H fr s.heap→f ρ H=some (v,H')→(∀(W':Wd) (h':Heap) (tk':Nat) (x:Value),W.Le W'→Rep Γ W' ρ H' fr h'→VP W' v x→Q x { s with heap:=h',toks:=tk' })→wpAny (model prog w) Γ.A (evalPart e Γ.env) Q E s
section
variable {prog:Program} {w:World} {Γ:Cx}
theorem JP.none: JP prog w Γ none Zgy:=fun W ρ H fr s Q E v H' r hf post=>by
 cases hf
 exact wpAny_evalPart_none (post W s.heap s.toks _ (.refl W) r .none)
theorem JP.some{e:Expr}{f:Ex}(h:J prog w Γ e f): JP prog w Γ (some e) (ZmQ f):=fun W ρ H fr s Q E v H' r hf post=>by
 obtain⟨p,e1,e2⟩:=Zz1.mp hf
 cases e2
 exact wpAny_evalPart_some (h W ρ H fr s _ E _ _ r e1 fun W1 k1 t1 x l1 r1 x1=>post W1 k1 t1 x l1 r1 (.some x1))
theorem ZtH{e:Expr}{lo hi:Option Expr}{p pos:Pos}{f:Ex}{a b:Pt}(h:J prog w Γ e f)(hlo:JP prog w Γ lo a)(hhi:JP prog w Γ hi b)(ht:∀o r,letTemporaryGo e o r=pure ():=by intro _ _;rfl): J prog w Γ (.Subscript e (.Slice lo hi Option.none p) pos) (Zmq f a b):=by
 intro W ρ H fr s Q E v H' r hf post
 obtain⟨p,e1,hf⟩:=Zz0.mp hf
 obtain⟨q,e2,hf⟩:=Zz0.mp hf
 obtain⟨u,e3,hf⟩:=Zz0.mp hf
 obtain⟨ka,e4,hf⟩:=Zz0.mp hf
 obtain⟨kb,e5,hf⟩:=Zz0.mp hf
 refine wpAny_Subscript_list_slice (h W ρ H fr s _ E _ _ r e1 fun W1 k1 t1 x l1 r1 x1=>?_) ht
 refine hlo W1 ρ _ fr _ _ E _ _ r1 e2 fun W2 k2 t2 y l2 r2 y2=>?_
 refine hhi W2 ρ _ fr _ _ E _ _ r2 e3 fun W3 k3 t3 z l3 r3 z3=>?_
 have x3:=x1.mono (l2.trans l3)
 obtain⟨v1,H1⟩:=p
 simp only at hf x3
 cases x3 with
 | none=>cases hf
 | bool _=>cases hf
 | int _ _=>cases hf
 | str _ _=>cases hf
 | tup _ _ _=>cases hf
 | @ref i a ea=>
  obtain⟨vs,hvs,e6⟩:=Zz0.mp hf
  cases e6
  obtain⟨hl,xs,kk,hg,hv⟩:=r3.at hvs ea
  have isl:k3.IsList a xs.toArray:=⟨_,hg,rfl,kk,rfl⟩
  refine⟨a,xs.toArray,ka,kb,rfl,isl,ZcX (by simp[hv.length];exact hl),(y2.mono l3).part e4,z3.part e5,?_⟩
  have hp:VRs W3 (ZcP vs ka kb) (ZcP xs ka kb):=by
   unfold ZcP
   rw[hv.length]
   exact hv.pick _
  have hx:slicePick xs.toArray ka kb Option.none=(ZcP xs ka kb).toArray:=by
   unfold slicePick ZcP
   simp
  obtain⟨W4,l4,r4,v4⟩:=(r3.push { cls:=.type "slice",data:=.fields #[y,z,.none] }).list (k:=0) hp (Nat.le_trans (ZsW vs ka kb) hl)
  rw[hx]
  have:=post W4 _ t3 _ (((l1.trans l2).trans l3).trans l4) r4 v4
  rw[Heap.size_push]at this
  exact this
end
end PM
end
section
namespace PM
open PySem PyProof.Rows PyProof
def Nm(prog:Program)(w:World)(Γ:Cx)(x:Str)(v:Value): Prop:=∀(pos:Pos) (m:Str→Option Value) (s:Shared) (Q E:Value→Shared→Prop),Fr Γ.h₀ Γ.L s.heap m→Q v s→wpAny (model prog w) Γ.A (eval (.Name x pos) Γ.env) Q E s
theorem Nm.use{prog:Program}{w:World}{Γ:Cx}{x:Str}{y:Value}(h:Nm prog w Γ x y){pos:Pos}{W:Wd}{ρ:Lc}{H:Hp}{fr:List (Addr×Obj)}{s:Shared}{Q E:Value→Shared→Prop}(r:Rep Γ W ρ H fr s.heap)(q:Q y s): wpAny (model prog w) Γ.A (eval (.Name x pos) Γ.env) Q E s:=by
 obtain⟨m,c,led,r⟩:=r
 exact h pos m s Q E r.F q
def OpN(prog:Program)(w:World)(m:List Value→Sem Value)(o:List V→Hp→Option (V×Hp)): Prop:=∀(Γ:Cx) (W:Wd) (ρ:Lc) (H:Hp) (fr:List (Addr×Obj)) (s:Shared) (Q E:Value→Shared→Prop) (as:List V) (xs:List Value) (v:V) (H':Hp),
 Rep Γ W ρ H fr s.heap→VRs W as xs→o as H=some (v,H')→ZgE Γ W ρ H' fr s Q v→wpAny (model prog w) Γ.A (m xs) Q E s
noncomputable def Zr(o:List V→Hp→Option (V×Hp))(g:Exs): Ex:=fun ρ H=>(g ρ H).bind fun p=>o p.1 p.2
section
variable {prog:Program} {w:World} {Γ:Cx}
theorem Zaq{x:Str}{np pos:Pos}{id:String}{e:Expr}{es:List Expr}{g:Exs}{o:List V→Hp→Option (V×Hp)}(hn:Nm prog w Γ x (.builtin id))(h:Js prog w Γ (e::es) g)(ho:OpN prog w (fun xs=>call (.builtin id) xs) o)
  (he:starEach (e::es) Γ.env=(false,eval e Γ.env)::starEach es Γ.env:=by rfl) (hp:∀pos,(backTo pos (starEach es Γ.env)).any (·.1)=false:=by intro _;rfl):J prog w Γ (.Call (.Name x np) (e::es) [] pos) (Zr o g):=by
 intro W ρ H fr s Q E v H' r hf post
 obtain⟨p,e1,hf⟩:=Zz0.mp hf
 refine wpAny_Call_ofName (hn.use r ?_)
 refine callWith_builtin1 (h pos W ρ H fr s _ E _ _ r e1 fun W1 k1 t1 xs l1 r1 x1=>?_) he (hp pos)
 exact ho Γ W1 ρ _ fr _ Q E _ xs v H' r1 x1 hf fun W2 k2 t2 y l2 r2 y2=>post W2 k2 t2 y (l1.trans l2) r2 y2
theorem ZcZ{x:Str}{np pos:Pos}{T:String}{e:Expr}{es:List Expr}{g:Exs}{o:List V→Hp→Option (V×Hp)}(hn:Nm prog w Γ x (.type T))(h:Js prog w Γ (e::es) g)(ho:OpN prog w (fun xs=>call (.type T) xs) o)
  (he:starEach (e::es) Γ.env=(false,eval e Γ.env)::starEach es Γ.env:=by rfl) (hp:∀pos,(backTo pos (starEach es Γ.env)).any (·.1)=false:=by intro _;rfl):J prog w Γ (.Call (.Name x np) (e::es) [] pos) (Zr o g):=by
 intro W ρ H fr s Q E v H' r hf post
 obtain⟨p,e1,hf⟩:=Zz0.mp hf
 refine wpAny_Call_ofName (hn.use r ?_)
 refine PySem.Pv.callWith_type1 (h pos W ρ H fr s _ E _ _ r e1 fun W1 k1 t1 xs l1 r1 x1=>?_) he (hp pos)
 exact ho Γ W1 ρ _ fr _ Q E _ xs v H' r1 x1 hf fun W2 k2 t2 y l2 r2 y2=>post W2 k2 t2 y (l1.trans l2) r2 y2
end
noncomputable def Zl1: V→String
 | .none=>"NoneType"
 | .bool _=>"bool"
 | .int _=>"int"
 | .str _=>"str"
 | .tup _=>"tuple"
 | .ref _=>"list"
noncomputable def Zmr(T:String)(v:V): Bool:=Zl1 v == T || (T == "int" && Zl1 v == "bool")
noncomputable def eIs(T:String)(f:Ex): Ex:=fun ρ H=>(f ρ H).map fun p=>(.bool (Zmr T p.1),p.2)
section
variable {prog:Program} {w:World} {Γ:Cx}
theorem isinst{T:String}(hT:T="int"∨T="bool"∨T="list"∨T="tuple"){W:Wd}{ρ:Lc}{H:Hp}{fr:List (Addr×Obj)}{s:Shared}{Q E:Value→Shared→Prop}{a:V}{x:Value}(r:Rep Γ W ρ H fr s.heap)(hx:VR W a x)(hin:∀i,a=.ref i→i<H.length)
  (post:∀tk,Q (.bool (Zmr T a)) { s with toks:=tk }):wpAny (model prog w) Γ.A (call (.builtin "isinstance") [x,.type T]) Q E s:=by
 cases hx with
 | none=>
      rcases hT with e | e | e | e <;> subst e
      ·exact call_isinstance (isinstance_false_none (by decide +kernel) F.isi_meta_int (by rw[isSubtype_type];kernel_rfl)) (post _)
      ·exact call_isinstance (isinstance_false_none (by decide +kernel) F.isi_meta_bool (by rw[isSubtype_type];kernel_rfl)) (post _)
      ·exact call_isinstance (isinstance_false_none (by decide +kernel) F.isi_meta_list (by rw[isSubtype_type];kernel_rfl)) (post _)
      ·exact call_isinstance (isinstance_false_none (by decide +kernel) F.isi_meta_tuple (by rw[isSubtype_type];kernel_rfl)) (post _)
 | bool b=>
       rcases hT with e | e | e | e <;> subst e
       ·exact IsiPair.bool_int (post s.toks)
       ·exact IsiPair.bool_bool (post s.toks)
       ·exact IsiPair.bool_list (post _)
       ·exact IsiPair.bool_tuple (post _)
 | int i t=>
       rcases hT with e | e | e | e <;> subst e
       ·exact IsiPair.int_int (post s.toks)
       ·exact IsiPair.int_bool (post _)
       ·exact IsiPair.int_list (post _)
       ·exact IsiPair.int_tuple (post _)
 | str y t=>
       rcases hT with e | e | e | e <;> subst e
       ·exact IsiPair.str_int (post _)
       ·exact IsiPair.str_bool (post _)
       ·exact IsiPair.str_list (post _)
       ·exact IsiPair.str_tuple (post _)
 | tup hm hl hs=>
  have hg:=r.tupAt hm
  rcases hT with e | e | e | e <;> subst e
  ·exact IsiPair.tuple_int hg rfl (post _)
  ·exact IsiPair.tuple_bool hg rfl (post _)
  ·exact IsiPair.tuple_list hg rfl (post _)
  ·exact IsiPair.tuple_tuple hg rfl (post s.toks)
 | @ref i a ea=>
  obtain⟨hl,xs,k,hg,hv⟩:=r.at (List.getElem?_eq_getElem (hin i rfl)) ea
  rcases hT with e | e | e | e <;> subst e
  ·exact IsiPair.list_int hg rfl (post _)
  ·exact IsiPair.list_bool hg rfl (post _)
  ·exact IsiPair.list_list hg rfl (post s.toks)
  ·exact IsiPair.list_tuple hg rfl (post _)
end
theorem Rep.refIn{Γ:Cx}{W:Wd}{ρ:Lc}{H:Hp}{fr:List (Addr×Obj)}{h:Heap}{i:Nat}{x:Value}(r:Rep Γ W ρ H fr h)(hx:VR W (.ref i) x): i<H.length:=by
 obtain⟨m,c,led,r⟩:=r
 cases hx with
 | ref e=>rw[←r.R.len];exact(Zz6.mp e).1
section
variable {prog:Program} {w:World} {Γ:Cx}
theorem Zdz{np tp pos:Pos}{x y:Str}{T:String}{e:Expr}{f:Ex}(hn:Nm prog w Γ x (.builtin "isinstance"))(hy:Nm prog w Γ y (.type T))(hT:T="int"∨T="bool"∨T="list"∨T="tuple")(h:J prog w Γ e f)
  (he:starEach [e,.Name y tp] Γ.env=(false,eval e Γ.env)::starEach [.Name y tp] Γ.env:=by rfl) (hp:∀pos,(backTo pos (starEach [.Name y tp] Γ.env)).any (·.1)=false:=by intro _;rfl):J prog w Γ (.Call (.Name x np) [e,.Name y tp] [] pos) (eIs T f):=by
 intro W ρ H fr s Q E v H' r hf post
 obtain⟨p,e1,e2⟩:=Zz1.mp hf
 cases e2
 refine wpAny_Call_ofName (hn.use r ?_)
 refine callWith_builtin1 (wpAny_items_cons (h W ρ H fr s _ E _ _ r e1 fun W1 k1 t1 z l1 r1 z1=>?_) he) he (hp pos)
 refine wpAny_items_cons (hy.use (s:={ s with heap:=k1,toks:=t1 }) r1 ?_)
 refine wpAny_items_nil ?_
 exact PM.isinst hT r1 z1 (fun i e=>by rw[e]at z1;exact r1.refIn z1) fun tk=>post W1 k1 tk _ l1 r1 (.bool _)
end
noncomputable def ZaH: List V→Hp→Option (V×Hp)
 | [.ref a],H=>H[a]?.map fun vs=>(.int vs.length,H)
 | [.tup vs],H=>some (.int vs.length,H)
 | _,_=>none
noncomputable def ZcR: List V→Hp→Option (V×Hp)
 | [.int a],H=>some (.int (if a<0 then -a else a),H)
 | _,_=>none
noncomputable def Zin: List V→Hp→Option (V×Hp)
 | [.int a,.int b],H=>some (.int (if b>a then b else a),H)
 | _,_=>none
noncomputable def Zdk: List V→Option (List Int)
 | []=>some []
 | .int k::vs=>(Zdk vs).map fun ks=>k::ks
 | _::_=>none
noncomputable def ZgF: List V→Hp→Option (V×Hp)
 | [.ref a],H=>H[a]?.bind fun vs=>(Zdk vs).map fun ks=>(.int ks.sum,H)
 | _,_=>none
theorem VRs.one{W:Wd}{v:V}{xs:List Value}(h:VRs W [v] xs): ∃x,xs=[x]∧VR W v x:=by
 cases h with
 | cons a b=>cases b;exact⟨_,rfl,a⟩
theorem VRs.two{W:Wd}{v u:V}{xs:List Value}(h:VRs W [v,u] xs): ∃x y,xs=[x,y]∧VR W v x∧VR W u y:=by
 cases h with
 | cons a b=>obtain⟨y,e,r⟩:=b.one;subst e;exact⟨_,_,rfl,a,r⟩
theorem Zq2{W:Wd}: ∀{vs:List V} {xs:List Value} {ks:List Int},VRs W vs xs→Zdk vs=some ks→∃ts:Array (Int×Tok),xs.toArray=intItems ts∧preSum (numAt ts) ts.size=ks.sum:=by
 have key:∀{vs:List V} {xs:List Value} {ks:List Int},VRs W vs xs→Zdk vs=some ks→∃ts:List (Int×Tok),xs=ts.map (fun p=>Value.int p.1 p.2)∧ts.map (·.1)=ks:=by
  intro vs
  induction vs with
  | nil=>intro xs ks h e;cases h;cases e;exact⟨[],rfl,rfl⟩
  | cons v vs ih=>
   intro xs ks h e
   cases h with
   | cons a b=>
    cases v with
    | int i=>
     obtain⟨js,e1,e2⟩:=Zz1.mp e
     subst e2
     cases a with
     | int _ t=>
      obtain⟨ts,h1,h2⟩:=ih b e1
      exact⟨(i,t)::ts,by rw[h1];rfl,by rw[List.map_cons,h2]⟩
    | none=>cases e
    | bool _=>cases e
    | str _=>cases e
    | tup _=>cases e
    | ref _=>cases e
 intro vs xs ks h e
 obtain⟨ts,h1,h2⟩:=key h e
 refine⟨ts.toArray,by rw[h1];simp[intItems],?_⟩
 rw[preSum_eq,List.take_of_length_le (by simp),←h2]
noncomputable def Zaf: V→V→Hp→Option (V×Hp)
 | .int a,.int b,H=>some (.int (a+b),H)
 | .ref a,.ref b,H=>H[a]?.bind fun vs=>H[b]?.bind fun us=>if(vs++us).length≤LEN then some (.ref H.length,H++[vs++us])else none
 | .tup vs,.tup us,H=>if(vs++us).length≤LEN then some (.tup (vs++us),H)else none
 | _,_,_=>none
noncomputable def ZeG(vs:List V): Nat→List V
 | 0=>[]
 | n+1=>ZeG vs n++vs
noncomputable def ZaP: V→V→Hp→Option (V×Hp)
 | .int a,.int b,H=>if mulOk a b=true then some (.int (a*b),H)else none
 | .ref a,.int k,H=>H[a]?.bind fun vs=>if vs.length*k.toNat≤LEN∧-(2 ^ 63:Int)≤k∧k<2 ^ 63 then some (.ref H.length,H++[ZeG vs k.toNat])else none
 | _,_,_=>none
section
variable {prog:Program} {w:World}
theorem Za1: OpN prog w (fun xs=>call (.builtin "len") xs) ZaH:=by
 intro Γ W ρ H fr s Q E as xs v H' r hx ho post
 unfold ZaH at ho
 split at ho
 ·rename_i a
  obtain⟨vs,e1,e2⟩:=Zz1.mp ho
  cases e2
  obtain⟨x,ex,rx⟩:=hx.one
  subst ex
  cases rx with
  | ref ea=>
   obtain⟨hl,ys,k,hg,hv⟩:=r.at e1 ea
   have isl:s.heap.IsList _ ys.toArray:=⟨_,hg,rfl,k,rfl⟩
   have e3:(ys.toArray.size:Int)=vs.length:=by simp[hv.length]
   rw[Zbh]at hl
   refine Calls.call_len_list isl (by rw[e3];omega) ?_
   rw[e3]
   exact post W s.heap _ _ (.refl W) r (.int _ _)
 ·rename_i vs
  cases ho
  obtain⟨x,ex,rx⟩:=hx.one
  subst ex
  cases rx with
  | @tup _ a ys k hm hl hs=>
   have it:IsTup s.heap a ys.toArray:=⟨_,r.tupAt hm,rfl,k,rfl⟩
   have e3:(ys.toArray.size:Int)=vs.length:=by simp[hs.length]
   rw[Zbh]at hl
   refine len_tuple it (by rw[e3];omega) ?_
   rw[e3]
   exact post W s.heap _ _ (.refl W) r (.int _ _)
 ·cases ho
theorem ZdE: OpN prog w (fun xs=>call (.builtin "abs") xs) ZcR:=by
 intro Γ W ρ H fr s Q E as xs v H' r hx ho post
 unfold ZcR at ho
 split at ho
 ·cases ho
  obtain⟨x,ex,rx⟩:=hx.one
  subst ex
  cases rx with
  | int i t=>exact call_abs_int fun u tk=>post W s.heap tk _ (.refl W) r (.int _ _)
 ·cases ho
theorem ZtI: OpN prog w (fun xs=>call (.builtin "max") xs) Zin:=by
 intro Γ W ρ H fr s Q E as xs v H' r hx ho post
 unfold Zin at ho
 split at ho
 ·cases ho
  obtain⟨x,y,ex,rx,ry⟩:=hx.two
  subst ex
  cases rx with
  | int i t=>
   cases ry with
   | int j u=>
    refine max_two_ints Γ.hh fun h' tk up=>?_
    split
    ·rename_i c
     rw[if_pos c]at post
     exact post W h' tk _ (.refl W) (r.grown up) (.int _ _)
    ·rename_i c
     rw[if_neg c]at post
     exact post W h' tk _ (.refl W) (r.grown up) (.int _ _)
 ·cases ho
theorem ZuY: OpN prog w (fun xs=>call (.builtin "sum") xs) ZgF:=by
 intro Γ W ρ H fr s Q E as xs v H' r hx ho post
 unfold ZgF at ho
 split at ho
 ·obtain⟨vs,e1,e2⟩:=Zz0.mp ho
  obtain⟨ks,e3,e4⟩:=Zz1.mp e2
  cases e4
  obtain⟨x,ex,rx⟩:=hx.one
  subst ex
  cases rx with
  | ref ea=>
   obtain⟨hl,ys,k,hg,hv⟩:=r.at e1 ea
   obtain⟨ts,h1,h2⟩:=Zq2 hv e3
   have isl:s.heap.IsList _ (intItems ts):=⟨_,hg,rfl,k,by rw[←h1]⟩
   refine sum_intListG Γ.hh isl fun h' tk t' up=>?_
   rw[h2]
   exact post W h' tk _ (.refl W) (r.grown up) (.int _ _)
 ·cases ho
theorem Zai: Op2 prog w (binaryOp .Add) Zaf:=by
 intro Γ W ρ H fr s Q E a b x y v H' r hx hy ho post
 unfold Zaf at ho
 split at ho
 ·cases ho
  cases hx;cases hy
  exact PySem.P.add_int (post W s.heap _ _ (.refl W) r (.int _ _))
 ·obtain⟨vs,e1,ho⟩:=Zz0.mp ho
  obtain⟨us,e2,ho⟩:=Zz0.mp ho
  by_cases hl:(vs++us).length≤LEN
  ·rw[if_pos hl]at ho
   cases ho
   cases hx with
   | ref ea=>
   cases hy with
   | ref eb=>
   obtain⟨l1,ys,k,hg,hv⟩:=r.at e1 ea
   obtain⟨l2,zs,k2,hg2,hv2⟩:=r.at e2 eb
   obtain⟨m,c,led,r'⟩:=r
   have i1:s.heap.IsList _ ys.toArray:=⟨_,hg,rfl,k,rfl⟩
   have i2:s.heap.IsList _ zs.toArray:=⟨_,hg2,rfl,k2,rfl⟩
   refine add_lists (hsz:=ZcX (by rw[hv.length,hv2.length,←List.length_append];exact hl)) r'.F r'.N i1 i2 fun h' F' N'=>?_
   obtain⟨W2,le2,r2,v2⟩:=r'.newList F' N' r'.off (hv.append hv2) hl
   exact post W2 h' s.toks _ le2 r2 v2
  ·rw[if_neg hl]at ho
   cases ho
 ·rename_i vs us
  by_cases hl:(vs++us).length≤LEN
  ·rw[if_pos hl]at ho
   cases ho
   cases hx with
   | @tup _ a ys k hm h1 hv=>
   cases hy with
   | @tup _ b zs k2 hm2 h2 hv2=>
   have t1:IsTup s.heap a ys.toArray:=⟨_,r.tupAt hm,rfl,k,rfl⟩
   have t2:IsTup s.heap b zs.toArray:=⟨_,r.tupAt hm2,rfl,k2,rfl⟩
   have r0:=r
   obtain⟨m,c,led,r'⟩:=r
   refine add_tuples (hsz:=ZcX (by rw[hv.length,hv2.length,←List.length_append];exact hl)) r'.F r'.N t1 t2 (fun e=>?_) (fun _ e=>?_) fun _ _ h' F' N'=>?_
   ·have:vs=[]:=List.length_eq_zero_iff.mp (by rw[←hv.length,e];rfl)
    subst this
    exact post W s.heap s.toks _ (.refl W) r0 (.tup hm2 h2 hv2)
   ·have:us=[]:=List.length_eq_zero_iff.mp (by rw[←hv2.length,e];rfl)
    subst this
    rw[List.append_nil]at post
    exact post W s.heap s.toks _ (.refl W) r0 (.tup hm h1 hv)
   ·obtain⟨W2,le2,r2,v2⟩:=r'.newTup F' N' r'.off (hv.append hv2) hl
    exact post W2 h' s.toks _ le2 r2 v2
  ·rw[if_neg hl]at ho
   cases ho
 ·cases ho
theorem ZoJ(vs:List V): ∀n,(ZeG vs n).length=vs.length*n
 | 0=>rfl
 | n+1=>by rw[ZeG,List.length_append,ZoJ vs n,Nat.mul_succ]
theorem Zsh(xs:List Value)(n:Nat): ∀acc:Array Value,(List.foldl (fun x1 x2=>x1++x2) acc (List.replicate n xs.toArray))=acc++(List.replicate n xs).flatten.toArray:=by
 induction n with
 | zero=>intro acc;simp
 | succ n ih=>
  intro acc
  rw[List.replicate_succ,List.foldl_cons,ih,List.replicate_succ,List.flatten_cons]
  simp[Array.append_assoc]
theorem Zpb{W:Wd}{vs:List V}{xs:List Value}(h:VRs W vs xs): ∀n,VRs W (ZeG vs n) (List.replicate n xs).flatten
 | 0=>.nil
 | n+1=>by
  rw[ZeG,List.replicate_succ',List.flatten_append]
  simp only[List.flatten_cons,List.flatten_nil,List.append_nil]
  exact(Zpb h n).append h
theorem Za2: Op2 prog w (binaryOp .Mult) ZaP:=by
 intro Γ W ρ H fr s Q E a b x y v H' r hx hy ho post
 unfold ZaP at ho
 split at ho
 ·rename_i i j
  by_cases hm:mulOk i j=true
  ·rw[if_pos hm]at ho
   cases ho
   cases hx;cases hy
   exact PySem.P.mul_int (post W s.heap _ _ (.refl W) r (.int _ _)) (ZsV hm)
  ·rw[if_neg hm]at ho
   cases ho
 ·rename_i i k
  obtain⟨vs,e1,ho⟩:=Zz0.mp ho
  by_cases hc:vs.length*k.toNat≤LEN∧-(2 ^ 63:Int)≤k∧k<2 ^ 63
  ·rw[if_pos hc]at ho
   cases ho
   cases hx with
   | ref ea=>
   cases hy with
   | int _ u=>
   obtain⟨l1,ys,kk,hg,hv⟩:=r.at e1 ea
   obtain⟨m,c,led,r'⟩:=r
   have hl:=hc.1
   rw[Zbh]at hl
   refine mul_list r'.F r'.N hg hc.2.1 hc.2.2 (by rw[List.size_toArray,hv.length];omega) fun h' F' N'=>?_
   have e2:(List.foldl (fun x1 x2=>x1++x2) #[] (List.replicate (if ys.toArray.isEmpty=true then 0 else k.toNat) ys.toArray))=(List.replicate k.toNat ys).flatten.toArray:=by
    cases ys with
    | nil=>
     simp
    | cons y0 ys0=>
     have:((y0::ys0).toArray.isEmpty=true)=False:=by simp
     simp only[this,if_false]
     rw[Zsh]
     simp
   rw[e2]at N'
   obtain⟨W2,le2,r2,v2⟩:=r'.newList F' N' r'.off (Zpb hv k.toNat) (by rw[ZoJ];exact hc.1)
   exact post W2 h' s.toks _ le2 r2 v2
  ·rw[if_neg hc]at ho
   cases ho
 ·cases ho
end
end PM
end
section
namespace PM
open PySem PyProof.Rows PyProof
noncomputable def upd(ρ:Lc)(i:Nat)(v:V): Lc:=fun j=>if j=i then some v else ρ j
noncomputable abbrev Sm:=Lc→Hp→Option (Option V×Lc×Hp)
noncomputable def ZY: Sm:=fun ρ H=>some (none,ρ,H)
noncomputable def Zt(a b:Sm): Sm:=fun ρ H=>(a ρ H).bind fun p=>match p.1 with
 | some _=>some p
 | none=>b p.2.1 p.2.2
noncomputable def ZD(f:Ex): Sm:=fun ρ H=>(f ρ H).map fun p=>(some p.1,ρ,p.2)
noncomputable def ZK(i:Nat)(f:Ex): Sm:=fun ρ H=>(f ρ H).map fun p=>(none,upd ρ i p.1,p.2)
noncomputable def ZT(t:Ts)(a b:Sm): Sm:=fun ρ H=>(t ρ H).bind fun p=>if p.1 then a ρ p.2 else b ρ p.2
noncomputable def Zck(f:Ex): Sm:=fun ρ H=>(f ρ H).map fun p=>(none,ρ,p.2)
noncomputable def ZmX: V→V→V→Hp→Option Hp
 | .ref a,.int k,v,H=>H[a]?.bind fun vs=>if a≠0∧0≤k∧k<vs.length then some (H.set a (vs.set k.toNat v))else none
 | _,_,_,_=>none
noncomputable def ZbB(f o i:Ex): Sm:=fun ρ H=>(f ρ H).bind fun p=>(o ρ p.2).bind fun q=>(i ρ q.2).bind fun u=>(ZmX q.1 u.1 p.1 u.2).map fun K=>(none,ρ,K)
noncomputable def ZcN(t:Ts)(b:Sm): Nat→Sm
 | 0=>fun _ _=>none
 | n+1=>fun ρ H=>(t ρ H).bind fun p=>if p.1 then(b ρ p.2).bind fun q=>(match q.1 with
   | some _=>some q
   | none=>ZcN t b n q.2.1 q.2.2)else some (none,ρ,p.2)
noncomputable def PostS(Γ:Cx)(W:Wd)(fr:List (Addr×Obj))(s:Shared)(Q:Flow→Shared→Prop): Option V×Lc×Hp→Prop
 | (none,ρ',H')=>∀(W':Wd) (h':Heap) (tk':Nat),W.Le W'→Rep Γ W' ρ' H' fr h'→Q .next { s with heap:=h',toks:=tk' }
 | (some v,ρ',H')=>∀(W':Wd) (h':Heap) (tk':Nat) (x:Value),W.Le W'→Rep Γ W' ρ' H' fr h'→VR W' v x→Q (.ret x) { s with heap:=h',toks:=tk' }
theorem PostS.le{Γ:Cx}{W W':Wd}{fr:List (Addr×Obj)}{s:Shared}{h:Heap}{tk:Nat}{Q:Flow→Shared→Prop}{r:Option V×Lc×Hp}(l:W.Le W')(p:PostS Γ W fr s Q r): PostS Γ W' fr { s with heap:=h,toks:=tk } Q r:=by
 obtain⟨o,ρ',H'⟩:=r
 cases o with
 | none=>exact fun W2 h2 t2 l2 r2=>p W2 h2 t2 (l.trans l2) r2
 | some v=>exact fun W2 h2 t2 x l2 r2 x2=>p W2 h2 t2 x (l.trans l2) r2 x2
section
variable (prog:Program) (w:World)
def S1(Γ:Cx)(st:Stmt)(g:Sm): Prop:=∀(W:Wd) (ρ:Lc) (H:Hp) (fr:List (Addr×Obj)) (s:Shared) (Q:Flow→Shared→Prop) (E:Value→Shared→Prop) (r:Option V×Lc×Hp),
 Rep Γ W ρ H fr s.heap→g ρ H=some r→PostS Γ W fr s Q r→wpAny (model prog w) Γ.A (exec st Γ.env) Q E s
def Ss(Γ:Cx)(ss:List Stmt)(g:Sm): Prop:=∀(W:Wd) (ρ:Lc) (H:Hp) (fr:List (Addr×Obj)) (s:Shared) (Q:Flow→Shared→Prop) (E:Value→Shared→Prop) (r:Option V×Lc×Hp),
 Rep Γ W ρ H fr s.heap→g ρ H=some r→PostS Γ W fr s Q r→wpAny (model prog w) Γ.A (execs ss Γ.env) Q E s
def Sto(Γ:Cx)(x:Str)(i:Nat): Prop:=∀(W:Wd) (ρ:Lc) (H:Hp) (fr:List (Addr×Obj)) (s:Shared) (Q:Unit→Shared→Prop) (E:Value→Shared→Prop) (v:V) (y:Value),
 Rep Γ W ρ H fr s.heap→VR W v y→(∀(h':Heap) (tk':Nat),Rep Γ W (upd ρ i v) H fr h'→Q () { s with heap:=h',toks:=tk' })→wpAny (model prog w) Γ.A (storeName Γ.env x y) Q E s
def Rd(Γ:Cx)(x:Str)(i:Nat): Prop:=∀(W:Wd) (ρ:Lc) (H:Hp) (fr:List (Addr×Obj)) (s:Shared) (Q E:Value→Shared→Prop) (v:V) (pos:Pos),
 Rep Γ W ρ H fr s.heap→ρ i=some v→(∀y,VR W v y→Q y s)→wpAny (model prog w) Γ.A (eval (.Name x pos) Γ.env) Q E s
end
section
variable {prog:Program} {w:World} {Γ:Cx}
theorem Zio{x:Str}{i:Nat}{pos:Pos}(h:Rd prog w Γ x i): J prog w Γ (.Name x pos) (Zb i):=by
 intro W ρ H fr s Q E v H' r hf post
 obtain⟨u,e1,e2⟩:=Zz1.mp hf
 cases e2
 exact h W ρ H fr s Q E v pos r e1 fun y hy=>post W s.heap s.toks y (.refl W) r hy
theorem Z4: Ss prog w Γ [] ZY:=fun W ρ H fr s Q E r rp hf post=>by
 cases hf
 exact wpAny_execs_nil (post W s.heap s.toks (.refl W) rp)
theorem Zv{st:Stmt}{ss:List Stmt}{a b:Sm}(h1:S1 prog w Γ st a)(h2:Ss prog w Γ ss b): Ss prog w Γ (st::ss) (Zt a b):=by
 intro W ρ H fr s Q E r rp hf post
 obtain⟨p,e1,hf⟩:=Zz0.mp hf
 refine wpAny_execs_cons (h1 W ρ H fr s _ E p rp e1 ?_)
 obtain⟨o,ρ1,H1⟩:=p
 cases o with
 | some v=>
  cases hf
  exact fun W1 k1 t1 x l1 r1 x1=>post W1 k1 t1 x l1 r1 x1
 | none=>exact fun W1 k1 t1 l1 r1=>h2 W1 ρ1 H1 fr _ Q E r r1 hf (post.le l1)
theorem Zy{st:Stmt}{a:Sm}(h1:S1 prog w Γ st a): Ss prog w Γ [st] a:=by
 intro W ρ H fr s Q E r rp hf post
 refine wpAny_execs_cons (h1 W ρ H fr s _ E r rp hf ?_)
 obtain⟨o,ρ1,H1⟩:=r
 cases o with
 | some v=>exact fun W1 k1 t1 x l1 r1 x1=>post W1 k1 t1 x l1 r1 x1
 | none=>exact fun W1 k1 t1 l1 r1=>wpAny_execs_nil (post W1 k1 t1 l1 r1)
theorem ZH{e:Expr}{pos:Pos}{f:Ex}(h:J prog w Γ e f): S1 prog w Γ (.Return (some e) pos) (ZD f):=by
 intro W ρ H fr s Q E r rp hf post
 obtain⟨p,e1,e2⟩:=Zz1.mp hf
 cases e2
 exact wpAny_Return_some (h W ρ H fr s _ E _ _ rp e1 post)
theorem Z1{t:Expr}{a b:List Stmt}{pos:Pos}{u:Ts}{f g:Sm}(ht:JT prog w Γ t u)(h1:Ss prog w Γ a f)(h2:Ss prog w Γ b g): S1 prog w Γ (.If t a b pos) (ZT u f g):=by
 intro W ρ H fr s Q E r rp hf post
 obtain⟨p,e1,hf⟩:=Zz0.mp hf
 refine wpAny_If (ht W ρ H fr s _ E _ _ rp e1 fun W1 k1 t1 l1 r1=>?_)
 obtain⟨c,H1⟩:=p
 cases c with
 | true=>exact h1 W1 ρ H1 fr _ Q E r r1 hf (post.le l1)
 | false=>exact h2 W1 ρ H1 fr _ Q E r r1 hf (post.le l1)
theorem ZdF{e:Expr}{pos:Pos}{f:Ex}(h:J prog w Γ e f)(hi:interactive Γ.env=false:=by rfl)(hs:swapsWith e none pos.line Γ.env=pure false:=by rfl): S1 prog w Γ (.Expr e pos) (Zck f):=by
 intro W ρ H fr s Q E r rp hf post
 obtain⟨p,e1,e2⟩:=Zz1.mp hf
 cases e2
 exact wpAny_Expr_any (h W ρ H fr s _ E _ _ rp e1 fun W1 k1 t1 x l1 r1 x1=>post W1 k1 t1 l1 r1) hi hs
theorem ZO{x:Str}{i:Nat}{e:Expr}{pos' pos:Pos}{f:Ex}(hx:Sto prog w Γ x i)(h:J prog w Γ e f)(hs:swapsWith e (some (.Name x pos')) pos.line Γ.env=pure false:=by rfl): S1 prog w Γ (.Assign [.Name x pos'] e pos) (ZK i f):=by
 intro W ρ H fr s Q E r rp hf post
 obtain⟨p,e1,e2⟩:=Zz1.mp hf
 cases e2
 refine wpAny_Assign_Name (h W ρ H fr s _ E _ _ rp e1 fun W1 k1 t1 y l1 r1 y1=>?_) hs
 exact hx W1 ρ _ fr _ _ E _ y r1 y1 fun h' tk' r2=>post W1 h' tk' l1 r2
theorem Zf9{t:Expr}{a:List Stmt}{pos:Pos}{u:Ts}{f:Sm}(n:Nat)(ht:JT prog w Γ t u)(h1:Ss prog w Γ a f): S1 prog w Γ (.While t a [] pos) (ZcN u f n):=by
 intro W ρ H fr s Q E r rp hf post
 refine wpAny_While ?_
 refine codeAny_whileLoop (fun k s'=>∃W' ρ' H' h' tk',s' = { s with heap:=h',toks:=tk' }∧W.Le W'∧Rep Γ W' ρ' H' fr h'∧ZcN u f k ρ' H'=some r) ?_ n ⟨W,ρ,H,s.heap,s.toks,rfl,.refl W,rp,hf⟩
 rintro k s' ⟨W1,ρ1,H1,k1,t1,rfl,l1,r1,e⟩
 cases k with
 | zero=>cases e
 | succ k=>
  obtain⟨p,e1,e⟩:=Zz0.mp e
  refine ht W1 ρ1 H1 fr _ _ _ _ _ r1 e1 fun W2 k2 t2 l2 r2=>?_
  obtain⟨c,H2⟩:=p
  cases c with
  | false=>
   cases e
   exact wpAny_execs_nil (post W2 k2 t2 (l1.trans l2) r2)
  | true=>
   obtain⟨q,e2,e⟩:=Zz0.mp e
   refine h1 W2 ρ1 H2 fr _ _ _ q r2 e2 ?_
   obtain⟨o,ρ3,H3⟩:=q
   cases o with
   | some v=>
    cases e
    exact fun W3 k3 t3 x l3 r3 x3=>post W3 k3 t3 x ((l1.trans l2).trans l3) r3 x3
   | none=>exact fun W3 k3 t3 l3 r3=>⟨k,Nat.lt_succ_self k,W3,ρ3,H3,k3,t3,rfl,(l1.trans l2).trans l3,r3,e⟩
end
noncomputable def Zgg: List V→Hp→Option (V×Hp)
 | [.ref a,v],H=>H[a]?.bind fun vs=>if a≠0∧vs.length<LEN then some (.none,H.set a (vs++[v]))else none
 | _,_=>none
section
variable {prog:Program} {w:World} {Γ:Cx}
theorem Zsi: OpN prog w (fun xs=>call (.builtin "list.append") xs) Zgg:=by
 intro Γ W ρ H fr s Q E as xs v H' r hx ho post
 unfold Zgg at ho
 split at ho
 ·obtain⟨vs,e1,e2⟩:=Zz0.mp ho
  obtain⟨x,y,ex,rx,ry⟩:=hx.two
  subst ex
  split at e2
  ·rename_i hl
   cases e2
   cases rx with
   | @ref _ a0 ea=>
    obtain⟨_,ys,k,hg,hv⟩:=r.at e1 ea
    refine append_at (hsz:=ZcX (by rw[List.size_toArray,hv.length];omega)) hg fun h' sb hg'=>?_
    have hg2:h'.get? a0=some (ZbM (ys++[y]) (k+1)):=by rw[hg'];simp
    exact post W h' s.toks _ (.refl W) (r.change hl.1 e1 ea sb hg2 (hv.snoc ry) (by simp;omega)) .none
  ·cases e2
 ·cases ho
end
end PM
end
section
namespace PM
open PySem PySem.W PyProof.Rows PyProof
theorem Zpc: ∀{l:List Value} {k:Nat} {v:Value},k<l.length→ki_setL l k v=some (l.set k v)
 | [],_,_,h=>by simp at h
 | x::r,0,v,_=>by simp[ki_setL]
 | x::r,k+1,v,h=>by
  have:=Zpc (l:=r) (k:=k) (v:=v) (by simpa using h)
  simp[ki_setL,this]
theorem Zsj{a k v:V}{H K:Hp}(h:ZmX a k v H=some K): ∃i j vs,a=.ref i∧k=.int j∧H[i]?=some vs∧(i≠0∧0≤j∧j<vs.length)∧K=H.set i (vs.set j.toNat v):=by
 cases a <;> first | (cases h;done) | skip
 cases k <;> first | (cases h;done) | skip
 obtain⟨vs,e1,e2⟩:=Zz0.mp h
 split at e2
 ·rename_i c
  cases e2
  exact⟨_,_,vs,rfl,rfl,e1,c,rfl⟩
 ·cases e2
theorem Zq3{a v x:V}{H K:Hp}(h:Zgg [a,v] H=some (x,K)): ∃i,a=.ref i:=by
 cases a <;> first | (cases h;done) | skip
 exact⟨_,rfl⟩
noncomputable def Zep(o f:Ex): Ex:=fun ρ H=>(o ρ H).bind fun p=>(f ρ p.2).bind fun q=>Zgg [p.1,q.1] q.2
section
variable {prog:Program} {w:World} {Γ:Cx}
theorem S1.put{o i value:Expr}{pos' pos:Pos}{f g k:Ex}(hf:J prog w Γ value f)(ho:J prog w Γ o g)(hi:J prog w Γ i k)(hs:swapsWith value (some (.Subscript o i pos')) pos.line Γ.env=pure false:=by rfl): S1 prog w Γ (.Assign [.Subscript o i pos'] value pos) (ZbB f g k):=by
 intro W ρ H fr s Q E r rp hx post
 obtain⟨p,e1,hx⟩:=Zz0.mp hx
 obtain⟨q,e2,hx⟩:=Zz0.mp hx
 obtain⟨u,e3,hx⟩:=Zz0.mp hx
 obtain⟨K,e4,e5⟩:=Zz1.mp hx
 cases e5
 refine wpAny_Assign_Subscript (hf W ρ H fr s _ E _ _ rp e1 fun W1 k1 t1 x l1 r1 x1=>?_) hs
 refine ho W1 ρ _ fr _ _ E _ _ r1 e2 fun W2 k2 t2 y l2 r2 y2=>?_
 refine hi W2 ρ _ fr _ _ E _ _ r2 e3 fun W3 k3 t3 z l3 r3 z3=>?_
 have x3:=x1.mono (l2.trans l3)
 have y3:=y2.mono l3
 obtain⟨b,kk,vs,eb,ek,hvs,hc,e6⟩:=Zsj e4
 subst e6
 rw[eb]at y3
 rw[ek]at z3
 cases y3 with
 | @ref _ a ea=>
 cases z3 with
 | int _ tz=>
 obtain⟨hl,xs,n,hg,hv⟩:=r3.at hvs ea
 obtain⟨m,c,led,r'⟩:=r3
 have hll:=hl
 rw[Zbh]at hll
 have hk:kk.toNat<xs.length:=by rw[hv.length];omega
 obtain⟨_,a',xs',n',h1,h2,h3⟩:=r'.R.lists b vs hvs
 rw[ea]at h1
 cases h1
 have h2:=r'.inLed hc.1 ea h2
 have N2:News Γ.h₀ Γ.L k3 ((a,ZbM xs n)::led.filter (fun q=>decide (q.1≠a))):=by
  intro q hq
  rcases Zz7.mp hq with e | hq
  ·subst e
   exact⟨hg,(r'.N _ h2).2⟩
  ·exact r'.N q (List.mem_filter.mp hq).1
 refine ki_set (its:=xs.toArray) (n:=n) (q:=xs.set kk.toNat x) r'.F N2 hc.2.1 (by omega) (by simpa using Zpc hk) (Upd.head fun q hq=>by simpa using (List.mem_filter.mp hq).2) fun h' F' N'=>?_
 exact post W3 h' t3 ((l1.trans l2).trans l3) (r'.changed hc.1 hvs ea F' N' (hv.set _ x3) (by simpa using hl))
theorem J.append{o e:Expr}{apos pos:Pos}{f g:Ex}(ho:J prog w Γ o f)(he:J prog w Γ e g)(hbase:attributeBase o "append" Γ.env (eval o Γ.env)=eval o Γ.env:=by rfl)
  (hfew:((backTo pos (starEach [e] Γ.env)).all (fun x=>!x.1) && (backToKw pos (keywordEach [] Γ.env)).all (fun x=>x.1.isSome) && decide (([e]:List Expr).length+([]:List Keyword).length+(if([]:List Keyword).isEmpty then 0 else 1)<30))=true:=by rfl)
  (hline:(apos.endLine == pos.line)=true:=by rfl) (htrees:backTo pos (starEach [e] Γ.env)=[(false,eval e Γ.env)]:=by rfl):J prog w Γ (.Call (.Attribute o "append" apos) [e] [] pos) (Zep f g):=by
 intro W ρ H fr s Q E v H' r hx post
 obtain⟨p,e1,hx⟩:=Zz0.mp hx
 obtain⟨q,e2,e3⟩:=Zz0.mp hx
 refine wpAny_Call_append hbase hfew hline htrees (ho W ρ H fr s _ E _ _ r e1 fun W1 k1 t1 x l1 r1 x1=>?_)
 obtain⟨v1,H1⟩:=p
 obtain⟨b,hb⟩:=Zq3 e3
 subst hb
 have hb:=r1.refIn x1
 cases x1 with
 | @ref _ a ea=>
 obtain⟨_,xs,n,hg,hv⟩:=r1.at (List.getElem?_eq_getElem hb) ea
 refine⟨a,xs.toArray,rfl,⟨_,n,hg,rfl,rfl,rfl⟩,?_⟩
 refine he W1 ρ _ fr _ _ E _ _ r1 e2 fun W2 k2 t2 y l2 r2 y2=>?_
 exact Zsi Γ W2 ρ _ fr _ Q E _ [.ref a,y] v H' r2 (.cons (.ref (l2.at ea)) (.cons y2 .nil)) e3 fun W3 k3 t3 z l3 r3 z3=>post W3 k3 t3 z ((l1.trans l2).trans l3) r3 z3
end
end PM
end
section
namespace PM
open PySem PySem.W PyProof.Rows PyProof
noncomputable abbrev Nx:=Nat→Hp→Option (Option V)
noncomputable def ZvY(Γ:Cx)(W:Wd)(ρ:Lc)(H:Hp)(fr:List (Addr×Obj))(s:Shared)(It:Nat→List (Addr×Obj)→Prop)(i:Nat)(Q:Option Value→Shared→Prop): Option V→Prop
 | none=>∀(h':Heap) (tk':Nat),Rep Γ W ρ H fr h'→Q none { s with heap:=h',toks:=tk' }
 | some v=>∀(fs':List (Addr×Obj)) (h':Heap) (tk':Nat) (x:Value),It (i+1) fs'→Rep Γ W ρ H (fs'++fr) h'→VR W v x→Q (some x) { s with heap:=h',toks:=tk' }
structure Itr(prog:Program)(w:World)(Γ:Cx)(W0:Wd)(it:Value)(as:List Addr)(It:Nat→List (Addr×Obj)→Prop)(nx:Nx): Prop where
 adr:∀i fs,It i fs→fs.map (·.1)=as
 next:∀(i:Nat) (W:Wd) (ρ:Lc) (H:Hp) (fr fs:List (Addr×Obj)) (s:Shared) (Q:Option Value→Shared→Prop) (E:Value→Shared→Prop) (o:Option V),W0.Le W→Rep Γ W ρ H (fs++fr) s.heap→(∀a∈as,∀t∈fr,a≠t.1)→It i fs→nx i H=some o →
  ZvY Γ W ρ H fr s It i Q o→wpAny (model prog w) Γ.A (pyNext it) Q E s
 self:∀(i:Nat) (W:Wd) (ρ:Lc) (H:Hp) (fr fs:List (Addr×Obj)) (s:Shared) (Q E:Value→Shared→Prop),W0.Le W→Rep Γ W ρ H (fs++fr) s.heap→It i fs→Q it s→wpAny (model prog w) Γ.A (pyIter it) Q E s
noncomputable abbrev Src:=Lc→Hp→Option (Nx×Nat×Hp)
def JI(prog:Program)(w:World)(Γ:Cx)(e:Expr)(g:Src): Prop:=∀(W:Wd) (ρ:Lc) (H:Hp) (fr:List (Addr×Obj)) (s:Shared) (Q E:Value→Shared→Prop) (nx:Nx) (n:Nat) (H':Hp),
 Rep Γ W ρ H fr s.heap→g ρ H=some (nx,n,H') →
 (∀(W':Wd) (h':Heap) (tk':Nat) (it:Value) (as:List Addr) (It:Nat→List (Addr×Obj)→Prop) (fs:List (Addr×Obj)),W.Le W'→It 0 fs→Rep Γ W' ρ H' (fs++fr) h'→(∀a∈as,∀t∈fr,a≠t.1)→Itr prog w Γ W' it as It nx→Q it { s with heap:=h',toks:=tk' }) →
 wpAny (model prog w) Γ.A (eval e Γ.env) (fun xv s₁=>wpAny (model prog w) Γ.A (pyIter xv) Q E s₁) E s
noncomputable def Zms(a:Nat): Nx:=fun i H=>H[a]?.map fun vs=>vs[i]?
noncomputable def ZpJ(vs:List V): Nx:=fun i _=>some vs[i]?
noncomputable def Zfe(a c:Int)(n:Nat): Nx:=fun i _=>some (if i<n then some (.int (a+i*c))else none)
noncomputable def Zb9(f:Ex): Src:=fun ρ H=>(f ρ H).bind fun p=>match p.1 with
 | .ref a=>p.2[a]?.map fun vs=>(Zms a,vs.length+1,p.2)
 | .tup vs=>some (ZpJ vs,vs.length+1,p.2)
 | _=>none
noncomputable def rngN(a b c:Int): Nat:=(Builtin.Range.rangeSize a b c).toNat
noncomputable def Zco(a b c:Int)(H:Hp): Option (Nx×Nat×Hp):=if c≠0∧Builtin.Range.small a b c=true∧0≤Builtin.Range.rangeSize a b c∧rngN a b c≤LEN∧Builtin.divisionGoesByPylong (b-a) c=false then some (Zfe a c (rngN a b c),rngN a b c+1,H)else none
noncomputable def ZaO(g:Exs): Src:=fun ρ H=>(g ρ H).bind fun p=>match p.1 with
 | [.int b]=>Zco 0 b 1 p.2
 | [.int a,.int b]=>Zco a b 1 p.2
 | [.int a,.int b,.int c]=>Zco a b c p.2
 | _=>none
section
variable {prog:Program} {w:World} {Γ:Cx}
theorem Zmt{W0:Wd}{I:Addr}{nx:Nx}(P:Nat→Obj→Prop)
  (next:∀(i:Nat) (W:Wd) (ρ:Lc) (H:Hp) (fr:List (Addr×Obj)) (ob:Obj) (s:Shared) (Q:Option Value→Shared→Prop) (E:Value→Shared→Prop) (o:Option V),W0.Le W→Rep Γ W ρ H ((I,ob)::fr) s.heap→P i ob→nx i H=some o →
   (match o with
    | none=>∀(h':Heap) (tk':Nat),(∀b o,b≠I→s.heap.get? b=some o→h'.get? b=some o)→Q none { s with heap:=h',toks:=tk' }
    | some v=>∀(ob':Obj) (h':Heap) (tk':Nat) (x:Value),P (i+1) ob'→h'.get? I=some ob'→(∀b o,b≠I→s.heap.get? b=some o→h'.get? b=some o)→VR W v x→Q (some x) { s with heap:=h',toks:=tk' })→wpAny (model prog w) Γ.A (pyNext (.ref I)) Q E s)
  (self:∀(i:Nat) (W:Wd) (ρ:Lc) (H:Hp) (fr:List (Addr×Obj)) (ob:Obj) (s:Shared) (Q E:Value→Shared→Prop),W0.Le W→Rep Γ W ρ H ((I,ob)::fr) s.heap→P i ob→Q (.ref I) s→wpAny (model prog w) Γ.A (pyIter (.ref I)) Q E s):
  Itr prog w Γ W0 (.ref I) [I] (fun i fs=>∃ob,fs=[(I,ob)]∧P i ob) nx:=by
 refine⟨?_,?_,?_⟩
 ·rintro i fs ⟨ob,e,_⟩
  rw[e]
  rfl
 ·rintro i W ρ H fr fs s Q E o le r ap ⟨ob,e,hp⟩ hn post
  subst e
  refine next i W ρ H fr ob s Q E o le r hp hn ?_
  have ap':∀q∈[(I,ob)],∀t∈fr,q.1≠t.1:=fun q hq t ht=>by rw[List.mem_singleton.mp hq];exact ap I Zz5 t ht
  cases o with
  | none=>
   intro h' tk' keep
   have:=Rep.swap (fs:=[(I,ob)]) (fs':=[]) r ap' (fun b o hb e=>keep b o (fun q=>hb (by simp[q])) e) (fun q hq=>nomatch hq)
   exact post h' tk' this
  | some v=>
   intro ob' h' tk' x hp' hg keep hx
   have:=Rep.swap (fs:=[(I,ob)]) (fs':=[(I,ob')]) r ap' (fun b o hb e=>keep b o (fun q=>hb (by simp[q])) e) (fun q hq=>by rw[List.mem_singleton.mp hq];exact⟨hg,by simp⟩)
   exact post [(I,ob')] h' tk' x ⟨ob',rfl,hp'⟩ this hx
 ·rintro i W ρ H fr fs s Q E le r ⟨ob,e,hp⟩ q
  subst e
  exact self i W ρ H fr ob s Q E le r hp q
theorem JI.seq{e:Expr}{f:Ex}(h:J prog w Γ e f): JI prog w Γ e (Zb9 f):=by
 intro W ρ H fr s Q E nx n H' r hf post
 obtain⟨p,e1,hf⟩:=Zz0.mp hf
 refine h W ρ H fr s _ E _ _ r e1 fun W1 k1 t1 x l1 r1 x1=>?_
 obtain⟨v,H1⟩:=p
 cases x1 with
 | none=>cases hf
 | bool _=>cases hf
 | int _ _=>cases hf
 | str _ _=>cases hf
 | @tup vs a xs k hm hl hs=>
  cases hf
  have it:k1.IsTuple a xs.toArray:=⟨_,r1.tupAt hm,rfl,k,rfl⟩
  refine wpAny_pyIter_tuple it ?_
  obtain⟨r2,ap⟩:=r1.more (fs:=[(k1.objs.size,{ cls:=.type "tuple_iterator",data:=.fields #[.ref a,.int 0 0] })]) (fun b o e=>Heap.get?_push_of_some { cls:=.type "tuple_iterator",data:=.fields #[.ref a,.int 0 0] } e) (fun q hq=>by rw[List.mem_singleton.mp hq];exact⟨Heap.get?_push_size _ rfl,Nat.le_refl _⟩)
  refine post W1 _ t1 _ [k1.objs.size] _ _ l1 ⟨_,rfl,?_⟩ r2 (fun b hb t ht=>by rw[List.mem_singleton.mp hb];exact ap _ Zz5 t ht)
   (Zmt (fun i ob=>ob.cls=.type "tuple_iterator"∧ob.data=.fields #[.ref a,.int i 0]) ?_ ?_)
  ·intro i W ρ H fr ob s Q E o le r hp hn post
   have g1:s.heap.IsTupleIter k1.objs.size a i:=⟨ob,r.frAt Zz5,hp.1,hp.2⟩
   have g2:s.heap.IsTuple a xs.toArray:=⟨_,r.tupAt (le.tups _ hm),rfl,k,rfl⟩
   have ne:a≠k1.objs.size:=Nat.ne_of_lt (Heap.lt_size (r1.tupAt hm))
   have Wk:=Walks.tuple (prog:=prog) (w:=w) Γ.hh k1.objs.size a ne xs.toArray
   cases hn
   cases ev:vs[i]? with
   | none=>
    rw[ev]at post
    have hi:xs.toArray[i]?=none:=by have:=List.getElem?_eq_none_iff.mp ev;rw[←hs.length]at this;simpa using this
    exact wpAny_pyNext_tuple_end Γ.hh g1 g2 hi fun h' he'=>post h' s.toks fun b o hb e=>he' b o hb e
   | some v=>
    rw[ev]at post
    obtain⟨y,hy,ry⟩:=hs.at ev
    refine wpAny_pyNext_tuple_item g1 g2 (x:=y) (by simpa using hy) fun h' hit' hs'=>?_
    obtain⟨ob',h1,h2,h3⟩:=hit'
    exact post ob' h' s.toks y ⟨h2,h3⟩ h1 (fun b o hb e=>hs'.extBut b o hb e) (ry.mono le)
  ·intro i W ρ H fr ob s Q E le r hp q
   exact wpAny_pyIter_tupleiter (⟨ob,r.frAt Zz5,hp.1,hp.2⟩:s.heap.IsTupleIter k1.objs.size a i) q
  ·exact⟨rfl,rfl⟩
 | @ref i0 a ea=>
  obtain⟨vs,e2,e3⟩:=Zz1.mp hf
  cases e3
  obtain⟨hl,xs,k,hg,hv⟩:=r1.at e2 ea
  have isl:k1.IsList a xs.toArray:=⟨_,hg,rfl,k,rfl⟩
  refine wpAny_pyIter_list isl ?_
  obtain⟨r2,ap⟩:=r1.more (fs:=[(k1.objs.size,{ cls:=.type "list_iterator",data:=.fields #[.ref a,.int 0 0] })]) (fun b o e=>Heap.get?_push_of_some { cls:=.type "list_iterator",data:=.fields #[.ref a,.int 0 0] } e) (fun q hq=>by rw[List.mem_singleton.mp hq];exact⟨Heap.get?_push_size _ rfl,Nat.le_refl _⟩)
  refine post W1 _ t1 _ [k1.objs.size] _ _ l1 ⟨_,rfl,?_⟩ r2 (fun b hb t ht=>by rw[List.mem_singleton.mp hb];exact ap _ Zz5 t ht)
   (Zmt (fun i ob=>ob.cls=.type "list_iterator"∧ob.data=.fields #[.ref a,.int i 0]) ?_ ?_)
  ·intro i W ρ H fr ob s Q E o le r hp hn post
   obtain⟨us,eu,e4⟩:=Zz1.mp hn
   subst e4
   obtain⟨hl2,ys,k2,hg2,hv2⟩:=r.at eu (le.at ea)
   have g1:s.heap.IsListIter k1.objs.size a i:=⟨ob,r.frAt Zz5,hp.1,hp.2⟩
   have g2:s.heap.IsList a ys.toArray:=⟨_,hg2,rfl,k2,rfl⟩
   cases ev:us[i]? with
   | none=>
    rw[ev]at post
    have hi:ys.toArray[i]?=none:=by have:=List.getElem?_eq_none_iff.mp ev;rw[←hv2.length]at this;simpa using this
    exact wpAny_pyNext_list_end Γ.hh g1 g2 hi fun h' he'=>post h' s.toks fun b o hb e=>he' b o hb e
   | some v=>
    rw[ev]at post
    obtain⟨y,hy,ry⟩:=hv2.at ev
    refine wpAny_pyNext_list_item g1 g2 (x:=y) (by simpa using hy) fun h' hit' hs'=>?_
    obtain⟨ob',h1,h2,h3⟩:=hit'
    exact post ob' h' s.toks y ⟨h2,h3⟩ h1 (fun b o hb e=>hs'.extBut b o hb e) ry
  ·intro i W ρ H fr ob s Q E le r hp q
   exact wpAny_pyIter_listiter (⟨ob,r.frAt Zz5,hp.1,hp.2⟩:s.heap.IsListIter k1.objs.size a i) q
  ·exact⟨rfl,rfl⟩
theorem Zq4{a b c:Int}{H:Hp}{z:Nx×Nat×Hp}(h:Zco a b c H=some z): c≠0∧Builtin.divisionGoesByPylong (b-a) c=false:=by
 unfold Zco at h
 split at h
 ·rename_i hc
  exact⟨hc.1,hc.2.2.2.2⟩
 ·cases h
theorem ZsY{W0:Wd}{I:Addr}{a c:Int}{n:Nat}: Itr prog w Γ W0 (.ref I) [I] (fun i fs=>∃ob,fs=[(I,ob)]∧(i≤n∧ob = { cls:=.type "range_iterator",dict:=none,data:=.fields #[rawInt (a+(i:Nat)*c),rawInt ((n:Int)-(i:Nat)),rawInt c],slots:=#[] })) (Zfe a c n):=by
 have Wk:=Walks.range (prog:=prog) (w:=w) Γ.hh I a c n
 refine Zmt (fun i ob=>i≤n∧ob = { cls:=.type "range_iterator",dict:=none,data:=.fields #[rawInt (a+(i:Nat)*c),rawInt ((n:Int)-(i:Nat)),rawInt c],slots:=#[] }) ?_ ?_
 ·intro i W ρ H fr ob s Q E o le r hp hn post
  have g:IsRangeIter s.heap I (a+(i:Nat)*c) ((n:Int)-(i:Nat)) c:=(r.frAt Zz5).trans (congrArg some hp.2)
  cases hn
  by_cases hi:i<n
  ·rw[if_pos hi]at post
   refine Wk.item i s Q E hi g fun v h' tk hv st keep=>?_
   obtain⟨t,e⟩:=hv
   subst e
   exact post _ h' tk _ ⟨hi,rfl⟩ st (fun b o hb e=>keep b o (by simpa using hb) e) (.int _ _)
  ·rw[if_neg hi]at post
   have e:i=n:=by have:=hp.1;omega
   subst e
   exact Wk.done s Q E g fun h' tk keep=>post h' tk fun b o hb e=>keep b o (by simpa using hb) e
 ·intro i W ρ H fr ob s Q E le r hp q
  have g:IsRangeIter s.heap I (a+(i:Nat)*c) ((n:Int)-(i:Nat)) c:=(r.frAt Zz5).trans (congrArg some hp.2)
  exact Wk.self i s Q E g q
theorem Zkx{a b c:Int}{t u v:Tok}{W:Wd}{ρ:Lc}{H:Hp}{fr:List (Addr×Obj)}{s:Shared}{k:Heap}{tk:Nat}{Q E:Value→Shared→Prop}{nx:Nx}{n:Nat}{H':Hp}(r:Rep Γ W ρ H fr k)(hm:Zco a b c H=some (nx,n,H'))
  (post:∀(W':Wd) (h':Heap) (tk':Nat) (it:Value) (as:List Addr) (It:Nat→List (Addr×Obj)→Prop) (fs:List (Addr×Obj)),W.Le W'→It 0 fs→Rep Γ W' ρ H' (fs++fr) h'→(∀a∈as,∀t∈fr,a≠t.1)→Itr prog w Γ W' it as It nx→Q it { s with heap:=h',toks:=tk' }):
  wpAny (model prog w) Γ.A (pyIter (.ref k.objs.size)) Q E { s with heap:=k.push { cls:=.type "range",data:=.fields #[.int a t,.int b u,.int c v] },toks:=tk }:=by
 unfold Zco at hm
 split at hm
 ·rename_i hc
  cases hm
  have hr:IsRange (k.push { cls:=.type "range",data:=.fields #[.int a t,.int b u,.int c v] }) k.objs.size a b c t u v:=IsRange.new ..
  refine wpAny_pyIter_range hr hc.2.1 ?_
  have rp:=r.push { cls:=.type "range",data:=.fields #[.int a t,.int b u,.int c v] }
  have en:Builtin.Range.rangeSize a b c=((rngN a b c:Nat):Int):=(Int.toNat_of_nonneg hc.2.2.1).symm
  dsimp only
  generalize hk:k.push { cls:=.type "range",data:=.fields #[.int a t,.int b u,.int c v] } = k2 at rp ⊢
  obtain⟨r2,ap⟩:=rp.more (fs:=[(k2.objs.size,{ cls:=.type "range_iterator",data:=.fields #[rawInt a,rawInt (Builtin.Range.rangeSize a b c),rawInt c] })]) (fun b' o e=>Heap.get?_push_of_some { cls:=.type "range_iterator",data:=.fields #[rawInt a,rawInt (Builtin.Range.rangeSize a b c),rawInt c] } e) (fun q hq=>by rw[List.mem_singleton.mp hq];exact⟨Heap.get?_push_size _ rfl,Nat.le_refl _⟩)
  refine post W _ tk _ [k2.objs.size] _ _ (.refl W) ⟨_,rfl,Nat.zero_le _,?_⟩ r2 (fun b hb t ht=>by rw[List.mem_singleton.mp hb];exact ap _ Zz5 t ht) (ZsY (a:=a) (c:=c) (n:=rngN a b c))
  rw[en]
  simp
 ·cases hm
theorem JI.range{x:Str}{np pos:Pos}{e:Expr}{es:List Expr}{g:Exs}(hn:Nm prog w Γ x (.type "range"))(h:Js prog w Γ (e::es) g)
  (he:starEach (e::es) Γ.env=(false,eval e Γ.env)::starEach es Γ.env:=by rfl) (hp:∀pos,(backTo pos (starEach es Γ.env)).any (·.1)=false:=by intro _;rfl):JI prog w Γ (.Call (.Name x np) (e::es) [] pos) (ZaO g):=by
 intro W ρ H fr s Q E nx n H' r hf post
 obtain⟨p,e1,hf⟩:=Zz0.mp hf
 refine wpAny_Call_ofName (hn.use r ?_)
 refine PySem.Pv.callWith_type1 (h pos W ρ H fr s _ E _ _ r e1 fun W1 k1 t1 xs l1 r1 x1=>?_) he (hp pos)
 obtain⟨vs,H1⟩:=p
 dsimp only at hf x1 r1
 have post1:=fun W' h' tk' it as It fs (l:W1.Le W')=>post W' h' tk' it as It fs (l1.trans l)
 split at hf
 ·obtain⟨y,ex,ry⟩:=x1.one
  subst ex
  cases ry
  exact call_range_1 (Zkx r1 hf post1)
 ·obtain⟨y,z,ex,ry,rz⟩:=x1.two
  subst ex
  cases ry
  cases rz
  exact call_range_2 (Zkx r1 hf post1)
 ·cases x1 with
  | cons ry x1=>
  obtain⟨y,z,ex,rz,ru⟩:=x1.two
  subst ex
  cases ry
  cases rz
  cases ru
  have hc:=Zq4 hf
  exact call_range_3 hc.1 (Zkx r1 hf post1) (.inl hc.2)
 ·cases hf
end
noncomputable def Zc3(nx:Nx)(put:V→Lc→Option Lc)(b:Sm): Nat→Nat→Sm
 | 0,_=>fun _ _=>none
 | n+1,i=>fun ρ H=>(nx i H).bind fun o=>match o with
  | none=>some (none,ρ,H)
  | some v=>(put v ρ).bind fun ρ1=>(b ρ1 H).bind fun q=>match q.1 with
   | some _=>some q
   | none=>Zc3 nx put b n (i+1) q.2.1 q.2.2
noncomputable def ZaL(g:Src)(put:V→Lc→Option Lc)(b:Sm): Sm:=fun ρ H=>(g ρ H).bind fun z=>Zc3 z.1 put b z.2.1 0 ρ z.2.2
noncomputable def put1(i:Nat): V→Lc→Option Lc:=fun v ρ=>some (upd ρ i v)
section
variable {prog:Program} {w:World} {Γ:Cx}
theorem Zbz{x:Str}{i:Nat}{px pos:Pos}{it:Expr}{body:List Stmt}{g:Src}{b:Sm}(hx:Sto prog w Γ x i)(hg:JI prog w Γ it g)(hb:Ss prog w Γ body b)(hs:∀x,foldedSetIterable it Γ.env x=pure x:=by intro _;rfl): S1 prog w Γ (.For (.Name x px) it body [] pos) (ZaL g (put1 i) b):=by
 intro W ρ H fr s Q E r rp hf post
 obtain⟨z,e1,hf⟩:=Zz0.mp hf
 obtain⟨nx,n,H0⟩:=z
 refine wpAny_For (hg W ρ H fr s _ E nx n H0 rp e1 fun W1 k1 t1 itv as It fs l1 i1 r1 ap I1=>?_) hs
 refine codeAny_forLoop (fun k s'=>∃W' ρ' H' h' tk' j fs',s' = { s with heap:=h',toks:=tk' }∧W1.Le W'∧It j fs'∧Rep Γ W' ρ' H' (fs'++fr) h'∧Zc3 nx (put1 i) b k j ρ' H'=some r) ?_ n ⟨W1,ρ,H0,k1,t1,0,fs,rfl,.refl _,i1,r1,hf⟩
 rintro k s' ⟨W2,ρ2,H2,k2,t2,j,fs2,rfl,l2,i2,r2,e⟩
 cases k with
 | zero=>cases e
 | succ k=>
  obtain⟨o,e2,e⟩:=Zz0.mp e
  refine I1.next j W2 ρ2 H2 fr fs2 _ _ _ o l2 r2 ap i2 e2 ?_
  cases o with
  | none=>
   cases e
   intro h' tk' r3
   exact wpAny_execs_nil (post W2 h' tk' (l1.trans l2) r3)
  | some v=>
   intro fs3 k3 t3 y i3 r3 y3
   obtain⟨ρ3,e3,e⟩:=Zz0.mp e
   cases e3
   obtain⟨q,e4,e⟩:=Zz0.mp e
   refine wpAny_assign_Name (hx W2 ρ2 H2 (fs3++fr) _ _ _ v y r3 y3 fun k4 t4 r4=>?_)
   refine hb W2 _ H2 (fs3++fr) _ _ _ q r4 e4 ?_
   obtain⟨u,ρ5,H5⟩:=q
   cases u with
   | some u=>
    cases e
    exact fun W5 k5 t5 x5 l5 r5 v5=>post W5 k5 t5 x5 ((l1.trans l2).trans l5) (r5.less fun q hq=>List.mem_append_right _ hq) v5
   | none=>exact fun W5 k5 t5 l5 r5=>⟨k,Nat.lt_succ_self k,W5,ρ5,H5,k5,t5,j+1,fs3,rfl,l2.trans l5,i3,r5,e⟩
end
end PM
end
section
namespace PM
open PySem PySem.W PySem.Calls PyProof.Rows PyProof
structure OwnF(names:List Str)(cs:Scope)(cl:List (Str×Addr))(W:Wd)(ρ:Lc)(m:Str→Option Value)(cells:List (Addr×Obj)): Prop where
 loc:∀(i:Nat) (x:Str) (v:V),names[i]?=some x→cs.names.lookup x=some .local→ρ i=some v→∃y,m x=some y∧VR W v y
 cel:∀(i:Nat) (x:Str) (v:V),names[i]?=some x→cs.names.lookup x=some .cell→ρ i=some v→∃c o y,cl.lookup x=some c∧(c,o)∈cells∧o.data=.cell (some y)∧VR W v y
 all:∀(x:Str) (c:Addr),cl.lookup x=some c→∃o v₀,(c,o)∈cells∧o.data=.cell v₀
 one:∀(x y:Str) (c:Addr),cl.lookup x=some c→cl.lookup y=some c→x=y
theorem OwnF.mono{names:List Str}{cs:Scope}{cl:List (Str×Addr)}{W W':Wd}{ρ:Lc}{m:Str→Option Value}{cells:List (Addr×Obj)}(l:W.Le W')(h:OwnF names cs cl W ρ m cells): OwnF names cs cl W' ρ m cells:=
 ⟨fun i x v a b c=>by
  obtain⟨y,h1,h2⟩:=h.loc i x v a b c
  exact⟨y,h1,h2.mono l⟩,fun i x v a b c=>by
  obtain⟨d,o,y,h1,h2,h3,h4⟩:=h.cel i x v a b c
  exact⟨d,o,y,h1,h2,h3,h4.mono l⟩,h.all,h.one⟩
noncomputable def ZbE(dp un:Nat)(gd:Option (List Code))(cn:Str)(cs:Scope)(L a:Addr)(ccd:Value)(cl:List (Str×Addr))(outer:List Env)(h₀:Heap)(hu:un+200<cLine)(names:List Str): Cx where
 A:=ktrTop dp un gd cn cs L a ccd cl outer
 env:=envX cn cs L a ccd cl
 h₀:=h₀
 L:=L
 hh:=rfl
 hu:=hu
 Own:=OwnF names cs cl
 mono:=OwnF.mono
section
variable {prog:Program} {w:World} {dp un:Nat} {gd:Option (List Code)} {cn:Str} {cs:Scope} {L a:Addr} {ccd:Value} {cl:List (Str×Addr)} {outer:List Env} {h₀:Heap} {hu:un+200<cLine} {names:List Str}
theorem ZuZ{x:Str}{i:Nat}(hi:names[i]?=some x)(hx:cs.names.lookup x=some .local)(hk:cs.kind=.function)(hd:(x == ("__debug__":Str))=false): Rd prog w (ZbE dp un gd cn cs L a ccd cl outer h₀ hu names) x i:=by
 intro W ρ H fr s Q E v pos r e q
 obtain⟨m,c,led,r⟩:=r
 obtain⟨y,h1,h2⟩:=r.own.loc i x v hi hx e
 exact nameX_L r.F h1 (q y h2) hk hx hd
theorem Zu0{x:Str}{i:Nat}(hi:names[i]?=some x)(hx:cs.names.lookup x=some .cell)(hk:cs.kind=.function)(hd:(x == ("__debug__":Str))=false): Rd prog w (ZbE dp un gd cn cs L a ccd cl outer h₀ hu names) x i:=by
 intro W ρ H fr s Q E v pos r e q
 obtain⟨m,c,led,r⟩:=r
 obtain⟨d,o,y,h1,h2,h3,h4⟩:=r.own.cel i x v hi hx e
 exact nameX_C r.N h1 (r.clIn _ h2) h3 (q y h4) hk hx hd
theorem ZtJ{x:Str}{i:Nat}(nd:names.Nodup)(hi:names[i]?=some x)(hx:cs.names.lookup x=some .local)(hk:cs.kind=.function): Sto prog w (ZbE dp un gd cn cs L a ccd cl outer h₀ hu names) x i:=by
 intro W ρ H fr s Q E v y r vy q
 obtain⟨m,c,led,r⟩:=r
 have hi':i<names.length:=(Zz6.mp hi).1
 refine storeX_L r.F r.N (fun h' F' N'=>q h' _ ⟨_,c,led,⟨F',N',r.R,r.sc,r.sc0,r.frIn,r.frOff,r.clIn,r.clOff,r.apart,r.frTup,r.clTup,⟨fun j z u hj hz hu=>?_,fun j z u hj hz hu=>?_,r.own.all,r.own.one⟩⟩⟩) hk hx
 ·by_cases e:j=i
  ·subst e
   rw[hi]at hj
   cases hj
   simp only[upd,if_true]at hu
   cases hu
   exact⟨y,by simp,vy⟩
  ·have hzx:z≠x:=fun e'=>by
    subst e'
    exact e ((List.getElem?_inj (Zz6.mp hj).1 nd).mp (hj.trans hi.symm))
   simp only[upd,if_neg e]at hu
   obtain⟨y',h1,h2⟩:=r.own.loc j z u hj hz hu
   exact⟨y',by simp[hzx,h1],h2⟩
 ·by_cases e:j=i
  ·subst e
   rw[hi]at hj
   cases hj
   rw[hx]at hz
   cases hz
  ·simp only[upd,if_neg e]at hu
   exact r.own.cel j z u hj hz hu
theorem ZtK{x:Str}{i:Nat}(nd:names.Nodup)(hi:names[i]?=some x)(hx:cs.names.lookup x=some .cell)(hk:cs.kind=.function)(hcl:(cl.lookup x).isSome=true): Sto prog w (ZbE dp un gd cn cs L a ccd cl outer h₀ hu names) x i:=by
 intro W ρ H fr s Q E v y r vy q
 obtain⟨m,c,led,r⟩:=r
 obtain⟨d,hd⟩:=Option.isSome_iff_exists.mp hcl
 obtain⟨o,v₀,ho,hv₀⟩:=r.own.all x d hd
 have inl:=r.clIn _ ho
 have N2:News h₀ L s.heap ((d,o)::led.filter (fun q=>decide (q.1≠d))):=by
  intro q hq
  rcases Zz7.mp hq with e | hq
  ·subst e
   exact r.N _ inl
  ·exact r.N q (List.mem_filter.mp hq).1
 refine storeX_C r.F N2 hd (UpdF.head fun q hq=>by simpa using (List.mem_filter.mp hq).2) hv₀ (fun h' o' F' N' ho'=>?_) hk hx
 have keep:∀q∈led,q.1≠d→q∈(d,o')::led.filter (fun q=>decide (q.1≠d)):=fun q hq hn=>List.mem_cons_of_mem _ (List.mem_filter.mpr ⟨hq,by simpa using hn⟩)
 refine q h' s.toks ⟨m,(d,o')::c.filter (fun q=>decide (q.1≠d)),_,⟨F',N',⟨r.R.len,r.R.nd,fun j vs e=>?_,fun q hq=>Zd6 (r.R.tups q hq) fun z=>keep q z (r.clTup _ ho q hq).symm,r.R.kind⟩,r.sc,r.sc0,fun q hq=>keep q (r.frIn q hq) (r.apart _ ho q hq).symm,r.frOff,fun q hq=>?_,fun q hq=>?_,fun q hq t ht=>?_,r.frTup,fun q hq t ht=>?_,⟨fun j z u hj hz hu=>?_,fun j z u hj hz hu=>?_,fun z e hz=>?_,r.own.one⟩⟩⟩
 ·obtain⟨l,b,xs,k,h1,h2,h3⟩:=r.R.lists j vs e
  exact⟨l,b,xs,k,h1,Zd6 h2 fun z=>keep _ z fun e=>r.clOff _ ho (e▸List.mem_of_getElem? h1),h3⟩
 ·rcases Zz7.mp hq with e | hq
  ·exact e▸List.mem_cons_self
  ·obtain⟨h1,h2⟩:=List.mem_filter.mp hq
   exact keep q (r.clIn q h1) (by simpa using h2)
 ·rcases Zz7.mp hq with e | hq
  ·rw[e]
   exact(r.clOff _ ho:d∉W.pi)
  ·exact r.clOff q (List.mem_filter.mp hq).1
 ·rcases Zz7.mp hq with e | hq
  ·rw[e]
   exact(r.apart _ ho t ht:d≠t.1)
  ·exact r.apart q (List.mem_filter.mp hq).1 t ht
 ·rcases Zz7.mp hq with e | hq
  ·rw[e]
   exact(r.clTup _ ho t ht:d≠t.1)
  ·exact r.clTup q (List.mem_filter.mp hq).1 t ht
 ·by_cases e:j=i
  ·subst e
   rw[hi]at hj
   cases hj
   rw[hx]at hz
   cases hz
  ·simp only[upd,if_neg e]at hu
   exact r.own.loc j z u hj hz hu
 ·by_cases e:j=i
  ·subst e
   rw[hi]at hj
   cases hj
   simp only[upd,if_true]at hu
   cases hu
   exact⟨d,o',y,hd,List.mem_cons_self,ho',vy⟩
  ·have hzx:z≠x:=fun e'=>by
    subst e'
    exact e ((List.getElem?_inj (Zz6.mp hj).1 nd).mp (hj.trans hi.symm))
   simp only[upd,if_neg e]at hu
   obtain⟨b,ob,y',h1,h2,h3,h4⟩:=r.own.cel j z u hj hz hu
   have:b≠d:=fun e'=>by
    subst e'
    exact hzx (r.own.one z x b h1 hd)
   exact⟨b,ob,y',h1,List.mem_cons_of_mem _ (List.mem_filter.mpr ⟨h2,by simpa using this⟩),h3,h4⟩
 ·by_cases e':e=d
  ·subst e'
   exact⟨o',_,List.mem_cons_self,ho'⟩
  ·obtain⟨ob,v1,h1,h2⟩:=r.own.all z e hz
   exact⟨ob,v1,List.mem_cons_of_mem _ (List.mem_filter.mpr ⟨h1,by simpa using e'⟩),h2⟩
end
end PM
end
section
namespace PM
open PySem PySem.W PySem.Calls PyProof.Rows PyProof PyProof.Rows.LCg
theorem ZfZ{Γ:Cx}{W:Wd}{ρ:Lc}{H:Hp}{fr:List (Addr×Obj)}{h:Heap}{D:Addr}{ys:List Value}{k:Nat}{vs:List V}(r:Rep Γ W ρ H ((D,ZbM ys k)::fr) h)(ap:∀t∈fr,D≠t.1)(hv:VRs W vs ys)(hl:vs.length≤LEN):
  ∃W',W.Le W'∧Rep Γ W' ρ (H++[vs]) fr h∧VR W' (.ref H.length) (.ref D):=by
 obtain⟨m,c,led,r⟩:=r
 have le:W.Le ⟨W.pi++[D],W.tups,W.sc⟩:=⟨List.prefix_append _ _,fun q hq=>hq,rfl⟩
 have h0:0<W.pi.length:=(Zz6.mp r.sc0).1
 have at_n:(W.pi++[D])[H.length]?=some D:=by rw[←r.R.len];simp
 have off:=r.frOff _ Zz5
 refine⟨⟨W.pi++[D],W.tups,W.sc⟩,le,⟨m,c,led,⟨r.F,r.N,⟨by simp[r.R.len],?_,fun i us e=>?_,r.R.tups,r.R.kind⟩,r.sc,(List.getElem?_append_left h0).trans r.sc0,fun q hq=>r.frIn q (Zz2 _ hq),fun q hq=>?_,r.clIn,fun q hq=>?_,fun q hq t ht=>r.apart q hq t (Zz2 _ ht),fun q hq=>r.frTup q (Zz2 _ hq),r.clTup,Γ.mono le r.own⟩⟩,.ref at_n⟩
 ·show(W.pi++[D]).Nodup
  rw[List.nodup_append]
  refine⟨r.R.nd,by simp,fun a ha b hb=>?_⟩
  rw[List.mem_singleton.mp hb]
  exact fun e=>off (e▸ha)
 ·by_cases hi:i<H.length
  ·rw[List.getElem?_append_left hi]at e
   obtain⟨l,a,zs,j,h1,h2,h3⟩:=r.R.lists i us e
   exact⟨l,a,zs,j,le.at h1,h2,h3.mono le⟩
  ·have:i=H.length:=by
    have:=(Zz6.mp e).1
    simp at this
    omega
   subst this
   simp at e
   subst e
   exact⟨hl,D,ys,k,at_n,List.mem_cons_of_mem _ (r.frIn _ Zz5),hv.mono le⟩
 ·intro hm
  rcases Zz8.mp hm with hm | hm
  ·exact r.frOff q (Zz2 _ hq) hm
  ·exact ap q hq (Zz9.mp hm).symm
 ·intro hm
  rcases Zz8.mp hm with hm | hm
  ·exact r.clOff q hq hm
  ·exact r.apart q hq _ Zz5 (Zz9.mp hm)
def Zwo(Γ:Cx)(C:Addr)(ts:List (Str×Nat))(ρ0:Lc)(W:Wd)(ρ:Lc)(m:Str→Option Value)(cells:List (Addr×Obj)): Prop:=
 ∃oC m₂ cs,cells=(C,oC)::cs∧(∀q∈cs,q.1≠C)∧NsObj oC m₂∧(∀p∈ts,∃v y,ρ p.2=some v∧m₂ p.1=some y∧VR W v y)∧(∀j,(∀p∈ts,p.2≠j)→ρ j=ρ0 j)∧Γ.Own W ρ0 m cs
noncomputable def Zbe(Γ:Cx)(scope:Scope)(cl:List (Str×Addr))(C:Addr)(ts:List (Str×Nat))(ρ0:Lc): Cx where
 A:=Γ.A
 env:=compEnvC scope cl C Γ.env
 h₀:=Γ.h₀
 L:=Γ.L
 hh:=Γ.hh
 hu:=Γ.hu
 Own:=Zwo Γ C ts ρ0
 mono:=fun l h=>by
  obtain⟨oC,m₂,cs,e,h0,h1,h2,h3,h4⟩:=h
  exact⟨oC,m₂,cs,e,h0,h1,fun p hp=>by
   obtain⟨v,y,a,b,c⟩:=h2 p hp
   exact⟨v,y,a,b,c.mono l⟩,h3,Γ.mono l h4⟩
section
variable {Γ:Cx} {scope:Scope} {cl:List (Str×Addr)} {C:Addr} {ts:List (Str×Nat)} {ρ0:Lc} {W:Wd} {ρ:Lc} {H:Hp} {fr:List (Addr×Obj)} {h:Heap}
theorem Zpd{oC:Obj}{m₂:Str→Option Value}(r:Rep Γ W ρ0 H ((C,oC)::fr) h)(ap:∀t∈fr,C≠t.1)(hC:NsObj oC m₂)(ht:∀p∈ts,∃v y,ρ p.2=some v∧m₂ p.1=some y∧VR W v y)(hj:∀j,(∀p∈ts,p.2≠j)→ρ j=ρ0 j): Rep (Zbe Γ scope cl C ts ρ0) W ρ H fr h:=by
 obtain⟨m,c,led,r⟩:=r
 refine⟨m,(C,oC)::c,led,⟨r.F,r.N,r.R,r.sc,r.sc0,fun q hq=>r.frIn q (Zz2 _ hq),fun q hq=>r.frOff q (Zz2 _ hq),fun q hq=>?_,fun q hq=>?_,fun q hq t ht=>?_,fun q hq=>r.frTup q (Zz2 _ hq),fun q hq t ht=>?_,⟨oC,m₂,c,rfl,fun q hq=>r.apart q hq _ Zz5,hC,ht,hj,r.own⟩⟩⟩
 ·rcases Zz7.mp hq with e | hq
  ·exact e▸r.frIn _ Zz5
  ·exact r.clIn q hq
 ·rcases Zz7.mp hq with e | hq
  ·exact e▸r.frOff _ Zz5
  ·exact r.clOff q hq
 ·rcases Zz7.mp hq with e | hq
  ·exact e▸ap t ht
  ·exact r.apart q hq t (Zz2 _ ht)
 ·rcases Zz7.mp hq with e | hq
  ·exact e▸r.frTup _ Zz5 t ht
  ·exact r.clTup q hq t ht
theorem Rep.fromC(r:Rep (Zbe Γ scope cl C ts ρ0) W ρ H fr h): ∃oC m₂,NsObj oC m₂∧Rep Γ W ρ0 H ((C,oC)::fr) h:=by
 obtain⟨m,c,led,r⟩:=r
 obtain⟨oC,m₂,cs,e,h0,h1,h2,h3,h4⟩:=r.own
 subst e
 refine⟨oC,m₂,h1,m,cs,led,⟨r.F,r.N,r.R,r.sc,r.sc0,fun q hq=>?_,fun q hq=>?_,fun q hq=>r.clIn q (Zz2 _ hq),fun q hq=>r.clOff q (Zz2 _ hq),fun q hq t ht=>?_,fun q hq t ht=>?_,fun q hq=>r.clTup q (Zz2 _ hq),h4⟩⟩
 ·rcases Zz7.mp hq with e | hq
  ·exact e▸r.clIn _ Zz5
  ·exact r.frIn q hq
 ·rcases Zz7.mp hq with e | hq
  ·exact e▸r.clOff _ Zz5
  ·exact r.frOff q hq
 ·rcases Zz7.mp ht with e | ht
  ·rw[e]
   exact h0 q hq
  ·exact r.apart q (Zz2 _ hq) t ht
 ·rcases Zz7.mp hq with e | hq
  ·exact e▸r.clTup _ Zz5 t ht
  ·exact r.frTup q hq t ht
end
def JF(prog:Program)(w:World)(Γ:Cx)(ifs:List Expr)(f:Ts): Prop:=∀(W:Wd) (ρ:Lc) (H:Hp) (fr:List (Addr×Obj)) (s:Shared) (Q:Bool→Shared→Prop) (E:Value→Shared→Prop) (b:Bool) (H':Hp),
 Rep Γ W ρ H fr s.heap→f ρ H=some (b,H')→Zim Γ W ρ H' fr s Q b →
 wpAny (model prog w) Γ.A (forIn ifs true fun c r=>if r=true then do let ok ←isTrue c Γ.env (eval c Γ.env);pure (ForInStep.yield ok)else pure (ForInStep.yield r)) Q E s
section
variable {prog:Program} {w:World} {Γ:Cx}
theorem JF.nil: JF prog w Γ [] Zao:=fun W ρ H fr s Q E b H' r hf post=>by
 cases hf
 exact wpAny_pure (post W s.heap s.toks (.refl W) r)
theorem JF.one{e:Expr}{t:Ts}(h:JT prog w Γ e t): JF prog w Γ [e] t:=fun W ρ H fr s Q E b H' r hf post=>by
 rw[List.forIn_cons]
 simp only[if_true,List.forIn_nil]
 refine wpAny_bind (wpAny_bind (h W ρ H fr s _ E b H' r hf fun W1 k1 t1 l1 r1=>wpAny_pure ?_))
 exact wpAny_pure (post W1 k1 t1 l1 r1)
end
end PM
end
section
namespace PM
open PySem PySem.W PySem.Calls PyProof.Rows PyProof PyProof.Rows.LCg
noncomputable def ZcE(nx:Nx)(put:V→Lc→Option Lc)(c:Ts)(f:Ex)(ρ:Lc): Nat→Nat→List V→Hp→Option (List V×Hp)
 | 0,_,_,_=>none
 | n+1,i,acc,H=>(nx i H).bind fun o=>match o with
  | none=>some (acc,H)
  | some v=>(put v ρ).bind fun ρ1=>(c ρ1 H).bind fun b=>if b.1 then(f ρ1 b.2).bind fun p=>(if acc.length<LEN then ZcE nx put c f ρ n (i+1) (acc++[p.1]) p.2 else none)else ZcE nx put c f ρ n (i+1) acc b.2
noncomputable def ZaJ(g:Src)(put:V→Lc→Option Lc)(c:Ts)(f:Ex): Ex:=fun ρ H=>(g ρ H).bind fun z=>(ZcE z.1 put c f ρ z.2.1 0 [] z.2.2).map fun q=>(.ref q.2.length,q.2++[q.1])
def ZgG(Γ:Cx)(W0:Wd)(ρ:Lc)(fr:List (Addr×Obj))(C D:Addr)(It:Nat→List (Addr×Obj)→Prop)(nx:Nx)(put:V→Lc→Option Lc)(c:Ts)(f:Ex)(q:List V×Hp)(s:Shared)(k:Nat)(s':Shared): Prop:=
 ∃W' H' h' tk' j fs acc ys oC m₂,s' = { s with heap:=h',toks:=tk' }∧W0.Le W'∧It j fs∧NsObj oC m₂∧VRs W' acc ys∧acc.length≤LEN∧Rep Γ W' ρ H' ((C,oC)::(D,lst ys)::(fs++fr)) h'∧ZcE nx put c f ρ k j acc H'=some q
section
variable {prog:Program} {w:World} {Γ:Cx}
theorem Zoo{scope:Scope}{cl:List (Str×Addr)}{elt:Expr}{ts:List (Str×Nat)}{W0 W:Wd}{ρ ρ1:Lc}{H:Hp}{fr fs:List (Addr×Obj)}{C D:Addr}{It:Nat→List (Addr×Obj)→Prop}{nx:Nx}{put:V→Lc→Option Lc}{c:Ts}{f:Ex}{q:List V×Hp}{s:Shared}{h:Heap}{tk:Nat}{k j:Nat}{acc:List V}{ys:List Value}{E:Value→Shared→Prop}
  (hel:J prog w (Zbe Γ scope cl C ts ρ) elt f) (aD:∀t∈fs++fr,D≠t.1) (cd:C≠D) (l0:W0.Le W) (hit:It (j+1) fs) (hv:VRs W acc ys) (r:Rep (Zbe Γ scope cl C ts ρ) W ρ1 H ((D,lst ys)::(fs++fr)) h)
  (e:((f ρ1 H).bind fun p=>(if acc.length<LEN then ZcE nx put c f ρ k (j+1) (acc++[p.1]) p.2 else none))=some q):
  wpAny (model prog w) Γ.A (eval elt (compEnvC scope cl C Γ.env)) (fun x s₄=>wpAny (model prog w) Γ.A (call (.builtin "list.append") [.ref D,x]) (fun _ s₅=>∃m,m<k+1∧ZgG Γ W0 ρ fr C D It nx put c f q s m s₅) E s₄) E { s with heap:=h,toks:=tk }:=by
 obtain⟨p,e2,e⟩:=Zz0.mp e
 by_cases hlt:acc.length<LEN
 ·rw[if_pos hlt]at e
  refine hel W ρ1 H _ _ _ E _ _ r e2 fun W2 k2 t2 x l2 r2 x2=>?_
  obtain⟨oC',m₃,hC',r3⟩:=r2.fromC
  have hD:k2.get? D=some (lst ys):=r3.frAt (q:=(D,lst ys)) (Zz2 _ Zz5)
  refine append_at (hsz:=ZcX (by rw[List.size_toArray,hv.length];omega)) hD fun h' sb hg=>?_
  have hg':h'.get? D=some (lst (ys++[x])):=hg.trans (congrArg some (lst_snoc ys x))
  have r4:Rep Γ W2 ρ p.2 ([(D,lst ys)]++((C,oC')::(fs++fr))) k2:=r3.less fun q hq=>by
   rcases Zz8.mp hq with hq | hq
   ·rw[List.mem_singleton.mp hq]
    exact Zz2 _ Zz5
   ·rcases Zz7.mp hq with e | hq
    ·exact e▸List.mem_cons_self
    ·exact Zz2 _ (Zz2 _ hq)
  have r5:Rep Γ W2 ρ p.2 ([(D,lst (ys++[x]))]++((C,oC')::(fs++fr))) h':=by
   refine r4.swap (fun q hq t ht=>?_) (fun b o hb e=>sb.extBut b o (fun z=>hb (by simp[z])) e) fun q hq=>?_
   ·rw[List.mem_singleton.mp hq]
    rcases Zz7.mp ht with e | ht
    ·rw[e]
     exact cd.symm
    ·exact aD t ht
   ·rw[List.mem_singleton.mp hq]
    exact⟨hg',by simp⟩
  have r6:Rep Γ W2 ρ p.2 ((C,oC')::(D,lst (ys++[x]))::(fs++fr)) h':=r5.less fun q hq=>by
   rcases Zz7.mp hq with e | hq
   ·exact e▸List.mem_append_right _ Zz5
   ·rcases Zz7.mp hq with e | hq
    ·exact e▸List.mem_append_left _ Zz5
    ·exact Zz3 _ (Zz2 _ hq)
  exact⟨k,Nat.lt_succ_self k,W2,p.2,h',t2,j+1,fs,acc++[p.1],ys++[x],oC',m₃,rfl,l0.trans l2,hit,hC',(hv.mono l2).snoc x2,by simp;omega,r6,e⟩
 ·rw[if_neg hlt]at e
  cases e
theorem ZsZ{scope:Scope}{cl:List (Str×Addr)}{elt:Expr}{ifs:List Expr}{ts:List (Str×Nat)}{W0 W:Wd}{ρ ρ1:Lc}{H:Hp}{fr fs:List (Addr×Obj)}{C D:Addr}{It:Nat→List (Addr×Obj)→Prop}{nx:Nx}{put:V→Lc→Option Lc}{c:Ts}{f:Ex}{q:List V×Hp}{s s1:Shared}{k j:Nat}{acc:List V}{ys:List Value}{oC:Obj}{m₂:Str→Option Value}{E:Value→Shared→Prop}
  (hel:J prog w (Zbe Γ scope cl C ts ρ) elt f) (hif:JF prog w (Zbe Γ scope cl C ts ρ) ifs c) (hs:∃h tk,s1 = { s with heap:=h,toks:=tk })
  (aC:∀t∈(D,lst ys)::(fs++fr),C≠t.1) (aD:∀t∈fs++fr,D≠t.1) (l0:W0.Le W) (hit:It (j+1) fs) (hC:NsObj oC m₂) (hv:VRs W acc ys) (hl:acc.length≤LEN) (r:Rep Γ W ρ H ((C,oC)::(D,lst ys)::(fs++fr)) s1.heap)
  (ht:∀p∈ts,∃v y,ρ1 p.2=some v∧m₂ p.1=some y∧VR W v y) (hj:∀i,(∀p∈ts,p.2≠i)→ρ1 i=ρ i)
  (e:((c ρ1 H).bind fun b=>if b.1 then(f ρ1 b.2).bind fun p=>(if acc.length<LEN then ZcE nx put c f ρ k (j+1) (acc++[p.1]) p.2 else none)else ZcE nx put c f ρ k (j+1) acc b.2)=some q):
  wpAny (model prog w) Γ.A (forIn ifs true fun c r=>if r=true then do let ok ←isTrue c (compEnvC scope cl C Γ.env) (eval c (compEnvC scope cl C Γ.env));pure (ForInStep.yield ok)else pure (ForInStep.yield r)) (fun ok s₃=>
   if ok=true then wpAny (model prog w) Γ.A (eval elt (compEnvC scope cl C Γ.env)) (fun x s₄=>wpAny (model prog w) Γ.A (call (.builtin "list.append") [.ref D,x]) (fun _ s₅=>∃m,m<k+1∧ZgG Γ W0 ρ fr C D It nx put c f q s m s₅) E s₄) E s₃
   else ∃m,m<k+1∧ZgG Γ W0 ρ fr C D It nx put c f q s m s₃) E s1:=by
 obtain⟨h,tk,rfl⟩:=hs
 obtain⟨b,e1,e⟩:=Zz0.mp e
 obtain⟨b,H1⟩:=b
 have rc:=Zpd (scope:=scope) (cl:=cl) r aC hC ht hj
 refine hif W ρ1 H _ _ _ E b H1 rc e1 fun W1 k1 t1 l1 r1=>?_
 cases b with
 | false=>
  obtain⟨oC',m₃,hC',r2⟩:=r1.fromC
  exact⟨k,Nat.lt_succ_self k,W1,H1,k1,t1,j+1,fs,acc,ys,oC',m₃,rfl,l0.trans l1,hit,hC',hv.mono l1,hl,r2,e⟩
 | true=>exact Zoo hel aD (aC (D,lst ys) Zz5) (l0.trans l1) hit (hv.mono l1) r1 e
theorem comp_core{elt iter:Expr}{x:Str}{px:Pos}{ifs:List Expr}{scope:Scope}{pos:Pos}{cl:List (Str×Addr)}{t:Nat}{g:Src}{c:Ts}{f:Ex}(hg:JI prog w Γ iter g)(hel:∀C ρ,J prog w (Zbe Γ scope cl C [(x,t)] ρ) elt f)(hif:∀C ρ,JF prog w (Zbe Γ scope cl C [(x,t)] ρ) ifs c)
  (hcell:∀y∈scope.names,y.2≠.cell) (hkind:scope.kind=.function) (hx:scope.names.lookup x=some .local)
  {W:Wd} {ρ:Lc} {H:Hp} {fr:List (Addr×Obj)} {s:Shared} {E:Value→Shared→Prop} {q:List V×Hp} {RR:Value→Addr→Result→Shared→Prop} (r:Rep Γ W ρ H fr s.heap) (hf:((g ρ H).bind fun z=>ZcE z.1 (put1 t) c f ρ z.2.1 0 [] z.2.2)=some q)
  (hR:∀(W':Wd) (h':Heap) (tk':Nat) (C D:Addr) (oC:Obj) (m₂:Str→Option Value) (ys:List Value),W.Le W'→NsObj oC m₂→VRs W' q.1 ys→q.1.length≤LEN→(∀t∈fr,D≠t.1)→(∀t∈fr,C≠t.1)→C≠D→Rep Γ W' ρ q.2 ((C,oC)::(D,lst ys)::fr) h'→RR (.ref D) C (.ok .next) { s with heap:=h',toks:=tk' }):
  wpAny (model prog w) Γ.A (eval iter Γ.env) (fun xv s₁=>wpAny (model prog w) Γ.A (pyIter xv) (fun it s₂=>wpAny (model prog w) Γ.A (newList []) (fun acc s₃=>wpAny (model prog w) Γ.A (newFunctionEnv scope Γ.env.globals cl [] Γ.env.qual none .none (some Γ.env)) (fun cenv s₄=>
   codeAny (model prog w) Γ.A (.compStart (.ListComp elt [⟨.Name x px,iter,ifs,0⟩] scope pos) 0 it acc { cenv with scope:=relabel scope Γ.env }) (RR acc cenv.locals) s₄) E s₃) E s₂) E s₁) E s:=by
 obtain⟨z,e1,e2⟩:=Zz0.mp hf
 obtain⟨nx,n,H0⟩:=z
 refine hg W ρ H fr s _ E nx n H0 r e1 fun W1 k1 t1 itv as It fs l1 i1 r1 ap I1=>?_
 refine wpAny_newObj_type (wpAny_newFunctionEnv hcell (fun y hy=>by simp at hy) (fun h₂ hns hsb=>?_) hkind)
 dsimp only at hns hsb ⊢
 obtain⟨rD,aD⟩:=r1.more (fs:=[(k1.objs.size,lst [])]) (fun b o e=>Heap.get?_push_of_some (lst []) e) (fun q hq=>by rw[List.mem_singleton.mp hq];exact⟨Heap.get?_push_size _ rfl,Nat.le_refl _⟩)
 generalize eH:k1.push { cls:=.type "list",dict:=none,data:=.seq ([]:List Value).toArray } = K at hns hsb ⊢
 have eK:k1.push (lst [])=K:=eH
 rw[eK]at rD
 obtain⟨oC,gC,nC⟩:=ns_obj hns
 have up:∀b o,K.get? b=some o→h₂.get? b=some o:=fun b o e=>hsb.extBut b o (Nat.ne_of_lt (Heap.lt_size e)) (Heap.get?_push_of_some _ e)
 obtain⟨rC,aC⟩:=rD.more (fs:=[(K.objs.size,oC)]) up (fun q hq=>by rw[List.mem_singleton.mp hq];exact⟨gC,Nat.le_refl _⟩)
 have adr0:=I1.adr 0 fs i1
 have offs:∀b∈as,b≠k1.objs.size∧b≠K.objs.size:=fun b hb=>by
  rw[←adr0]at hb
  obtain⟨q,hq,e⟩:=Zz11.mp hb
  exact⟨e▸(aD _ Zz5 q (Zz4 _ hq)).symm,e▸(aC _ Zz5 q (Zz3 _ (Zz4 _ hq))).symm⟩
 have cd:K.objs.size≠k1.objs.size:=aC _ Zz5 (k1.objs.size,lst []) (Zz4 _ Zz5)
 have cfr:∀t∈fr,K.objs.size≠t.1:=fun t ht=>aC _ Zz5 t (Zz3 _ (Zz3 _ ht))
 have dfr:∀t∈fr,k1.objs.size≠t.1:=fun t ht=>aD _ Zz5 t (Zz3 _ ht)
 generalize k1.objs.size=D at *
 generalize K.objs.size=C at *
 have loop:∀s₃:Shared,s₃ = { s with heap:=h₂,toks:=t1+([]:List (Str×Value)).length } →
   codeAny (model prog w) Γ.A (.compLoop (.ListComp elt [⟨.Name x px,iter,ifs,0⟩] scope pos) 0 itv (.ref D) (compEnvC scope cl C Γ.env)) (RR (.ref D) C) s₃:=by
  intro s₃ hs₃
  subst hs₃
  refine codeAny_compLoop_tests (ZgG Γ W1 ρ fr C D It nx (put1 t) c f q s) ?_ n ⟨W1,H0,h₂,_,0,fs,[],[],oC,_,rfl,.refl _,i1,nC,.nil,Nat.zero_le _,rC,e2⟩
  rintro k s' ⟨W2,H2,k2,t2,j,fs2,acc,ys,oC2,m₂,rfl,l2,i2,hC2,hv2,hl2,r2,e⟩
  cases k with
  | zero=>cases e
  | succ k=>
   obtain⟨o,e4,e⟩:=Zz0.mp e
   have r2':Rep Γ W2 ρ H2 (fs2++((C,oC2)::(D,lst ys)::fr)) k2:=r2.less fun q hq=>by
    rcases Zz8.mp hq with hq | hq
    ·exact Zz2 _ (Zz2 _ (Zz4 _ hq))
    ·rcases Zz7.mp hq with e | hq
     ·exact e▸List.mem_cons_self
     ·rcases Zz7.mp hq with e | hq
      ·exact e▸List.mem_cons_of_mem _ Zz5
      ·exact Zz2 _ (Zz2 _ (Zz3 _ hq))
   have ap2:∀b∈as,∀t∈(C,oC2)::(D,lst ys)::fr,b≠t.1:=fun b hb t ht=>by
    rcases Zz7.mp ht with e | ht
    ·rw[e]
     exact(offs b hb).2
    ·rcases Zz7.mp ht with e | ht
     ·rw[e]
      exact(offs b hb).1
     ·exact ap b hb t ht
   refine I1.next j W2 ρ H2 _ fs2 _ _ _ o l2 r2' ap2 i2 e4 ?_
   cases o with
   | none=>
    cases e
    intro h' tk' r3
    exact hR W2 h' tk' C D oC2 m₂ ys (l1.trans l2) hC2 hv2 hl2 dfr cfr cd r3
   | some v=>
    intro fs3 k3 t3 y i3 r3 y3
    obtain⟨ρ3,e5,e⟩:=Zz0.mp e
    cases e5
    have a3:∀t∈fs3,t.1∈as:=fun t ht=>by
     rw[←I1.adr _ _ i3]
     exact List.mem_map_of_mem ht
    have gC3:k3.get? C=some oC2:=r3.frAt (q:=(C,oC2)) (Zz3 _ Zz5)
    have nC3:k3.Ns C m₂:=hC2.ns gC3
    refine wpAny_assign_Name (wpAny_storeName_local (lookup_relabel_local hx) nC3 (fun h4 hn4 sb4=>?_) (by simp[compEnvC,relabel,hkind]))
    obtain⟨oC4,gC4,nC4⟩:=ns_obj hn4
    have r3':Rep Γ W2 ρ H2 ([(C,oC2)]++((D,lst ys)::(fs3++fr))) k3:=r3.less fun q hq=>by
     rcases Zz8.mp hq with hq | hq
     ·rw[List.mem_singleton.mp hq]
      exact Zz3 _ Zz5
     ·rcases Zz7.mp hq with e | hq
      ·exact e▸List.mem_append_right _ (Zz2 _ Zz5)
      ·rcases Zz8.mp hq with hq | hq
       ·exact Zz4 _ hq
       ·exact Zz3 _ (Zz2 _ (Zz2 _ hq))
    have aC3:∀t∈(D,lst ys)::(fs3++fr),C≠t.1:=fun t ht=>by
     rcases Zz7.mp ht with e | ht
     ·rw[e]
      exact cd
     ·rcases Zz8.mp ht with ht | ht
      ·exact(offs _ (a3 t ht)).2.symm
      ·exact cfr t ht
    have aD3:∀t∈fs3++fr,D≠t.1:=fun t ht=>by
     rcases Zz8.mp ht with ht | ht
     ·exact(offs _ (a3 t ht)).1.symm
     ·exact dfr t ht
    have r4:Rep Γ W2 ρ H2 ([(C,oC4)]++((D,lst ys)::(fs3++fr))) h4:=by
     refine r3'.swap (fun q hq t ht=>?_) (fun b o hb e=>sb4.extBut b o (fun z=>hb (by simp[z,compEnvC])) e) fun q hq=>?_
     ·rw[List.mem_singleton.mp hq]
      exact aC3 t ht
     ·rw[List.mem_singleton.mp hq]
      exact⟨gC4,by simp⟩
    refine ZsZ (hel C ρ) (hif C ρ) ⟨h4,_,rfl⟩ aC3 aD3 l2 i3 nC4 hv2 hl2 r4 (fun p hp=>?_) (fun i hi=>?_) e
    ·rw[List.mem_singleton.mp hp]
     exact⟨v,y,by simp[upd],by simp,y3⟩
    ·have:i≠t:=fun e=>hi (x,t) Zz5 e.symm
     simp[upd,this]
 refine codeAny_compStart_list (loop _ rfl) ?_
 exact I1.self 0 W1 ρ H0 (([(C,oC)]++[(D,lst [])])++fr) fs _ _ _ (.refl _) (rC.less fun q hq=>by
  rcases Zz8.mp hq with hq | hq
  ·exact Zz3 _ (Zz3 _ (Zz4 _ hq))
  ·rcases Zz8.mp hq with hq | hq
   ·rcases Zz8.mp hq with hq | hq
    ·exact Zz4 _ hq
    ·exact Zz3 _ (Zz4 _ hq)
   ·exact Zz3 _ (Zz3 _ (Zz3 _ hq))) i1 (loop _ rfl)
theorem ZoK{W:Wd}{ρ:Lc}{q:List V×Hp}{fr:List (Addr×Obj)}{C D:Addr}{oC:Obj}{ys:List Value}{h' h'':Heap}(hv:VRs W q.1 ys)(hl:q.1.length≤LEN)(aD:∀t∈fr,D≠t.1)(aC:∀t∈fr,C≠t.1)(cd:C≠D)(r:Rep Γ W ρ q.2 ((C,oC)::(D,lst ys)::fr) h')(sb:Heap.SameBut C h' h''):
  ∃W',W.Le W'∧Rep Γ W' ρ (q.2++[q.1]) fr h''∧VR W' (.ref q.2.length) (.ref D):=by
 have r4:Rep Γ W ρ q.2 ([]++((D,lst ys)::fr)) h'':=by
  refine Rep.swap (fs:=[(C,oC)]) (fs':=[]) r (fun q hq t ht=>?_) (fun b o hb e=>sb.extBut b o (fun z=>hb (by simp[z])) e) fun q hq=>nomatch hq
  rw[List.mem_singleton.mp hq]
  rcases Zz7.mp ht with e | ht
  ·rw[e]
   exact cd
  ·exact aC t ht
 exact ZfZ r4 aD hv hl
theorem Zu1{elt iter:Expr}{x:Str}{px:Pos}{ifs:List Expr}{scope:Scope}{pos:Pos}{cl:List (Str×Addr)}{t:Nat}{g:Src}{c:Ts}{f:Ex}(hg:JI prog w Γ iter g)(hel:∀C ρ,J prog w (Zbe Γ scope cl C [(x,t)] ρ) elt f)(hif:∀C ρ,JF prog w (Zbe Γ scope cl C [(x,t)] ρ) ifs c)
  (hclos:closureFor scope Γ.env=pure cl) (hcell:∀y∈scope.names,y.2≠.cell) (hkind:scope.kind=.function) (hnames:∀y∈scope.names,y.2=.local→scope.names.lookup y.1=some .local) (hx:scope.names.lookup x=some .local) (hs:∀x,foldedSetIterable iter Γ.env x=pure x:=by intro _;rfl):
  J prog w Γ (.ListComp elt [⟨.Name x px,iter,ifs,0⟩] scope pos) (ZaJ g (put1 t) c f):=by
 intro W ρ H fr s Q E v H' r hf post
 obtain⟨z,e1,hf⟩:=Zz0.mp hf
 obtain⟨q,e2,e3⟩:=Zz1.mp hf
 cases e3
 rw[eval_ListComp]
 refine wpAny_comprehension_free (use:=Option.none) rfl hs hclos hkind hnames ?_
 refine comp_core (RR:=fun acc C=>compPost (model prog w) Γ.A E Option.none Q acc C) hg hel hif hcell hkind hx r (q:=q) (by rw[e1];exact e2) fun W2 h' tk' C D oC m₂ ys l2 hC hv hl aD aC cd r3=>?_
 refine⟨m₂,hC.ns (r3.frAt (q:=(C,oC)) Zz5),fun h'' sb=>?_⟩
 obtain⟨W5,l5,r5,v5⟩:=ZoK hv hl aD aC cd r3 sb
 exact post W5 h'' tk' _ (l2.trans l5) r5 v5
theorem ZrI{elt iter:Expr}{x y:Str}{px py pos spos:Pos}{ifs:List Expr}{scope:Scope}{cl:List (Str×Addr)}{t i:Nat}{g:Src}{c:Ts}{f:Ex}(hy:Sto prog w Γ y i)(hg:JI prog w Γ iter g)(hel:∀C ρ,J prog w (Zbe Γ scope cl C [(x,t)] ρ) elt f)(hif:∀C ρ,JF prog w (Zbe Γ scope cl C [(x,t)] ρ) ifs c)
  (hsw:swapsWith (.ListComp elt [⟨.Name x px,iter,ifs,0⟩] scope pos) (some (.Name y py)) spos.line Γ.env=pure true)
  (hclos:closureFor scope Γ.env=pure cl) (hcell:∀y∈scope.names,y.2≠.cell) (hkind:scope.kind=.function) (hnames:∀y∈scope.names,y.2=.local→scope.names.lookup y.1=some .local) (hx:scope.names.lookup x=some .local) (hs:∀x,foldedSetIterable iter Γ.env x=pure x:=by intro _;rfl):
  S1 prog w Γ (.Assign [.Name y py] (.ListComp elt [⟨.Name x px,iter,ifs,0⟩] scope pos) spos) (ZK i (ZaJ g (put1 t) c f)):=by
 intro W ρ H fr s Q E r rp hf post
 obtain⟨p,e0,e9⟩:=Zz1.mp hf
 cases e9
 obtain⟨z,e1,hf⟩:=Zz0.mp e0
 obtain⟨q,e2,e3⟩:=Zz1.mp hf
 cases e3
 rw[exec_Assign_Name_used _ _ _ _ hsw]
 refine wpAny_bind (wpAny_standAt (wpAny_bind ?_))
 show wpAny _ Γ.A (do let _ ←comprehension (.ListComp elt [⟨.Name x px,iter,ifs,0⟩] scope pos) scope Γ.env _ (newList []) false (eval iter Γ.env) (some (assign (.Name y py) Γ.env))) _ _ s
 refine wpAny_bind (wpAny_mono (wpAny_comprehension_free (use:=some (assign (.Name y py) Γ.env)) (Q:=fun _ s'=>Q .next s') rfl hs hclos hkind hnames ?_) (fun _ s' h'=>wpAny_pure (wpAny_pure h')) fun _ _ e=>e)
 refine comp_core (RR:=fun acc C=>compPost (model prog w) Γ.A E (some (assign (.Name y py) Γ.env)) (fun _ s'=>Q .next s') acc C) hg hel hif hcell hkind hx rp (q:=q) (by rw[e1];exact e2) fun W2 h' tk' C D oC m₂ ys l2 hC hv hl aD aC cd r3=>?_
 have r4:Rep Γ W2 ρ q.2 ((D,lst ys)::(C,oC)::fr) h':=r3.less fun t ht=>by
  rcases Zz7.mp ht with e | ht
  ·exact e▸List.mem_cons_of_mem _ Zz5
  ·rcases Zz7.mp ht with e | ht
   ·exact e▸List.mem_cons_self
   ·exact Zz2 _ (Zz2 _ ht)
 obtain⟨W5,l5,r5,v5⟩:=ZfZ r4 (fun t ht=>by
  rcases Zz7.mp ht with e | ht
  ·rw[e]
   exact cd.symm
  ·exact aD t ht) hv hl
 refine wpAny_assign_Name (hy W5 ρ _ _ _ _ _ _ _ r5 v5 fun h6 t6 r6=>?_)
 refine⟨m₂,hC.ns (r6.frAt (q:=(C,oC)) Zz5),fun h'' sb=>?_⟩
 have r7:Rep Γ W5 (upd ρ i (.ref q.2.length)) (q.2++[q.1]) ([]++fr) h'':=
  Rep.swap (fs:=[(C,oC)]) (fs':=[]) r6 (fun q hq t ht=>by rw[List.mem_singleton.mp hq];exact aC t ht) (fun b o hb e=>sb.extBut b o (fun z=>hb (by simp[z])) e) fun q hq=>nomatch hq
 exact post W5 h'' t6 (l2.trans l5) r7
end
end PM
end
section
namespace PM
open PySem PySem.W PySem.Calls PyProof.Rows PyProof PyProof.Rows.LCg PyProof.Rows.LCp
theorem ZmY(h:Heap): ∀as:List Addr,(∀a∈as,∃o,h.get? a=some o)→∃fs:List (Addr×Obj),fs.map (·.1)=as∧∀q∈fs,h.get? q.1=some q.2
 | [],_=>⟨[],rfl,fun q hq=>nomatch hq⟩
 | a::as,d=>by
  obtain⟨o,ho⟩:=d a Zz5
  obtain⟨fs,h1,h2⟩:=ZmY h as fun b hb=>d b (Zz2 _ hb)
  refine⟨(a,o)::fs,by rw[List.map_cons,h1],fun q hq=>?_⟩
  rcases Zz7.mp hq with e | hq
  ·rw[e]
   exact ho
  ·exact h2 q hq
structure Itr2(prog:Program)(w:World)(Γ:Cx)(W0:Wd)(it:Value)(as:List Addr)(It:Nat→List (Addr×Obj)→Prop)(nx:Nx): Prop where
 adr:∀i fs,It i fs→fs.map (·.1)=as
 pair:∀i H v,nx i H=some (some v)→∃a b,v=.tup [a,b]
 item:∀(i:Nat) (W:Wd) (ρ:Lc) (H:Hp) (fr fs:List (Addr×Obj)) (s:Shared) (Q:Option Value→Shared→Prop) (E:Value→Shared→Prop) (a b:V),W0.Le W→Rep Γ W ρ H (fs++fr) s.heap→(∀a∈as,∀t∈fr,a≠t.1)→It i fs→nx i H=some (some (.tup [a,b])) →
  (∀(T:Addr) (h1:Heap) (t1:Nat),(∀(elts:List Expr) (k:Nat) (pos:Pos) (s1:Shared) (Q1:Unit→Shared→Prop) (E1:Value→Shared→Prop),s1 = { s with heap:=h1,toks:=t1 } →
    (∀(fs':List (Addr×Obj)) (h':Heap) (x y:Value),It (i+1) fs'→Rep Γ W ρ H (fs'++fr) h'→IsTup h' T #[x,y]→VR W a x→VR W b y→Q1 () { s with heap:=h',toks:=t1 })→wpAny (model prog w) Γ.A (letOwnedTupleGo (.Tuple elts k pos) it (.ref T)) Q1 E1 s1)→Q (some (.ref T)) { s with heap:=h1,toks:=t1 })→wpAny (model prog w) Γ.A (pyNext it) Q E s
 done:∀(i:Nat) (W:Wd) (ρ:Lc) (H:Hp) (fr fs:List (Addr×Obj)) (s:Shared) (Q:Option Value→Shared→Prop) (E:Value→Shared→Prop),W0.Le W→Rep Γ W ρ H (fs++fr) s.heap→(∀a∈as,∀t∈fr,a≠t.1)→It i fs→nx i H=some none →
  (∀(h':Heap) (tk':Nat),Rep Γ W ρ H fr h'→Q none { s with heap:=h',toks:=tk' })→wpAny (model prog w) Γ.A (pyNext it) Q E s
 self:∀(i:Nat) (W:Wd) (ρ:Lc) (H:Hp) (fr fs:List (Addr×Obj)) (s:Shared) (Q E:Value→Shared→Prop) (o:Option V),W0.Le W→Rep Γ W ρ H (fs++fr) s.heap→It i fs→nx i H=some o→Q it s→wpAny (model prog w) Γ.A (pyIter it) Q E s
def JI2(prog:Program)(w:World)(Γ:Cx)(e:Expr)(g:Src): Prop:=∀(W:Wd) (ρ:Lc) (H:Hp) (fr:List (Addr×Obj)) (s:Shared) (Q E:Value→Shared→Prop) (nx:Nx) (n:Nat) (H':Hp),
 Rep Γ W ρ H fr s.heap→g ρ H=some (nx,n,H') →
 (∀(W':Wd) (h':Heap) (tk':Nat) (it:Value) (as:List Addr) (It:Nat→List (Addr×Obj)→Prop) (fs:List (Addr×Obj)),W.Le W'→It 0 fs→Rep Γ W' ρ H' (fs++fr) h'→(∀a∈as,∀t∈fr,a≠t.1)→Itr2 prog w Γ W' it as It nx→(∃o,nx 0 H'=some o)→Q it { s with heap:=h',toks:=tk' }) →
 wpAny (model prog w) Γ.A (eval e Γ.env) (fun xv s₁=>wpAny (model prog w) Γ.A (pyIter xv) Q E s₁) E s
noncomputable def Zgz(a b:Nat): Nx:=fun i H=>H[a]?.bind fun vs=>H[b]?.bind fun us=>match vs[i]?,us[i]? with
 | some x,some y=>some (some (.tup [x,y]))
 | _,_=>if i=min vs.length us.length then some none else none
noncomputable def ZdL(f g:Ex): Src:=fun ρ H=>(f ρ H).bind fun p=>(g ρ p.2).bind fun q=>match p.1,q.1 with
 | .ref a,.ref b=>q.2[a]?.bind fun vs=>q.2[b]?.map fun us=>(Zgz a b,min vs.length us.length+1,q.2)
 | _,_=>none
noncomputable def Zcl(i j:Nat): V→Lc→Option Lc
 | .tup [a,b],ρ=>some (upd (upd ρ i a) j b)
 | _,_=>none
def ZS(z TI TO i1 i2 l1 l2:Addr)(i:Nat)(h:Heap): Prop:=IsZip h z TI TO .none∧PySem.IsPair h TI (.ref i1) (.ref i2)∧(∃a b,PySem.IsPair h TO a b)∧h.IsListIter i1 l1 i∧h.IsListIter i2 l2 i
theorem ZS.at{z TI TO i1 i2 l1 l2:Addr}{i:Nat}{h h':Heap}(x:ZS z TI TO i1 i2 l1 l2 i h)(e:∀a∈[z,TI,TO,i1,i2],∀o,h.get? a=some o→h'.get? a=some o): ZS z TI TO i1 i2 l1 l2 i h':=by
 obtain⟨h1,h2,⟨a,b,h3⟩,h4,h5⟩:=x
 exact⟨e z (by simp) _ h1,e TI (by simp) _ h2,⟨a,b,e TO (by simp) _ h3⟩,h4.at fun o x=>e i1 (by simp) o x,h5.at fun o x=>e i2 (by simp) o x⟩
theorem ZS.have{z TI TO i1 i2 l1 l2:Addr}{i:Nat}{h:Heap}(x:ZS z TI TO i1 i2 l1 l2 i h): ∀a∈[z,TI,TO,i1,i2],∃o,h.get? a=some o:=by
 obtain⟨h1,h2,⟨a,b,h3⟩,⟨o4,h4,_⟩,⟨o5,h5,_⟩⟩:=x
 intro c hc
 simp only[List.mem_cons,List.not_mem_nil,or_false]at hc
 rcases hc with e | e | e | e | e <;> subst e
 ·exact⟨_,h1⟩
 ·exact⟨_,h2⟩
 ·exact⟨_,h3⟩
 ·exact⟨_,h4⟩
 ·exact⟨_,h5⟩
def ZIt(z TI TO i1 i2 l1 l2:Addr)(i:Nat)(fs:List (Addr×Obj)): Prop:=fs.map (·.1)=[z,TI,TO,i1,i2]∧∀h:Heap,(∀q∈fs,h.get? q.1=some q.2)→ZS z TI TO i1 i2 l1 l2 i h
theorem Zpe{z TI TO i1 i2 l1 l2:Addr}{i:Nat}{h:Heap}(x:ZS z TI TO i1 i2 l1 l2 i h): ∃fs,ZIt z TI TO i1 i2 l1 l2 i fs∧∀q∈fs,h.get? q.1=some q.2:=by
 obtain⟨fs,h1,h2⟩:=ZmY h [z,TI,TO,i1,i2] x.have
 refine⟨fs,⟨h1,fun h' e=>x.at fun a ha o ho=>?_⟩,h2⟩
 rw[←h1]at ha
 obtain⟨q,hq,eq⟩:=Zz11.mp ha
 have:=h2 q hq
 rw[eq,ho]at this
 cases this
 exact eq▸e q hq
section
variable {prog:Program} {w:World} {Γ:Cx}
theorem Zu2{W0:Wd}{z TI TO i1 i2 l1 l2:Addr}{a b:Nat}(ea:W0.pi[a]?=some l1)(eb:W0.pi[b]?=some l2)(D:ZipApart z TI TO i1 i2 l1 l2):
  Itr2 prog w Γ W0 (.ref z) [z,TI,TO,i1,i2] (ZIt z TI TO i1 i2 l1 l2) (Zgz a b):=by
 refine⟨fun i fs h=>h.1,?_,?_,?_,?_⟩
 ·intro i H v e
  obtain⟨vs,e1,e⟩:=Zz0.mp e
  obtain⟨us,e2,e⟩:=Zz0.mp e
  split at e
  ·cases e
   exact⟨_,_,rfl⟩
  ·split at e <;> cases e
 ·intro i W ρ H fr fs s Q E va vb le r ap hit hn post
  obtain⟨vs,e1,e⟩:=Zz0.mp hn
  obtain⟨us,e2,e⟩:=Zz0.mp e
  have hvu:vs[i]?=some va∧us[i]?=some vb:=by
   split at e
   ·rename_i x y h1 h2
    cases e
    exact⟨h1,h2⟩
   ·split at e <;> cases e
  obtain⟨_,xs,k1,g1,v1⟩:=r.at e1 (le.at ea)
  obtain⟨_,ys,k2,g2,v2⟩:=r.at e2 (le.at eb)
  obtain⟨x,hx,rx⟩:=v1.at hvu.1
  obtain⟨y,hy,ry⟩:=v2.at hvu.2
  have st:ZS z TI TO i1 i2 l1 l2 i s.heap:=hit.2 _ fun q hq=>r.frAt (Zz4 _ hq)
  have Wk:=WalksT.zip2 (prog:=prog) (w:=w) (A:=Γ.A) Γ.hh z TI TO i1 i2 l1 l2 D xs.toArray ys.toArray
  have isl1:s.heap.IsList l1 xs.toArray:=⟨_,g1,rfl,k1,rfl⟩
  have isl2:s.heap.IsList l2 ys.toArray:=⟨_,g2,rfl,k2,rfl⟩
  have hi:i<min xs.toArray.size ys.toArray.size:=by
   have h1:=(Zz6.mp hx).1
   have h2:=(Zz6.mp hy).1
   simp
   omega
  refine Wk.item i s Q E hi ⟨st.1,st.2.1,st.2.2.1,st.2.2.2.1,st.2.2.2.2,isl1,isl2⟩ fun T vals h1 t1 hp hT hTup hmid keep1=>post T h1 t1 ?_
  intro elts k pos s1 Q1 E1 es1 q1
  subst es1
  have hTw:=Wk.apart i T _ hmid
  refine Wk.go elts k pos i T _ Q1 E1 hmid fun h2 st2 keep2=>?_
  obtain⟨x',y',hx',hy',ev⟩:=hp
  have ex:x'=x:=by
   have:xs[i]?=some x':=by simpa using hx'
   rw[hx]at this
   exact(Option.some.inj this).symm
  have ey:y'=y:=by
   have:ys[i]?=some y':=by simpa using hy'
   rw[hy]at this
   exact(Option.some.inj this).symm
  subst ex ey ev
  obtain⟨fs',hit',at'⟩:=Zpe (h:=h2) (⟨st2.1,st2.2.1,st2.2.2.1,st2.2.2.2.1,st2.2.2.2.2.1⟩:ZS z TI TO i1 i2 l1 l2 (i+1) h2)
  obtain⟨oT,gT,cT,nT,dT⟩:=hTup
  refine q1 fs' h2 x' y' hit' ?_ ⟨oT,keep2 T oT hTw gT,cT,nT,dT⟩ rx ry
  refine r.swap (fs':=fs') (fun q hq t ht=>?_) (fun c o hc e=>?_) fun q hq=>⟨at' q hq,?_⟩
  ·exact ap _ (hit.1▸List.mem_map_of_mem hq) t ht
  ·rw[hit.1]at hc
   have hcw:c∉[z,TO,i1,i2]:=fun h=>hc (by simp at h ⊢;rcases h with h | h | h | h <;> simp[h])
   exact keep2 c o hcw (keep1 c o hcw e)
  ·rw[hit.1,←hit'.1]
   exact List.mem_map_of_mem hq
 ·intro i W ρ H fr fs s Q E le r ap hit hn post
  obtain⟨vs,e1,e⟩:=Zz0.mp hn
  obtain⟨us,e2,e⟩:=Zz0.mp e
  obtain⟨_,xs,k1,g1,v1⟩:=r.at e1 (le.at ea)
  obtain⟨_,ys,k2,g2,v2⟩:=r.at e2 (le.at eb)
  have hi:i=min vs.length us.length:=by
   split at e
   ·cases e
   ·split at e
    ·assumption
    ·cases e
  have st:ZS z TI TO i1 i2 l1 l2 i s.heap:=hit.2 _ fun q hq=>r.frAt (Zz4 _ hq)
  have Wk:=WalksT.zip2 (prog:=prog) (w:=w) (A:=Γ.A) Γ.hh z TI TO i1 i2 l1 l2 D xs.toArray ys.toArray
  have hm:min xs.toArray.size ys.toArray.size=i:=by simp[v1.length,v2.length,hi]
  refine Wk.done s Q E (by rw[hm];exact⟨st.1,st.2.1,st.2.2.1,st.2.2.2.1,st.2.2.2.2,⟨_,g1,rfl,k1,rfl⟩,⟨_,g2,rfl,k2,rfl⟩⟩) fun h' tk keep=>post h' tk ?_
  have:=r.swap (fs':=[]) (fun q hq t ht=>ap _ (hit.1▸List.mem_map_of_mem hq) t ht) (fun c o hc e=>keep c o (fun h=>hc (by rw[hit.1];simp at h ⊢;rcases h with h | h | h | h <;> simp[h])) e) (fun q hq=>nomatch hq)
  exact this
 ·intro i W ρ H fr fs s Q E o le r hit hn q
  obtain⟨vs,e1,e⟩:=Zz0.mp hn
  obtain⟨us,e2,e⟩:=Zz0.mp e
  obtain⟨_,xs,k1,g1,v1⟩:=r.at e1 (le.at ea)
  obtain⟨_,ys,k2,g2,v2⟩:=r.at e2 (le.at eb)
  have st:ZS z TI TO i1 i2 l1 l2 i s.heap:=hit.2 _ fun q hq=>r.frAt (Zz4 _ hq)
  have Wk:=WalksT.zip2 (prog:=prog) (w:=w) (A:=Γ.A) Γ.hh z TI TO i1 i2 l1 l2 D xs.toArray ys.toArray
  exact Wk.self i s Q E ⟨st.1,st.2.1,st.2.2.1,st.2.2.2.1,st.2.2.2.2,⟨_,g1,rfl,k1,rfl⟩,⟨_,g2,rfl,k2,rfl⟩⟩ q
theorem JI2.zip{x:Str}{np pos:Pos}{e1 e2:Expr}{f g:Ex}(hn:Nm prog w Γ x (.type "zip"))(h1:J prog w Γ e1 f)(h2:J prog w Γ e2 g)
  (he:starEach [e1,e2] Γ.env=(false,eval e1 Γ.env)::starEach [e2] Γ.env:=by rfl) (he2:starEach [e2] Γ.env=(false,eval e2 Γ.env)::starEach [] Γ.env:=by rfl) (hp:∀pos,(backTo pos (starEach [e2] Γ.env)).any (·.1)=false:=by intro _;rfl):JI2 prog w Γ (.Call (.Name x np) [e1,e2] [] pos) (ZdL f g):=by
 intro W ρ H fr s Q E nx n H' r hf post
 obtain⟨p,a1,hf⟩:=Zz0.mp hf
 obtain⟨q,a2,hf⟩:=Zz0.mp hf
 refine wpAny_Call_ofName (hn.use r ?_)
 refine PySem.Pv.callWith_type1 (wpAny_items_cons (h1 W ρ H fr s _ E _ _ r a1 fun W1 k1 t1 y1 l1 r1 v1=>?_) he) he (hp pos)
 refine wpAny_items_cons (h2 W1 ρ _ fr _ _ E _ _ r1 a2 fun W2 k2 t2 y2 l2 r2 v2=>wpAny_items_nil ?_) he2
 have v1':=v1.mono l2
 obtain⟨u1,H1⟩:=p
 obtain⟨u2,H2⟩:=q
 simp only at hf v1' v2 r2
 cases u1 <;> first | (cases hf;done) | skip
 rename_i b1
 cases u2 <;> first | (cases hf;done) | skip
 rename_i b2
 obtain⟨vs,c1,hf⟩:=Zz0.mp hf
 obtain⟨us,c2,c3⟩:=Zz1.mp hf
 cases c3
 cases v1' with
 | @ref _ m1 ea=>
 cases v2 with
 | @ref _ m2 eb=>
 obtain⟨_,xs,n1,g1,w1⟩:=r2.at c1 ea
 obtain⟨_,ys,n2,g2,w2⟩:=r2.at c2 eb
 have isl1:k2.IsList m1 xs.toArray:=⟨_,g1,rfl,n1,rfl⟩
 have isl2:k2.IsList m2 ys.toArray:=⟨_,g2,rfl,n2,rfl⟩
 refine call_zip_2 (s:={ s with heap:=k2,toks:=t2 }) isl1 isl2 fun h₁ hz hTI hTO hi1 hi2 hsz up=>?_
 have ap:=zipApart_new (n:=k2.objs.size) (Heap.lt_size g1) (Heap.lt_size g2)
 have Wk:=WalksT.zip2 (prog:=prog) (w:=w) (A:=Γ.A) Γ.hh _ _ _ _ _ m1 m2 ap xs.toArray ys.toArray
 have zs:ZS (k2.objs.size+4) (k2.objs.size+2) (k2.objs.size+3) k2.objs.size (k2.objs.size+1) m1 m2 0 h₁:=⟨hz,hTI,⟨_,_,hTO⟩,hi1,hi2⟩
 refine Wk.self 0 _ _ _ ⟨hz,hTI,⟨_,_,hTO⟩,hi1,hi2,isl1.at fun o e=>up _ o e,isl2.at fun o e=>up _ o e⟩ ?_
 obtain⟨fs,hit,at'⟩:=Zpe zs
 obtain⟨r3,ap3⟩:=r2.more (fs:=fs) (h':=h₁) (fun b o e=>up b o e) (fun q hq=>⟨at' q hq,by
  have:q.1∈fs.map (·.1):=List.mem_map_of_mem hq
  rw[hit.1]at this
  simp at this
  rcases this with e | e | e | e | e <;> rw[e] <;> omega⟩)
 refine post W2 h₁ t2 _ _ _ fs (l1.trans l2) hit r3 (fun b hb t ht=>?_) (Zu2 ea eb ap) ?_
 ·rw[←hit.1]at hb
  obtain⟨q,hq,e⟩:=Zz11.mp hb
  exact e▸ap3 q hq t ht
 ·simp only[Zgz,c1,c2,Option.bind_some]
  split
  ·exact⟨_,rfl⟩
  ·rename_i hno
   have:0=min vs.length us.length:=by
    rcases Nat.eq_zero_or_pos vs.length with z | z
    ·rw[z];simp
    ·rcases Nat.eq_zero_or_pos us.length with z' | z'
     ·rw[z'];simp
     ·exact(hno vs[0] us[0] (by simp[z]) (by simp[z'])).elim
   rw[if_pos this]
   exact⟨_,rfl⟩
theorem ZtL{x1 x2:Str}{i1 i2 kt:Nat}{p1 p2 tp:Pos}(h1:Sto prog w Γ x1 i1)(h2:Sto prog w Γ x2 i2){W:Wd}{ρ:Lc}{H:Hp}{fr:List (Addr×Obj)}{s:Shared}{Q:Unit→Shared→Prop}{E:Value→Shared→Prop}{T:Addr}{y1 y2:Value}{a b:V}(r:Rep Γ W ρ H fr s.heap)(ht:IsTup s.heap T #[y1,y2])(v1:VR W a y1)(v2:VR W b y2)
  (post:∀(h':Heap) (tk':Nat),Rep Γ W (upd (upd ρ i1 a) i2 b) H fr h'→Q () { s with heap:=h',toks:=tk' }):wpAny (model prog w) Γ.A (assign (.Tuple [.Name x1 p1,.Name x2 p2] kt tp) Γ.env (.ref T)) Q E s:=by
 refine assign_Tuple_tuple Γ.hh ht rfl rfl fun g₄ he=>?_
 have r4:=r.grown (h':=g₄) fun b o e=>he b o (Nat.ne_of_lt (Heap.lt_size e)) e
 refine assignInOrder_cons (wpAny_assign_Name (h1 W ρ H fr _ _ _ a y1 r4 v1 fun k5 t5 r5=>?_))
 refine assignInOrder_cons (wpAny_assign_Name (h2 W _ H fr _ _ _ b y2 r5 v2 fun k6 t6 r6=>?_))
 exact assignInOrder_nil (post k6 t6 r6)
theorem ZhR{x1 x2:Str}{i1 i2 kt:Nat}{p1 p2 tp pos:Pos}{it:Expr}{body:List Stmt}{g:Src}{b:Sm}(h1:Sto prog w Γ x1 i1)(h2:Sto prog w Γ x2 i2)(hg:JI2 prog w Γ it g)(hb:Ss prog w Γ body b)(hs:∀x,foldedSetIterable it Γ.env x=pure x:=by intro _;rfl):
  S1 prog w Γ (.For (.Tuple [.Name x1 p1,.Name x2 p2] kt tp) it body [] pos) (ZaL g (Zcl i1 i2) b):=by
 intro W ρ H fr s Q E r rp hf post
 obtain⟨z,e1,hf⟩:=Zz0.mp hf
 obtain⟨nx,n,H0⟩:=z
 refine wpAny_For (hg W ρ H fr s _ E nx n H0 rp e1 fun W1 k1 t1 itv as It fs l1 j1 r1 ap I1 _=>?_) hs
 refine codeAny_forLoop_any (fun k s'=>∃W' ρ' H' h' tk' j fs',s' = { s with heap:=h',toks:=tk' }∧W1.Le W'∧It j fs'∧Rep Γ W' ρ' H' (fs'++fr) h'∧Zc3 nx (Zcl i1 i2) b k j ρ' H'=some r) ?_ n ⟨W1,ρ,H0,k1,t1,0,fs,rfl,.refl _,j1,r1,hf⟩
 rintro k s' ⟨W2,ρ2,H2,k2,t2,j,fs2,rfl,l2,j2,r2,e⟩
 cases k with
 | zero=>cases e
 | succ k=>
  obtain⟨o,e2,e⟩:=Zz0.mp e
  cases o with
  | none=>
   cases e
   exact I1.done j W2 ρ2 H2 fr fs2 _ _ _ l2 r2 ap j2 e2 fun h' tk' r3=>wpAny_execs_nil (post W2 h' tk' (l1.trans l2) r3)
  | some v=>
   obtain⟨va,vb,ev⟩:=I1.pair j H2 v e2
   subst ev
   refine I1.item j W2 ρ2 H2 fr fs2 _ _ _ va vb l2 r2 ap j2 e2 fun T h3 t3 go=>?_
   obtain⟨ρ3,e3,e⟩:=Zz0.mp e
   cases e3
   obtain⟨q,e4,e⟩:=Zz0.mp e
   refine go _ _ _ _ _ _ rfl fun fs3 k3 y1 y2 j3 r3 ht w1 w2=>?_
   refine ZtL h1 h2 (s:={ s with heap:=k3,toks:=t3 }) r3 ht w1 w2 fun k4 t4 r4=>?_
   refine hb W2 _ H2 (fs3++fr) _ _ _ q r4 e4 ?_
   obtain⟨u,ρ5,H5⟩:=q
   cases u with
   | some u=>
    cases e
    exact fun W5 k5 t5 x5 l5 r5 v5=>post W5 k5 t5 x5 ((l1.trans l2).trans l5) (r5.less fun q hq=>List.mem_append_right _ hq) v5
   | none=>exact fun W5 k5 t5 l5 r5=>⟨k,Nat.lt_succ_self k,W5,ρ5,H5,k5,t5,j+1,fs3,rfl,l2.trans l5,j3,r5,e⟩
theorem Zn3{elt iter:Expr}{x x₂:Str}{px px₂ tp:Pos}{kt:Nat}{scope:Scope}{pos:Pos}{cl:List (Str×Addr)}{t t₂:Nat}{g:Src}{f:Ex}(hg:JI2 prog w Γ iter g)(hel:∀C ρ,J prog w (Zbe Γ scope cl C [(x,t),(x₂,t₂)] ρ) elt f)
  (hcell:∀y∈scope.names,y.2≠.cell) (hkind:scope.kind=.function) (hx:scope.names.lookup x=some .local) (hx₂:scope.names.lookup x₂=some .local) (hxx:x≠x₂) (htt:t≠t₂)
  {W:Wd} {ρ:Lc} {H:Hp} {fr:List (Addr×Obj)} {s:Shared} {E:Value→Shared→Prop} {q:List V×Hp} {RR:Value→Addr→Result→Shared→Prop} (r:Rep Γ W ρ H fr s.heap) (hf:((g ρ H).bind fun z=>ZcE z.1 (Zcl t t₂) Zao f ρ z.2.1 0 [] z.2.2)=some q)
  (hR:∀(W':Wd) (h':Heap) (tk':Nat) (C D:Addr) (oC:Obj) (m₂:Str→Option Value) (ys:List Value),W.Le W'→NsObj oC m₂→VRs W' q.1 ys→q.1.length≤LEN→(∀t∈fr,D≠t.1)→(∀t∈fr,C≠t.1)→C≠D→Rep Γ W' ρ q.2 ((C,oC)::(D,lst ys)::fr) h'→RR (.ref D) C (.ok .next) { s with heap:=h',toks:=tk' }):
  wpAny (model prog w) Γ.A (eval iter Γ.env) (fun xv s₁=>wpAny (model prog w) Γ.A (pyIter xv) (fun it s₂=>wpAny (model prog w) Γ.A (newList []) (fun acc s₃=>wpAny (model prog w) Γ.A (newFunctionEnv scope Γ.env.globals cl [] Γ.env.qual none .none (some Γ.env)) (fun cenv s₄=>
   codeAny (model prog w) Γ.A (.compStart (.ListComp elt [⟨.Tuple [.Name x px,.Name x₂ px₂] kt tp,iter,[],0⟩] scope pos) 0 it acc { cenv with scope:=relabel scope Γ.env }) (RR acc cenv.locals) s₄) E s₃) E s₂) E s₁) E s:=by
 obtain⟨z,e1,e2⟩:=Zz0.mp hf
 obtain⟨nx,n,H0⟩:=z
 refine hg W ρ H fr s _ E nx n H0 r e1 fun W1 k1 t1 itv as It fs l1 i1 r1 ap I1 hstart=>?_
 refine wpAny_newObj_type (wpAny_newFunctionEnv hcell (fun y hy=>by simp at hy) (fun h₂ hns hsb=>?_) hkind)
 dsimp only at hns hsb ⊢
 obtain⟨rD,aD⟩:=r1.more (fs:=[(k1.objs.size,lst [])]) (fun b o e=>Heap.get?_push_of_some (lst []) e) (fun q hq=>by rw[List.mem_singleton.mp hq];exact⟨Heap.get?_push_size _ rfl,Nat.le_refl _⟩)
 generalize eH:k1.push { cls:=.type "list",dict:=none,data:=.seq ([]:List Value).toArray } = K at hns hsb ⊢
 have eK:k1.push (lst [])=K:=eH
 rw[eK]at rD
 obtain⟨oC,gC,nC⟩:=ns_obj hns
 have up:∀b o,K.get? b=some o→h₂.get? b=some o:=fun b o e=>hsb.extBut b o (Nat.ne_of_lt (Heap.lt_size e)) (Heap.get?_push_of_some _ e)
 obtain⟨rC,aC⟩:=rD.more (fs:=[(K.objs.size,oC)]) up (fun q hq=>by rw[List.mem_singleton.mp hq];exact⟨gC,Nat.le_refl _⟩)
 have adr0:=I1.adr 0 fs i1
 have offs:∀b∈as,b≠k1.objs.size∧b≠K.objs.size:=fun b hb=>by
  rw[←adr0]at hb
  obtain⟨q,hq,e⟩:=Zz11.mp hb
  exact⟨e▸(aD _ Zz5 q (Zz4 _ hq)).symm,e▸(aC _ Zz5 q (Zz3 _ (Zz4 _ hq))).symm⟩
 have cd:K.objs.size≠k1.objs.size:=aC _ Zz5 (k1.objs.size,lst []) (Zz4 _ Zz5)
 have cfr:∀t∈fr,K.objs.size≠t.1:=fun t ht=>aC _ Zz5 t (Zz3 _ (Zz3 _ ht))
 have dfr:∀t∈fr,k1.objs.size≠t.1:=fun t ht=>aD _ Zz5 t (Zz3 _ ht)
 generalize k1.objs.size=D at *
 generalize K.objs.size=C at *
 have loop:∀s₃:Shared,s₃ = { s with heap:=h₂,toks:=t1+([]:List (Str×Value)).length } →
   codeAny (model prog w) Γ.A (.compLoop (.ListComp elt [⟨.Tuple [.Name x px,.Name x₂ px₂] kt tp,iter,[],0⟩] scope pos) 0 itv (.ref D) (compEnvC scope cl C Γ.env)) (RR (.ref D) C) s₃:=by
  intro s₃ hs₃
  subst hs₃
  refine codeAny_compLoop_pair (ZgG Γ W1 ρ fr C D It nx (Zcl t t₂) Zao f q s) ?_ n ⟨W1,H0,h₂,_,0,fs,[],[],oC,_,rfl,.refl _,i1,nC,.nil,Nat.zero_le _,rC,e2⟩
  rintro k s' ⟨W2,H2,k2,t2,j,fs2,acc,ys,oC2,m₂,rfl,l2,i2,hC2,hv2,hl2,r2,e⟩
  cases k with
  | zero=>cases e
  | succ k=>
   obtain⟨o,e4,e⟩:=Zz0.mp e
   have r2':Rep Γ W2 ρ H2 (fs2++((C,oC2)::(D,lst ys)::fr)) k2:=r2.less fun q hq=>by
    rcases Zz8.mp hq with hq | hq
    ·exact Zz2 _ (Zz2 _ (Zz4 _ hq))
    ·rcases Zz7.mp hq with e | hq
     ·exact e▸List.mem_cons_self
     ·rcases Zz7.mp hq with e | hq
      ·exact e▸List.mem_cons_of_mem _ Zz5
      ·exact Zz2 _ (Zz2 _ (Zz3 _ hq))
   have ap2:∀b∈as,∀t∈(C,oC2)::(D,lst ys)::fr,b≠t.1:=fun b hb t ht=>by
    rcases Zz7.mp ht with e | ht
    ·rw[e]
     exact(offs b hb).2
    ·rcases Zz7.mp ht with e | ht
     ·rw[e]
      exact(offs b hb).1
     ·exact ap b hb t ht
   cases o with
   | none=>
    cases e
    exact I1.done j W2 ρ H2 _ fs2 _ _ _ l2 r2' ap2 i2 e4 fun h' tk' r3=>hR W2 h' tk' C D oC2 m₂ ys (l1.trans l2) hC2 hv2 hl2 dfr cfr cd r3
   | some v=>
    obtain⟨va,vb,ev⟩:=I1.pair j H2 v e4
    subst ev
    refine I1.item j W2 ρ H2 _ fs2 _ _ _ va vb l2 r2' ap2 i2 e4 fun T h3 t3 go=>?_
    obtain⟨ρ3,e5,e⟩:=Zz0.mp e
    cases e5
    refine go _ _ _ _ _ _ rfl fun fs3 k3 y1 y2 i3 r3 htup w1 w2=>?_
    have a3:∀t∈fs3,t.1∈as:=fun t ht=>by
     rw[←I1.adr _ _ i3]
     exact List.mem_map_of_mem ht
    refine assign_Tuple_tuple (s:={ s with heap:=k3,toks:=t3 }) Γ.hh htup rfl rfl fun g₄ he=>?_
    have r3g:=r3.grown (h':=g₄) fun b o e=>he b o (Nat.ne_of_lt (Heap.lt_size e)) e
    have gC3:g₄.get? C=some oC2:=r3g.frAt (q:=(C,oC2)) (Zz3 _ Zz5)
    have nC3:g₄.Ns C m₂:=hC2.ns gC3
    refine assignInOrder_cons (wpAny_assign_Name (wpAny_storeName_local (lookup_relabel_local hx) nC3 (fun h5 hn5 sb5=>?_) (by simp[compEnvC,relabel,hkind])))
    refine assignInOrder_cons (wpAny_assign_Name (wpAny_storeName_local (lookup_relabel_local hx₂) hn5 (fun h4 hn4 sb4=>?_) (by simp[compEnvC,relabel,hkind])))
    refine assignInOrder_nil ?_
    obtain⟨oC4,gC4,nC4⟩:=ns_obj hn4
    have r3':Rep Γ W2 ρ H2 ([(C,oC2)]++((D,lst ys)::(fs3++fr))) g₄:=r3g.less fun q hq=>by
     rcases Zz8.mp hq with hq | hq
     ·rw[List.mem_singleton.mp hq]
      exact Zz3 _ Zz5
     ·rcases Zz7.mp hq with e | hq
      ·exact e▸List.mem_append_right _ (Zz2 _ Zz5)
      ·rcases Zz8.mp hq with hq | hq
       ·exact Zz4 _ hq
       ·exact Zz3 _ (Zz2 _ (Zz2 _ hq))
    have aC3:∀t∈(D,lst ys)::(fs3++fr),C≠t.1:=fun t ht=>by
     rcases Zz7.mp ht with e | ht
     ·rw[e]
      exact cd
     ·rcases Zz8.mp ht with ht | ht
      ·exact(offs _ (a3 t ht)).2.symm
      ·exact cfr t ht
    have aD3:∀t∈fs3++fr,D≠t.1:=fun t ht=>by
     rcases Zz8.mp ht with ht | ht
     ·exact(offs _ (a3 t ht)).1.symm
     ·exact dfr t ht
    have r4:Rep Γ W2 ρ H2 ([(C,oC4)]++((D,lst ys)::(fs3++fr))) h4:=by
     refine r3'.swap (fun q hq t ht=>?_) (fun b o hb e=>sb4.extBut b o (fun z=>hb (by simp[z,compEnvC])) (sb5.extBut b o (fun z=>hb (by simp[z,compEnvC])) e)) fun q hq=>?_
     ·rw[List.mem_singleton.mp hq]
      exact aC3 t ht
     ·rw[List.mem_singleton.mp hq]
      exact⟨gC4,by simp⟩
    have rc:=Zpd (scope:=scope) (cl:=cl) (ts:=[(x,t),(x₂,t₂)]) (ρ:=upd (upd ρ t va) t₂ vb) r4 aC3 nC4 (fun p hp=>by
     rcases Zz7.mp hp with e | hp
     ·rw[e]
      exact⟨va,y1,by simp[upd,htt],by simp[hxx],w1⟩
     ·rw[List.mem_singleton.mp hp]
      exact⟨vb,y2,by simp[upd],by simp,w2⟩) (fun i hi=>by
     have h1:i≠t:=fun e=>hi (x,t) Zz5 e.symm
     have h2:i≠t₂:=fun e=>hi (x₂,t₂) (Zz2 _ Zz5) e.symm
     simp[upd,h1,h2])
    exact Zoo (hel C ρ) aD3 cd l2 i3 hv2 rc e
 refine codeAny_compStart_list (loop _ rfl) ?_
 obtain⟨o0,ho0⟩:=hstart
 exact I1.self 0 W1 ρ H0 (([(C,oC)]++[(D,lst [])])++fr) fs _ _ _ o0 (.refl _) (rC.less fun q hq=>by
  rcases Zz8.mp hq with hq | hq
  ·exact Zz3 _ (Zz3 _ (Zz4 _ hq))
  ·rcases Zz8.mp hq with hq | hq
   ·rcases Zz8.mp hq with hq | hq
    ·exact Zz4 _ hq
    ·exact Zz3 _ (Zz4 _ hq)
   ·exact Zz3 _ (Zz3 _ (Zz3 _ hq))) i1 ho0 (loop _ rfl)
theorem ZtM{elt iter:Expr}{x x₂:Str}{px px₂ tp:Pos}{kt:Nat}{scope:Scope}{pos:Pos}{cl:List (Str×Addr)}{t t₂:Nat}{g:Src}{f:Ex}(hg:JI2 prog w Γ iter g)(hel:∀C ρ,J prog w (Zbe Γ scope cl C [(x,t),(x₂,t₂)] ρ) elt f)
  (hclos:closureFor scope Γ.env=pure cl) (hcell:∀y∈scope.names,y.2≠.cell) (hkind:scope.kind=.function) (hnames:∀y∈scope.names,y.2=.local→scope.names.lookup y.1=some .local) (hx:scope.names.lookup x=some .local) (hx₂:scope.names.lookup x₂=some .local) (hxx:x≠x₂) (htt:t≠t₂) (hs:∀x,foldedSetIterable iter Γ.env x=pure x:=by intro _;rfl):
  J prog w Γ (.ListComp elt [⟨.Tuple [.Name x px,.Name x₂ px₂] kt tp,iter,[],0⟩] scope pos) (ZaJ g (Zcl t t₂) Zao f):=by
 intro W ρ H fr s Q E v H' r hf post
 obtain⟨z,e1,hf⟩:=Zz0.mp hf
 obtain⟨q,e2,e3⟩:=Zz1.mp hf
 cases e3
 rw[eval_ListComp]
 refine wpAny_comprehension_free (use:=Option.none) rfl hs hclos hkind hnames ?_
 refine Zn3 (RR:=fun acc C=>compPost (model prog w) Γ.A E Option.none Q acc C) hg hel hcell hkind hx hx₂ hxx htt r (q:=q) (by rw[e1];exact e2) fun W2 h' tk' C D oC m₂ ys l2 hC hv hl aD aC cd r3=>?_
 refine⟨m₂,hC.ns (r3.frAt (q:=(C,oC)) Zz5),fun h'' sb=>?_⟩
 obtain⟨W5,l5,r5,v5⟩:=ZoK hv hl aD aC cd r3 sb
 exact post W5 h'' tk' _ (l2.trans l5) r5 v5
end
end PM
end
section
namespace PM
open PySem PySem.W PySem.Calls PyProof.Rows PyProof PySem.Spec
theorem Zu3{prog:Program}{w:World}{A A₀:Around}{s:Shared}{base h₀:Heap}{L:Addr}{m:Str→Option Value}{lent:List (Addr×Obj)}{K:Frag}{p:Program}{loose:List Str}{mean:ExcName→Option Value}{mg mb:Str→Option Value}
  {env:Env} {outer:List Env} {R:Result→Shared→Prop} {name qual:Str} {params:Arguments} {body:List Stmt} {scope:Scope} {dV kV doc pm cdv ct oc:Value} {an od:Option Addr} {osl:Array (Option Value)} {f:Addr} {args:Args} {binds:List (Str×Value)}
  (B:Below A₀ base outer h₀) (F:Fr h₀ L s.heap m) (X₀:K.In h₀) (N:News h₀ L s.heap lent) (T:Top p loose mean mg mb h₀) (hA:A.frames=some (env::outer)) (hf:env.frame=some L) (hke:env.scope.kind=.function)
  (ho:K.lookup f=some ⟨oc,od,.func (fnOf name qual params body scope dV kV doc pm an cdv ct),osl⟩) (hcd:codeIn K cdv qual=true) (hroom:A.depth<recursionLimit)
  (hbind:BindsTo s (fnOf name qual params body scope dV kV doc pm an cdv ct) args binds) (hall:(binds.all fun y=>scope.names.lookup y.1 == some .local || scope.names.lookup y.1 == some .cell)=true) (hone:((cellsFrom 0 scope.names []).map (·.1)).Nodup)
  (h:∀g L' h₁ tk cells,(∀b o,s.heap.get? b=some o→b∉lent.map (·.1)→g.get? b=some o)→Fr g L' h₁ (bindL (envOfC qual scope L' f cdv).kindOf binds fun _=>none)→News g L' h₁ (cells++lent)→CellsAre (bindC (envOfC qual scope L' f cdv).kindOf binds fun _=>none) (cellsFrom (L'+1) scope.names []) cells →
   (cellsFrom (L'+1) scope.names []).Pairwise (fun x y=>x.2≠y.2)→(∀n c,(n,c)∈cellsFrom (L'+1) scope.names []→L'<c)→Below A base (env::outer) g→K.In g→Top p loose mean mg mb g→(∀q∈lent,q.1<L')→s.heap.objs.size≤L' →
   wpAny (model prog w) (A.deeper (envOfC qual scope L' f cdv)) (execs body (envOfC qual scope L' f cdv)) (fun fl s'=>LeaveK h₀ L m g R (match fl with | .ret v=>v | _=>.none) s')
    (fun e s'=>wpAny (model prog w) (A.deeper (envOfC qual scope L' f cdv)) (leaving (envOfC qual scope L' f cdv) e) (fun _ s''=>R (.error e) s'') (fun e' s''=>R (.error e') s'') s') { s with heap:=h₁,toks:=tk })
  (hco:scope.isCoroutine=false) (hgen:scope.isGenerator=false) (hk:scope.kind=.function):codeAny (model prog w) A (.call (.ref f) args) R s:=by
 obtain⟨FG,BG,st,lv⟩:=groundX (R:=R) B F N hA hf hke
 have X:=X₀.keeps F.keep
 refine codeAny_call_function (fd:=fnOf name qual params body scope dV kV doc pm an cdv ct) hroom (X _ _ ho) rfl hco hgen rfl (codeRec_of X hcd) (hbind _ _ _ _ ?_)
 refine wpAny_newFunctionEnv_cells hk (kindsX hall _) fun fresh hfr s' inC=>?_
 subst hfr
 have up:=inC.toInCall.keep
 refine⟨(T.nolimit.keeps F.keep).keeps up,codeAny_func ?_⟩
 obtain⟨h₁,tk,hs',_⟩:=inC.done
 subst hs'
 have nod:=cellsFrom_names scope.names 0 (s.heap.objs.size+1) [] [] rfl▸hone
 obtain⟨cells,NC,Y⟩:=Cl.news (h₀:=s.heap) (L:=s.heap.objs.size) (Zz10 _) fun n c hm=>⟨inC.cell n c (lookup_of_mem_nodup nod hm),inC.above n c hm⟩
 have old:∀q∈lent,q.1<s.heap.objs.size:=fun q hq=>Heap.lt_size (N q hq).1
 refine wpAny_mono (h _ s.heap.objs.size h₁ tk cells (fun b o e nb=>hideAll_get _ e nb) ⟨inC.toInCall.ns,fun b o e=>up b o (of_hideAll _ e),Nat.le_of_eq (hideAll_size _ _)⟩ (fun q hq=>?_) Y inC.apart inC.above BG (X₀.keeps st) (T.keeps st) old (Zz10 _)) (fun fl s' hl=>lv _ _ hl) fun _ _ y=>y
 rcases Zz8.mp hq with hq | hq
 ·obtain⟨c1,c2,c3⟩:=NC q hq
  refine⟨c1,c2,?_⟩
  cases e:(hideAll s.heap (lent.map (·.1))).get? q.1 with
  | none=>rfl
  | some o=>
   have z:=of_hideAll _ e
   rw[c3]at z
   cases z
 ·exact⟨up _ _ (N q hq).1,Nat.ne_of_lt (old q hq),hideAll_none _ (List.mem_map_of_mem hq)⟩
section
variable (prog:Program) (w:World) (K:Frag) (p:Program) (loose:List Str) (mean:ExcName→Option Value) (mg mb:Str→Option Value)
def Clr(Γ:Cx)(dp un:Nat): Prop:=∃(gd:Option (List Code)) (cn:Str) (cs:Scope) (a:Addr) (ccd:Value) (cl:List (Str×Addr)) (outer:List Env) (A₀:Around) (base:Heap),
 Γ.A=ktrTop dp un gd cn cs Γ.L a ccd cl outer∧Below A₀ base outer Γ.h₀∧K.In Γ.h₀∧Top p loose mean mg mb Γ.h₀∧cs.kind=.function
def Def(f:Addr)(room:Nat)(F:List V→Hp→Option (V×Hp)): Prop:=∀(Γ:Cx) (dp un:Nat),Clr K p loose mean mg mb Γ dp un→dp+room<recursionLimit→un+10*room+300<cLine →
 ∀(W:Wd) (ρ:Lc) (H:Hp) (fr:List (Addr×Obj)) (s:Shared) (Q E:Value→Shared→Prop) (as:List V) (xs:List Value) (v:V) (H':Hp),
  Rep Γ W ρ H fr s.heap→VRs W as xs→F as H=some (v,H')→ZgE Γ W ρ H' fr s Q v→wpAny (model prog w) Γ.A (call (.ref f) xs) Q E s
end
noncomputable def Z5(n:Nat)(g:Sm): List V→Hp→Option (V×Hp):=fun as H=>if as.length=n then(g (fun i=>as[i]?) H).map fun r=>((r.1.getD .none),r.2.2)else none
theorem Zsk{kindOf:Str→Option NameKind}: ∀{ps:List Str} {xs:List Value} {m:Str→Option Value} {x:Str} {i:Nat} {y:Value},ps.Nodup→ps[i]?=some x→xs[i]?=some y→kindOf x=some .local→bindL kindOf (ps.zip xs) m x=some y:=by
 have skip:∀{ps:List Str} {xs:List Value} {m:Str→Option Value} {x:Str},x∉ps→bindL kindOf (ps.zip xs) m x=m x:=by
  intro ps
  induction ps with
  | nil=>intro xs m x _;rfl
  | cons p ps ih=>
   intro xs m x hx
   cases xs with
   | nil=>rfl
   | cons z xs=>
    simp only[List.zip_cons_cons,bindL]
    rw[ih (fun h=>hx (Zz2 _ h))]
    have:x≠p:=fun e=>hx (e▸List.mem_cons_self)
    split <;> simp[this]
 intro ps
 induction ps with
 | nil=>intro xs m x i y _ h;simp at h
 | cons p ps ih=>
  intro xs m x i y nd hp hx hk
  cases xs with
  | nil=>simp at hx
  | cons z xs=>
   obtain⟨n1,n2⟩:=List.nodup_cons.mp nd
   cases i with
   | zero=>
    simp at hp hx
    subst hp hx
    simp only[List.zip_cons_cons,bindL]
    rw[skip n1,if_pos hk]
    simp
   | succ i=>
    simp at hp hx
    simp only[List.zip_cons_cons,bindL]
    exact ih n2 hp hx hk
theorem Zsl{kindOf:Str→Option NameKind}: ∀{ps:List Str} {xs:List Value} {m:Str→Option Value} {x:Str} {i:Nat} {y:Value},ps.Nodup→ps[i]?=some x→xs[i]?=some y→kindOf x=some .cell→bindC kindOf (ps.zip xs) m x=some y:=by
 have skip:∀{ps:List Str} {xs:List Value} {m:Str→Option Value} {x:Str},x∉ps→bindC kindOf (ps.zip xs) m x=m x:=by
  intro ps
  induction ps with
  | nil=>intro xs m x _;rfl
  | cons p ps ih=>
   intro xs m x hx
   cases xs with
   | nil=>rfl
   | cons z xs=>
    simp only[List.zip_cons_cons,bindC]
    rw[ih (fun h=>hx (Zz2 _ h))]
    have:x≠p:=fun e=>hx (e▸List.mem_cons_self)
    split <;> simp[this]
 intro ps
 induction ps with
 | nil=>intro xs m x i y _ h;simp at h
 | cons p ps ih=>
  intro xs m x i y nd hp hx hk
  cases xs with
  | nil=>simp at hx
  | cons z xs=>
   obtain⟨n1,n2⟩:=List.nodup_cons.mp nd
   cases i with
   | zero=>
    simp at hp hx
    subst hp hx
    simp only[List.zip_cons_cons,bindC]
    rw[skip n1,if_neg (by rw[hk];simp)]
    simp
   | succ i=>
    simp at hp hx
    simp only[List.zip_cons_cons,bindC]
    exact ih n2 hp hx hk
theorem Zgh{cm:Str→Option Value}: ∀{cs:List (Str×Addr)} {cells:List (Addr×Obj)} {x:Str} {c:Addr},CellsAre cm cs cells→(x,c)∈cs→∃o,(c,o)∈cells∧o.data=.cell (cm x)
 | _,_,_,_,.nil,h=>nomatch h
 | _,_,_,_,.cons hd r,h=>by
  rcases Zz7.mp h with e | h
  ·cases e
   exact⟨_,List.mem_cons_self,hd⟩
  ·obtain⟨o,h1,h2⟩:=Zgh r h
   exact⟨o,List.mem_cons_of_mem _ h1,h2⟩
theorem Zpf{cm:Str→Option Value}: ∀{cs:List (Str×Addr)} {cells:List (Addr×Obj)} {q:Addr×Obj},CellsAre cm cs cells→q∈cells→∃x,(x,q.1)∈cs
 | _,_,_,.nil,h=>nomatch h
 | _,_,_,.cons hd r,h=>by
  rcases Zz7.mp h with e | h
  ·cases e
   exact⟨_,List.mem_cons_self⟩
  ·obtain⟨x,h1⟩:=Zpf r h
   exact⟨x,List.mem_cons_of_mem _ h1⟩
theorem Zdv{α β:Type}[BEq α][LawfulBEq α]: ∀{l:List (α×β)} {x:α} {y:β},l.lookup x=some y→(x,y)∈l
 | [],_,_,h=>by simp at h
 | (a,b)::r,x,y,h=>by
  rw[List.lookup_cons]at h
  split at h
  ·rename_i e
   cases h
   have:=eq_of_beq e
   subst this
   exact Zz5
  ·exact Zz2 _ (Zdv h)
end PM
end
section
namespace PM
open PySem PySem.W PySem.Calls PyProof.Rows PyProof PySem.Spec
section
variable {prog:Program} {w:World} {K:Frag} {p:Program} {loose:List Str} {mean:ExcName→Option Value} {mg mb:Str→Option Value}
theorem Zmu{name qual:Str}{params:Arguments}{body:List Stmt}{scope:Scope}{dV kV doc pm cdv ct oc:Value}{an od:Option Addr}{osl:Array (Option Value)}{f:Addr}{names:List Str}{n room:Nat}{g:Sm}
  (ho:K.lookup f=some ⟨oc,od,.func (fnOf name qual params body scope dV kV doc pm an cdv ct),osl⟩) (hcd:codeIn K cdv qual=true) (nd:names.Nodup) (hn:n≤names.length)
  (hbind:∀s xs,xs.length=n→BindsTo s (fnOf name qual params body scope dV kV doc pm an cdv ct) ⟨xs,[]⟩ ((names.take n).zip xs)) (hkinds:∀x∈names.take n,scope.names.lookup x=some .local∨scope.names.lookup x=some .cell) (hone:((cellsFrom 0 scope.names []).map (·.1)).Nodup)
  (hco:scope.isCoroutine=false) (hgen:scope.isGenerator=false) (hk:scope.kind=.function)
  (hbody:∀(dp un:Nat) (gd:Option (List Code)) (L:Addr) (outer:List Env) (h₀:Heap) (hu:un+200<cLine),Clr K p loose mean mg mb (ZbE dp un gd qual scope L f cdv (cellsFrom (L+1) scope.names []) outer h₀ hu names) dp un→dp+room<recursionLimit→un+10*room+300<cLine →
   Ss prog w (ZbE dp un gd qual scope L f cdv (cellsFrom (L+1) scope.names []) outer h₀ hu names) body g):
  Def prog w K p loose mean mg mb f (room+1) (Z5 n g):=by
 intro Γ dp un clr hd hu W ρ H fr s Q E as xs v H' r hx hF post
 obtain⟨gd,cn,cs,a,ccd,cl,outer,A₀,base,eA,B,X,T,hke⟩:=clr
 unfold Z5 at hF
 split at hF
 ·rename_i hlen
  obtain⟨res,e1,e2⟩:=Zz1.mp hF
  obtain⟨o,ρ',K'⟩:=res
  cases e2
  obtain⟨m,c,led,r⟩:=r
  have hxl:xs.length=n:=by rw[hx.length,hlen]
  have inn:∀q∈led,(q.1∈W.pi∨q.1∈W.tups.map (·.1))↔q∈led.filter (fun q=>decide (q.1∈W.pi∨q.1∈W.tups.map (·.1))):=fun q hq=>⟨fun h=>List.mem_filter.mpr ⟨hq,by simpa using h⟩,fun h=>by simpa using (List.mem_filter.mp h).2⟩
  have isub:∀q∈led.filter (fun q=>decide (q.1∈W.pi∨q.1∈W.tups.map (·.1))),q∈led:=fun q hq=>(List.mem_filter.mp hq).1
  generalize hlent:led.filter (fun q=>decide (q.1∈W.pi∨q.1∈W.tups.map (·.1)))=lent at inn isub
  have notin:∀q∈led,q.1∉W.pi→(∀t∈W.tups,q.1≠t.1)→q.1∉lent.map (·.1):=fun q hq h1 h2 h3=>by
   obtain⟨t,ht,e⟩:=Zz11.mp h3
   rcases(inn t (isub t ht)).mpr ht with z | z
   ·exact h1 (e▸z)
   ·obtain⟨u,hu,e'⟩:=Zz11.mp z
    exact h2 u hu (e▸e'.symm)
  rw[eA]
  refine wpAny_call ?_
  refine Zu3 (env:=envX cn cs Γ.L a ccd cl) (lent:=lent) B r.F X (fun q hq=>r.N q (isub q hq)) T rfl rfl hke ho hcd (by show dp<recursionLimit;omega) (hbind s xs hxl) ?_ hone ?_ hco hgen hk
  ·refine List.all_eq_true.mpr fun y hy=>?_
   rcases hkinds y.1 (List.of_mem_zip hy).1 with h | h <;> simp[h]
  intro g0 L' h₁ tk cells stay F' N' Y ap ab B' X' T' old szL
  have hu':(un+3)+200<cLine:=by omega
  have clr':Clr K p loose mean mg mb (ZbE (dp+1) (un+3) gd qual scope L' f cdv (cellsFrom (L'+1) scope.names []) (envX cn cs Γ.L a ccd cl::outer) g0 hu' names) (dp+1) (un+3):=
   ⟨gd,qual,scope,f,cdv,cellsFrom (L'+1) scope.names [],envX cn cs Γ.L a ccd cl::outer,_,base,rfl,B',X',T',hk⟩
  have below:∀q∈cells,L'<q.1:=fun q hq=>by
   obtain⟨x,hx⟩:=Zpf Y hq
   exact ab x _ hx
  have piLt:∀b∈W.pi,b<L':=fun b hb=>by
   obtain⟨o,ho⟩:=r.piIn b hb
   exact Nat.lt_of_lt_of_le (Heap.lt_size (r.get ho)) szL
  have tuLt:∀t∈W.tups,t.1<L':=fun t ht=>Nat.lt_of_lt_of_le (Heap.lt_size (r.get (r.R.tups t ht))) szL
  have scN:W.sc.1∉lent.map (·.1):=fun z=>by
   obtain⟨t,ht,e⟩:=Zz11.mp z
   exact r.notSc t (isub t ht) e
  have tkn:∀{i:Nat} {x:Str} {u:V},names[i]?=some x→as[i]?=some u→(names.take n)[i]?=some x∧∃y,xs[i]?=some y∧VR W u y:=fun {i x u} h1 h2=>by
   have hi:i<n:=by rw[←hlen];exact(Zz6.mp h2).1
   exact⟨by rw[List.getElem?_take_of_lt hi];exact h1,hx.at h2⟩
  have ndt:(names.take n).Nodup:=nd.sublist (List.take_sublist _ _)
  have rep:Rep (ZbE (dp+1) (un+3) gd qual scope L' f cdv (cellsFrom (L'+1) scope.names []) (envX cn cs Γ.L a ccd cl::outer) g0 hu' names) W (fun i=>as[i]?) H [] h₁:=by
   refine⟨_,cells,cells++lent,⟨F',N',⟨r.R.len,r.R.nd,fun i vs e=>?_,fun q hq=>?_,r.R.kind⟩,stay _ _ (r.F.keep _ _ r.sc) scN,r.sc0,fun q hq=>(nomatch hq),fun q hq=>(nomatch hq),fun q hq=>List.mem_append_left _ hq,fun q hq z=>?_,fun q _ t ht=>(nomatch ht),fun q hq=>(nomatch hq),fun q hq t ht=>?_,⟨fun i x u hi hk1 hu1=>?_,fun i x u hi hk1 hu1=>?_,fun x c1 hc=>?_,fun x y c1 h1 h2=>?_⟩⟩⟩
   ·obtain⟨l,b,ys,k,h1,h2,h3⟩:=r.R.lists i vs e
    exact⟨l,b,ys,k,h1,Zd6 h2 fun z=>List.mem_append_right _ ((inn _ z).mp (.inl (List.mem_of_getElem? h1))),h3⟩
   ·exact Zd6 (r.R.tups q hq) fun z=>List.mem_append_right _ ((inn _ z).mp (.inr (List.mem_map_of_mem hq)))
   ·exact absurd (Nat.lt_trans (piLt _ z) (below q hq)) (Nat.lt_irrefl _)
   ·exact Nat.ne_of_gt (Nat.lt_trans (tuLt t ht) (below q hq))
   ·obtain⟨h1,y,h2,h3⟩:=tkn hi hu1
    exact⟨y,Zsk ndt h1 h2 hk1,h3⟩
   ·obtain⟨h1,y,h2,h3⟩:=tkn hi hu1
    have hs:=cellsFrom_some scope.names (L'+1) [] (.inl hk1)
    obtain⟨c1,hc1⟩:=Option.isSome_iff_exists.mp hs
    obtain⟨o1,ho1,hd1⟩:=Zgh Y (Zdv hc1)
    refine⟨c1,o1,y,hc1,ho1,?_,h3⟩
    rw[hd1,Zsl ndt h1 h2 hk1]
   ·obtain⟨o1,ho1,hd1⟩:=Zgh Y (Zdv hc)
    exact⟨o1,_,ho1,hd1⟩
   ·exact name_of_addr ap (Zdv h1) (Zdv h2)
  have hb:=hbody (dp+1) (un+3) gd L' (envX cn cs Γ.L a ccd cl::outer) g0 hu' clr' (by omega) (by omega)
  have back:∀(W':Wd) (h':Heap) (tk':Nat) (x:Value),W.Le W'→Rep (ZbE (dp+1) (un+3) gd qual scope L' f cdv (cellsFrom (L'+1) scope.names []) (envX cn cs Γ.L a ccd cl::outer) g0 hu' names) W' ρ' K' [] h'→VR W' (o.getD .none) x →
    LeaveK Γ.h₀ Γ.L m g0 (fun r s'=>match r with | .ok (.ret v)=>Q v s' | .ok _=>False | .error e=>E e s') x { s with heap:=h',toks:=tk' }:=by
   intro W' h' tk' x l' r' x'
   obtain⟨m',c',led',r'⟩:=r'
   refine⟨L',m',led',r'.F,r'.N,fun FG NG=>post W' h' tk' x l' ?_ x'⟩
   have g0at:∀q∈led,q.1∉lent.map (·.1)→g0.get? q.1=some q.2:=fun q hq hn=>stay _ _ (r.N q hq).1 hn
   have frN:∀q∈fr,q.1∉lent.map (·.1):=fun q hq=>notin q (r.frIn q hq) (r.frOff q hq) (r.frTup q hq)
   have clN:∀q∈c,q.1∉lent.map (·.1):=fun q hq=>notin q (r.clIn q hq) (r.clOff q hq) (r.clTup q hq)
   have newN:∀t∈led',g0.get? t.1=none:=fun t ht=>(r'.N t ht).2.2
   have far:∀q∈led,q.1∉lent.map (·.1)→∀t∈W'.sc::led',q.1≠t.1:=fun q hq hn t ht e=>by
    rcases Zz7.mp ht with e2 | ht
    ·rw[e2,l'.sc]at e
     exact r.notSc q hq e
    ·have:=g0at q hq hn
     rw[e,newN t ht]at this
     cases this
   have farPi:∀q∈led,q.1∉lent.map (·.1)→q.1∉W'.pi:=fun q hq hn z=>by
    obtain⟨o2,h2⟩:=r'.piIn _ z
    exact far q hq hn _ h2 rfl
   have keep:∀q∈led,q.1∉lent.map (·.1)→q∈led'++led.filter (fun q=>decide (q.1∉lent.map (·.1))):=fun q hq hn=>List.mem_append_right _ (List.mem_filter.mpr ⟨hq,by simpa using hn⟩)
   refine⟨m,c,led'++led.filter (fun q=>decide (q.1∉lent.map (·.1))),⟨FG,fun q hq=>?_,r'.R.mono fun q hq=>Zfq hq fun x hx=>List.mem_append_left _ hx,l'.sc▸r.sc,r'.sc0,fun q hq=>keep q (r.frIn q hq) (frN q hq),fun q hq=>farPi q (r.frIn q hq) (frN q hq),fun q hq=>keep q (r.clIn q hq) (clN q hq),fun q hq=>farPi q (r.clIn q hq) (clN q hq),r.apart,fun q hq t ht=>far q (r.frIn q hq) (frN q hq) t (r'.R.tups t ht),fun q hq t ht=>far q (r.clIn q hq) (clN q hq) t (r'.R.tups t ht),Γ.mono l' r.own⟩⟩
   rcases Zz8.mp hq with hq | hq
   ·exact NG q hq
   ·obtain⟨h1,h2⟩:=List.mem_filter.mp hq
    exact⟨r'.F.keep _ _ (g0at q h1 (by simpa using h2)),(r.N q h1).2⟩
  refine hb W _ H [] _ _ _ (o,ρ',K') rep e1 ?_
  cases o with
  | none=>exact fun W' h' tk' l' r'=>back W' h' tk' .none l' r' .none
  | some v0=>exact fun W' h' tk' x l' r' x'=>back W' h' tk' x l' r' x'
 ·cases hF
theorem ZtN{Γ:Cx}{dp un:Nat}{x:Str}{np pos:Pos}{f:Addr}{room:Nat}{e:Expr}{es:List Expr}{g:Exs}{o:List V→Hp→Option (V×Hp)}(clr:Clr K p loose mean mg mb Γ dp un)(hn:Nm prog w Γ x (.ref f))(hkeep:keepIn K (.ref f)=true)(D:Def prog w K p loose mean mg mb f room o)(hd:dp+room<recursionLimit)(hu:un+10*room+300<cLine)
  (h:Js prog w Γ (e::es) g) (he:starEach (e::es) Γ.env=(false,eval e Γ.env)::starEach es Γ.env:=by rfl) (hp:∀pos,(backTo pos (starEach es Γ.env)).any (·.1)=false:=by intro _;rfl):J prog w Γ (.Call (.Name x np) (e::es) [] pos) (Zr o g):=by
 intro W ρ H fr s Q E v H' r hf post
 obtain⟨q,e1,hf⟩:=Zz0.mp hf
 have X:K.In Γ.h₀:=by
  obtain⟨_,_,_,_,_,_,_,_,_,_,_,X,_⟩:=clr
  exact X
 refine wpAny_Call_ofName (hn.use r ?_)
 refine callWith_K (first:=[]) X hkeep (h pos W ρ H fr s _ E _ _ r e1 fun W1 k1 t1 xs l1 r1 x1=>⟨?_,?_⟩) he (hp pos)
 ·obtain⟨m,c,led,r1⟩:=r1
  exact X.keeps r1.F.keep
 ·exact D Γ dp un clr hd hu W1 ρ _ fr _ Q E _ xs v H' r1 x1 hf fun W2 k2 t2 y l2 r2 y2=>post W2 k2 t2 y (l1.trans l2) r2 y2
theorem Zcc{Γ:Cx}{dp un:Nat}{scope:Scope}{cl:List (Str×Addr)}{C:Addr}{ts:List (Str×Nat)}{ρ0:Lc}(h:Clr K p loose mean mg mb Γ dp un): Clr K p loose mean mg mb (Zbe Γ scope cl C ts ρ0) dp un:=h
end
end PM
end
section
namespace PM
open PySem PySem.W PySem.Calls PyProof.Rows PyProof PySem.Spec
theorem Zjb{lo:Nat}: ∀(names:List (Str×NameKind)) (n:Nat) (acc:List (Str×Addr)),acc.Pairwise (fun x y=>x.2≠y.2)→(∀q∈acc,lo<q.2∧q.2<n)→lo<n→(cellsFrom n names acc).Pairwise (fun x y=>x.2≠y.2)∧∀q∈cellsFrom n names acc,lo<q.2
 | [],n,acc,h1,h2,_=>⟨h1,fun q hq=>(h2 q hq).1⟩
 | (y,k)::r,n,acc,h1,h2,h3=>by
  unfold cellsFrom
  by_cases hk:(k == .cell)=true
  ·rw[if_pos hk]
   refine Zjb r (n+1) ((y,n)::acc) (List.pairwise_cons.mpr ⟨fun q hq=>Nat.ne_of_gt (h2 q hq).2,h1⟩) (fun q hq=>?_) (Nat.lt_succ_of_lt h3)
   rcases Zz7.mp hq with e | hq
   ·rw[e]
    exact⟨h3,Nat.lt_succ_self n⟩
   ·exact⟨(h2 q hq).1,Nat.lt_succ_of_lt (h2 q hq).2⟩
  ·rw[if_neg hk]
   exact Zjb r n acc h1 h2 h3
theorem Zsm{P:Params}{h:Heap}{a:Addr}{ns:List Int}(w1:Well P h (.ref a) (ofPy (.list (ns.map PyData.int))))(W:Wd): ∃vs,h.get? a=some (ZbM vs 0)∧VRs W (ns.map V.int) vs:=by
 have key:∀{ns:List Int} {vs:List Value} {xs:List WData},xs=(ns.map PyData.int).map ofPy→WellAll P h vs xs→VRs W (ns.map V.int) vs:=by
  intro ns
  induction ns with
  | nil=>intro vs xs e h;subst e;cases h;exact .nil
  | cons n ns ih=>
   intro vs xs e h
   subst e
   cases h with
   | cons h1 h2=>
    cases h1 with
    | int i t=>exact .cons (.int _ _) (ih rfl h2)
 have e:ofPy (.list (ns.map PyData.int))=.list ((ns.map PyData.int).map ofPy):=by rw[ofPy,ofPys_eq]
 rw[e]at w1
 cases w1 with
 | list hg ha=>exact⟨_,hg,key rfl ha⟩
section
variable {prog:Program} {w:World} {K:Frag} {p:Program} {loose:List Str} {mean:ExcName→Option Value} {mg mb:Str→Option Value}
theorem ZtO{P:Params}{h₀:Heap}{s:Shared}{sa fa:Addr}{cd:Value}{ns:List Int}{qual pname:Str}{scope:Scope}{body:List Stmt}{names:List Str}{g:Sm}{cells:List (Addr×Obj)}{Q:Flow→Shared→Prop}{E:Value→Shared→Prop}{room:Nat}{H':Hp}
  (hbody:∀(dp un:Nat) (gd:Option (List Code)) (L a:Addr) (ccd:Value) (outer:List Env) (h₀:Heap) (hu:un+200<cLine),Clr K p loose mean mg mb (ZbE dp un gd qual scope L a ccd (cellsFrom (L+1) scope.names []) outer h₀ hu names) dp un→dp+room<recursionLimit→un+10*room+300<cLine →
   Ss prog w (ZbE dp un gd qual scope L a ccd (cellsFrom (L+1) scope.names []) outer h₀ hu names) body g)
  (hd:callerA.depth+1+room<recursionLimit) (hun:callerA.units+3+10*room+300<cLine) (hk:scope.kind=.function) (h0:names[0]?=some pname)
  (KX:K.In h₀) (T:Top p loose mean mg mb h₀) (w1:Well P h₀ (.ref sa) (ofPy (.list (ns.map PyData.int)))) (hlen:ns.length≤LEN)
  (F:Fr h₀ h₀.objs.size s.heap (bindL (envOfC qual scope h₀.objs.size fa cd).kindOf [(pname,.ref sa)] fun _=>none)) (N:News h₀ h₀.objs.size s.heap cells) (X0:CellsAre (bindC (envOfC qual scope h₀.objs.size fa cd).kindOf [(pname,.ref sa)] fun _=>none) (cellsFrom (h₀.objs.size+1) scope.names []) cells)
  (hg:Z5 1 g [.ref 0] [ns.map V.int]=some (.bool true,H')) (post:∀h' tk' m',Fr h₀ h₀.objs.size h' m'→Q (.ret (.bool true)) { s with heap:=h',toks:=tk' }):
  wpAny (model prog w) (callerA.deeper (envOfC qual scope h₀.objs.size fa cd)) (execs body (envOfC qual scope h₀.objs.size fa cd)) Q E s:=by
 have hu':(callerA.units+3)+200<cLine:=by omega
 have clr:Clr K p loose mean mg mb (ZbE (callerA.depth+1) (callerA.units+3) callerA.guards qual scope h₀.objs.size fa cd (cellsFrom (h₀.objs.size+1) scope.names []) [] h₀ hu' names) (callerA.depth+1) (callerA.units+3):=
  ⟨callerA.guards,qual,scope,fa,cd,cellsFrom (h₀.objs.size+1) scope.names [],[],_,_,rfl,below_caller h₀,KX,T,hk⟩
 have hb:=hbody (callerA.depth+1) (callerA.units+3) callerA.guards h₀.objs.size fa cd [] h₀ hu' clr hd hun
 obtain⟨vs,hsc,hv⟩:=Zsm w1 ⟨[sa],[],(sa,ZbM [] 0)⟩
 have hv':VRs ⟨[sa],[],(sa,ZbM vs 0)⟩ (ns.map V.int) vs:=by
  clear hg post w1 hlen hsc
  generalize ns.map V.int=us at hv
  have key:∀{us:List V} {xs:List Value},VRs ⟨[sa],[],(sa,ZbM [] 0)⟩ us xs→VRs ⟨[sa],[],(sa,ZbM vs 0)⟩ us xs:=by
   intro us
   induction us with
   | nil=>intro xs h;cases h;exact .nil
   | cons u us ih=>
    intro xs h
    cases h with
    | cons a b=>
     refine .cons ?_ (ih b)
     cases a with
     | none=>exact .none
     | bool b=>exact .bool b
     | int i t=>exact .int i t
     | str s t=>exact .str s t
     | tup hm _ _=>exact nomatch hm
     | ref e=>exact .ref e
  exact key hv
 have far:=Zjb (lo:=h₀.objs.size) scope.names (h₀.objs.size+1) [] .nil (fun q hq=>nomatch hq) (Nat.lt_succ_self _)
 unfold Z5 at hg
 rw[if_pos (show([V.ref 0]:List V).length=1 from rfl)]at hg
 obtain⟨res,e1,e2⟩:=Zz1.mp hg
 obtain⟨o,ρ',K'⟩:=res
 have eo:o=some (.bool true):=by
  cases o with
  | none=>simp at e2
  | some v=>simp at e2;rw[e2.1]
 subst eo
 have pick:∀{i:Nat} {x:Str} {u:V},names[i]?=some x→([V.ref 0]:List V)[i]?=some u→x=pname∧u=.ref 0:=fun {i x u} h1 h2=>by
  have hi:i<1:=(Zz6.mp h2).1
  have:i=0:=by omega
  subst this
  rw[h0]at h1
  simp at h1 h2
  exact⟨h1.symm,h2.symm⟩
 have rep:Rep (ZbE (callerA.depth+1) (callerA.units+3) callerA.guards qual scope h₀.objs.size fa cd (cellsFrom (h₀.objs.size+1) scope.names []) [] h₀ hu' names) ⟨[sa],[],(sa,ZbM vs 0)⟩ (fun i=>[V.ref 0][i]?) [ns.map V.int] [] s.heap:=by
  refine⟨_,cells,cells,⟨F,N,⟨rfl,by simp,fun i us e=>?_,fun q hq=>(nomatch hq),fun q hq=>(nomatch hq)⟩,hsc,rfl,fun q hq=>(nomatch hq),fun q hq=>(nomatch hq),fun q hq=>hq,fun q hq z=>?_,fun q _ t ht=>(nomatch ht),fun q hq=>(nomatch hq),fun q hq t ht=>(nomatch ht),⟨fun i x u hi hk1 hu1=>?_,fun i x u hi hk1 hu1=>?_,fun x c1 hc=>?_,fun x y c1 h1 h2=>?_⟩⟩⟩
  ·have hi:i<1:=(Zz6.mp e).1
   have:i=0:=by omega
   subst this
   simp at e
   subst e
   exact⟨by simpa using hlen,sa,vs,0,rfl,List.mem_cons_self,hv'⟩
  ·have:=(N q hq).2.2
   rw[List.mem_singleton.mp z,hsc]at this
   cases this
  ·obtain⟨e3,e4⟩:=pick hi hu1
   subst e3 e4
   refine⟨.ref sa,?_,.ref rfl⟩
   show bindL _ _ _ _=_
   unfold bindL bindL
   rw[if_pos (show(envOfC qual scope h₀.objs.size fa cd).kindOf x=some .local from hk1)]
   simp
  ·obtain⟨e3,e4⟩:=pick hi hu1
   subst e3 e4
   have hs:=cellsFrom_some scope.names (h₀.objs.size+1) [] (.inl hk1)
   obtain⟨c1,hc1⟩:=Option.isSome_iff_exists.mp hs
   obtain⟨o1,ho1,hd1⟩:=Zgh X0 (Zdv hc1)
   refine⟨c1,o1,.ref sa,hc1,ho1,?_,.ref rfl⟩
   rw[hd1]
   unfold bindC bindC
   rw[if_neg (show ¬(envOfC qual scope h₀.objs.size fa cd).kindOf x=some .local by show ¬scope.names.lookup x=some .local;rw[hk1];simp)]
   simp
  ·obtain⟨o1,ho1,hd1⟩:=Zgh X0 (Zdv hc)
   exact⟨o1,_,ho1,hd1⟩
  ·exact name_of_addr far.1 (Zdv h1) (Zdv h2)
 refine hb _ _ _ [] s Q E _ rep e1 ?_
 intro W' h' tk' x l' r' x'
 cases x' with
 | bool _=>
  obtain⟨m',c',led',r'⟩:=r'
  exact post h' tk' m' r'.F
end
end PM
end
section
namespace PM
open PySem PySem.W PySem.Calls PyProof.Rows PyProof PyProof.Rows.LCg PyProof.Rows.LSm
theorem Rep.listAt{Γ:Cx}{W:Wd}{ρ:Lc}{H:Hp}{fr:List (Addr×Obj)}{h h':Heap}{vs:List V}{xs:List Value}{k:Nat}(r:Rep Γ W ρ H fr h)(up:∀b o,h.get? b=some o→h'.get? b=some o)(hg:h'.get? h.objs.size=some (ZbM xs k))(hv:VRs W vs xs)(hl:vs.length≤LEN):
  ∃W',W.Le W'∧Rep Γ W' ρ (H++[vs]) fr h'∧VR W' (.ref H.length) (.ref h.objs.size):=by
 obtain⟨r2,ap⟩:=r.more (fs:=[(h.objs.size,ZbM xs k)]) up (fun q hq=>by rw[List.mem_singleton.mp hq];exact⟨hg,Nat.le_refl _⟩)
 exact ZfZ r2 (fun t ht=>ap _ Zz5 t ht) hv hl
noncomputable def Zcp: List V→Hp→Option (V×Hp)
 | [.ref a],H=>H[a]?.map fun vs=>(.ref H.length,H++[vs])
 | [.tup vs],H=>some (.ref H.length,H++[vs])
 | _,_=>none
noncomputable def Zff: List V→Hp→Option (V×Hp)
 | [.ref a],H=>H[a]?.map fun vs=>(.tup vs,H)
 | [.tup vs],H=>some (.tup vs,H)
 | _,_=>none
noncomputable def Zfg: List V→Option (List Bool)
 | []=>some []
 | .bool b::vs=>(Zfg vs).map fun bs=>b::bs
 | _::_=>none
noncomputable def Zwy: List V→Hp→Option (V×Hp)
 | [.ref a],H=>H[a]?.bind fun vs=>(Zfg vs).map fun bs=>(.bool (bs.all id),H)
 | _,_=>none
noncomputable def ZgH: List V→Hp→Option (V×Hp)
 | [.ref a],H=>H[a]?.bind fun vs=>(Zfg vs).map fun bs=>(.bool (bs.any id),H)
 | _,_=>none
theorem Zrm{W:Wd}: ∀{vs:List V} {xs:List Value} {bs:List Bool},VRs W vs xs→Zfg vs=some bs→BoolsAre xs bs:=by
 intro vs
 induction vs with
 | nil=>intro xs bs h e;cases h;cases e;exact .nil
 | cons v vs ih=>
  intro xs bs h e
  cases h with
  | cons a b=>
   cases v with
   | bool c=>
    obtain⟨cs,e1,e2⟩:=Zz1.mp e
    subst e2
    cases a
    exact .cons _ (ih b e1)
   | none=>cases e
   | int _=>cases e
   | str _=>cases e
   | tup _=>cases e
   | ref _=>cases e
section
variable {prog:Program} {w:World}
theorem Zdd: OpN prog w (fun xs=>call (.type "list") xs) Zcp:=by
 intro Γ W ρ H fr s Q E as xs v H' r hx ho post
 unfold Zcp at ho
 split at ho
 ·obtain⟨vs,e1,e2⟩:=Zz1.mp ho
  cases e2
  obtain⟨x,ex,rx⟩:=hx.one
  subst ex
  cases rx with
  | @ref _ a ea=>
   obtain⟨hl,ys,k,hg,hv⟩:=r.at e1 ea
   refine call_list_seq (hsz:=ZcX (by rw[List.size_toArray,hv.length];exact hl)) a (.inl rfl) hg rfl rfl fun h' c' up hg'=>?_
   obtain⟨W2,l2,r2,v2⟩:=r.listAt up hg' hv hl
   exact post W2 h' s.toks _ l2 r2 v2
 ·cases ho
  obtain⟨x,ex,rx⟩:=hx.one
  subst ex
  cases rx with
  | @tup _ a ys k hm hl hv=>
   refine call_list_seq (hsz:=ZcX (by rw[List.size_toArray,hv.length];exact hl)) a (.inr rfl) (r.tupAt hm) rfl rfl fun h' c' up hg'=>?_
   obtain⟨W2,l2,r2,v2⟩:=r.listAt up hg' hv hl
   exact post W2 h' s.toks _ l2 r2 v2
 ·cases ho
theorem Zsn: OpN prog w (fun xs=>call (.type "tuple") xs) Zff:=by
 intro Γ W ρ H fr s Q E as xs v H' r hx ho post
 unfold Zff at ho
 split at ho
 ·obtain⟨vs,e1,e2⟩:=Zz1.mp ho
  cases e2
  obtain⟨x,ex,rx⟩:=hx.one
  subst ex
  cases rx with
  | @ref _ a ea=>
   obtain⟨hl,ys,k,hg,hv⟩:=r.at e1 ea
   have isl:s.heap.IsList a ys.toArray:=⟨_,hg,rfl,k,rfl⟩
   refine call_tuple_list isl (fun h' up=>?_) (ZcX (by rw[List.size_toArray,hv.length];exact hl))
   obtain⟨W2,l2,r2,v2⟩:=(r.grown up).tuple (k:=0) hv hl
   exact post W2 _ s.toks _ l2 r2 v2
 ·cases ho
  obtain⟨x,ex,rx⟩:=hx.one
  subst ex
  cases rx with
  | @tup _ a ys k hm hl hv=>
   have it:IsTup s.heap a ys.toArray:=⟨_,r.tupAt hm,rfl,k,rfl⟩
   exact call_tuple_tup it (post W s.heap s.toks _ (.refl W) r (.tup hm hl hv))
 ·cases ho
theorem Zu4: OpN prog w (fun xs=>call (.builtin "any") xs) ZgH:=by
 intro Γ W ρ H fr s Q E as xs v H' r hx ho post
 unfold ZgH at ho
 split at ho
 ·obtain⟨vs,e1,e2⟩:=Zz0.mp ho
  obtain⟨bs,e3,e4⟩:=Zz1.mp e2
  cases e4
  obtain⟨x,ex,rx⟩:=hx.one
  subst ex
  cases rx with
  | @ref _ a ea=>
   obtain⟨hl,ys,k,hg,hv⟩:=r.at e1 ea
   have isl:s.heap.IsList a ys.toArray:=⟨_,hg,rfl,k,rfl⟩
   obtain⟨m,c,led,r'⟩:=r
   exact any_bools r'.F r'.N Γ.hh isl (Zrm hv e3) fun h' tk F' N'=>post W h' tk _ (.refl W) (r'.same F' N') (.bool _)
 ·cases ho
end
section
variable {prog:Program} {w:World} {K:Frag} {p:Program} {loose:List Str} {mean:ExcName→Option Value} {mg mb:Str→Option Value} {Γ:Cx} {dp un:Nat}
theorem Zu5{x:Str}{v:Value}(clr:Clr K p loose mean mg mb Γ dp un)(e:nsIn K mainGlobals x=some (some v))(hg:Γ.env.globals=mainGlobals)(hk:Γ.env.scope.kind=.function)(hx:Γ.env.kindOf x=some .globalImplicit)(hd:(x == ("__debug__":Str))=false): Nm prog w Γ x v:=by
 obtain⟨_,_,_,_,_,_,_,_,_,_,_,X,T,_⟩:=clr
 intro pos m s Q E F q
 exact Name_function_global hk hx (loadGlobal_global (env:=Γ.env) (by rw[hg];exact T.g.keeps F.keep) (mg_of X T.g e) q) hd
theorem Zs0{x:Str}{v:Value}(clr:Clr K p loose mean mg mb Γ dp un)(e:nsIn K mainGlobals x=some none)(hv:bootBuiltins x=some v)(hn:x≠"__name__")(hg:Γ.env.globals=mainGlobals)(hb:Γ.env.builtins=builtinsNs)(hk:Γ.env.scope.kind=.function)(hx:Γ.env.kindOf x=some .globalImplicit)(hd:(x == ("__debug__":Str))=false): Nm prog w Γ x v:=by
 obtain⟨_,_,_,_,_,_,_,_,_,_,_,X,T,_⟩:=clr
 intro pos m s Q E F q
 exact Name_function_global hk hx (loadGlobal_builtin (env:=Γ.env) (by rw[hg];exact T.g.keeps F.keep) (mg_none_of X T.g e) (by rw[hb];exact T.b.keeps F.keep) ((T.builtins x hn).trans hv) q) hd
end
section
variable {prog:Program} {w:World} {Γ:Cx} {scope:Scope} {cl:List (Str×Addr)} {C:Addr} {ts:List (Str×Nat)} {ρ0:Lc}
theorem ZtP{x:Str}{t:Nat}(hm:(x,t)∈ts)(hk:scope.kind=.function)(hl:(compEnvC scope cl C Γ.env).kindOf x=some .local)(hd:(x == ("__debug__":Str))=false): Rd prog w (Zbe Γ scope cl C ts ρ0) x t:=by
 intro W ρ H fr s Q E v pos r e q
 obtain⟨m,c,led,r⟩:=r
 obtain⟨oC,m₂,cs,ec,h0,h1,h2,h3,h4⟩:=r.own
 obtain⟨v',y,e1,e2,e3⟩:=h2 _ hm
 rw[e]at e1
 cases e1
 exact LCgL.ld_own r.N (r.clIn _ (by rw[ec];exact Zz5)) h1 e2 (q y e3) hk hl hd
end
section
variable {prog:Program} {w:World} {dp un:Nat} {gd:Option (List Code)} {cn:Str} {cs:Scope} {L a:Addr} {ccd:Value} {clf:List (Str×Addr)} {outer:List Env} {h₀:Heap} {hu:un+200<cLine} {names:List Str} {scope:Scope} {cl:List (Str×Addr)} {C:Addr} {ts:List (Str×Nat)} {ρ0:Lc}
theorem ZtQ{x:Str}{i:Nat}(hi:names[i]?=some x)(hx:cs.names.lookup x=some .cell)(hne:∀p∈ts,p.2≠i)(hcl:cl.lookup x=clf.lookup x)(hk:scope.kind=.function)(hl:(compEnvC scope cl C (envX cn cs L a ccd clf)).kindOf x=some .cell)(hd:(x == ("__debug__":Str))=false):
  Rd prog w (Zbe (ZbE dp un gd cn cs L a ccd clf outer h₀ hu names) scope cl C ts ρ0) x i:=by
 intro W ρ H fr s Q E v pos r e q
 obtain⟨m,c,led,r⟩:=r
 obtain⟨oC,m₂,cs',ec,h0,h1,h2,h3,h4⟩:=r.own
 rw[h3 i hne]at e
 obtain⟨d,o,y,g1,g2,g3,g4⟩:=h4.cel i x v hi hx e
 exact kcf_cell r.N (hcl.trans g1) (r.clIn _ (by rw[ec];exact Zz2 _ g2)) g3 (q y g4) hk hl hd
end
end PM
end
section
namespace My
open PySem PySem.W PySem.Calls PyProof.Rows PySem.Spec
structure Cell(v:Int): Prop where
 bits:Builtin.Int.intBits v≤2 ^ 20
theorem bits_zero: Builtin.Int.intBits 0≤2 ^ 20:=by unfold Builtin.Int.intBits;simp
theorem cell_at{ns:List Int}(h:PyData.layable0 (.list (ns.map .int))=true)(i:Int): Cell (cellAt ns i 0):=by
 refine⟨?_⟩
 rw[cellAt_def,List.getD_eq_getElem?_getD]
 cases e:ns[i.toNat]? with
 | none=>exact bits_zero
 | some v=>exact PyData.bits_item_of_ints h (List.mem_of_getElem? e)
section
variable {prog:Program} {w:World} {A:Around} {E:Value→Shared→Prop} {s:Shared} {x y:Int} {t u:Tok} {Q:Value→Shared→Prop}
@[irreducible] noncomputable def T9: Int:=10 ^ 9
theorem T9_eq: T9=1000000000:=by unfold T9;decide +kernel
end
end My
end
section
/-! Reckoning with the plain machine. -/
namespace PM
open PySem PySem.W PyProof.Rows
section
variable (ρ:Lc) (H:Hp)
@[simp] theorem Zs1: Zgy ρ H=some (none,H):=rfl
@[simp] theorem Zs2(f:Ex): ZmQ f ρ H=(f ρ H).map fun p=>(some p.1,p.2):=rfl
end
section
variable (a b:Int) (H:Hp)
end
theorem Zp7{b:Int}(hb:0≤b): Builtin.Range.rangeSize 0 b 1=b:=by
 unfold Builtin.Range.rangeSize
 rw[if_pos (by decide)]
 by_cases h:(0:Int)<b
 ·rw[if_pos h]
  omega
 ·rw[if_neg h]
  omega
theorem Zu6{b:Int}{H:Hp}(hb:0≤b)(hb9:b≤1000): Zco 0 b 1 H=some (Zfe 0 1 b.toNat,b.toNat+1,H):=by
 unfold Zco rngN
 rw[Zp7 hb,if_pos]
 refine⟨by decide,?_,hb,by rw[Zbh];omega,?_⟩
 ·unfold Builtin.Range.small
  rw[Zp7 hb]
  simp only[Builtin.Range.rangeFitsLong,Bool.and_eq_true,Bool.or_eq_true,decide_eq_true_eq,beq_iff_eq]
  rw[if_pos (by decide)]
  simp only[Bool.and_eq_true,decide_eq_true_eq]
  by_cases h:(0:Int)<b
  ·refine⟨⟨⟨⟨?_,?_⟩,?_⟩,?_⟩,Or.inr ?_⟩ <;> omega
  ·refine⟨⟨⟨⟨?_,?_⟩,?_⟩,?_⟩,?_⟩ <;> first | omega | (left;omega)
 ·exact PyProof.noPylong_small (by omega)
end PM
end
section
namespace PM
open PySem PySem.W PyProof.Rows My
theorem ZoL{a b:Int}(h:IntMulOk a b): mulOk a b=true:=by
 unfold IntMulOk at h
 unfold mulOk
 cases e:(decide (Builtin.Int.intBits a>shortFactorBits) && decide (Builtin.Int.intBits b>shortFactorBits) && Builtin.Int.intTooBig (Builtin.Int.intBits a+Builtin.Int.intBits b))with
 | true=>exact absurd e h
 | false=>rfl
theorem ZmR{a b:Int}{H:Hp}(h:0≤b∧(Builtin.Int.intBits a:Int)*b≤2 ^ 27): oPow (.int a) (.int b) H=some (.int (a ^ b.toNat),H):=by simp only[oPow];rw[if_pos h]
theorem ZvZ(H:Hp): oPow (.int 10) (.int 9) H=some (.int T9,H):=by rw[ZmR (by decide +kernel)];unfold T9;rfl
end PM
end
section
namespace PM
open PySem PySem.W PyProof.Rows My
section
variable {ρ ρ1 ρ2:Lc} {H H1 H2 H3:Hp}
theorem Zu7{k:Int}: Zk k ρ H=some (.int k,H):=rfl
theorem ZtR{f g:Ex}{a:Nat}{k:Int}{n:Nat}{vs:List V}(h1:f ρ H=some (.ref a,H1))(h2:g ρ H1=some (.int k,H2))(e:H2[a]?=some vs)(hk:k=(n:Int)): Zmq f (ZmQ g) Zgy ρ H=some (.ref H2.length,H2++[vs.drop n]):=by
 simp only[Zmq,h1,Option.bind_some,Zs2,h2,Option.map_some,Zs1,Zgx,e]
 rw[Zsg vs hk]
end
end PM
end
section
namespace PM
open PySem PySem.W PyProof.Rows PyProof
noncomputable def Zdm(f:Ex)(k:Nat): Ex:=fun ρ H=>(f ρ H).bind fun p=>match p.1 with
 | .ref i=>p.2[i]?.bind fun vs=>some (.ref p.2.length,p.2++[vs.drop k])
 | .tup vs=>if 1≤k∧k≤vs.length then some (.tup (vs.drop k),p.2)else none
 | _=>none
section
variable {prog:Program} {w:World} {Γ:Cx}
theorem Zgo{e lo:Expr}{p pos:Pos}{f:Ex}{k:Nat}(h:J prog w Γ e f)(hlo:J prog w Γ lo (Zk k))(ht:∀o r,letTemporaryGo e o r=pure ():=by intro _ _;rfl): J prog w Γ (.Subscript e (.Slice (Option.some lo) Option.none Option.none p) pos) (Zdm f k):=by
 intro W ρ H fr s Q E v H' r hf post
 obtain⟨⟨v1,H1⟩,e1,hf⟩:=Zz0.mp hf
 cases v1 with
 | none=>cases hf
 | bool _=>cases hf
 | int _=>cases hf
 | str _=>cases hf
 | ref i=>
  obtain⟨vs,e2,e3⟩:=Zz0.mp hf
  refine ZtH h (JP.some hlo) JP.none ht W ρ H fr s Q E v H' r ?_ post
  rw[ZtR (n:=k) e1 Zu7 e2 rfl]
  exact e3
 | tup vs=>
  simp only at hf
  by_cases c:1≤k∧k≤vs.length
  ·rw[if_pos c]at hf
   cases hf
   refine wpAny_Subscript_Slice (T:="tuple") slot_tuple_getitem.lookup (h W ρ H fr s _ E _ _ r e1 fun W1 k1 t1 x l1 r1 x1=>?_) ht
   refine wpAny_Slice ?_
   refine wpAny_evalPart_some (hlo W1 ρ _ fr _ _ E _ _ r1 rfl fun W2 k2 t2 y l2 r2 y2=>?_)
   refine wpAny_evalPart_none ?_
   refine wpAny_evalPart_none ?_
   cases y2 with
   | int _ u=>
    have x2:=x1.mono l2
    cases x2 with
    | @tup _ a ys kk hm hl hs=>
     have it:IsTup k2 a ys.toArray:=⟨_,r2.tupAt hm,rfl,kk,rfl⟩
     have it':IsTup (k2.push { cls:=.type "slice",data:=.fields #[.int k u,.none,.none] }) a ys.toArray:=it.keeps fun _ _ e=>Heap.get?_push_of_some _ e
     have hlen:=hs.length
     rw[Zbh]at hl
     refine⟨it'.typeIs,getItem_tuple_from it' (Heap.IsSliceOf.new ..) c.1 (by simp[hlen];exact c.2) ?_ (ZcX (by simp[hlen];rw[Zbh];exact hl))⟩
     obtain⟨W4,l4,r4,v4⟩:=(r2.push { cls:=.type "slice",data:=.fields #[.int k u,.none,.none] }).tuple (k:=0) (hs.drop k) (by rw[Zbh];simp;omega)
     have:=post W4 _ t2 _ ((l1.trans l2).trans l4) r4 v4
     simpa using this
  ·rw[if_neg c]at hf
   cases hf
end
section
variable {ρ:Lc} {H:Hp} {Q:V→Hp→Prop}
theorem Zp8{a b c:Int}(hc:0<c)(hb:a<b): Builtin.Range.rangeSize a b c=(b-a-1) / c+1:=by
 unfold Builtin.Range.rangeSize
 rw[if_pos hc,if_pos hb]
theorem Zu8{a b c:Int}{H:Hp}(ha:0≤a)(hb:a<b)(hb9:b≤1000)(hc:0<c)(hc9:c≤1000): Zco a b c H=some (Zfe a c (rngN a b c),rngN a b c+1,H):=by
 have e:=Zp8 hc hb
 have h0:0≤(b-a-1) / c:=Int.ediv_nonneg (by omega) (by omega)
 have h2:(b-a-1) / c≤b-a-1:=Int.ediv_le_self _ (by omega)
 unfold Zco
 rw[if_pos]
 refine⟨by omega,?_,by omega,by unfold rngN;rw[Zbh];omega,PyProof.noPylong_small (by omega)⟩
 unfold Builtin.Range.small
 rw[e]
 simp only[Builtin.Range.rangeFitsLong,Bool.and_eq_true,Bool.or_eq_true,decide_eq_true_eq,beq_iff_eq]
 rw[if_pos hc]
 simp only[Bool.and_eq_true,decide_eq_true_eq]
 refine⟨⟨⟨⟨?_,?_⟩,?_⟩,?_⟩,?_⟩ <;> first | omega | (left;omega) | (right;omega)
end
end PM
end
section
namespace PM
open PySem PySem.W PyProof.Rows PyProof My
section
variable {ρ:Lc} {H:Hp} {Q:V→Hp→Prop} {L:List V→Hp→Prop}
end
noncomputable def od: Option Int→PyData
 | none=>.none
 | some k=>.int k
theorem ZnK{a:Int}{k:Nat}(h:Builtin.Int.intBits a≤k): a.natAbs<2 ^ k:=by
 unfold Builtin.Int.intBits at h
 by_cases z:a=0
 ·subst z
  exact Nat.two_pow_pos k
 ·rw[if_neg (by simpa using z)]at h
  exact Nat.lt_of_lt_of_le Nat.lt_log2_self (Nat.pow_le_pow_right (by decide) h)
theorem Zs3{a b:Int}{k:Nat}(ha:Builtin.Int.intBits a≤k)(hb:Builtin.Int.intBits b≤k): Builtin.Int.intBits (a+b)≤k+1:=by
 refine PyProof.Rows.intBits_le ?_
 have h1:=ZnK ha
 have h2:=ZnK hb
 rw[Nat.pow_succ]
 omega
theorem ZoM{a b:Int}(ha:Builtin.Int.intBits a≤2 ^ 21)(hb:Builtin.Int.intBits b≤2 ^ 21): mulOk a b=true:=by
 have e:(2:Nat) ^ 21=2097152:=by decide
 have h:Builtin.Int.intTooBig (Builtin.Int.intBits a+Builtin.Int.intBits b)=false:=by
  unfold Builtin.Int.intTooBig bitsLine
  exact decide_eq_false (by omega)
 unfold mulOk
 rw[h]
 simp
theorem Zso{a b:Int}(h1:-(2 ^ 64)<b)(h2:b<2 ^ 64): mulOk a b=true:=ZoL (IntMulOk.of_right (intBits_le_64 h1 h2))
theorem ZrJ{a b:Int}(h1:-(2 ^ 64)<a)(h2:a<2 ^ 64): mulOk a b=true:=ZoL (IntMulOk.of_left (intBits_le_64 h1 h2))
@[irreducible] noncomputable def M9: Int:=48271 ^ Int.toNat 9
@[irreducible] noncomputable def T40: Int:=10 ^ Int.toNat 40
theorem Zu9(H:Hp): oPow (.int 48271) (.int 9) H=some (.int M9,H):=by rw[ZmR (by decide +kernel)];unfold M9;rfl
theorem Zva(H:Hp): oPow (.int 10) (.int 40) H=some (.int T40,H):=by rw[ZmR (by decide +kernel)];unfold T40;rfl
theorem Zh7: T40=10000000000000000000000000000000000000000:=by unfold T40;decide +kernel
theorem ZtS: Builtin.Int.intBits M9≤2 ^ 21:=by
 unfold M9
 exact Nat.le_trans (PyProof.Rows.intBits_le (k:=256) (by decide +kernel)) (by decide)
section
variable {H:Hp} {Q:V→Hp→Prop} {a b:Int}
end
end PM
end
section
/-! The tree machine: values without places; lists that nobody else holds may be changed. -/
namespace TM
open PySem PM
inductive T where
 | none
 | bool (b:Bool)
 | int (i:Int)
 | str (s:Str)
 | tup (ts:List T)
 | lst (ts:List T)
mutual
inductive RF(H:Hp): V→T→List Nat→Prop where
 | none:RF H .none .none []
 | bool (b:Bool):RF H (.bool b) (.bool b) []
 | int (i:Int):RF H (.int i) (.int i) []
 | str (s:Str):RF H (.str s) (.str s) []
 | tup {vs:List V} {ts:List T} {F:List Nat}:RFs H vs ts F→RF H (.tup vs) (.tup ts) F
 | ref {a:Nat} {vs:List V} {ts:List T} {F:List Nat}:H[a]?=some vs→RFs H vs ts F→RF H (.ref a) (.lst ts) (a::F)
inductive RFs(H:Hp): List V→List T→List Nat→Prop where
 | nil:RFs H [] [] []
 | cons {v:V} {t:T} {F:List Nat} {vs:List V} {ts:List T} {G:List Nat}:RF H v t F→RFs H vs ts G→RFs H (v::vs) (t::ts) (F++G)
end
mutual
theorem RF.frame{H H':Hp}{v:V}{t:T}{F:List Nat}(r:RF H v t F)(h:∀a∈F,H'[a]?=H[a]?): RF H' v t F:=by
 cases r with
 | none=>exact .none
 | bool b=>exact .bool b
 | int i=>exact .int i
 | str s=>exact .str s
 | tup hs=>exact .tup (RFs.frame hs h)
 | ref e hs=>exact .ref ((h _ Zz5).trans e) (RFs.frame hs fun a m=>h a (Zz2 _ m))
theorem RFs.frame{H H':Hp}{vs:List V}{ts:List T}{F:List Nat}(r:RFs H vs ts F)(h:∀a∈F,H'[a]?=H[a]?): RFs H' vs ts F:=by
 cases r with
 | nil=>exact .nil
 | cons a b=>exact .cons (RF.frame a fun x m=>h x (Zz4 _ m)) (RFs.frame b fun x m=>h x (Zz3 _ m))
end
mutual
theorem RF.lt{H:Hp}{v:V}{t:T}{F:List Nat}(r:RF H v t F): ∀a∈F,a<H.length:=by
 cases r with
 | none=>intro a m;cases m
 | bool b=>intro a m;cases m
 | int i=>intro a m;cases m
 | str s=>intro a m;cases m
 | tup hs=>exact RFs.lt hs
 | ref e hs=>
  intro x m
  rcases Zz7.mp m with rfl | m
  ·exact(Zz6.mp e).1
  ·exact RFs.lt hs x m
theorem RFs.lt{H:Hp}{vs:List V}{ts:List T}{F:List Nat}(r:RFs H vs ts F): ∀a∈F,a<H.length:=by
 cases r with
 | nil=>intro a m;cases m
 | cons a b=>
  intro x m
  rcases Zz8.mp m with m | m
  ·exact RF.lt a x m
  ·exact RFs.lt b x m
end
theorem RF.ext{H:Hp}{v:V}{t:T}{F:List Nat}(r:RF H v t F)(X:Hp): RF (H++X) v t F:=r.frame fun a m=>List.getElem?_append_left (r.lt a m)
theorem RFs.ext{H:Hp}{vs:List V}{ts:List T}{F:List Nat}(r:RFs H vs ts F)(X:Hp): RFs (H++X) vs ts F:=r.frame fun a m=>List.getElem?_append_left (r.lt a m)
theorem RFs.length{H:Hp}: ∀{vs:List V} {ts:List T} {F:List Nat},RFs H vs ts F→vs.length=ts.length
 | _,_,_,.nil=>rfl
 | _,_,_,.cons _ r=>by rw[List.length_cons,List.length_cons,r.length]
theorem RFs.append{H:Hp}: ∀{vs us:List V} {ts ss:List T} {F G:List Nat},RFs H vs ts F→RFs H us ss G→RFs H (vs++us) (ts++ss) (F++G)
 | _,_,_,_,_,_,.nil,h=>h
 | _,_,_,_,_,_,.cons a r,h=>by rw[List.append_assoc];exact .cons a (r.append h)
theorem RFs.one{H:Hp}{v:V}{t:T}{F:List Nat}(r:RF H v t F): RFs H [v] [t] F:=by
 have:=RFs.cons r RFs.nil
 rwa [List.append_nil]at this
theorem RFs.snoc{H:Hp}{vs:List V}{ts:List T}{F G:List Nat}{v:V}{t:T}(r:RFs H vs ts F)(x:RF H v t G): RFs H (vs++[v]) (ts++[t]) (F++G):=r.append (.one x)
theorem RFs.at{H:Hp}: ∀{vs:List V} {ts:List T} {F:List Nat} {i:Nat} {t:T},RFs H vs ts F→ts[i]?=some t→∃v G,vs[i]?=some v∧RF H v t G∧G.Sublist F
 | _,_,_,_,_,.nil,e=>by simp at e
 | _,_,_,0,_,.cons a _,e=>by
  simp at e
  exact⟨_,_,by simp,e▸a,List.sublist_append_left _ _⟩
 | _,_,_,i+1,_,.cons _ r,e=>by
  simp at e
  obtain⟨x,G,hx,hr,hs⟩:=r.at e
  exact⟨x,G,by simpa using hx,hr,hs.trans (List.sublist_append_right _ _)⟩
theorem RFs.drop{H:Hp}: ∀{vs:List V} {ts:List T} {F:List Nat} (i:Nat),RFs H vs ts F→∃G,RFs H (vs.drop i) (ts.drop i) G∧G.Sublist F
 | _,_,_,0,h=>⟨_,h,List.Sublist.refl _⟩
 | _,_,_,_+1,.nil=>⟨_,.nil,List.Sublist.refl _⟩
 | _,_,_,i+1,.cons _ r=>by
  obtain⟨G,h1,h2⟩:=r.drop i
  exact⟨G,h1,h2.trans (List.sublist_append_right _ _)⟩
theorem RFs.split{H:Hp}: ∀{vs:List V} {ts:List T} {F:List Nat} {i:Nat} {t:T},RFs H vs ts F→ts[i]?=some t →
  ∃v G F1 F2,vs[i]?=some v∧RF H v t G∧F=F1++(G++F2)∧∀(H':Hp) (w:V) (t':T) (G':List Nat),RF H' w t' G'→(∀a∈F1,H'[a]?=H[a]?)→(∀a∈F2,H'[a]?=H[a]?)→RFs H' (vs.set i w) (ts.set i t') (F1++(G'++F2))
 | _,_,_,_,_,.nil,e=>by simp at e
 | _,_,_,0,_,.cons (G:=G1) a r,e=>by
  simp at e
  subst e
  exact⟨_,_,[],G1,by simp,a,by simp,fun H' w t' G' x _ h2=>by simpa using RFs.cons x (r.frame h2)⟩
 | _,_,_,i+1,_,.cons (F:=F0) a r,e=>by
  simp at e
  obtain⟨v,G,F1,F2,h1,h2,h3,h4⟩:=r.split e
  refine⟨v,G,F0++F1,F2,by simpa using h1,h2,by rw[h3];simp,fun H' w t' G' x k1 k2=>?_⟩
  have:=RFs.cons (a.frame fun b m=>k1 b (Zz4 _ m)) (h4 H' w t' G' x (fun b m=>k1 b (Zz3 _ m)) k2)
  simpa using this
theorem ZoN{α:Type}{xs:List α}{i:Nat}{x:α}(h:xs[i]?=some x): xs.set i x=xs:=by
 obtain⟨hi,e⟩:=Zz6.mp h
 rw[←e]
 exact List.set_getElem_self hi
theorem nd3{F1 G F2 G' Gn:List Nat}(nd:(F1++(G++F2)).Nodup)(n':G'.Nodup)(sub:∀a∈G',a∈G∨a∈Gn)(ds:∀a∈Gn,a∉F1++(G++F2)): (F1++(G'++F2)).Nodup:=by
 rw[List.nodup_append,List.nodup_append]at nd ⊢
 obtain⟨a1,⟨a2,a3,a4⟩,a5⟩:=nd
 refine⟨a1,⟨n',a3,fun x hx y hy e=>?_⟩,fun x hx y hy e=>?_⟩
 ·rcases sub x hx with m | m
  ·exact a4 x m y hy e
  ·exact ds x m (Zz3 _ (Zz3 _ (e▸hy)))
 ·rcases Zz8.mp hy with m | m
  ·rcases sub y m with q | q
   ·exact a5 x hx y (Zz4 _ q) e
   ·exact ds y q (Zz4 _ (e▸hx))
  ·exact a5 x hx y (Zz3 _ m) e
theorem in3{F1 G F2 G' Gn:List Nat}(sub:∀a∈G',a∈G∨a∈Gn): ∀a∈F1++(G'++F2),a∈F1++(G++F2)∨a∈Gn:=by
 intro a m
 rcases Zz8.mp m with m | m
 ·exact .inl (Zz4 _ m)
 ·rcases Zz8.mp m with m | m
  ·exact(sub a m).imp (fun q=>List.mem_append_right _ (Zz4 _ q)) id
  ·exact .inl (Zz3 _ (Zz3 _ m))
mutual
noncomputable def T.flat: T→Bool
 | .lst _=>false
 | .tup ts=>T.flats ts
 | .none=>true
 | .bool _=>true
 | .int _=>true
 | .str _=>true
noncomputable def T.flats: List T→Bool
 | []=>true
 | t::ts=>t.flat && T.flats ts
end
mutual
theorem RF.flat{H:Hp}{v:V}{t:T}{F:List Nat}(r:RF H v t F)(h:t.flat=true): F=[]:=by
 cases r with
 | none=>rfl
 | bool b=>rfl
 | int i=>rfl
 | str s=>rfl
 | tup hs=>exact RFs.flats hs (by simpa [T.flat]using h)
 | ref e hs=>simp[T.flat]at h
theorem RFs.flats{H:Hp}{vs:List V}{ts:List T}{F:List Nat}(r:RFs H vs ts F)(h:T.flats ts=true): F=[]:=by
 cases r with
 | nil=>rfl
 | cons a b=>
  simp only[T.flats,Bool.and_eq_true]at h
  rw[RF.flat a h.1,RFs.flats b h.2]
  rfl
end
noncomputable def T.flatIn: T→Bool
 | .lst ts=>T.flats ts
 | t=>t.flat
noncomputable def ZcG(f:List T→Option (List T)): List Int→T→Option T
 | [],.lst ts=>(f ts).map .lst
 | k::ks,.lst ts=>(seqIndex? k ts.length).bind fun j=>ts[j]?.bind fun t=>(ZcG f ks t).map fun u=>.lst (ts.set j u)
 | k::ks,.tup ts=>(seqIndex? k ts.length).bind fun j=>ts[j]?.bind fun t=>(ZcG f ks t).map fun u=>.tup (ts.set j u)
 | _,_=>none
inductive Lead(H:Hp): List Int→V→Nat→Prop where
 | nil {a:Nat}:Lead H [] (.ref a) a
 | ref {k:Int} {ks:List Int} {b:Nat} {vs:List V} {j:Nat} {v:V} {a:Nat}:H[b]?=some vs→seqIndex? k vs.length=some j→vs[j]?=some v→Lead H ks v a→Lead H (k::ks) (.ref b) a
 | tup {k:Int} {ks:List Int} {vs:List V} {j:Nat} {v:V} {a:Nat}:seqIndex? k vs.length=some j→vs[j]?=some v→Lead H ks v a→Lead H (k::ks) (.tup vs) a
theorem Zfk{H:Hp}{Gn:List Nat}{f:List T→Option (List T)}: ∀(ks:List Int) {v:V} {t t':T} {F:List Nat},RF H v t F→F.Nodup→(∀a∈Gn,a∉F)→ZcG f ks t=some t' →
  ∃a vs ts ts' G,Lead H ks v a∧a∈F∧H[a]?=some vs∧RFs H vs ts G∧f ts=some ts'∧G.Nodup∧a∉G∧(∀x∈G,x∈F) ∧
   ∀vs' G',RFs H vs' ts' G'→G'.Nodup→a∉G'→(∀x∈G',x∈G∨x∈Gn)→∃F',RF (H.set a vs') v t' F'∧F'.Nodup∧∀x∈F',x∈F∨x∈Gn
 | [],v,t,t',F,r,nd,ds,e=>by
  cases r with
  | @ref a vs ts G e1 hs=>
   obtain⟨ts',h1,h2⟩:=Zz1.mp e
   subst h2
   rw[List.nodup_cons]at nd
   refine⟨a,vs,ts,ts',G,.nil,List.mem_cons_self,e1,hs,h1,nd.2,nd.1,fun x m=>List.mem_cons_of_mem _ m,fun vs' G' r' n' na sub=>⟨a::G',?_,?_,?_⟩⟩
   ·have ha:=(Zz6.mp e1).1
    refine .ref (List.getElem?_set_self ha) (r'.frame fun b m=>List.getElem?_set_ne ?_)
    intro q
    subst q
    exact na m
   ·exact List.nodup_cons.mpr ⟨na,n'⟩
   ·intro x m
    rcases Zz7.mp m with rfl | m
    ·exact .inl Zz5
    ·exact(sub x m).imp (Zz2 _) id
  | none=>cases e
  | bool _=>cases e
  | int _=>cases e
  | str _=>cases e
  | tup _=>cases e
 | k::ks,v,t,t',F,r,nd,ds,e=>by
  cases r with
  | none=>cases e
  | bool _=>cases e
  | int _=>cases e
  | str _=>cases e
  | @tup vs ts _ hs=>
   obtain⟨j,e1,e⟩:=Zz0.mp e
   obtain⟨u,e2,e⟩:=Zz0.mp e
   obtain⟨u',e3,e⟩:=Zz1.mp e
   subst e
   obtain⟨w,G1,F1,F2,e4,g1,eF,rb⟩:=hs.split e2
   subst eF
   have nd1:G1.Nodup:=(List.nodup_append.mp (List.nodup_append.mp nd).2.1).1
   have hin:∀x∈G1,x∈F1++(G1++F2):=fun x m=>List.mem_append_right _ (Zz4 _ m)
   obtain⟨a,us,qs,qs',G,l,am,ea,hq,hf,gn,na,gs,go⟩:=Zfk ks g1 nd1 (fun b m q=>ds b m (hin b q)) e3
   refine⟨a,us,qs,qs',G,.tup (by rw[hs.length];exact e1) e4 l,hin a am,ea,hq,hf,gn,na,fun x m=>hin x (gs x m),fun vs' G' r' n' na' sub=>?_⟩
   obtain⟨G2,f1,f2,f3⟩:=go vs' G' r' n' na' sub
   obtain⟨a1,a2,a5⟩:=List.nodup_append.mp nd
   obtain⟨_,a3,a4⟩:=List.nodup_append.mp a2
   have:=rb (H.set a vs') w u' G2 f1 (fun b m=>List.getElem?_set_ne fun q=>a5 b m a (Zz4 _ am) q.symm) (fun b m=>List.getElem?_set_ne fun q=>a4 a am b m q)
   rw[ZoN e4]at this
   exact⟨_,.tup this,nd3 nd f2 f3 ds,in3 f3⟩
  | @ref b vs ts F' e0 hs=>
   obtain⟨j,e1,e⟩:=Zz0.mp e
   obtain⟨u,e2,e⟩:=Zz0.mp e
   obtain⟨u',e3,e⟩:=Zz1.mp e
   subst e
   obtain⟨w,G1,F1,F2,e4,g1,eF,rb⟩:=hs.split e2
   subst eF
   rw[List.nodup_cons]at nd
   obtain⟨nb,nd⟩:=nd
   have nd1:G1.Nodup:=(List.nodup_append.mp (List.nodup_append.mp nd).2.1).1
   have hin:∀x∈G1,x∈F1++(G1++F2):=fun x m=>List.mem_append_right _ (Zz4 _ m)
   have ds':∀a∈Gn,a∉F1++(G1++F2):=fun a m q=>ds a m (Zz2 _ q)
   obtain⟨a,us,qs,qs',G,l,am,ea,hq,hf,gn,na,gs,go⟩:=Zfk ks g1 nd1 (fun b m q=>ds' b m (hin b q)) e3
   refine⟨a,us,qs,qs',G,.ref e0 (by rw[hs.length];exact e1) e4 l,List.mem_cons_of_mem _ (hin a am),ea,hq,hf,gn,na,fun x m=>List.mem_cons_of_mem _ (hin x (gs x m)),fun vs' G' r' n' na' sub=>?_⟩
   obtain⟨G2,f1,f2,f3⟩:=go vs' G' r' n' na' sub
   obtain⟨a1,a2,a5⟩:=List.nodup_append.mp nd
   obtain⟨_,a3,a4⟩:=List.nodup_append.mp a2
   have:=rb (H.set a vs') w u' G2 f1 (fun b m=>List.getElem?_set_ne fun q=>a5 b m a (Zz4 _ am) q.symm) (fun b m=>List.getElem?_set_ne fun q=>a4 a am b m q)
   rw[ZoN e4]at this
   have hab:a≠b:=fun q=>nb (hin b (q▸am))
   refine⟨_,.ref ((List.getElem?_set_ne hab).trans e0) this,List.nodup_cons.mpr ⟨fun q=>?_,nd3 nd f2 f3 ds'⟩,fun x m=>?_⟩
   ·rcases in3 f3 b q with m | m
    ·exact nb m
    ·exact ds b m Zz5
   ·rcases Zz7.mp m with rfl | m
    ·exact .inl Zz5
    ·exact(in3 f3 x m).imp (Zz2 _) id
end TM
end
section
namespace TM
open PySem PM
noncomputable abbrev TL:=Nat→Option T
noncomputable abbrev PE:=TL→Option T
noncomputable abbrev PEs:=TL→Option (List T)
noncomputable abbrev PB:=TL→Option Bool
noncomputable abbrev PG:=TL→Option (List T)
noncomputable def Z8(σ:TL)(i:Nat)(t:T): TL:=fun j=>if j=i then some t else σ j
structure Ctx where
 H0:Hp
 F0:List Nat
 P:Nat→Prop
structure St(c:Ctx)(O:List Nat)(ρ:Lc)(σ:TL)(H:Hp)(Φ:Nat→List Nat): Prop where
 slot:∀i t,σ i=some t→∃v,ρ i=some v∧RF H v t (Φ i)
 src:∀i t,σ i=some t→∀a∈Φ i,c.H0.length≤a∨c.P a
 own:∀i∈O,∀t,σ i=some t→(Φ i).Nodup∧(∀a∈Φ i,c.H0.length≤a∨a∈c.F0)∧∀j u,j≠i→σ j=some u→∀a∈Φ i,a∉Φ j
 len:c.H0.length≤H.length
 keep:∀a,a<c.H0.length→a∉c.F0→H[a]?=c.H0[a]?
 pos:0<c.H0.length
 f0:0∉c.F0
theorem St.ext{c:Ctx}{O:List Nat}{ρ:Lc}{σ:TL}{H:Hp}{Φ:Nat→List Nat}(s:St c O ρ σ H Φ)(X:Hp): St c O ρ σ (H++X) Φ:=
 ⟨fun i t e=>by obtain⟨v,h1,h2⟩:=s.slot i t e;exact⟨v,h1,h2.ext X⟩,s.src,s.own,by have:=s.len;rw[List.length_append];omega,fun a ha hn=>by
  rw[List.getElem?_append_left (Nat.lt_of_lt_of_le ha s.len)];exact s.keep a ha hn,s.pos,s.f0⟩
theorem St.less{c:Ctx}{O O':List Nat}{ρ:Lc}{σ:TL}{H:Hp}{Φ:Nat→List Nat}(s:St c O ρ σ H Φ)(h:∀i∈O',i∈O): St c O' ρ σ H Φ:=⟨s.slot,s.src,fun i hi=>s.own i (h i hi),s.len,s.keep,s.pos,s.f0⟩
def From(H:Hp)(N:List Nat)(σ:TL)(Φ:Nat→List Nat)(a:Nat): Prop:=H.length≤a∨∃i∈N,(∃t,σ i=some t)∧a∈Φ i
theorem From.mono{H:Hp}{N N':List Nat}{σ:TL}{Φ:Nat→List Nat}{a:Nat}(f:From H N σ Φ a)(h:∀i∈N,i∈N'): From H N' σ Φ a:=f.imp id fun⟨i,hi,q⟩=>⟨i,h i hi,q⟩
theorem From.back{H X:Hp}{N:List Nat}{σ:TL}{Φ:Nat→List Nat}{a:Nat}(f:From (H++X) N σ Φ a): From H N σ Φ a:=f.imp (fun h=>by rw[List.length_append]at h;omega) id
theorem From.nil{H:Hp}{σ:TL}{Φ:Nat→List Nat}{a:Nat}(f:From H [] σ Φ a): H.length≤a:=f.elim id fun⟨_,hi,_⟩=>by cases hi
def E(O N:List Nat)(u:Bool)(e:Ex)(p:PE): Prop:=∀(c:Ctx) (ρ:Lc) (σ:TL) (H:Hp) (Φ:Nat→List Nat) (t:T),St c O ρ σ H Φ→p σ=some t →
 ∃v X F,e ρ H=some (v,H++X)∧RF (H++X) v t F∧(∀a∈F,From H N σ Φ a)∧(u=true→F.Nodup)
def Es(O N:List Nat)(u:Bool)(n:Nat)(e:Exs)(p:PEs): Prop:=∀(c:Ctx) (ρ:Lc) (σ:TL) (H:Hp) (Φ:Nat→List Nat) (ts:List T),St c O ρ σ H Φ→p σ=some ts →
 ts.length=n∧∃vs X F,e ρ H=some (vs,H++X)∧RFs (H++X) vs ts F∧(∀a∈F,From H N σ Φ a)∧(u=true→F.Nodup)
def Bt(O:List Nat)(e:Ts)(p:PB): Prop:=∀(c:Ctx) (ρ:Lc) (σ:TL) (H:Hp) (Φ:Nat→List Nat) (b:Bool),St c O ρ σ H Φ→p σ=some b→∃X,e ρ H=some (b,H++X)
section
variable {O N:List Nat} {u:Bool}
theorem Za8{O':List Nat}{e:Ex}{p:PE}(x:E O' N u e p)(h:∀i∈O',i∈O:=by decide): E O N u e p:=fun c ρ σ H Φ t s=>x c ρ σ H Φ t (s.less h)
theorem E.sh{e:Ex}{p:PE}(x:E O N u e p): E O N false e p:=fun c ρ σ H Φ t s q=>by
 obtain⟨v,X,F,a1,a2,a3,a4⟩:=x c ρ σ H Φ t s q
 exact⟨v,X,F,a1,a2,a3,by simp⟩
noncomputable def Zj(k:Int): PE:=fun _=>some (.int k)
noncomputable def Z0: PE:=fun _=>some .none
noncomputable def Zbc(b:Bool): PE:=fun _=>some (.bool b)
noncomputable def Zfv(x:Str): PE:=fun _=>some (.str x)
noncomputable def Za(i:Nat): PE:=fun σ=>σ i
theorem Zl(k:Int): E O [] true (Zk k) (Zj k):=fun c ρ σ H Φ t s q=>by
 cases q;exact⟨_,[],[],by simp[Zk],.int k,by simp,by simp⟩
theorem Z9: E O [] true ZZ Z0:=fun c ρ σ H Φ t s q=>by
 cases q;exact⟨_,[],[],by simp[ZZ],.none,by simp,by simp⟩
theorem E.bool(k:Bool): E O [] true (ZbD k) (Zbc k):=fun c ρ σ H Φ t s q=>by
 cases q;exact⟨_,[],[],by simp[ZbD],.bool k,by simp,by simp⟩
theorem E.str(k:Str): E O [] true (ZeF k) (Zfv k):=fun c ρ σ H Φ t s q=>by
 cases q;exact⟨_,[],[],by simp[ZeF],.str k,by simp,by simp⟩
theorem Zc(i:Nat): E O [i] false (Zb i) (Za i):=fun c ρ σ H Φ t s q=>by
 obtain⟨v,h1,h2⟩:=s.slot i t q
 exact⟨v,[],Φ i,by simp[Zb,h1],by simpa using h2,fun a m=>.inr ⟨i,List.mem_cons_self,⟨t,q⟩,m⟩,by simp⟩
theorem E.own{i:Nat}(hi:i∈O): E O [i] true (Zb i) (Za i):=fun c ρ σ H Φ t s q=>by
 obtain⟨v,h1,h2⟩:=s.slot i t q
 exact⟨v,[],Φ i,by simp[Zb,h1],by simpa using h2,fun a m=>.inr ⟨i,List.mem_cons_self,⟨t,q⟩,m⟩,fun _=>(s.own i hi t q).1⟩
noncomputable def ZbL(p:PE): PE:=fun σ=>(p σ).bind fun t=>if t.flat then some t else none
theorem E.flat{e:Ex}{p:PE}(x:E O N u e p): E O [] true e (ZbL p):=fun c ρ σ H Φ t s q=>by
 obtain⟨t',e1,e2⟩:=Zz0.mp q
 by_cases h:t'.flat=true
 ·rw[if_pos h]at e2
  cases e2
  obtain⟨v,X,F,a1,a2,a3,a4⟩:=x c ρ σ H Φ t s e1
  have:=a2.flat h
  subst this
  exact⟨v,X,[],a1,a2,by simp,by simp⟩
 ·rw[if_neg h]at e2;cases e2
noncomputable def Zm: PEs:=fun _=>some []
noncomputable def Zd(p:PE)(q:PEs): PEs:=fun σ=>(p σ).bind fun t=>(q σ).bind fun ts=>some (t::ts)
theorem Zo: Es O [] true 0 Zn Zm:=fun c ρ σ H Φ ts s q=>by
 cases q;exact⟨rfl,[],[],[],by simp[Zn],.nil,by simp,by simp⟩
theorem Zf{M:List Nat}{u':Bool}{n:Nat}{e:Ex}{p:PE}{es:Exs}{ps:PEs}(x:E O N u e p)(y:Es O M u' n es ps): Es O (N++M) false (n+1) (Ze e es) (Zd p ps):=fun c ρ σ H Φ ts s q=>by
 obtain⟨t,e1,q⟩:=Zz0.mp q
 obtain⟨rs,e2,q⟩:=Zz0.mp q
 cases q
 obtain⟨v,X,F,a1,a2,a3,a4⟩:=x c ρ σ H Φ t s e1
 obtain⟨hl,vs,Y,G,b1,b2,b3,b4⟩:=y c ρ σ (H++X) Φ rs (s.ext X) e2
 refine⟨by simp[hl],v::vs,X++Y,F++G,by simp[Ze,a1,b1],?_,fun a m=>?_,by simp⟩
 ·rw[←List.append_assoc];exact .cons (a2.ext Y) b2
 ·rcases Zz8.mp m with m | m
  ·exact(a3 a m).mono fun i hi=>List.mem_append_left _ hi
  ·exact(b3 a m).back.mono fun i hi=>List.mem_append_right _ hi
theorem Zga{M:List Nat}{n:Nat}{e:Ex}{p:PE}{es:Exs}{ps:PEs}(x:E O N true e p)(y:Es O M true n es ps)(hN:∀i∈N,i∈O)(hM:∀i∈N,i∉M): Es O (N++M) true (n+1) (Ze e es) (Zd p ps):=fun c ρ σ H Φ ts s q=>by
 obtain⟨t,e1,q⟩:=Zz0.mp q
 obtain⟨rs,e2,q⟩:=Zz0.mp q
 cases q
 obtain⟨v,X,F,a1,a2,a3,a4⟩:=x c ρ σ H Φ t s e1
 obtain⟨hl,vs,Y,G,b1,b2,b3,b4⟩:=y c ρ σ (H++X) Φ rs (s.ext X) e2
 refine⟨by simp[hl],v::vs,X++Y,F++G,by simp[Ze,a1,b1],?_,fun a m=>?_,fun _=>?_⟩
 ·rw[←List.append_assoc];exact .cons (a2.ext Y) b2
 ·rcases Zz8.mp m with m | m
  ·exact(a3 a m).mono fun i hi=>List.mem_append_left _ hi
  ·exact(b3 a m).back.mono fun i hi=>List.mem_append_right _ hi
 ·rw[List.nodup_append]
  refine⟨a4 rfl,b4 rfl,fun a ha b hb e=>?_⟩
  subst e
  have hlt:=a2.lt a ha
  rcases b3 a hb with h | ⟨j,hj,⟨tj,ej⟩,mj⟩
  ·omega
  ·obtain⟨vj,_,rj⟩:=s.slot j tj ej
   have:=rj.lt a mj
   rcases a3 a ha with h | ⟨i,hi,⟨ti,ei⟩,mi⟩
   ·omega
   ·exact(s.own i (hN i hi) ti ei).2.2 j tj (fun q=>hM i hi (q▸hj)) ej a mi mj
noncomputable def ZaF(p:PEs): PE:=fun σ=>(p σ).map .tup
noncomputable def ZbS(p:PEs): PE:=fun σ=>(p σ).map .lst
theorem E.tup{n:Nat}{e:Exs}{p:PEs}(x:Es O N u n e p)(hn:n≤LEN:=by decide): E O N u (ZaD e) (ZaF p):=fun c ρ σ H Φ t s q=>by
 obtain⟨ts,e1,e2⟩:=Zz1.mp q
 subst e2
 obtain⟨hl,vs,Y,G,b1,b2,b3,b4⟩:=x c ρ σ H Φ ts s e1
 have:=b2.length
 refine⟨.tup vs,Y,G,?_,.tup b2,b3,b4⟩
 simp only[ZaD,b1,Option.bind_some]
 rw[if_pos (by omega)]
theorem E.list{n:Nat}{e:Exs}{p:PEs}(x:Es O N u n e p)(hn:n≤LEN:=by decide): E O N u (ZbZ e) (ZbS p):=fun c ρ σ H Φ t s q=>by
 obtain⟨ts,e1,e2⟩:=Zz1.mp q
 subst e2
 obtain⟨hl,vs,Y,G,b1,b2,b3,b4⟩:=x c ρ σ H Φ ts s e1
 have:=b2.length
 refine⟨.ref (H++Y).length,Y++[vs],(H++Y).length::G,?_,?_,fun a m=>?_,fun hu=>?_⟩
 ·simp only[ZbZ,b1,Option.bind_some]
  rw[if_pos (by omega),List.append_assoc]
 ·rw[←List.append_assoc];exact .ref (by simp) (b2.ext _)
 ·rcases Zz7.mp m with rfl | m
  ·exact .inl (by simp)
  ·exact b3 a m
 ·rw[List.nodup_cons]
  exact⟨fun m=>Nat.lt_irrefl _ (b2.lt _ m),b4 hu⟩
def OA2(o:V→V→Hp→Option (V×Hp))(q:T→T→Option T): Prop:=∀(H:Hp) (v1 v2:V) (t1 t2 t:T) (F1 F2:List Nat),RF H v1 t1 F1→RF H v2 t2 F2→q t1 t2=some t→∃v,o v1 v2 H=some (v,H)∧RF H v t []
def OI2(o:V→V→Hp→Option (V×Hp))(q:T→T→Option T): Prop:=∀(H:Hp) (v1 v2:V) (t1 t2 t:T) (F1 F2:List Nat),RF H v1 t1 F1→RF H v2 t2 F2→q t1 t2=some t→∃v F,o v1 v2 H=some (v,H)∧RF H v t F∧F.Sublist F1
def OC2(o:V→V→Hp→Option (V×Hp))(q:T→T→Option T): Prop:=∀(H:Hp) (v1 v2:V) (t1 t2 t:T) (F1 F2:List Nat),RF H v1 t1 F1→RF H v2 t2 F2→q t1 t2=some t→∃v X F,o v1 v2 H=some (v,H++X)∧RF (H++X) v t F∧(∀a∈F,H.length≤a∨a∈F1∨a∈F2)∧(t.flatIn=true→F.Nodup∧∀a∈F,H.length≤a)
def OA1(o:V→Hp→Option (V×Hp))(q:T→Option T): Prop:=∀(H:Hp) (v1:V) (t1 t:T) (F1:List Nat),RF H v1 t1 F1→q t1=some t→∃v,o v1 H=some (v,H)∧RF H v t []
def OAn(o:List V→Hp→Option (V×Hp))(q:List T→Option T): Prop:=∀(H:Hp) (vs:List V) (ts:List T) (t:T) (F:List Nat),RFs H vs ts F→q ts=some t→∃v,o vs H=some (v,H)∧RF H v t []
def OCn(o:List V→Hp→Option (V×Hp))(q:List T→Option T): Prop:=∀(H:Hp) (vs:List V) (ts:List T) (t:T) (F1:List Nat),0<H.length→RFs H vs ts F1→q ts=some t→∃v X F,o vs H=some (v,H++X)∧RF (H++X) v t F∧(∀a∈F,H.length≤a∨a∈F1)∧(t.flatIn=true→F.Nodup∧∀a∈F,H.length≤a)
noncomputable def Zh(q:T→T→Option T)(p1 p2:PE): PE:=fun σ=>(p1 σ).bind fun x=>(p2 σ).bind fun y=>q x y
noncomputable def pUn(q:T→Option T)(p1:PE): PE:=fun σ=>(p1 σ).bind fun x=>q x
noncomputable def Zq(q:List T→Option T)(ps:PEs): PE:=fun σ=>(ps σ).bind fun xs=>q xs
noncomputable def pFl(p:PE): PE:=fun σ=>(p σ).bind fun t=>if t.flatIn then some t else none
theorem ZhB{M:List Nat}{u':Bool}{e1 e2:Ex}{p1 p2:PE}{q:T→T→Option T}{o:V→V→Hp→Option (V×Hp)}{c:Ctx}{ρ:Lc}{σ:TL}{H:Hp}{Φ:Nat→List Nat}{t:T}(x:E O N u e1 p1)(y:E O M u' e2 p2)(s:St c O ρ σ H Φ)(h:Zh q p1 p2 σ=some t):
  ∃t1 t2 v1 v2 X F1 F2,q t1 t2=some t∧RF (H++X) v1 t1 F1∧RF (H++X) v2 t2 F2∧(∀a∈F1,From H N σ Φ a)∧(∀a∈F2,From H M σ Φ a)∧(u=true→F1.Nodup)∧Zg o e1 e2 ρ H=o v1 v2 (H++X):=by
 obtain⟨t1,h1,h⟩:=Zz0.mp h
 obtain⟨t2,h2,h⟩:=Zz0.mp h
 obtain⟨v,X,F,a1,a2,a3,a4⟩:=x c ρ σ H Φ t1 s h1
 obtain⟨w,Y,G,b1,b2,b3,b4⟩:=y c ρ σ (H++X) Φ t2 (s.ext X) h2
 rw[List.append_assoc]at b1 b2
 refine⟨t1,t2,v,w,X++Y,F,G,h,?_,b2,a3,fun a m=>(b3 a m).back,a4,by simp only[Zg,a1,b1,Option.bind_some]⟩
 rw[←List.append_assoc];exact a2.ext Y
theorem ZC{M:List Nat}{u':Bool}{e1 e2:Ex}{p1 p2:PE}{q:T→T→Option T}{o:V→V→Hp→Option (V×Hp)}(k:OA2 o q)(x:E O N u e1 p1)(y:E O M u' e2 p2): E O [] true (Zg o e1 e2) (Zh q p1 p2):=fun c ρ σ H Φ t s h=>by
 obtain⟨t1,t2,v1,v2,X,F1,F2,hq,r1,r2,_,_,_,e⟩:=ZhB (o:=o) x y s h
 obtain⟨v,h1,h2⟩:=k _ v1 v2 t1 t2 t F1 F2 r1 r2 hq
 exact⟨v,X,[],e.trans h1,h2,by simp,by simp⟩
theorem ZB{M:List Nat}{u':Bool}{e1 e2:Ex}{p1 p2:PE}{q:T→T→Option T}{o:V→V→Hp→Option (V×Hp)}(k:OI2 o q)(x:E O N u e1 p1)(y:E O M u' e2 p2): E O N u (Zg o e1 e2) (Zh q p1 p2):=fun c ρ σ H Φ t s h=>by
 obtain⟨t1,t2,v1,v2,X,F1,F2,hq,r1,r2,h1,_,hu,e⟩:=ZhB (o:=o) x y s h
 obtain⟨v,F,k1,k2,k3⟩:=k _ v1 v2 t1 t2 t F1 F2 r1 r2 hq
 exact⟨v,X,F,e.trans k1,k2,fun a m=>h1 a (k3.subset m),fun h=>(hu h).sublist k3⟩
theorem Zaa{M:List Nat}{u':Bool}{e1 e2:Ex}{p1 p2:PE}{q:T→T→Option T}{o:V→V→Hp→Option (V×Hp)}(k:OC2 o q)(x:E O N u e1 p1)(y:E O M u' e2 p2): E O (N++M) false (Zg o e1 e2) (Zh q p1 p2):=fun c ρ σ H Φ t s h=>by
 obtain⟨t1,t2,v1,v2,X,F1,F2,hq,r1,r2,h1,h2,hu,e⟩:=ZhB (o:=o) x y s h
 obtain⟨v,Y,F,k1,k2,k3,k4⟩:=k _ v1 v2 t1 t2 t F1 F2 r1 r2 hq
 rw[List.append_assoc]at k1 k2
 refine⟨v,X++Y,F,e.trans k1,k2,fun a m=>?_,by simp⟩
 rcases k3 a m with h | h | h
 ·exact .inl (by rw[List.length_append]at h;omega)
 ·exact(h1 a h).mono fun i hi=>List.mem_append_left _ hi
 ·exact(h2 a h).mono fun i hi=>List.mem_append_right _ hi
theorem Zmv{M:List Nat}{u':Bool}{e1 e2:Ex}{p1 p2:PE}{q:T→T→Option T}{o:V→V→Hp→Option (V×Hp)}(k:OC2 o q)(x:E O N u e1 p1)(y:E O M u' e2 p2): E O [] true (Zg o e1 e2) (pFl (Zh q p1 p2)):=fun c ρ σ H Φ t s h=>by
 obtain⟨t',h,hf⟩:=Zz0.mp h
 by_cases fl:t'.flatIn=true
 ·rw[if_pos fl]at hf
  cases hf
  obtain⟨t1,t2,v1,v2,X,F1,F2,hq,r1,r2,h1,h2,hu,e⟩:=ZhB (o:=o) x y s h
  obtain⟨v,Y,F,k1,k2,k3,k4⟩:=k _ v1 v2 t1 t2 t F1 F2 r1 r2 hq
  rw[List.append_assoc]at k1 k2
  exact⟨v,X++Y,F,e.trans k1,k2,fun a m=>.inl (by have:=(k4 fl).2 a m;rw[List.length_append]at this;omega),fun _=>(k4 fl).1⟩
 ·rw[if_neg fl]at hf;cases hf
theorem Zb0{e1:Ex}{p1:PE}{q:T→Option T}{o:V→Hp→Option (V×Hp)}(k:OA1 o q)(x:E O N u e1 p1): E O [] true (eUn o e1) (pUn q p1):=fun c ρ σ H Φ t s h=>by
 obtain⟨t1,h1,h⟩:=Zz0.mp h
 obtain⟨v,X,F,a1,a2,a3,a4⟩:=x c ρ σ H Φ t1 s h1
 obtain⟨w,b1,b2⟩:=k _ v t1 t F a2 h
 exact⟨w,X,[],by simp only[eUn,a1,Option.bind_some,b1],b2,by simp,by simp⟩
theorem Zar{n:Nat}{es:Exs}{ps:PEs}{q:List T→Option T}{o:List V→Hp→Option (V×Hp)}(k:OAn o q)(x:Es O N u n es ps): E O [] true (Zr o es) (Zq q ps):=fun c ρ σ H Φ t s h=>by
 obtain⟨ts,h1,h⟩:=Zz0.mp h
 obtain⟨_,vs,X,F,a1,a2,a3,a4⟩:=x c ρ σ H Φ ts s h1
 obtain⟨w,b1,b2⟩:=k _ vs ts t F a2 h
 exact⟨w,X,[],by simp only[Zr,a1,Option.bind_some,b1],b2,by simp,by simp⟩
theorem ZhS{n:Nat}{es:Exs}{ps:PEs}{q:List T→Option T}{o:List V→Hp→Option (V×Hp)}(k:OCn o q)(x:Es O N u n es ps): E O N false (Zr o es) (Zq q ps):=fun c ρ σ H Φ t s h=>by
 obtain⟨ts,h1,h⟩:=Zz0.mp h
 obtain⟨_,vs,X,F,a1,a2,a3,a4⟩:=x c ρ σ H Φ ts s h1
 have hp:0<(H++X).length:=by have:=s.pos;have:=s.len;rw[List.length_append];omega
 obtain⟨w,Y,G,b1,b2,b3,b4⟩:=k _ vs ts t F hp a2 h
 rw[List.append_assoc]at b1 b2
 refine⟨w,X++Y,G,by simp only[Zr,a1,Option.bind_some,b1],b2,fun a m=>?_,by simp⟩
 rcases b3 a m with h | h
 ·exact .inl (by rw[List.length_append]at h;omega)
 ·exact a3 a h
theorem Zeq{n:Nat}{es:Exs}{ps:PEs}{q:List T→Option T}{o:List V→Hp→Option (V×Hp)}(k:OCn o q)(x:Es O N u n es ps): E O [] true (Zr o es) (pFl (Zq q ps)):=fun c ρ σ H Φ t s h=>by
 obtain⟨t',h,hf⟩:=Zz0.mp h
 by_cases fl:t'.flatIn=true
 ·rw[if_pos fl]at hf
  cases hf
  obtain⟨ts,h1,h⟩:=Zz0.mp h
  obtain⟨_,vs,X,F,a1,a2,a3,a4⟩:=x c ρ σ H Φ ts s h1
  have hp:0<(H++X).length:=by have:=s.pos;have:=s.len;rw[List.length_append];omega
  obtain⟨w,Y,G,b1,b2,b3,b4⟩:=k _ vs ts t F hp a2 h
  rw[List.append_assoc]at b1 b2
  exact⟨w,X++Y,G,by simp only[Zr,a1,Option.bind_some,b1],b2,fun a m=>.inl (by have:=(b4 fl).2 a m;rw[List.length_append]at this;omega),fun _=>(b4 fl).1⟩
 ·rw[if_neg fl]at hf;cases hf
def SimF(fr:Bool)(f:List V→Hp→Option (V×Hp))(p:List T→Option T): Prop:=∀(H:Hp) (vs:List V) (ts:List T) (t:T) (F1:List Nat),0<H.length→RFs H vs ts F1→p ts=some t→∃v X F,f vs H=some (v,H++X)∧RF (H++X) v t F∧(∀a∈F,H.length≤a∨a∈F1)∧(fr=true→F.Nodup∧∀a∈F,H.length≤a)
theorem ZI{fr:Bool}{n:Nat}{es:Exs}{ps:PEs}{q:List T→Option T}{o:List V→Hp→Option (V×Hp)}(k:SimF fr o q)(x:Es O N u n es ps): E O N false (Zr o es) (Zq q ps):=fun c ρ σ H Φ t s h=>by
 obtain⟨ts,h1,h⟩:=Zz0.mp h
 obtain⟨_,vs,X,F,a1,a2,a3,a4⟩:=x c ρ σ H Φ ts s h1
 have hp:0<(H++X).length:=by have:=s.pos;have:=s.len;rw[List.length_append];omega
 obtain⟨w,Y,G,b1,b2,b3,b4⟩:=k _ vs ts t F hp a2 h
 rw[List.append_assoc]at b1 b2
 refine⟨w,X++Y,G,by simp only[Zr,a1,Option.bind_some,b1],b2,fun a m=>?_,by simp⟩
 rcases b3 a m with h | h
 ·exact .inl (by rw[List.length_append]at h;omega)
 ·exact a3 a h
theorem Zbo{n:Nat}{es:Exs}{ps:PEs}{q:List T→Option T}{o:List V→Hp→Option (V×Hp)}(k:SimF true o q)(x:Es O N u n es ps): E O [] true (Zr o es) (Zq q ps):=fun c ρ σ H Φ t s h=>by
 obtain⟨ts,h1,h⟩:=Zz0.mp h
 obtain⟨_,vs,X,F,a1,a2,a3,a4⟩:=x c ρ σ H Φ ts s h1
 have hp:0<(H++X).length:=by have:=s.pos;have:=s.len;rw[List.length_append];omega
 obtain⟨w,Y,G,b1,b2,b3,b4⟩:=k _ vs ts t F hp a2 h
 rw[List.append_assoc]at b1 b2
 exact⟨w,X++Y,G,by simp only[Zr,a1,Option.bind_some,b1],b2,fun a m=>.inl (by have:=(b4 rfl).2 a m;rw[List.length_append]at this;omega),fun _=>(b4 rfl).1⟩
noncomputable def ZbJ: T→Option Bool
 | .bool b=>some b
 | .none=>some false
 | .int i=>some (i != 0)
 | _=>none
theorem ZdW{H:Hp}{v:V}{t:T}{F:List Nat}{b:Bool}(r:RF H v t F)(h:ZbJ t=some b): ZcB v H=some b:=by
 cases r <;> first | (cases h;rfl) | cases h
noncomputable def ZF(p:PE): PB:=fun σ=>(p σ).bind ZbJ
noncomputable def Zb3(p:PB): PB:=fun σ=>(p σ).map fun b=>!b
noncomputable def Zak: PB:=fun _=>some true
noncomputable def ZbY: PB:=fun _=>some false
noncomputable def ZaM(p q:PB): PB:=fun σ=>(p σ).bind fun b=>if b then q σ else some false
noncomputable def bOr(p q:PB): PB:=fun σ=>(p σ).bind fun b=>if b then some true else q σ
theorem ZL{e:Ex}{p:PE}(x:E O N u e p): Bt O (ZG e) (ZF p):=fun c ρ σ H Φ b s h=>by
 obtain⟨t,h1,h⟩:=Zz0.mp h
 obtain⟨v,X,F,a1,a2,a3,a4⟩:=x c ρ σ H Φ t s h1
 exact⟨X,by simp only[ZG,a1,Option.bind_some,ZdW a2 h,Option.map_some]⟩
theorem ZcD{e:Ts}{p:PB}(x:Bt O e p): Bt O (Zcj e) (Zb3 p):=fun c ρ σ H Φ b s h=>by
 obtain⟨t,h1,h⟩:=Zz1.mp h
 subst h
 obtain⟨X,a1⟩:=x c ρ σ H Φ t s h1
 exact⟨X,by simp only[Zcj,a1,Option.map_some]⟩
theorem ZaI: Bt O Zao Zak:=fun c ρ σ H Φ b s h=>by
 cases h;exact⟨[],by simp[Zao]⟩
theorem Zcv: Bt O Zb7 ZbY:=fun c ρ σ H Φ b s h=>by
 cases h;exact⟨[],by simp[Zb7]⟩
theorem ZaT{e f:Ts}{p q:PB}(x:Bt O e p)(y:Bt O f q): Bt O (ZaK e f) (ZaM p q):=fun c ρ σ H Φ b s h=>by
 obtain⟨t,h1,h⟩:=Zz0.mp h
 obtain⟨X,a1⟩:=x c ρ σ H Φ t s h1
 cases t with
 | true=>
  obtain⟨Y,b1⟩:=y c ρ σ (H++X) Φ b (s.ext X) (by simpa using h)
  exact⟨X++Y,by simp[ZaK,a1,b1]⟩
 | false=>cases h;exact⟨X,by simp[ZaK,a1]⟩
theorem Za3{e f:Ts}{p q:PB}(x:Bt O e p)(y:Bt O f q): Bt O (tOr e f) (bOr p q):=fun c ρ σ H Φ b s h=>by
 obtain⟨t,h1,h⟩:=Zz0.mp h
 obtain⟨X,a1⟩:=x c ρ σ H Φ t s h1
 cases t with
 | false=>
  obtain⟨Y,b1⟩:=y c ρ σ (H++X) Φ b (s.ext X) (by simpa using h)
  exact⟨X++Y,by simp[tOr,a1,b1]⟩
 | true=>cases h;exact⟨X,by simp[tOr,a1]⟩
noncomputable def pIf(b:PB)(p q:PE): PE:=fun σ=>(b σ).bind fun x=>if x then p σ else q σ
noncomputable def Ziy(p:PE): PE:=fun σ=>(p σ).bind fun t=>(ZbJ t).map fun b=>.bool !b
noncomputable def Zdo(p q:PE): PE:=fun σ=>(p σ).bind fun t=>(ZbJ t).bind fun b=>if b then q σ else some t
noncomputable def pOr(p q:PE): PE:=fun σ=>(p σ).bind fun t=>(ZbJ t).bind fun b=>if b then some t else q σ
theorem Zez{M:List Nat}{b:Ts}{pb:PB}{e f:Ex}{p q:PE}(z:Bt O b pb)(x:E O N u e p)(y:E O M u f q): E O (N++M) u (eIf b e f) (pIf pb p q):=fun c ρ σ H Φ t s h=>by
 obtain⟨b',h1,h⟩:=Zz0.mp h
 obtain⟨X,a1⟩:=z c ρ σ H Φ b' s h1
 cases b' with
 | true=>
  obtain⟨v,Y,F,b1,b2,b3,b4⟩:=x c ρ σ (H++X) Φ t (s.ext X) (by simpa using h)
  exact⟨v,X++Y,F,by simp[eIf,a1,b1],by rw[←List.append_assoc];exact b2,fun a m=>(b3 a m).back.mono fun i hi=>List.mem_append_left _ hi,b4⟩
 | false=>
  obtain⟨v,Y,F,b1,b2,b3,b4⟩:=y c ρ σ (H++X) Φ t (s.ext X) (by simpa using h)
  exact⟨v,X++Y,F,by simp[eIf,a1,b1],by rw[←List.append_assoc];exact b2,fun a m=>(b3 a m).back.mono fun i hi=>List.mem_append_right _ hi,b4⟩
theorem Zv0{e:Ex}{p:PE}(x:E O N u e p): E O [] true (Ziv e) (Ziy p):=fun c ρ σ H Φ t s h=>by
 obtain⟨t1,h1,h⟩:=Zz0.mp h
 obtain⟨b,h2,h⟩:=Zz1.mp h
 subst h
 obtain⟨v,X,F,a1,a2,a3,a4⟩:=x c ρ σ H Φ t1 s h1
 exact⟨.bool !b,X,[],by simp only[Ziv,a1,Option.bind_some,ZdW a2 h2,Option.map_some],.bool _,by simp,by simp⟩
theorem Zfr{M:List Nat}{e f:Ex}{p q:PE}(x:E O N u e p)(y:E O M u f q): E O (N++M) u (Zc6 e f) (Zdo p q):=fun c ρ σ H Φ t s h=>by
 obtain⟨t1,h1,h⟩:=Zz0.mp h
 obtain⟨b,h2,h⟩:=Zz0.mp h
 obtain⟨v,X,F,a1,a2,a3,a4⟩:=x c ρ σ H Φ t1 s h1
 cases b with
 | true=>
  obtain⟨w,Y,F',b1,b2,b3,b4⟩:=y c ρ σ (H++X) Φ t (s.ext X) (by simpa using h)
  exact⟨w,X++Y,F',by simp[Zc6,a1,ZdW a2 h2,b1],by rw[←List.append_assoc];exact b2,fun a m=>(b3 a m).back.mono fun i hi=>List.mem_append_right _ hi,b4⟩
 | false=>
  cases h
  exact⟨v,X,F,by simp[Zc6,a1,ZdW a2 h2],a2,fun a m=>(a3 a m).mono fun i hi=>List.mem_append_left _ hi,a4⟩
theorem Zwp{M:List Nat}{e f:Ex}{p q:PE}(x:E O N u e p)(y:E O M u f q): E O (N++M) u (eOr e f) (pOr p q):=fun c ρ σ H Φ t s h=>by
 obtain⟨t1,h1,h⟩:=Zz0.mp h
 obtain⟨b,h2,h⟩:=Zz0.mp h
 obtain⟨v,X,F,a1,a2,a3,a4⟩:=x c ρ σ H Φ t1 s h1
 cases b with
 | false=>
  obtain⟨w,Y,F',b1,b2,b3,b4⟩:=y c ρ σ (H++X) Φ t (s.ext X) (by simpa using h)
  exact⟨w,X++Y,F',by simp[eOr,a1,ZdW a2 h2,b1],by rw[←List.append_assoc];exact b2,fun a m=>(b3 a m).back.mono fun i hi=>List.mem_append_right _ hi,b4⟩
 | true=>
  cases h
  exact⟨v,X,F,by simp[eOr,a1,ZdW a2 h2],a2,fun a m=>(a3 a m).mono fun i hi=>List.mem_append_left _ hi,a4⟩
noncomputable def Zl2: T→String
 | .none=>"NoneType"
 | .bool _=>"bool"
 | .int _=>"int"
 | .str _=>"str"
 | .tup _=>"tuple"
 | .lst _=>"list"
end
end TM
end
section
namespace TM
open PySem PM
section
variable {O N:List Nat} {u:Bool}
noncomputable def ZhT(K:String)(t:T): Bool:=Zl2 t == K || (K == "int" && Zl2 t == "bool")
noncomputable def pIs(K:String)(p:PE): PE:=fun σ=>(p σ).map fun t=>.bool (ZhT K t)
theorem ZtT{H:Hp}{v:V}{t:T}{F:List Nat}(r:RF H v t F): Zl1 v=Zl2 t:=by cases r <;> rfl
theorem ZdM{K:String}{e:Ex}{p:PE}(x:E O N u e p): E O [] true (eIs K e) (pIs K p):=fun c ρ σ H Φ t s h=>by
 obtain⟨t1,h1,h⟩:=Zz1.mp h
 subst h
 obtain⟨v,X,F,a1,a2,a3,a4⟩:=x c ρ σ H Φ t1 s h1
 exact⟨.bool (ZhT K t1),X,[],by simp only[eIs,a1,Option.map_some,Zmr,ZhT,ZtT a2],.bool _,by simp,by simp⟩
noncomputable def Za6: T→T→Option T
 | .int a,.int b=>some (.int (a-b))
 | _,_=>none
noncomputable def Zcy: T→T→Option T
 | .int a,.int b=>if b≠0∧Builtin.divisionGoesByPylong a b=false then some (.int (a.fdiv b))else none
 | _,_=>none
noncomputable def ZaQ: T→T→Option T
 | .int a,.int b=>if b≠0 then some (.int (a.fmod b))else none
 | _,_=>none
noncomputable def Zc7: T→T→Option T
 | .int a,.int b=>if 0≤b∧(Builtin.Int.intBits a:Int)*b≤2 ^ 27 then some (.int (a ^ b.toNat))else none
 | _,_=>none
noncomputable def ZbP: T→Option T
 | .int a=>some (.int (-a))
 | _=>none
noncomputable def Ziz(p:Int→Int→Bool): T→T→Option T
 | .int a,.int b=>some (.bool (p a b))
 | _,_=>none
noncomputable def qLt:=Ziz fun a b=>decide (a<b)
noncomputable def qLe:=Ziz fun a b=>decide (a≤b)
noncomputable def qGt:=Ziz fun a b=>decide (b<a)
theorem Zbk: OA2 Za9 Za6:=fun H v1 v2 t1 t2 t F1 F2 r1 r2 h=>by
 cases r1 <;> first | (cases h;done) | (cases r2 <;> first | (cases h;done) | (cases h;exact⟨_,rfl,.int _⟩))
theorem Zdn: OA2 oDiv Zcy:=fun H v1 v2 t1 t2 t F1 F2 r1 r2 h=>by
 cases r1 <;> first | (cases h;done) | skip
 cases r2 <;> first | (cases h;done) | skip
 simp only[Zcy]at h
 split at h
 ·rename_i hc;cases h;exact⟨_,by simp only[oDiv];rw[if_pos hc],.int _⟩
 ·cases h
theorem ZaW: OA2 oMod ZaQ:=fun H v1 v2 t1 t2 t F1 F2 r1 r2 h=>by
 cases r1 <;> first | (cases h;done) | skip
 cases r2 <;> first | (cases h;done) | skip
 simp only[ZaQ]at h
 split at h
 ·rename_i hc;cases h;exact⟨_,by simp only[oMod];rw[if_pos hc],.int _⟩
 ·cases h
theorem ZmS: OA2 oPow Zc7:=fun H v1 v2 t1 t2 t F1 F2 r1 r2 h=>by
 cases r1 <;> first | (cases h;done) | skip
 cases r2 <;> first | (cases h;done) | skip
 simp only[Zc7]at h
 split at h
 ·rename_i hc;cases h;exact⟨_,by simp only[oPow];rw[if_pos hc],.int _⟩
 ·cases h
theorem Zb1: OA1 ZbN ZbP:=fun H v1 t1 t F1 r1 h=>by
 cases r1 <;> first | (cases h;done) | (cases h;exact⟨_,rfl,.int _⟩)
theorem ZmT(p:Int→Int→Bool): OA2 (Ziw p) (Ziz p):=fun H v1 v2 t1 t2 t F1 F2 r1 r2 h=>by
 cases r1 <;> first | (cases h;done) | (cases r2 <;> first | (cases h;done) | (cases h;exact⟨_,rfl,.bool _⟩))
theorem Zcs: OA2 oLt qLt:=ZmT _
theorem ZmZ: OA2 oLe qLe:=ZmT _
theorem ZeH: OA2 oGt qGt:=ZmT _
noncomputable def ZeA(f:T→Option PyData): List T→Option (List PyData)
 | []=>some []
 | v::vs=>(f v).bind fun d=>(ZeA f vs).bind fun ds=>some (d::ds)
noncomputable def ZcH: Nat→T→Option PyData
 | _,.none=>some .none
 | _,.bool b=>some (.bool b)
 | _,.int i=>some (.int i)
 | _,.str x=>some (.str x)
 | n+1,.tup vs=>(ZeA (ZcH n) vs).map .tuple
 | n+1,.lst vs=>(ZeA (ZcH n) vs).map .list
 | 0,.tup _=>none
 | 0,.lst _=>none
theorem Zl3{H:Hp}{f:V→Option PyData}{g:T→Option PyData}(h:∀v t F,RF H v t F→f v=g t): ∀{vs:List V} {ts:List T} {F:List Nat},RFs H vs ts F→Zfu f vs=ZeA g ts
 | _,_,_,.nil=>rfl
 | _,_,_,.cons a b=>by simp only[Zfu,ZeA,h _ _ _ a,Zl3 h b]
theorem Zh8{H:Hp}: ∀(n:Nat) (v:V) (t:T) (F:List Nat),RF H v t F→toD H n v=ZcH n t:=by
 intro n
 induction n with
 | zero=>intro v t F r;cases r <;> rfl
 | succ n ih=>
  intro v t F r
  cases r with
  | none=>rfl
  | bool=>rfl
  | int=>rfl
  | str=>rfl
  | tup hs=>simp only[toD,ZcH,Zl3 ih hs]
  | ref e hs=>simp only[toD,ZcH,e,Option.bind_some,Zl3 ih hs]
noncomputable def Zd7(a b:T): Option Bool:=(ZcH ZbO a).bind fun d=>(ZcH ZbO b).bind fun e=>if SeqAt.shaped d=true∧SeqAt.shaped e=true then some (PyData.eqv d e)else none
noncomputable def qEq(a b:T): Option T:=(Zd7 a b).map .bool
noncomputable def qNe(a b:T): Option T:=(Zd7 a b).map fun c=>.bool !c
theorem ZpK{H:Hp}{v1 v2:V}{t1 t2:T}{F1 F2:List Nat}(r1:RF H v1 t1 F1)(r2:RF H v2 t2 F2): Zix v1 v2 H=Zd7 t1 t2:=by
 simp only[Zix,Zd7,Zh8 ZbO _ _ _ r1,Zh8 ZbO _ _ _ r2]
theorem Zav: OA2 oEq qEq:=fun H v1 v2 t1 t2 t F1 F2 r1 r2 h=>by
 obtain⟨c,h1,h⟩:=Zz1.mp h
 subst h
 exact⟨_,by simp only[oEq,ZpK r1 r2,h1,Option.map_some],.bool _⟩
theorem Zbw: OA2 oNe qNe:=fun H v1 v2 t1 t2 t F1 F2 r1 r2 h=>by
 obtain⟨c,h1,h⟩:=Zz1.mp h
 subst h
 exact⟨_,by simp only[oNe,ZpK r1 r2,h1,Option.map_some],.bool _⟩
noncomputable def qIs: T→T→Option T
 | .none,.none=>some (.bool true)
 | _,.none=>some (.bool false)
 | _,_=>none
noncomputable def Zbr: T→T→Option T
 | .none,.none=>some (.bool false)
 | _,.none=>some (.bool true)
 | _,_=>none
theorem Zbx: OA2 oIs qIs:=fun H v1 v2 t1 t2 t F1 F2 r1 r2 h=>by
 cases r1 <;> cases r2 <;> first | (cases h;done) | (cases h;exact⟨_,rfl,.bool _⟩)
theorem Zcd: OA2 ZbX Zbr:=fun H v1 v2 t1 t2 t F1 F2 r1 r2 h=>by
 cases r1 <;> cases r2 <;> first | (cases h;done) | (cases h;exact⟨_,rfl,.bool _⟩)
noncomputable def Zw: T→T→Option T
 | .lst ts,.int k=>(seqIndex? k ts.length).bind fun j=>ts[j]?
 | .tup ts,.int k=>(seqIndex? k ts.length).bind fun j=>ts[j]?
 | _,_=>none
theorem ZA: OI2 Zu Zw:=fun H v1 v2 t1 t2 t F1 F2 r1 r2 h=>by
 cases r1 with
 | none=>cases h
 | bool=>cases h
 | int=>cases h
 | str=>cases h
 | tup hs=>
  cases r2 <;> first | (cases h;done) | skip
  obtain⟨j,h1,h2⟩:=Zz0.mp h
  obtain⟨v,G,e1,e2,e3⟩:=hs.at h2
  exact⟨v,G,by simp only[Zu,hs.length,h1,Option.bind_some,e1,Option.map_some],e2,e3⟩
 | ref e hs=>
  cases r2 <;> first | (cases h;done) | skip
  obtain⟨j,h1,h2⟩:=Zz0.mp h
  obtain⟨v,G,e1,e2,e3⟩:=hs.at h2
  exact⟨v,G,by simp only[Zu,e,Option.bind_some,hs.length,h1,e1,Option.map_some],e2,e3.trans (List.sublist_cons_self _ _)⟩
noncomputable def Zax: List T→Option T
 | [.lst ts]=>some (.int ts.length)
 | [.tup ts]=>some (.int ts.length)
 | _=>none
theorem RFs.one_inv{H:Hp}{vs:List V}{t:T}{F:List Nat}(r:RFs H vs [t] F): ∃v,vs=[v]∧RF H v t F:=by
 cases r with
 | cons a b=>cases b;rw[List.append_nil];exact⟨_,rfl,a⟩
theorem RFs.two_inv{H:Hp}{vs:List V}{t t':T}{F:List Nat}(r:RFs H vs [t,t'] F): ∃v v' F1 F2,vs=[v,v']∧RF H v t F1∧RF H v' t' F2∧F=F1++F2:=by
 cases r with
 | cons a b=>obtain⟨v',h1,h2⟩:=b.one_inv;subst h1;exact⟨_,_,_,_,rfl,a,h2,rfl⟩
theorem ZaX: OAn ZaH Zax:=fun H vs ts t F r h=>by
 unfold Zax at h
 split at h
 ·obtain⟨v,rfl,r'⟩:=r.one_inv
  cases r' with
  | ref e hs=>cases h;exact⟨_,by simp only[ZaH,e,Option.map_some,hs.length],.int _⟩
 ·obtain⟨v,rfl,r'⟩:=r.one_inv
  cases r' with
  | tup hs=>cases h;exact⟨_,by simp only[ZaH,hs.length],.int _⟩
 ·cases h
noncomputable def ZcS: List T→Option T
 | [.int a]=>some (.int (if a<0 then -a else a))
 | _=>none
theorem ZdK: OAn ZcR ZcS:=fun H vs ts t F r h=>by
 unfold ZcS at h
 split at h
 ·obtain⟨v,rfl,r'⟩:=r.one_inv
  cases r';cases h;exact⟨_,rfl,.int _⟩
 ·cases h
noncomputable def Zip: List T→Option T
 | [.int a,.int b]=>some (.int (if b>a then b else a))
 | _=>none
theorem Zvb: OAn Zin Zip:=fun H vs ts t F r h=>by
 unfold Zip at h
 split at h
 ·obtain⟨v,w,F1,F2,rfl,r1,r2,_⟩:=r.two_inv
  cases r1;cases r2;cases h;exact⟨_,rfl,.int _⟩
 ·cases h
noncomputable def Zd1: List T→Option (List Int)
 | []=>some []
 | .int k::vs=>(Zd1 vs).map fun ks=>k::ks
 | _::_=>none
noncomputable def Zfl: List T→Option (List Bool)
 | []=>some []
 | .bool k::vs=>(Zfl vs).map fun ks=>k::ks
 | _::_=>none
theorem ZhU{H:Hp}: ∀{vs:List V} {ts:List T} {F:List Nat} {ks:List Int},RFs H vs ts F→Zd1 ts=some ks→Zdk vs=some ks
 | _,_,_,_,.nil,h=>h
 | _,_,_,_,.cons a b,h=>by
  cases a <;> first | (cases h;done) | skip
  obtain⟨js,h1,h2⟩:=Zz1.mp h
  subst h2
  simp only[Zdk,ZhU b h1,Option.map_some]
theorem ZoO{H:Hp}: ∀{vs:List V} {ts:List T} {F:List Nat} {ks:List Bool},RFs H vs ts F→Zfl ts=some ks→Zfg vs=some ks
 | _,_,_,_,.nil,h=>h
 | _,_,_,_,.cons a b,h=>by
  cases a <;> first | (cases h;done) | skip
  obtain⟨js,h1,h2⟩:=Zz1.mp h
  subst h2
  simp only[Zfg,ZoO b h1,Option.map_some]
noncomputable def ZiA: List T→Option T
 | [.lst ts]=>(Zd1 ts).map fun ks=>.int ks.sum
 | _=>none
noncomputable def ZgI: List T→Option T
 | [.lst ts]=>(Zfl ts).map fun bs=>.bool (bs.any id)
 | _=>none
theorem Zv1: OAn ZgF ZiA:=fun H vs ts t F r h=>by
 unfold ZiA at h
 split at h
 ·obtain⟨v,rfl,r'⟩:=r.one_inv
  cases r' with
  | ref e hs=>
   obtain⟨ks,h1,h2⟩:=Zz1.mp h
   subst h2
   exact⟨_,by simp only[ZgF,e,Option.bind_some,ZhU hs h1,Option.map_some],.int _⟩
 ·cases h
theorem Zv2: OAn ZgH ZgI:=fun H vs ts t F r h=>by
 unfold ZgI at h
 split at h
 ·obtain⟨v,rfl,r'⟩:=r.one_inv
  cases r' with
  | ref e hs=>
   obtain⟨ks,h1,h2⟩:=Zz1.mp h
   subst h2
   exact⟨_,by simp only[ZgH,e,Option.bind_some,ZoO hs h1,Option.map_some],.bool _⟩
 ·cases h
theorem ZeI{H:Hp}{vs:List V}{ts:List T}{F:List Nat}(r:RFs H vs ts F): RF (H++[vs]) (.ref H.length) (.lst ts) (H.length::F):=.ref (by simp) (r.ext _)
theorem Zf0{H:Hp}{vs:List V}{ts:List T}{F:List Nat}(r:RFs H vs ts F)(h:T.flatIn (.lst ts)=true): (H.length::F).Nodup∧∀a∈H.length::F,H.length≤a:=by
 rw[r.flats (by simpa [T.flatIn]using h)]
 simp
theorem Zs4{H:Hp}{v:V}{t:T}{F:List Nat}(r:RF H v t F)(h:F=[]): F.Nodup∧∀a∈F,H.length≤a:=by subst h;simp
noncomputable def ZgJ(ts:List T): Nat→List T
 | 0=>[]
 | n+1=>ZgJ ts n++ts
noncomputable def Zae: T→T→Option T
 | .int a,.int b=>some (.int (a+b))
 | .lst a,.lst b=>if(a++b).length≤LEN then some (.lst (a++b))else none
 | .tup a,.tup b=>if(a++b).length≤LEN then some (.tup (a++b))else none
 | _,_=>none
noncomputable def ZaE: T→T→Option T
 | .int a,.int b=>if mulOk a b=true then some (.int (a*b))else none
 | .lst a,.int k=>if a.length*k.toNat≤LEN∧-(2 ^ 63:Int)≤k∧k<2 ^ 63 then some (.lst (ZgJ a k.toNat))else none
 | _,_=>none
theorem ZpL{H:Hp}{vs:List V}{ts:List T}{F:List Nat}(r:RFs H vs ts F): ∀n,∃G,RFs H (ZeG vs n) (ZgJ ts n) G∧∀a∈G,a∈F
 | 0=>⟨_,.nil,by simp⟩
 | n+1=>by
  obtain⟨G,h1,h2⟩:=ZpL r n
  exact⟨_,h1.append r,fun a m=>(Zz8.mp m).elim (h2 a) id⟩
theorem Zaj: OC2 Zaf Zae:=fun H v1 v2 t1 t2 t F1 F2 r1 r2 h=>by
 cases r1 with
 | none=>cases h
 | bool=>cases h
 | str=>cases h
 | int a=>
  cases r2 <;> first | (cases h;done) | skip
  cases h;exact⟨_,[],[],by simp[Zaf],.int _,by simp,by simp⟩
 | tup hs1=>
  cases r2 with
  | none=>cases h
  | bool=>cases h
  | str=>cases h
  | int=>cases h
  | ref=>cases h
  | tup hs2=>
   simp only[Zae]at h
   split at h
   ·rename_i hl
    cases h
    refine⟨_,[],_,?_,.tup (by simpa using hs1.append hs2),fun a m=>.inr (Zz8.mp m),fun hf=>Zs4 (H:=H) (.tup (hs1.append hs2)) ((RF.tup (hs1.append hs2)).flat (by simpa [T.flatIn]using hf))⟩
    simp only[Zaf,List.append_nil]
    rw[if_pos (by rw[List.length_append]at hl ⊢;rw[hs1.length,hs2.length];exact hl)]
   ·cases h
 | ref e1 hs1=>
  cases r2 with
  | none=>cases h
  | bool=>cases h
  | str=>cases h
  | int=>cases h
  | tup=>cases h
  | ref e2 hs2=>
   simp only[Zae]at h
   split at h
   ·rename_i hl
    cases h
    refine⟨_,_,_,?_,ZeI (hs1.append hs2),fun a m=>?_,Zf0 (hs1.append hs2)⟩
    ·simp only[Zaf,e1,e2,Option.bind_some]
     rw[if_pos (by rw[List.length_append]at hl ⊢;rw[hs1.length,hs2.length];exact hl)]
    ·rcases Zz7.mp m with rfl | m
     ·exact .inl (Zz10 _)
     ·rcases Zz8.mp m with m | m
      ·exact .inr (.inl (Zz2 _ m))
      ·exact .inr (.inr (Zz2 _ m))
   ·cases h
theorem Za4: OC2 ZaP ZaE:=fun H v1 v2 t1 t2 t F1 F2 r1 r2 h=>by
 cases r1 with
 | none=>cases h
 | bool=>cases h
 | str=>cases h
 | tup=>cases h
 | int a=>
  cases r2 <;> first | (cases h;done) | skip
  simp only[ZaE]at h
  split at h
  ·rename_i hm
   cases h;exact⟨_,[],[],by simp only[ZaP];rw[if_pos hm];simp,.int _,by simp,by simp⟩
  ·cases h
 | ref e1 hs1=>
  cases r2 with
  | none=>cases h
  | bool=>cases h
  | str=>cases h
  | tup=>cases h
  | ref=>cases h
  | int k=>
   simp only[ZaE]at h
   split at h
   ·rename_i hl
    cases h
    obtain⟨G,h1,h2⟩:=ZpL hs1 k.toNat
    refine⟨_,_,_,?_,ZeI h1,fun a m=>?_,Zf0 h1⟩
    ·simp only[ZaP,e1,Option.bind_some]
     rw[if_pos (by rw[hs1.length];exact hl)]
    ·rcases Zz7.mp m with rfl | m
     ·exact .inl (Zz10 _)
     ·exact .inr (.inl (Zz2 _ (h2 a m)))
   ·cases h
noncomputable def Zce: List T→Option T
 | [.lst ts]=>some (.lst ts)
 | [.tup ts]=>some (.lst ts)
 | _=>none
noncomputable def ZhV: List T→Option T
 | [.lst ts]=>some (.tup ts)
 | [.tup ts]=>some (.tup ts)
 | _=>none
theorem Zde: OCn Zcp Zce:=fun H vs ts t F hp r h=>by
 unfold Zce at h
 split at h
 ·obtain⟨v,rfl,r'⟩:=r.one_inv
  cases r' with
  | ref e hs=>cases h;exact⟨_,_,_,by simp only[Zcp,e,Option.map_some],ZeI hs,fun a m=>(Zz7.mp m).imp (fun q=>Nat.le_of_eq q.symm) (Zz2 _),Zf0 hs⟩
 ·obtain⟨v,rfl,r'⟩:=r.one_inv
  cases r' with
  | tup hs=>cases h;exact⟨_,_,_,by simp only[Zcp],ZeI hs,fun a m=>(Zz7.mp m).imp (fun q=>Nat.le_of_eq q.symm) id,Zf0 hs⟩
 ·cases h
end
end TM
end
section
namespace TM
open PySem PM
theorem St.from_src{c:Ctx}{O N:List Nat}{ρ:Lc}{σ:TL}{H:Hp}{Φ:Nat→List Nat}(s:St c O ρ σ H Φ){a:Nat}(f:From H N σ Φ a): c.H0.length≤a∨c.P a:=by
 rcases f with h | ⟨i,hi,⟨t,e⟩,m⟩
 ·exact .inl (Nat.le_trans s.len h)
 ·exact s.src i t e a m
theorem St.from_off{c:Ctx}{O N:List Nat}{ρ:Lc}{σ:TL}{H:Hp}{Φ:Nat→List Nat}(s:St c O ρ σ H Φ)(hN:∀i∈N,i∉O){a:Nat}(f:From H N σ Φ a){i:Nat}(hi:i∈O){t:T}(e:σ i=some t): a∉Φ i:=by
 intro m
 obtain⟨v,_,r⟩:=s.slot i t e
 have hl:=r.lt a m
 rcases f with h | ⟨j,hj,⟨t',e'⟩,m'⟩
 ·omega
 ·exact(s.own i hi t e).2.2 j t' (fun q=>hN j hj (q▸hi)) e' a m m'
noncomputable abbrev PPt:=TL→Option (Option Int)
noncomputable def Zvc: PPt:=fun _=>some none
noncomputable def Zww(p:PE): PPt:=fun σ=>(p σ).bind fun t=>match t with
 | .int k=>some (some k)
 | _=>none
def Pe(O:List Nat)(f:Pt)(p:PPt): Prop:=∀(c:Ctx) (ρ:Lc) (σ:TL) (H:Hp) (Φ:Nat→List Nat) (k:Option Int),St c O ρ σ H Φ→p σ=some k→∃o X,f ρ H=some (o,H++X)∧Zgx o=some k
section
variable {O N:List Nat} {u:Bool}
theorem Pe.none: Pe O PM.Zgy Zvc:=fun c ρ σ H Φ k s h=>by
 cases h;exact⟨Option.none,[],by simp[PM.Zgy],rfl⟩
noncomputable def Zwx(p:PE)(lo hi:PPt): PE:=fun σ=>(p σ).bind fun t=>(lo σ).bind fun a=>(hi σ).bind fun b=>match t with
 | .lst ts=>Option.some (.lst (ZcP ts a b))
 | _=>Option.none
noncomputable def Zc4(p:PE)(k:Nat): PE:=fun σ=>(p σ).bind fun t=>match t with
 | .lst ts=>Option.some (.lst (ts.drop k))
 | .tup ts=>if 1≤k∧k≤ts.length then Option.some (.tup (ts.drop k))else Option.none
 | _=>Option.none
theorem Zsp{c:Ctx}{ρ:Lc}{σ:TL}{H:Hp}{Φ:Nat→List Nat}{t:T}{e:Ex}{p:PE}{k:Nat}(x:E O N u e p)(s:St c O ρ σ H Φ)(h:Zc4 p k σ=Option.some t):
  ∃v X F,Zdm e k ρ H=Option.some (v,H++X)∧RF (H++X) v t F∧(∀a∈F,From H N σ Φ a)∧(t.flatIn=true→F.Nodup∧∀a∈F,H.length≤a):=by
 obtain⟨t1,h1,h⟩:=Zz0.mp h
 obtain⟨v,X,F,a1,a2,a3,a4⟩:=x c ρ σ H Φ t1 s h1
 cases a2 with
 | none=>cases h
 | bool=>cases h
 | int=>cases h
 | str=>cases h
 | tup hs=>
  simp only at h
  split at h
  ·rename_i hc
   cases h
   obtain⟨G,g1,g2⟩:=hs.drop k
   refine⟨_,X,G,?_,.tup g1,fun a m=>a3 a (g2.subset m),fun hf=>?_⟩
   ·simp only[Zdm,a1,Option.bind_some]
    rw[if_pos (by rw[hs.length];exact hc)]
   ·rw[g1.flats (by simpa [T.flatIn,T.flat]using hf)]
    simp
  ·cases h
 | @ref b vs1 ts1 F1 e1 hs=>
  cases h
  obtain⟨G,g1,g2⟩:=hs.drop k
  refine⟨.ref (H++X).length,X++[vs1.drop k],(H++X).length::G,?_,?_,fun a m=>?_,fun hf=>?_⟩
  ·simp only[Zdm,a1,Option.bind_some,e1,List.append_assoc]
  ·rw[←List.append_assoc];exact ZeI g1
  ·rcases Zz7.mp m with rfl | m
   ·exact .inl (by simp)
   ·exact a3 a (Zz2 _ (g2.subset m))
  ·have:=Zf0 g1 hf
   exact⟨this.1,fun q m=>by have:=this.2 q m;simp at this;omega⟩
theorem Zgp{e:Ex}{p:PE}{k:Nat}(x:E O N u e p): E O N false (Zdm e k) (Zc4 p k):=fun c ρ σ H Φ t s h=>by
 obtain⟨v,X,F,a1,a2,a3,a4⟩:=Zsp x s h
 exact⟨v,X,F,a1,a2,a3,by simp⟩
end
def Gs(O N:List Nat)(g:Src)(q:PG): Prop:=∀(c:Ctx) (ρ:Lc) (σ:TL) (H:Hp) (Φ:Nat→List Nat) (ts:List T),St c O ρ σ H Φ→q σ=some ts →
 ∃(nx:Nx) (X:Hp) (vs:List V) (F G:List Nat),g ρ H=some (nx,ts.length+1,H++X)∧RFs (H++X) vs ts F∧(∀a∈F,a∈G)∧(∀a∈G,a<(H++X).length∧From H N σ Φ a)∧∀K:Hp,(∀a∈G,K[a]?=(H++X)[a]?)→∀i,i≤vs.length→nx i K=some vs[i]?
section
variable {O N M:List Nat} {u u':Bool}
noncomputable def ZbF(p:PE): PG:=fun σ=>(p σ).bind fun t=>match t with
 | .lst ts=>some ts
 | .tup ts=>some ts
 | _=>none
theorem Gs.seq{e:Ex}{p:PE}(x:E O N u e p): Gs O N (Zb9 e) (ZbF p):=fun c ρ σ H Φ ts s h=>by
 obtain⟨t1,h1,h⟩:=Zz0.mp h
 obtain⟨v,X,F,a1,a2,a3,a4⟩:=x c ρ σ H Φ t1 s h1
 have hlt:=a2.lt
 cases a2 with
 | none=>cases h
 | bool=>cases h
 | int=>cases h
 | str=>cases h
 | @tup vs _ _ hs=>
  cases h
  exact⟨ZpJ vs,X,vs,F,F,by simp only[Zb9,a1,Option.bind_some,hs.length],hs,fun _ m=>m,fun a m=>⟨hlt a m,a3 a m⟩,fun K _ i hi=>rfl⟩
 | @ref b vs _ F' e1 hs=>
  cases h
  refine⟨Zms b,X,vs,F',b::F',by simp only[Zb9,a1,Option.bind_some,e1,Option.map_some,hs.length],hs,fun _ m=>List.mem_cons_of_mem _ m,fun a m=>⟨hlt a m,a3 a m⟩,fun K hK i hi=>?_⟩
  simp only[Zms,hK b Zz5,e1,Option.map_some]
noncomputable def Zcm(a b c:Int): Option (List T):=if c≠0∧Builtin.Range.small a b c=true∧0≤Builtin.Range.rangeSize a b c∧rngN a b c≤LEN∧Builtin.divisionGoesByPylong (b-a) c=false then some ((List.range (rngN a b c)).map fun(i:Nat)=>.int (a+(i:Int)*c))else none
noncomputable def ZaB(p:PEs): PG:=fun σ=>(p σ).bind fun ts=>match ts with
 | [.int b]=>Zcm 0 b 1
 | [.int a,.int b]=>Zcm a b 1
 | [.int a,.int b,.int c]=>Zcm a b c
 | _=>none
theorem ZoP(H:Hp)(a c:Int): ∀(l:List Nat),RFs H (l.map fun(i:Nat)=>.int (a+(i:Int)*c)) (l.map fun(i:Nat)=>.int (a+(i:Int)*c)) []
 | []=>.nil
 | i::l=>by have:=RFs.cons (RF.int (H:=H) (a+i*c)) (ZoP H a c l);exact this
theorem ZlL{a b c:Int}{H:Hp}{ts:List T}(h:Zcm a b c=some ts): ∃(nx:Nx) (vs:List V),Zco a b c H=some (nx,ts.length+1,H)∧RFs H vs ts []∧∀K:Hp,∀i,i≤vs.length→nx i K=some vs[i]?:=by
 unfold Zcm at h
 split at h
 ·rename_i hc
  cases h
  refine⟨Zfe a c (rngN a b c),(List.range (rngN a b c)).map fun(i:Nat)=>.int (a+(i:Int)*c),?_,ZoP H a c _,fun K i hi=>?_⟩
  ·unfold Zco
   rw[if_pos hc]
   simp
  ·simp only[Zfe,List.getElem?_map]
   by_cases q:i<rngN a b c
   ·rw[if_pos q,List.getElem?_range q];rfl
   ·rw[if_neg q,List.getElem?_eq_none (by simpa using Nat.le_of_not_lt q)];rfl
 ·cases h
theorem RFs.three_inv{H:Hp}{vs:List V}{t t' t'':T}{F:List Nat}(r:RFs H vs [t,t',t''] F): ∃v v' v'' F1 F2 F3,vs=[v,v',v'']∧RF H v t F1∧RF H v' t' F2∧RF H v'' t'' F3:=by
 cases r with
 | cons a b=>obtain⟨v',v'',F2,F3,h1,h2,h3,_⟩:=b.two_inv;subst h1;exact⟨_,_,_,_,_,_,rfl,a,h2,h3⟩
theorem Gs.range{n:Nat}{e:Exs}{p:PEs}(x:Es O N u n e p): Gs O [] (ZaO e) (ZaB p):=fun c ρ σ H Φ ts s h=>by
 obtain⟨t1,h1,h⟩:=Zz0.mp h
 obtain⟨_,vs,X,F,a1,a2,a3,a4⟩:=x c ρ σ H Φ t1 s h1
 split at h
 ·obtain⟨v,rfl,r⟩:=a2.one_inv
  cases r
  obtain⟨nx,us,q1,q2,q3⟩:=ZlL (H:=H++X) h
  exact⟨nx,X,us,[],[],by simp only[ZaO,a1,Option.bind_some,q1],q2,by simp,by simp,fun K _=>q3 K⟩
 ·obtain⟨v,v',F1,F2,rfl,r,r',_⟩:=a2.two_inv
  cases r;cases r'
  obtain⟨nx,us,q1,q2,q3⟩:=ZlL (H:=H++X) h
  exact⟨nx,X,us,[],[],by simp only[ZaO,a1,Option.bind_some,q1],q2,by simp,by simp,fun K _=>q3 K⟩
 ·obtain⟨v,v',v'',F1,F2,F3,rfl,r,r',r''⟩:=a2.three_inv
  cases r;cases r';cases r''
  obtain⟨nx,us,q1,q2,q3⟩:=ZlL (H:=H++X) h
  exact⟨nx,X,us,[],[],by simp only[ZaO,a1,Option.bind_some,q1],q2,by simp,by simp,fun K _=>q3 K⟩
 ·cases h
noncomputable def ZdN(p q:PE): PG:=fun σ=>(p σ).bind fun t=>(q σ).bind fun s=>match t,s with
 | .lst ts,.lst ss=>some (List.zipWith (fun x y=>.tup [x,y]) ts ss)
 | _,_=>none
theorem RFs.zip{H:Hp}: ∀{vs us:List V} {ts ss:List T} {F G:List Nat},RFs H vs ts F→RFs H us ss G→∃D,RFs H (List.zipWith (fun x y=>.tup [x,y]) vs us) (List.zipWith (fun x y=>.tup [x,y]) ts ss) D∧∀a∈D,a∈F∨a∈G
 | _,_,_,_,_,_,.nil,_=>⟨_,.nil,by simp⟩
 | _,_,_,_,_,_,.cons _ _,.nil=>⟨_,.nil,by simp⟩
 | _,_,_,_,_,_,.cons a b,.cons a' b'=>by
  obtain⟨D,h1,h2⟩:=b.zip b'
  refine⟨_,.cons (.tup (.cons a (.one a'))) h1,fun x m=>?_⟩
  rcases Zz8.mp m with m | m
  ·rcases Zz8.mp m with m | m
   ·exact .inl (Zz4 _ m)
   ·exact .inr (Zz4 _ m)
  ·exact(h2 x m).imp (Zz3 _) (Zz3 _)
theorem Gs.zip{e1 e2:Ex}{p1 p2:PE}(x:E O N u e1 p1)(y:E O M u' e2 p2): Gs O (N++M) (ZdL e1 e2) (ZdN p1 p2):=fun c ρ σ H Φ ts s h=>by
 obtain⟨t1,h1,h⟩:=Zz0.mp h
 obtain⟨t2,h2,h⟩:=Zz0.mp h
 obtain⟨v,X,F,a1,a2,a3,a4⟩:=x c ρ σ H Φ t1 s h1
 obtain⟨w,Y,G,b1,b2,b3,b4⟩:=y c ρ σ (H++X) Φ t2 (s.ext X) h2
 have a2:=a2.ext Y
 have l1:=a2.lt
 have l2:=b2.lt
 rw[List.append_assoc]at a2 b2 l1 l2 b1
 cases a2 with
 | none=>cases h
 | bool=>cases h
 | int=>cases h
 | str=>cases h
 | tup=>cases b2 <;> cases h
 | @ref a vs _ F' e1 hs=>
  cases b2 with
  | none=>cases h
  | bool=>cases h
  | int=>cases h
  | str=>cases h
  | tup=>cases h
  | @ref b us _ G' e2 hs2=>
   cases h
   obtain⟨D,d1,d2⟩:=hs.zip hs2
   refine⟨Zgz a b,X++Y,_,D,a::b::D,?_,d1,fun q m=>List.mem_cons_of_mem _ (Zz2 _ m),fun q m=>?_,fun K hK i hi=>?_⟩
   ·simp only[ZdL,a1,Option.bind_some,b1,e1,e2,Option.map_some,List.length_zipWith,hs.length,hs2.length]
   ·rcases Zz7.mp m with rfl | m
    ·exact⟨l1 _ Zz5,(a3 _ Zz5).mono fun i hi=>List.mem_append_left _ hi⟩
    ·rcases Zz7.mp m with rfl | m
     ·exact⟨l2 _ Zz5,(b3 _ Zz5).back.mono fun i hi=>List.mem_append_right _ hi⟩
     ·rcases d2 q m with m | m
      ·exact⟨l1 _ (Zz2 _ m),(a3 _ (Zz2 _ m)).mono fun i hi=>List.mem_append_left _ hi⟩
      ·exact⟨l2 _ (Zz2 _ m),(b3 _ (Zz2 _ m)).back.mono fun i hi=>List.mem_append_right _ hi⟩
   ·simp only[Zgz,hK a Zz5,hK b (Zz2 _ Zz5),e1,e2,Option.bind_some,List.getElem?_zipWith]
    rw[List.length_zipWith]at hi
    by_cases q:i<min vs.length us.length
    ·rw[List.getElem?_eq_getElem (show i<vs.length by omega),List.getElem?_eq_getElem (show i<us.length by omega)]
    ·have q':i=min vs.length us.length:=by omega
     by_cases q2:i<vs.length
     ·rw[List.getElem?_eq_getElem q2,List.getElem?_eq_none (show us.length≤i by omega)]
      simp[q']
     ·rw[List.getElem?_eq_none (show vs.length≤i by omega)]
      simp[q']
end
def PutOk(O J:List Nat)(put:V→Lc→Option Lc)(q:T→TL→Option TL): Prop:=∀(c:Ctx) (ρ:Lc) (σ:TL) (H:Hp) (Φ:Nat→List Nat) (v:V) (t:T) (F:List Nat) (σ1:TL),St c O ρ σ H Φ→RF H v t F→(∀a∈F,c.H0.length≤a∨c.P a)→(∀i∈O,∀t',σ i=some t'→∀a∈Φ i,a∉F)→q t σ=some σ1 →
 ∃ρ1 Φ1,put v ρ=some ρ1∧St c O ρ1 σ1 H Φ1∧(∀i,i∉J→σ1 i=σ i∧Φ1 i=Φ i)∧∀i∈J,∀a∈Φ1 i,a∈F
noncomputable def Zah(Φ:Nat→List Nat)(j:Nat)(F:List Nat): Nat→List Nat:=fun i=>if i=j then F else Φ i
theorem St.put{c:Ctx}{O:List Nat}{ρ:Lc}{σ:TL}{H:Hp}{Φ:Nat→List Nat}{v:V}{t:T}{F:List Nat}{j:Nat}(s:St c O ρ σ H Φ)(hj:j∉O)(r:RF H v t F)(hs:∀a∈F,c.H0.length≤a∨c.P a)(ho:∀i∈O,∀t',σ i=some t'→∀a∈Φ i,a∉F): St c O (upd ρ j v) (Z8 σ j t) H (Zah Φ j F):=by
 refine⟨fun i u e=>?_,fun i u e=>?_,fun i hi u e=>?_,s.len,s.keep,s.pos,s.f0⟩
 ·by_cases q:i=j
  ·subst q
   simp[Z8]at e
   subst e
   exact⟨v,by simp[upd],by simpa [Zah]using r⟩
  ·simp[Z8,q]at e
   simpa [upd,Zah,q]using s.slot i u e
 ·by_cases q:i=j
  ·subst q;simpa [Zah]using hs
  ·simp[Z8,q]at e
   simpa [Zah,q]using s.src i u e
 ·have q:i≠j:=fun q=>hj (q▸hi)
  simp[Z8,q]at e
  obtain⟨h1,h2,h3⟩:=s.own i hi u e
  refine⟨by simpa [Zah,q]using h1,by simpa [Zah,q]using h2,fun k w hk ek=>?_⟩
  by_cases q2:k=j
  ·subst q2
   simpa [Zah,q]using ho i hi u e
  ·simp[Z8,q2]at ek
   simpa [Zah,q,q2]using h3 k w hk ek
noncomputable def Zag(j:Nat): T→TL→Option TL:=fun t σ=>some (Z8 σ j t)
noncomputable def ZcF(i j:Nat): T→TL→Option TL
 | .tup [a,b],σ=>some (Z8 (Z8 σ i a) j b)
 | _,_=>none
theorem PutOk.one{O:List Nat}{j:Nat}(hj:j∉O:=by decide): PutOk O [j] (put1 j) (Zag j):=fun c ρ σ H Φ v t F σ1 s r hs ho h=>by
 cases h
 refine⟨_,_,rfl,s.put hj r hs ho,fun i hi=>?_,fun i hi a m=>?_⟩
 ·have:i≠j:=fun q=>hi (by simp[q])
  simp[Z8,Zah,this]
 ·simp at hi;subst hi;simpa [Zah]using m
theorem PutOk.two{O:List Nat}{i j:Nat}(hi:i∉O:=by decide)(hj:j∉O:=by decide)(hij:i≠j:=by decide): PutOk O [i,j] (Zcl i j) (ZcF i j):=fun c ρ σ H Φ v t F σ1 s r hs ho h=>by
 unfold ZcF at h
 split at h
 ·cases h
  cases r with
  | tup hh=>
   obtain⟨v1,v2,F1,F2,rfl,r1,r2,rfl⟩:=hh.two_inv
   have s1:=s.put hi r1 (fun a m=>hs a (Zz4 _ m)) (fun k hk t' e a m q=>ho k hk t' e a m (Zz4 _ q))
   have s2:=s1.put hj r2 (fun a m=>hs a (Zz3 _ m)) (fun k hk t' e a m q=>by
    have:k≠i:=fun q=>hi (q▸hk)
    simp[Z8,Zah,this]at e m
    exact ho k hk t' e a m (Zz3 _ q))
   refine⟨_,_,rfl,s2,fun k hk=>?_,fun k hk a m=>?_⟩
   ·simp at hk
    simp[Z8,Zah,hk.1,hk.2]
   ·simp at hk
    rcases hk with rfl | rfl
    ·simp[Zah,hij]at m
     exact Zz4 _ m
    ·simp[Zah]at m
     exact Zz3 _ m
 ·cases h
noncomputable def Zc5(put:T→TL→Option TL)(c:PB)(f:PE)(σ:TL): List T→Option (List T)
 | []=>some []
 | t::ts=>(put t σ).bind fun σ1=>(c σ1).bind fun b=>if b then(f σ1).bind fun x=>(Zc5 put c f σ ts).map fun xs=>x::xs else Zc5 put c f σ ts
noncomputable def ZaC(g:PG)(put:T→TL→Option TL)(c:PB)(f:PE): PE:=fun σ=>(g σ).bind fun ts=>if ts.length≤LEN then(Zc5 put c f σ ts).map .lst else none
section
variable {O Ns Ne J:List Nat} {u:Bool}
theorem comp_core{put:V→Lc→Option Lc}{pput:T→TL→Option TL}{tc:Ts}{pc:PB}{f:Ex}{pf:PE}(hj:PutOk O J put pput)(hN:∀i∈Ns,i∉O)(hc:Bt O tc pc)(hf:E O Ne u f pf)(hu:u=true→Ne=[])
  {c:Ctx} {ρ:Lc} {σ:TL} {Φ:Nat→List Nat} {H0 H1:Hp} {nx:Nx} {vs:List V} {G:List Nat} (h0:H0.length≤H1.length)
  (hG:∀a∈G,a<H1.length∧From H0 Ns σ Φ a) (hoff:∀a∈G,∀i∈O,∀t,σ i=some t→a∉Φ i) (hsrc:∀a∈G,c.H0.length≤a∨c.P a) (hnx:∀K:Hp,(∀a∈G,K[a]?=H1[a]?)→∀i,i≤vs.length→nx i K=some vs[i]?):
  ∀(rs:List T) (ws:List V) (i:Nat) (acc:List V) (K:Hp) (Fr:List Nat) (out:List T),(∀j,vs[i+j]?=ws[j]?)→i+ws.length=vs.length→St c O ρ σ K Φ→H1.length≤K.length→(∀a∈G,K[a]?=H1[a]?)→RFs K ws rs Fr→(∀a∈Fr,a∈G)→acc.length+rs.length≤LEN→Zc5 pput pc pf σ rs=some out →
   ∃xs X F,ZcE nx put tc f ρ (rs.length+1) i acc K=some (acc++xs,K++X)∧RFs (K++X) xs out F∧(∀a∈F,(u=true→K.length≤a)∧From H0 (Ns++Ne) σ Φ a)∧(u=true→F.Nodup)
 | [],ws,i,acc,K,Fr,out,hat,hlen,s,hl,hk,r,hfr,hacc,h=>by
  cases r
  cases h
  have e:=hnx K hk i (by simp at hlen;omega)
  have e2:vs[i]?=none:=by have:=hat 0;simpa using this
  refine⟨[],[],[],?_,.nil,by simp,by simp⟩
  simp[ZcE,e,e2]
 | t::rs,ws0,i,acc,K,Fr0,out,hat,hlen,s,hl,hk,r,hfr,hacc,h=>by
  cases r with
  | @cons v _ F1 ws _ F2 a b=>
  simp only[List.length_cons]at hlen hacc
  obtain⟨σ1,h1,h⟩:=Zz0.mp h
  obtain⟨bb,h2,h⟩:=Zz0.mp h
  have e:=hnx K hk i (by omega)
  have e2:vs[i]?=some v:=by have:=hat 0;simpa using this
  have hat':∀j,vs[i+1+j]?=ws[j]?:=fun j=>by have:=hat (j+1);rw[show i+1+j=i+(j+1)by omega,this];simp
  obtain⟨ρ1,Φ1,p1,s1,p3,p4⟩:=hj c ρ σ K Φ v t F1 σ1 s a (fun x m=>hsrc x (hfr x (Zz4 _ m))) (fun k hk t' e x m q=>hoff x (hfr x (Zz4 _ q)) k hk t' e m) h1
  obtain⟨X1,c1⟩:=hc c ρ1 σ1 K Φ1 bb s1 h2
  cases bb with
  | true=>
   obtain⟨y,h3,h⟩:=Zz0.mp h
   obtain⟨ys,h4,h⟩:=Zz1.mp h
   subst h
   obtain⟨w,X2,Fw,d1,d2,d3,d4⟩:=hf c ρ1 σ1 (K++X1) Φ1 y (s1.ext X1) h3
   have hext:∀a∈G,(K++X1++X2)[a]?=H1[a]?:=fun a m=>by
    have:=(hG a m).1
    rw[List.append_assoc,List.getElem?_append_left (by omega)];exact hk a m
   obtain⟨xs,X3,F3,f1,f2,f3,f4⟩:=comp_core hj hN hc hf hu h0 hG hoff hsrc hnx rs ws (i+1) (acc++[w]) (K++X1++X2) F2 ys hat' (by omega) ((s.ext X1).ext X2) (by simp;omega) hext (by rw[List.append_assoc];exact b.ext _) (fun x m=>hfr x (Zz3 _ m)) (by simp;omega) h4
   refine⟨w::xs,X1++X2++X3,Fw++F3,?_,?_,fun x m=>?_,fun hu'=>?_⟩
   ·rw[List.length_cons,ZcE,e,e2]
    simp only[Option.bind_some,p1,c1,d1,if_true]
    rw[if_pos (by omega)]
    simpa using f1
   ·have:=RFs.cons (d2.ext X3) f2
    simpa using this
   ·rcases Zz8.mp m with m | m
    ·refine⟨fun hu'=>?_,?_⟩
     ·have hne:=hu hu'
      subst hne
      have:=(d3 x m).nil
      simp at this;omega
     ·rcases d3 x m with q | ⟨k,hk1,⟨tk,ek⟩,mk⟩
      ·exact .inl (by simp at q;omega)
      ·by_cases hkJ:k∈J
       ·exact(hG x (hfr x (Zz4 _ (p4 k hkJ x mk)))).2.mono fun i hi=>List.mem_append_left _ hi
       ·obtain⟨q1,q2⟩:=p3 k hkJ
        exact .inr ⟨k,List.mem_append_right _ hk1,⟨tk,q1▸ek⟩,q2▸mk⟩
    ·obtain⟨g1,g2⟩:=f3 x m
     exact⟨fun hu'=>by have:=g1 hu';simp at this;omega,g2⟩
   ·rw[List.nodup_append]
    refine⟨d4 hu',f4 hu',fun x hx y hy e=>?_⟩
    have l1:=d2.lt x hx
    have l2:=(f3 y hy).1 hu'
    omega
  | false=>
   have hext:∀a∈G,(K++X1)[a]?=H1[a]?:=fun a m=>by
    have:=(hG a m).1
    rw[List.getElem?_append_left (by omega)];exact hk a m
   obtain⟨xs,X3,F3,f1,f2,f3,f4⟩:=comp_core hj hN hc hf hu h0 hG hoff hsrc hnx rs ws (i+1) acc (K++X1) F2 out hat' (by omega) (s.ext X1) (by simp;omega) hext (b.ext _) (fun x m=>hfr x (Zz3 _ m)) (by omega) (by simpa using h)
   refine⟨xs,X1++X3,F3,?_,by simpa using f2,fun x m=>?_,f4⟩
   ·rw[List.length_cons,ZcE,e,e2]
    simp only[Option.bind_some,p1,c1]
    simpa using f1
   ·obtain⟨g1,g2⟩:=f3 x m
    exact⟨fun hu'=>by have:=g1 hu';simp at this;omega,g2⟩
theorem ZpM{g:Src}{q:PG}{put:V→Lc→Option Lc}{pput:T→TL→Option TL}{tc:Ts}{pc:PB}{f:Ex}{pf:PE}(hg:Gs O Ns g q)(hj:PutOk O J put pput)(hN:∀i∈Ns,i∉O)(hc:Bt O tc pc)(hf:E O Ne u f pf)(hu:u=true→Ne=[]): E O (if u then []else Ns++Ne) u (ZaJ g put tc f) (ZaC q pput pc pf):=fun c ρ σ H Φ t s h=>by
 obtain⟨ts,h1,h⟩:=Zz0.mp h
 split at h
 ·rename_i hl
  obtain⟨out,h2,h⟩:=Zz1.mp h
  subst h
  obtain⟨nx,X,vs,F,G,g1,g2,g3,g4,g5⟩:=hg c ρ σ H Φ ts s h1
  obtain⟨xs,Y,F',d1,d2,d3,d4⟩:=comp_core hj hN hc hf hu (H0:=H) (H1:=H++X) (by simp) g4 (fun a m i hi t e=>s.from_off hN (g4 a m).2 hi e) (fun a m=>s.from_src (g4 a m).2) g5 ts vs 0 [] (H++X) F out (by simp) (by simp) (s.ext X) (Zz10 _) (fun _ _=>rfl) g2 g3 (by simpa using hl) h2
  refine⟨.ref (H++X++Y).length,X++Y++[xs],(H++X++Y).length::F',?_,?_,fun a m=>?_,fun hu'=>?_⟩
  ·simp only[ZaJ,g1,Option.bind_some,d1,Option.map_some,List.nil_append,List.append_assoc]
  ·have:=ZeI d2
   simpa using this
  ·rcases Zz7.mp m with rfl | m
   ·exact .inl (by simp)
   ·obtain⟨q1,q2⟩:=d3 a m
    cases u with
    | true=>exact .inl (by have:=q1 rfl;simp at this;omega)
    | false=>exact q2
  ·rw[List.nodup_cons]
   exact⟨fun m=>Nat.lt_irrefl _ (d2.lt _ m),d4 hu'⟩
 ·cases h
end
end TM
end
section
namespace TM
open PySem PM
noncomputable abbrev PS:=TL→Option (Option T×TL)
noncomputable def Zcx(σ:TL)(N:List Nat): TL:=fun j=>if j∈N then none else σ j
def Held(O:List Nat)(σ:TL)(Φ:Nat→List Nat)(a:Nat): Prop:=∃j∈O,(∃t,σ j=some t)∧a∈Φ j
def Aft(c:Ctx)(O O' R:List Nat)(fr:Bool)(σ:TL)(H:Hp)(Φ:Nat→List Nat)(g:Option (Option V×Lc×Hp))(r:Option T×TL): Prop:=
 ∃ρ' H' Φ',H.length≤H'.length∧(∀a,a<H.length→¬Held O σ Φ a→H'[a]?=H[a]?) ∧
  ((r.1=none∧g=some (none,ρ',H')∧St c O' ρ' r.2 H' Φ'∧∀a,Held O' r.2 Φ' a→H.length≤a∨Held O σ Φ a) ∨
  ∃t v F,r.1=some t∧g=some (some v,ρ',H')∧RF H' v t F∧St c R ρ' r.2 H' Φ'∧(∀a∈F,c.H0.length≤a∨c.P a)∧(fr=true→F.Nodup∧∀a∈F,c.H0.length≤a∨a∈c.F0))
def S(O O' R:List Nat)(fr:Bool)(g:Sm)(q:PS): Prop:=∀(c:Ctx) (ρ:Lc) (σ:TL) (H:Hp) (Φ:Nat→List Nat) (r:Option T×TL),St c O ρ σ H Φ→q σ=some r→Aft c O O' R fr σ H Φ (g ρ H) r
theorem Held.mono{O O':List Nat}{σ:TL}{Φ:Nat→List Nat}{a:Nat}(h:Held O σ Φ a)(s:∀i∈O,i∈O'): Held O' σ Φ a:=by
 obtain⟨j,hj,q⟩:=h;exact⟨j,s j hj,q⟩
section
variable {O O' R:List Nat} {fr:Bool}
theorem Zvd{O1:List Nat}{g:Sm}{q:PS}(x:S O O1 R fr g q)(h:∀i∈O',i∈O1): S O O' R fr g q:=fun c ρ σ H Φ r s e=>by
 obtain⟨ρ',H',Φ',h1,h2,h3⟩:=x c ρ σ H Φ r s e
 refine⟨ρ',H',Φ',h1,h2,?_⟩
 rcases h3 with⟨k1,k2,k3,k4⟩ | k
 ·exact .inl ⟨k1,k2,k3.less h,fun a m=>k4 a (m.mono h)⟩
 ·exact .inr k
noncomputable def ZX: PS:=fun σ=>some (none,σ)
theorem Z6: S O O R fr ZY ZX:=fun c ρ σ H Φ r s e=>by
 cases e
 exact⟨ρ,H,Φ,Nat.le_refl _,fun _ _ _=>rfl,.inl ⟨rfl,rfl,s,fun a m=>.inr m⟩⟩
noncomputable def Zs(a b:PS): PS:=fun σ=>(a σ).bind fun r=>match r.1 with
 | some _=>some r
 | none=>b r.2
theorem Zx{O1:List Nat}{a b:Sm}{p q:PS}(x:S O O1 R fr a p)(y:S O1 O' R fr b q): S O O' R fr (Zt a b) (Zs p q):=fun c ρ σ H Φ r s e=>by
 obtain⟨r1,e1,e⟩:=Zz0.mp e
 obtain⟨ρ1,H1,Φ1,h1,h2,h3⟩:=x c ρ σ H Φ r1 s e1
 rcases h3 with⟨k1,k2,k3,k4⟩ | ⟨t,v,F,k1,k2,k3⟩
 ·rw[k1]at e
  obtain⟨ρ2,H2,Φ2,g1,g2,g3⟩:=y c ρ1 r1.2 H1 Φ1 r k3 e
  refine⟨ρ2,H2,Φ2,Nat.le_trans h1 g1,fun a ha hn=>?_,?_⟩
  ·rw[g2 a (by omega) fun q=>(k4 a q).elim (fun q=>by omega) hn,h2 a ha hn]
  ·have eg:Zt a b ρ H=b ρ1 H1:=by simp only[Zt,k2,Option.bind_some]
   rw[eg]
   rcases g3 with⟨l1,l2,l3,l4⟩ | l
   ·refine .inl ⟨l1,l2,l3,fun a m=>?_⟩
    rcases l4 a m with q | q
    ·exact .inl (by omega)
    ·exact k4 a q
   ·exact .inr l
 ·rw[k1]at e
  cases e
  exact⟨ρ1,H1,Φ1,h1,h2,.inr ⟨t,v,F,k1,by simp only[Zt,k2,Option.bind_some],k3⟩⟩
noncomputable def ZE(p:PE): PS:=fun σ=>(p σ).map fun t=>(some t,σ)
theorem ZP{N:List Nat}{u:Bool}{e:Ex}{p:PE}(x:E O N u e p)(hR:∀i∈R,i∈O:=by decide): S O O' R false (ZD e) (ZE p):=fun c ρ σ H Φ r s q=>by
 obtain⟨t,h1,h⟩:=Zz1.mp q
 subst h
 obtain⟨v,X,F,a1,a2,a3,a4⟩:=x c ρ σ H Φ t s h1
 refine⟨ρ,H++X,Φ,by simp,fun a ha _=>List.getElem?_append_left ha,.inr ⟨t,v,F,rfl,by simp only[ZD,a1,Option.map_some],a2,(s.ext X).less hR,fun a m=>s.from_src (a3 a m),by simp⟩⟩
theorem ZaU{N:List Nat}{e:Ex}{p:PE}(x:E O N true e p)(hN:∀i∈N,i∈O:=by decide)(hR:∀i∈R,i∈O:=by decide): S O O' R fr (ZD e) (ZE p):=fun c ρ σ H Φ r s q=>by
 obtain⟨t,h1,h⟩:=Zz1.mp q
 subst h
 obtain⟨v,X,F,a1,a2,a3,a4⟩:=x c ρ σ H Φ t s h1
 refine⟨ρ,H++X,Φ,by simp,fun a ha _=>List.getElem?_append_left ha,.inr ⟨t,v,F,rfl,by simp only[ZD,a1,Option.map_some],a2,(s.ext X).less hR,fun a m=>s.from_src (a3 a m),fun _=>⟨a4 rfl,fun a m=>?_⟩⟩⟩
 rcases a3 a m with q | ⟨i,hi,⟨t',e'⟩,m'⟩
 ·exact .inl (Nat.le_trans s.len q)
 ·exact(s.own i (hN i hi) t' e').2.1 a m'
noncomputable def ZM(i:Nat)(p:PE): PS:=fun σ=>(p σ).map fun t=>(none,Z8 σ i t)
theorem ZV{N:List Nat}{u:Bool}{i:Nat}{e:Ex}{p:PE}(x:E O N u e p)(hi:i∉O':=by decide)(hN:∀j∈N,j∉O':=by decide)(hO:∀j∈O',j∈O:=by decide): S O O' R fr (ZK i e) (ZM i p):=fun c ρ σ H Φ r s q=>by
 obtain⟨t,h1,h⟩:=Zz1.mp q
 subst h
 obtain⟨v,X,F,a1,a2,a3,a4⟩:=x c ρ σ H Φ t s h1
 have s':=s.less hO
 refine⟨upd ρ i v,H++X,Zah Φ i F,by simp,fun a ha _=>List.getElem?_append_left ha,.inl ⟨rfl,by simp only[ZK,a1,Option.map_some],(s'.ext X).put hi a2 (fun a m=>s.from_src (a3 a m)) (fun k hk t' e' a m q=>?_),fun a m=>?_⟩⟩
 ·exact s'.from_off hN (a3 a q) hk e' m
 ·obtain⟨k,hk,⟨t',e'⟩,m⟩:=m
  have:k≠i:=fun q=>hi (q▸hk)
  simp[Z8,this]at e'
  simp[Zah,this]at m
  exact .inr ⟨k,hO k hk,⟨t',e'⟩,m⟩
theorem Zcf{i:Nat}{e:Ex}{p:PE}(x:E O [] true e p)(hO:∀j∈O',j∈O∨j=i:=by decide): S O O' R fr (ZK i e) (ZM i p):=fun c ρ σ H Φ r s q=>by
 obtain⟨t,h1,h⟩:=Zz1.mp q
 subst h
 obtain⟨v,X,F,a1,a2,a3,a4⟩:=x c ρ σ H Φ t s h1
 have hnew:∀a∈F,H.length≤a:=fun a m=>(a3 a m).nil
 have hold:∀k t',σ k=some t'→∀a∈Φ k,a<H.length:=fun k t' e a m=>by
  obtain⟨_,_,r⟩:=s.slot k t' e
  exact r.lt a m
 refine⟨upd ρ i v,H++X,Zah Φ i F,by simp,fun a ha _=>List.getElem?_append_left ha,.inl ⟨rfl,by simp only[ZK,a1,Option.map_some],⟨fun k t' e'=>?_,fun k t' e'=>?_,fun k hk t' e'=>?_,(s.ext X).len,(s.ext X).keep,s.pos,s.f0⟩,fun a m=>?_⟩⟩
 ·by_cases q:k=i
  ·subst q
   simp[Z8]at e'
   subst e'
   exact⟨v,by simp[upd],by simpa [Zah]using a2⟩
  ·simp[Z8,q]at e'
   simpa [upd,Zah,q]using (s.ext X).slot k t' e'
 ·by_cases q:k=i
  ·subst q;simpa [Zah]using fun a m=>s.from_src (a3 a m)
  ·simp[Z8,q]at e'
   simpa [Zah,q]using s.src k t' e'
 ·by_cases q:k=i
  ·subst q
   simp only[Zah,if_true]
   refine⟨a4 rfl,fun a m=>.inl (Nat.le_trans s.len (hnew a m)),fun j w hj ej a m q=>?_⟩
   simp[Z8,hj]at ej
   rw[if_neg hj]at q
   have:=hold j w ej a q
   have:=hnew a m
   omega
  ·have hk':=(hO k hk).resolve_right q
   simp[Z8,q]at e'
   obtain⟨o1,o2,o3⟩:=s.own k hk' t' e'
   refine⟨by simpa [Zah,q]using o1,by simpa [Zah,q]using o2,fun j w hj ej a m=>?_⟩
   simp[Zah,q]at m
   by_cases q2:j=i
   ·subst q2
    simp only[Zah,if_true]
    intro m2
    have:=hold k t' e' a m
    have:=hnew a m2
    omega
   ·simp[Z8,q2]at ej
    simpa [Zah,q2]using o3 j w hj ej a m
 ·obtain⟨k,hk,⟨t',e'⟩,m⟩:=m
  by_cases q:k=i
  ·subst q
   simp[Zah]at m
   exact .inl (hnew a m)
  ·simp[Z8,q]at e'
   simp[Zah,q]at m
   exact .inr ⟨k,(hO k hk).resolve_right q,⟨t',e'⟩,m⟩
noncomputable def ZU(b:PB)(p q:PS): PS:=fun σ=>(b σ).bind fun x=>if x then p σ else q σ
theorem Aft.grow{c:Ctx}{σ:TL}{H X:Hp}{Φ:Nat→List Nat}{g:Option (Option V×Lc×Hp)}{r:Option T×TL}(h:Aft c O O' R fr σ (H++X) Φ g r): Aft c O O' R fr σ H Φ g r:=by
 obtain⟨ρ',H',Φ',h1,h2,h3⟩:=h
 rw[List.length_append]at h1
 refine⟨ρ',H',Φ',by omega,fun a ha hn=>?_,?_⟩
 ·rw[h2 a (by rw[List.length_append];omega) hn,List.getElem?_append_left ha]
 ·rcases h3 with⟨k1,k2,k3,k4⟩ | k
  ·exact .inl ⟨k1,k2,k3,fun a m=>(k4 a m).imp (fun q=>by rw[List.length_append]at q;omega) id⟩
  ·exact .inr k
theorem Z3{t:Ts}{pb:PB}{a b:Sm}{p q:PS}(z:Bt O t pb)(x:S O O' R fr a p)(y:S O O' R fr b q): S O O' R fr (ZT t a b) (ZU pb p q):=fun c ρ σ H Φ r s e=>by
 obtain⟨bb,e1,e⟩:=Zz0.mp e
 obtain⟨X,h1⟩:=z c ρ σ H Φ bb s e1
 cases bb with
 | true=>
  have:=x c ρ σ (H++X) Φ r (s.ext X) (by simpa using e)
  have eg:ZT t a b ρ H=a ρ (H++X):=by simp[ZT,h1]
  rw[eg]
  exact this.grow
 | false=>
  have:=y c ρ σ (H++X) Φ r (s.ext X) (by simpa using e)
  have eg:ZT t a b ρ H=b ρ (H++X):=by simp[ZT,h1]
  rw[eg]
  exact this.grow
noncomputable def qNo: PS:=fun _=>none
noncomputable def sNo: Sm:=fun _ _=>none
theorem Zwq{g:Sm}: S O O' R fr g qNo:=fun c ρ σ H Φ r s q=>by cases q
noncomputable def follow(H:Hp): List Int→V→Option V
 | [],v=>some v
 | k::ks,v=>(Zu v (.int k) H).bind fun q=>follow H ks q.1
theorem Lead.follow{H:Hp}{ks:List Int}{v:V}{a:Nat}(l:Lead H ks v a): follow H ks v=some (.ref a):=by
 induction l with
 | nil=>rfl
 | ref h1 h2 h3 _ ih=>simp only[TM.follow,Zu,h1,Option.bind_some,h2,h3,Option.map_some,ih]
 | tup h2 h3 _ ih=>simp only[TM.follow,Zu,Option.bind_some,h2,h3,Option.map_some,ih]
theorem Zle{H:Hp}{v w z:V}{K:Hp}(h:Zu v z H=some (w,K))(X:Hp): K=H∧Zu v z (H++X)=some (w,H++X):=by
 unfold Zu at h
 split at h
 ·obtain⟨vs,e1,h⟩:=Zz0.mp h
  obtain⟨j,e2,h⟩:=Zz0.mp h
  obtain⟨x,e3,h⟩:=Zz1.mp h
  cases h
  exact⟨rfl,by simp only[Zu,List.getElem?_append_left (Zz6.mp e1).1,e1,Option.bind_some,e2,e3,Option.map_some]⟩
 ·obtain⟨j,e2,h⟩:=Zz0.mp h
  obtain⟨x,e3,h⟩:=Zz1.mp h
  cases h
  exact⟨rfl,by simp only[Zu,Option.bind_some,e2,e3,Option.map_some]⟩
 ·cases h
theorem ZnL{H:Hp}{k:Int}: ∀{ks:List Int} {v:V},follow H (ks++[k]) v=(follow H ks v).bind fun w=>(Zu w (.int k) H).map (·.1)
 | [],v=>by
  simp only[List.nil_append,follow,Option.bind_some]
  cases Zu v (.int k) H <;> rfl
 | j::ks,v=>by
  simp only[List.cons_append,follow]
  cases Zu v (.int j) H with
  | none=>rfl
  | some q=>simp only[Option.bind_some];exact ZnL
noncomputable abbrev PPa:=TL→Option (List Int)
noncomputable def Zas: PPa:=fun _=>some []
noncomputable def Zbs(p:PPa)(i:PE): PPa:=fun σ=>(p σ).bind fun ks=>(i σ).bind fun t=>match t with
 | .int k=>some (ks++[k])
 | _=>none
def Pa(O:List Nat)(x:Nat)(e:Ex)(p:PPa): Prop:=∀(c:Ctx) (ρ:Lc) (σ:TL) (H:Hp) (Φ:Nat→List Nat) (ks:List Int) (v w:V),St c O ρ σ H Φ→p σ=some ks→ρ x=some v→follow H ks v=some w→∃X,e ρ H=some (w,H++X)
theorem ZbA{x:Nat}: Pa O x (Zb x) Zas:=fun c ρ σ H Φ ks v w s h e f=>by
 cases h;cases f
 exact⟨[],by simp[Zb,e]⟩
theorem ZdG{x:Nat}{N:List Nat}{u:Bool}{e i:Ex}{p:PPa}{pi:PE}(y:Pa O x e p)(z:E O N u i pi): Pa O x (Zg Zu e i) (Zbs p pi):=fun c ρ σ H Φ ks v w s h ev f=>by
 obtain⟨ks0,h1,h⟩:=Zz0.mp h
 obtain⟨t,h2,h⟩:=Zz0.mp h
 cases t <;> first | (cases h;done) | skip
 rename_i k
 cases h
 rw[ZnL]at f
 obtain⟨w0,f1,f⟩:=Zz0.mp f
 obtain⟨⟨w1,K⟩,f2,f⟩:=Zz1.mp f
 cases f
 obtain⟨X,a1⟩:=y c ρ σ H Φ ks0 v w0 s h1 ev f1
 obtain⟨vi,Y,F,b1,b2,b3,b4⟩:=z c ρ σ (H++X) Φ _ (s.ext X) h2
 cases b2
 refine⟨X++Y,?_⟩
 simp only[Zg,a1,Option.bind_some,b1]
 have:=(Zle f2 (X++Y)).2
 rw[List.append_assoc]
 exact this
theorem ZpN{c:Ctx}{ρ:Lc}{σ:TL}{H:Hp}{Φ:Nat→List Nat}{N:List Nat}{x a b:Nat}{t t':T}{v:V}{Fw F':List Nat}{vs':List V}(s:St c O ρ σ H Φ)(hx:x∈O)(ex:σ x=some t)(ev:ρ x=some v)(hb:c.H0.length≤b)(hlow:∀k t,σ k=some t→∀a∈Φ k,a<b)
  (hFw:∀a∈Fw,b≤a∨∃j∈N,(∃t,σ j=some t)∧a∈Φ j) (hN:∀j∈N,j∈O∧j≠x) (ha:a∈Φ x) (r:RF (H.set a vs') v t' F') (nd:F'.Nodup) (sub:∀y∈F',y∈Φ x∨y∈Fw) (hO:∀j∈O',j∈O∧j∉N):
  St c O' ρ (Zcx (Z8 σ x t') N) (H.set a vs') (Zah Φ x F')∧(∀y,Held O' (Zcx (Z8 σ x t') N) (Zah Φ x F') y→b≤y∨Held O σ Φ y):=by
 obtain⟨o1,o2,o3⟩:=s.own x hx t ex
 have old:∀k u,k≠x→Zcx (Z8 σ x t') N k=some u→σ k=some u∧k∉N:=fun k u hk e=>by
  unfold Zcx at e
  split at e
  ·cases e
  ·rename_i hn
   simp[Z8,hk]at e
   exact⟨e,hn⟩
 have self:∀u,Zcx (Z8 σ x t') N x=some u→u=t':=fun u e=>by
  unfold Zcx at e
  split at e
  ·cases e
  ·simp[Z8]at e;exact e.symm
 have foff:∀y∈F',∀k u,k≠x→σ k=some u→k∉N→y∉Φ k:=fun y hy k u hk e hkn m=>by
  rcases sub y hy with q | q
  ·exact o3 k u hk e y q m
  ·rcases hFw y q with q | ⟨j,hj,⟨tj,ej⟩,mj⟩
   ·have:=hlow k u e y m;omega
   ·exact(s.own j (hN j hj).1 tj ej).2.2 k u (fun q=>hkn (q▸hj)) e y mj m
 refine⟨⟨fun k u e=>?_,fun k u e=>?_,fun k hk u e=>?_,by simpa using s.len,fun y hy hn=>?_,s.pos,s.f0⟩,fun y hy=>?_⟩
 ·by_cases q:k=x
  ·subst q
   have:=self u e
   subst this
   exact⟨v,ev,by simpa [Zah]using r⟩
  ·obtain⟨e1,e2⟩:=old k u q e
   obtain⟨w,h1,h2⟩:=s.slot k u e1
   refine⟨w,h1,?_⟩
   simp only[Zah,q,if_false]
   refine h2.frame fun y hy=>List.getElem?_set_ne fun q'=>?_
   exact o3 k u q e1 a ha (q'▸hy)
 ·by_cases q:k=x
  ·subst q
   simp only[Zah,if_true]
   intro y hy
   rcases sub y hy with q | q
   ·exact s.src k t ex y q
   ·rcases hFw y q with q | ⟨j,hj,⟨tj,ej⟩,mj⟩
    ·exact .inl (by omega)
    ·exact s.src j tj ej y mj
  ·obtain⟨e1,e2⟩:=old k u q e
   simpa [Zah,q]using s.src k u e1
 ·by_cases q:k=x
  ·subst q
   simp only[Zah,if_true]
   refine⟨nd,fun y hy=>?_,fun j w hj ej y hy=>?_⟩
   ·rcases sub y hy with q | q
    ·exact o2 y q
    ·rcases hFw y q with q | ⟨j,hj,⟨tj,ej⟩,mj⟩
     ·exact .inl (by omega)
     ·exact(s.own j (hN j hj).1 tj ej).2.1 y mj
   ·obtain⟨e1,e2⟩:=old j w hj ej
    simpa [hj]using foff y hy j w hj e1 e2
  ·obtain⟨e1,e2⟩:=old k u q e
   obtain⟨p1,p2,p3⟩:=s.own k (hO k hk).1 u e1
   simp only[Zah,q,if_false]
   refine⟨p1,p2,fun j w hj ej y hy=>?_⟩
   by_cases q2:j=x
   ·subst q2
    simp only[if_true]
    exact fun m=>foff y m k u q e1 e2 hy
   ·obtain⟨f1,f2⟩:=old j w q2 ej
    simpa [q2]using p3 j w hj f1 y hy
 ·have:a≠y:=fun q=>by
   subst q
   rcases o2 a ha with q | q
   ·omega
   ·exact hn q
  rw[List.getElem?_set_ne this]
  exact s.keep y hy hn
 ·obtain⟨k,hk,⟨u,e⟩,m⟩:=hy
  by_cases q:k=x
  ·subst q
   simp only[Zah,if_true]at m
   rcases sub y m with q | q
   ·exact .inr ⟨k,hx,⟨t,ex⟩,q⟩
   ·rcases hFw y q with q | ⟨j,hj,q⟩
    ·exact .inl q
    ·exact .inr ⟨j,(hN j hj).1,q⟩
  ·obtain⟨e1,e2⟩:=old k u q e
   simp only[Zah,q,if_false]at m
   exact .inr ⟨k,(hO k hk).1,⟨u,e1⟩,m⟩
theorem Zl4{c:Ctx}{ρ:Lc}{σ:TL}{H:Hp}{Φ:Nat→List Nat}{x a:Nat}{t:T}(s:St c O ρ σ H Φ)(hx:x∈O)(ex:σ x=some t)(ha:a∈Φ x): a≠0:=by
 have:=s.pos
 rcases(s.own x hx t ex).2.1 a ha with q | q
 ·omega
 ·exact fun e=>s.f0 (e▸q)
noncomputable def Zfw(w:T)(ts:List T): Option (List T):=if ts.length<LEN then some (ts++[w])else none
noncomputable def Zfx(k:Int)(w:T)(ts:List T): Option (List T):=if 0≤k∧k<ts.length then some (ts.set k.toNat w)else none
noncomputable def ZcI(x:Nat)(N:List Nat)(po:PPa)(p:PE): PS:=fun σ=>(po σ).bind fun ks=>(p σ).bind fun w=>(σ x).bind fun t=>(ZcG (Zfw w) ks t).map fun t'=>(none,Zcx (Z8 σ x t') N)
noncomputable def ZaY(x:Nat)(N:List Nat)(p:PE)(po:PPa)(pi:PE): PS:=fun σ=>(p σ).bind fun w=>(po σ).bind fun ks=>(pi σ).bind fun k=>match k with
 | .int k=>(σ x).bind fun t=>(ZcG (Zfx k w) ks t).map fun t'=>(none,Zcx (Z8 σ x t') N)
 | _=>none
theorem ZfP{H:Hp}(X:Hp): ∀{ks:List Int} {v w:V},follow H ks v=some w→follow (H++X) ks v=some w
 | [],_,_,h=>h
 | k::ks,v,w,h=>by
  obtain⟨⟨w1,K⟩,h1,h2⟩:=Zz0.mp h
  simp only[follow,(Zle h1 X).2,Option.bind_some]
  exact ZfP X h2
theorem Ziq{x:Nat}{N:List Nat}{o e:Ex}{po:PPa}{p:PE}(hx:x∈O)(y:Pa O x o po)(z:E O N true e p)(hN:∀j∈N,j∈O∧j≠x)(hO:∀j∈O',j∈O∧j∉N): S O O' R fr (Zck (Zep o e)) (ZcI x N po p):=fun c ρ σ H Φ r s q=>by
 obtain⟨ks,h1,q⟩:=Zz0.mp q
 obtain⟨w,h2,q⟩:=Zz0.mp q
 obtain⟨t,h3,q⟩:=Zz0.mp q
 obtain⟨t',h4,q⟩:=Zz1.mp q
 subst q
 obtain⟨v,ev,rv⟩:=s.slot x t h3
 have hlow:∀k t,σ k=some t→∀a∈Φ k,a<H.length:=fun k t e a m=>by
  obtain⟨_,_,r⟩:=s.slot k t e
  exact r.lt a m
 obtain⟨o1,o2,o3⟩:=s.own x hx t h3
 obtain⟨a,vs0,ts0,ts0',G0,l0,_⟩:=Zfk (Gn:=[]) ks rv o1 (by simp) h4
 obtain⟨X,a1⟩:=y c ρ σ H Φ ks v (.ref a) s h1 ev l0.follow
 obtain⟨vw,Y,Fw,b1,b2,b3,b4⟩:=z c ρ σ (H++X) Φ w (s.ext X) h2
 have s2:=(s.ext X).ext Y
 have rv2:RF (H++X++Y) v t (Φ x):=(rv.ext X).ext Y
 have hFw:∀a∈Fw,H.length≤a∨∃j∈N,(∃t,σ j=some t)∧a∈Φ j:=fun a m=>(b3 a m).back
 have dsj:∀a∈Fw,a∉Φ x:=fun a m q=>by
  rcases hFw a m with h | ⟨j,hj,⟨tj,ej⟩,mj⟩
  ·have:=hlow x t h3 a q;omega
  ·exact o3 j tj (hN j hj).2 ej a q mj
 obtain⟨a',vs,ts,ts',G,l,am,ea,hs,hf,gn,na,gs,go⟩:=Zfk (Gn:=Fw) ks rv2 o1 dsj h4
 have haa:a'=a:=by
  have f2:=ZfP Y (ZfP X l0.follow)
  rw[l.follow]at f2
  cases f2
  rfl
 subst haa
 unfold Zfw at hf
 split at hf
 ·rename_i hl
  cases hf
  obtain⟨F',r',n',sub'⟩:=go (vs++[vw]) (G++Fw) (hs.snoc b2) (by
   rw[List.nodup_append]
   exact⟨gn,b4 rfl,fun y hy z hz e=>dsj z hz (e▸gs y hy)⟩) (fun m=>(Zz8.mp m).elim na fun m=>dsj _ m am) (fun y m=>List.mem_append.mp m)
  obtain⟨st,com⟩:=ZpN (O':=O') (b:=H.length) s2 hx h3 ev s.len hlow hFw hN am r' n' sub' hO
  refine⟨ρ,(H++X++Y).set a' (vs++[vw]),Zah Φ x F',by simp,fun y hy hn=>?_,.inl ⟨rfl,?_,st,com⟩⟩
  ·have:a'≠y:=fun q=>hn ⟨x,hx,⟨t,h3⟩,q▸am⟩
   rw[List.getElem?_set_ne this,List.append_assoc,List.getElem?_append_left hy]
  ·simp only[Zck,Zep,a1,Option.bind_some,b1,Zgg,ea]
   rw[if_pos ⟨Zl4 s hx h3 am,by rw[hs.length];exact hl⟩]
   rfl
 ·cases hf
theorem S.put{x:Nat}{N M:List Nat}{u:Bool}{o e i:Ex}{po:PPa}{p pi:PE}(hx:x∈O)(z:E O N true e p)(y:Pa O x o po)(zi:E O M u i pi)(hN:∀j∈N,j∈O∧j≠x)(hO:∀j∈O',j∈O∧j∉N): S O O' R fr (ZbB e o i) (ZaY x N p po pi):=fun c ρ σ H Φ r s q=>by
 obtain⟨w,h2,q⟩:=Zz0.mp q
 obtain⟨ks,h1,q⟩:=Zz0.mp q
 obtain⟨tk,h5,q⟩:=Zz0.mp q
 cases tk <;> first | (cases q;done) | skip
 rename_i k
 obtain⟨t,h3,q⟩:=Zz0.mp q
 obtain⟨t',h4,q⟩:=Zz1.mp q
 subst q
 obtain⟨v,ev,rv⟩:=s.slot x t h3
 have hlow:∀k t,σ k=some t→∀a∈Φ k,a<H.length:=fun k t e a m=>by
  obtain⟨_,_,r⟩:=s.slot k t e
  exact r.lt a m
 obtain⟨o1,o2,o3⟩:=s.own x hx t h3
 obtain⟨vw,X,Fw,b1,b2,b3,b4⟩:=z c ρ σ H Φ w s h2
 obtain⟨a,vs0,ts0,ts0',G0,l0,_⟩:=Zfk (Gn:=[]) ks (rv.ext X) o1 (by simp) h4
 obtain⟨Y,a1⟩:=y c ρ σ (H++X) Φ ks v (.ref a) (s.ext X) h1 ev l0.follow
 obtain⟨vk,Z,Fk,d1,d2,d3,d4⟩:=zi c ρ σ (H++X++Y) Φ _ ((s.ext X).ext Y) h5
 cases d2
 have s2:=((s.ext X).ext Y).ext Z
 have rv2:RF (H++X++Y++Z) v t (Φ x):=((rv.ext X).ext Y).ext Z
 have hFw:∀a∈Fw,H.length≤a∨∃j∈N,(∃t,σ j=some t)∧a∈Φ j:=b3
 have dsj:∀a∈Fw,a∉Φ x:=fun a m q=>by
  rcases hFw a m with h | ⟨j,hj,⟨tj,ej⟩,mj⟩
  ·have:=hlow x t h3 a q;omega
  ·exact o3 j tj (hN j hj).2 ej a q mj
 obtain⟨a',vs,ts,ts',G,l,am,ea,hs,hf,gn,na,gs,go⟩:=Zfk (Gn:=Fw) ks rv2 o1 dsj h4
 have haa:a'=a:=by
  have f2:=ZfP Z (ZfP Y l0.follow)
  rw[l.follow]at f2
  cases f2
  rfl
 subst haa
 unfold Zfx at hf
 split at hf
 ·rename_i hl
  cases hf
  have hk:k.toNat<ts.length:=by omega
  obtain⟨v0,Gk,F1,F2,e0,r0,eG,rb⟩:=hs.split (List.getElem?_eq_getElem hk)
  have b2':RF (H++X++Y++Z) vw w Fw:=(b2.ext Y).ext Z
  have rs:=rb (H++X++Y++Z) vw w Fw b2' (fun _ _=>rfl) (fun _ _=>rfl)
  have sub0:∀a∈Fw,a∈Gk∨a∈Fw:=fun a m=>.inr m
  subst eG
  obtain⟨F',r',n',sub'⟩:=go _ _ rs (nd3 gn (b4 rfl) sub0 fun a m q=>dsj a m (gs a q)) (fun m=>by
   rcases in3 (G:=Gk) sub0 _ m with m | m
   ·exact na m
   ·exact dsj _ m am) (in3 sub0)
  obtain⟨st,com⟩:=ZpN (O':=O') (b:=H.length) s2 hx h3 ev s.len hlow hFw hN am r' n' sub' hO
  refine⟨ρ,(H++X++Y++Z).set a' (vs.set k.toNat vw),Zah Φ x F',by simp,fun y hy hn=>?_,.inl ⟨rfl,?_,st,com⟩⟩
  ·have:a'≠y:=fun q=>hn ⟨x,hx,⟨t,h3⟩,q▸am⟩
   rw[List.getElem?_set_ne this,List.append_assoc,List.append_assoc,List.getElem?_append_left hy]
  ·simp only[ZbB,b1,Option.bind_some,a1,d1,ZmX,ea]
   rw[if_pos ⟨Zl4 s hx h3 am,by rw[hs.length];exact hl⟩]
   rfl
 ·cases hf
noncomputable def ZeJ(put:T→TL→Option TL)(b:PS): TL→List T→Option (Option T×TL)
 | σ,[]=>some (none,σ)
 | σ,t::ts=>(put t σ).bind fun σ1=>(b σ1).bind fun r=>match r.1 with
  | some _=>some r
  | none=>ZeJ put b r.2 ts
noncomputable def ZaN(g:PG)(put:T→TL→Option TL)(b:PS): PS:=fun σ=>(g σ).bind fun ts=>ZeJ put b σ ts
theorem ZlM{J:List Nat}{put:V→Lc→Option Lc}{pput:T→TL→Option TL}{b:Sm}{qb:PS}(hj:PutOk O J put pput)(hJ:∀i∈J,i∉O)(hb:S O O R fr b qb){c:Ctx}{nx:Nx}{vs:List V}{G:List Nat}{H1:Hp}(hG:∀a∈G,a<H1.length)(hsrc:∀a∈G,c.H0.length≤a∨c.P a)(hnx:∀K:Hp,(∀a∈G,K[a]?=H1[a]?)→∀i,i≤vs.length→nx i K=some vs[i]?):
  ∀(rs:List T) (ws:List V) (i:Nat) (ρ:Lc) (σ:TL) (K:Hp) (Φ:Nat→List Nat) (Fr:List Nat) (r:Option T×TL),(∀j,vs[i+j]?=ws[j]?)→i+ws.length=vs.length→St c O ρ σ K Φ→H1.length≤K.length→(∀a∈G,K[a]?=H1[a]?)→(∀a∈G,¬Held O σ Φ a)→RFs K ws rs Fr→(∀a∈Fr,a∈G)→ZeJ pput qb σ rs=some r →
   Aft c O O R fr σ K Φ (Zc3 nx put b (rs.length+1) i ρ K) r
 | [],ws,i,ρ,σ,K,Φ,Fr,r,hat,hlen,s,hl,hk,hoff,rr,hfr,h=>by
  cases rr
  cases h
  have e:=hnx K hk i (by simp at hlen;omega)
  have e2:vs[i]?=none:=by have:=hat 0;simpa using this
  exact⟨ρ,K,Φ,Nat.le_refl _,fun _ _ _=>rfl,.inl ⟨rfl,by simp[Zc3,e,e2],s,fun a m=>.inr m⟩⟩
 | t::rs,ws0,i,ρ,σ,K,Φ,Fr0,r,hat,hlen,s,hl,hk,hoff,rr,hfr,h=>by
  cases rr with
  | @cons v _ F1 ws _ F2 a b'=>
  simp only[List.length_cons]at hlen
  obtain⟨σ1,h1,h⟩:=Zz0.mp h
  obtain⟨r1,h2,h⟩:=Zz0.mp h
  have e:=hnx K hk i (by omega)
  have e2:vs[i]?=some v:=by have:=hat 0;simpa using this
  have hat':∀j,vs[i+1+j]?=ws[j]?:=fun j=>by have:=hat (j+1);rw[show i+1+j=i+(j+1)by omega,this];simp
  obtain⟨ρ1,Φ1,p1,s1,p3,p4⟩:=hj c ρ σ K Φ v t F1 σ1 s a (fun x m=>hsrc x (hfr x (Zz4 _ m))) (fun k hk t' e x m q=>hoff x (hfr x (Zz4 _ q)) ⟨k,hk,⟨t',e⟩,m⟩) h1
  have hh:∀x,Held O σ1 Φ1 x→Held O σ Φ x:=fun x ⟨k,hk,⟨t',e⟩,m⟩=>by
   obtain⟨q1,q2⟩:=p3 k fun q=>hJ k q hk
   exact⟨k,hk,⟨t',q1▸e⟩,q2▸m⟩
  obtain⟨ρ2,K2,Φ2,g1,g2,g3⟩:=hb c ρ1 σ1 K Φ1 r1 s1 h2
  have estep:Zc3 nx put b ((t::rs).length+1) i ρ K=(b ρ1 K).bind fun q=>match q.1 with
    | some _=>some q
    | none=>Zc3 nx put b (rs.length+1) (i+1) q.2.1 q.2.2:=by
   rw[List.length_cons]
   show(nx i K).bind _=_
   rw[e,e2]
   first | (simp only[Option.bind_some,p1];done) | (simp only[Option.bind_some,p1];rfl)
  rcases g3 with⟨k1,k2,k3,k4⟩ | ⟨t',v',F',k1,k2,k3⟩
  ·rw[k1]at h
   have hG2:∀a∈G,K2[a]?=K[a]?:=fun x m=>g2 x (by have:=hG x m;omega) fun q=>hoff x m (hh x q)
   have hoff2:∀a∈G,¬Held O r1.2 Φ2 a:=fun x m q=>by
    rcases k4 x q with q | q
    ·have:=hG x m;omega
    ·exact hoff x m (hh x q)
   have ih:=ZlM hj hJ hb hG hsrc hnx rs ws (i+1) ρ2 r1.2 K2 Φ2 F2 r hat' (by omega) k3 (by omega) (fun x m=>(hG2 x m).trans (hk x m)) hoff2 (b'.frame fun x m=>hG2 x (hfr x (Zz3 _ m))) (fun x m=>hfr x (Zz3 _ m)) h
   rw[estep,k2]
   simp only[Option.bind_some]
   obtain⟨ρ3,K3,Φ3,l1,l2,l3⟩:=ih
   refine⟨ρ3,K3,Φ3,by omega,fun x hx hn=>?_,?_⟩
   ·rw[l2 x (by omega) fun q=>(k4 x q).elim (fun q=>by omega) fun q=>hn (hh x q),g2 x hx fun q=>hn (hh x q)]
   ·rcases l3 with⟨m1,m2,m3,m4⟩ | l
    ·refine .inl ⟨m1,m2,m3,fun x q=>?_⟩
     rcases m4 x q with q | q
     ·exact .inl (by omega)
     ·exact(k4 x q).imp id (hh x)
    ·exact .inr l
  ·rw[k1]at h
   cases h
   refine⟨ρ2,K2,Φ2,g1,fun x hx hn=>g2 x hx fun q=>hn (hh x q),.inr ⟨t',v',F',k1,?_,k3⟩⟩
   rw[estep,k2]
   rfl
theorem Zbl{J Ns:List Nat}{g:Src}{q:PG}{put:V→Lc→Option Lc}{pput:T→TL→Option TL}{b:Sm}{qb:PS}(hg:Gs O Ns g q)(hj:PutOk O J put pput)(hJ:∀i∈J,i∉O)(hN:∀i∈Ns,i∉O)(hb:S O O R fr b qb): S O O R fr (ZaL g put b) (ZaN q pput qb):=fun c ρ σ H Φ r s h=>by
 obtain⟨ts,h1,h⟩:=Zz0.mp h
 obtain⟨nx,X,vs,F,G,g1,g2,g3,g4,g5⟩:=hg c ρ σ H Φ ts s h1
 have:=ZlM hj hJ hb (H1:=H++X) (fun a m=>(g4 a m).1) (fun a m=>s.from_src (g4 a m).2) g5 ts vs 0 ρ σ (H++X) Φ F r (by simp) (by simp) (s.ext X) (Zz10 _) (fun _ _=>rfl) (fun a m ⟨k,hk,⟨t,e⟩,q⟩=>s.from_off hN (g4 a m).2 hk e q) g2 g3 h
 have eg:ZaL g put b ρ H=Zc3 nx put b (ts.length+1) 0 ρ (H++X):=by simp only[ZaL,g1,Option.bind_some]
 rw[eg]
 exact this.grow
noncomputable def Zc1(t:PB)(b:PS): Nat→PS
 | 0=>fun _=>none
 | n+1=>fun σ=>(t σ).bind fun p=>if p then(b σ).bind fun q=>(match q.1 with
   | some _=>some q
   | none=>Zc1 t b n q.2)else some (none,σ)
theorem Zfh{t:Ts}{pt:PB}{b:Sm}{qb:PS}(z:Bt O t pt)(y:S O O R fr b qb): ∀n,S O O R fr (ZcN t b n) (Zc1 pt qb n)
 | 0=>fun c ρ σ H Φ r s h=>by cases h
 | n+1=>fun c ρ σ H Φ r s h=>by
  obtain⟨p,h1,h⟩:=Zz0.mp h
  obtain⟨X,a1⟩:=z c ρ σ H Φ p s h1
  cases p with
  | false=>
   cases h
   exact⟨ρ,H++X,Φ,by simp,fun a ha _=>List.getElem?_append_left ha,.inl ⟨rfl,by simp[ZcN,a1],s.ext X,fun a m=>.inr m⟩⟩
  | true=>
   simp only[if_true]at h
   obtain⟨r1,h2,h⟩:=Zz0.mp h
   have b1:=(y c ρ σ (H++X) Φ r1 (s.ext X) h2).grow
   have eg:ZcN t b (n+1) ρ H=(b ρ (H++X)).bind fun q=>(match q.1 with
    | some _=>some q
    | none=>ZcN t b n q.2.1 q.2.2):=by
    show(t ρ H).bind _=_
    rw[a1]
    rfl
   rw[eg]
   obtain⟨ρ1,H1,Φ1,g1,g2,g3⟩:=b1
   rcases g3 with⟨k1,k2,k3,k4⟩ | ⟨t',v',F',k1,k2,k3⟩
   ·rw[k1]at h
    obtain⟨ρ3,K3,Φ3,l1,l2,l3⟩:=Zfh z y n c ρ1 r1.2 H1 Φ1 r k3 h
    rw[k2]
    simp only[Option.bind_some]
    refine⟨ρ3,K3,Φ3,by omega,fun x hx hn=>?_,?_⟩
    ·rw[l2 x (by omega) fun q=>(k4 x q).elim (fun q=>by omega) hn,g2 x hx hn]
    ·rcases l3 with⟨m1,m2,m3,m4⟩ | l
     ·refine .inl ⟨m1,m2,m3,fun x q=>?_⟩
      rcases m4 x q with q | q
      ·exact .inl (by omega)
      ·exact k4 x q
     ·exact .inr l
   ·rw[k1]at h
    cases h
    exact⟨ρ1,H1,Φ1,g1,g2,.inr ⟨t',v',F',k1,by rw[k2];rfl,k3⟩⟩
end
noncomputable def Z7(n:Nat)(q:PS): List T→Option T:=fun ts=>if ts.length=n then(q fun i=>ts[i]?).map fun r=>r.1.getD .none else none
theorem RFs.slots{H:Hp}: ∀{vs:List V} {ts:List T} {F:List Nat},RFs H vs ts F→∃Φ:Nat→List Nat,∀i t,ts[i]?=some t→∃v,vs[i]?=some v∧RF H v t (Φ i)∧∀a∈Φ i,a∈F
 | _,_,_,.nil=>⟨fun _=>[],fun i t e=>by simp at e⟩
 | _,_,_,.cons (F:=F1) a b=>by
  obtain⟨Φ,h⟩:=b.slots
  refine⟨fun i=>match i with | 0=>F1 | i+1=>Φ i,fun i t e=>?_⟩
  cases i with
  | zero=>simp at e;subst e;exact⟨_,by simp,a,fun x m=>List.mem_append_left _ m⟩
  | succ i=>
   simp at e
   obtain⟨v,h1,h2,h3⟩:=h i t e
   exact⟨v,by simpa using h1,h2,fun x m=>List.mem_append_right _ (h3 x m)⟩
theorem Zn4{H H':Hp}(hl:H.length≤H'.length)(h:∀a,a<H.length→H'[a]?=H[a]?): H'=H++H'.drop H.length:=by
 conv=>lhs;rw[←List.take_append_drop H.length H']
 congr 1
 refine List.ext_getElem? fun i=>?_
 by_cases q:i<H.length
 ·rw[List.getElem?_take_of_lt q,h i q]
 ·rw[List.getElem?_eq_none (by simp;omega),List.getElem?_eq_none (by omega)]
theorem Zac{O':List Nat}{fr:Bool}{n:Nat}{g:Sm}{q:PS}(h:S [] O' [] fr g q): SimF fr (Z5 n g) (Z7 n q):=fun H vs ts t F1 hp r e=>by
 unfold Z7 at e
 split at e
 ·rename_i hl
  obtain⟨r1,e1,e2⟩:=Zz1.mp e
  obtain⟨Φ,hΦ⟩:=r.slots
  have st:St ⟨H,[],fun a=>a∈F1⟩ [] (fun i=>vs[i]?) (fun i=>ts[i]?) H Φ:=
   ⟨(fun i t e=>by obtain⟨v,h1,h2,_⟩:=hΦ i t e;exact⟨v,h1,h2⟩),fun i t e a m=>(by obtain⟨v,h1,h2,h3⟩:=hΦ i t e;exact .inr (h3 a m)),(fun i hi=>nomatch hi),Nat.le_refl _,fun a _ _=>rfl,hp,by simp⟩
  obtain⟨ρ',H',Φ',h1,h2,h3⟩:=h _ _ _ _ _ _ st e1
  rcases h3 with⟨k1,k2,k3,k4⟩ | ⟨t',v',F',k1,k2,k3,k4,k5,k6⟩
  ·have eh:=Zn4 k3.len fun a ha=>k3.keep a ha (by simp)
   refine⟨.none,H'.drop H.length,[],?_,?_,by simp,by simp⟩
   ·have hv:vs.length=n:=r.length.trans hl
    simp only[Z5,hv,if_true,k2,Option.map_some,Option.getD_none]
    rw[←eh]
   ·rw[k1]at e2
    subst e2
    exact .none
  ·have eh:=Zn4 k4.len fun a ha=>k4.keep a ha (by simp)
   refine⟨v',H'.drop H.length,F',?_,?_,k5,fun hf=>⟨(k6 hf).1,fun a m=>((k6 hf).2 a m).elim id fun q=>by cases q⟩⟩
   ·have hv:vs.length=n:=r.length.trans hl
    simp only[Z5,hv,if_true,k2,Option.map_some,Option.getD_some]
    rw[←eh]
   ·rw[k1]at e2
    subst e2
    rw[←eh]
    exact k3
 ·cases e
theorem Zsq{f:List V→Hp→Option (V×Hp)}{p:List T→Option T}{fr:Bool}(h:SimF fr f p)(ns:List Int)(e:p [.lst (ns.map T.int)]=some (.bool true)): ∃H',f [.ref 0] [ns.map V.int]=some (.bool true,H'):=by
 have intsAre:∀l:List Int,RFs [ns.map V.int] (l.map V.int) (l.map T.int) []:=fun l=>by
  induction l with
  | nil=>exact .nil
  | cons a l ih=>exact .cons (.int a) ih
 obtain⟨v,X,F,h1,h2,_⟩:=h [ns.map V.int] [.ref 0] [.lst (ns.map T.int)] _ _ (by simp) (.one (.ref rfl (intsAre ns))) e
 cases h2
 exact⟨_,h1⟩
end TM
end
section
namespace TM
open PySem PM
section
variable {O Ns Ne J:List Nat}
theorem ZcM{u:Bool}{g:Src}{q:PG}{put:V→Lc→Option Lc}{pput:T→TL→Option TL}{tc:Ts}{pc:PB}{f:Ex}{pf:PE}(hg:Gs O Ns g q)(hj:PutOk O J put pput)(hN:∀i∈Ns,i∉O)(hc:Bt O tc pc)(hf:E O Ne u f pf): E O (Ns++Ne) false (ZaJ g put tc f) (ZaC q pput pc pf):=
 ZpM hg hj hN hc hf.sh (by simp)
theorem Zdf{g:Src}{q:PG}{put:V→Lc→Option Lc}{pput:T→TL→Option TL}{tc:Ts}{pc:PB}{f:Ex}{pf:PE}(hg:Gs O Ns g q)(hj:PutOk O J put pput)(hN:∀i∈Ns,i∉O)(hc:Bt O tc pc)(hf:E O [] true f pf): E O [] true (ZaJ g put tc f) (ZaC q pput pc pf):=
 ZpM hg hj hN hc hf (by simp)
end
end TM
end
section
/-! Forward reckoning over trees. -/
namespace TM
open PySem PM
noncomputable def dec(P:Prop): Bool:=@decide P (Classical.propDecidable P)
theorem dec_iff{P:Prop}: dec P=true↔P:=by unfold dec;exact @decide_eq_true_iff P (Classical.propDecidable P)
theorem Zbv{P:Prop}(h:P): dec P=true:=dec_iff.mpr h
theorem Zch{P:Prop}(h:¬P): dec P=false:=by
 cases e:dec P with
 | true=>exact absurd (dec_iff.mp e) h
 | false=>rfl
theorem Zf1{P Q:Prop}(h:P↔Q): dec P=dec Q:=by
 by_cases p:P
 ·rw[Zbv p,Zbv (h.mp p)]
 ·rw[Zch p,Zch fun q=>p (h.mpr q)]
theorem Zmw{P:Prop}{b:Bool}(h:b=true↔P): dec P=b:=by
 cases b with
 | true=>exact Zbv (h.mp rfl)
 | false=>exact Zch fun p=>by simpa using h.mpr p
theorem Zhj{P:Prop}[i:Decidable P]: decide P=dec P:=by
 unfold dec;congr
noncomputable def tab{α:Type}(n:Nat)(f:Nat→α): List α:=(List.range n).map f
theorem Zat{α:Type}{n:Nat}{f:Nat→α}: (tab n f).length=n:=by simp[tab]
theorem Zbt{α:Type}{n:Nat}{f:Nat→α}{i:Nat}(h:i<n): (tab n f)[i]?=some (f i):=by simp[tab,h]
theorem Zve{α:Type}{n:Nat}{f:Nat→α}{i:Nat}(h:n≤i): (tab n f)[i]?=none:=by simp[tab,h]
theorem Zgb{α:Type}{n:Nat}{f:Nat→α}: tab n f++[f n]=tab (n+1) f:=by simp[tab,List.range_succ]
theorem ZhW{α:Type}{n:Nat}{xs:List α}{f:Nat→α}(hl:xs.length=n)(h:∀i,i<n→xs[i]?=some (f i)): xs=tab n f:=by
 refine List.ext_getElem? fun i=>?_
 by_cases q:i<n
 ·rw[h i q,Zbt q]
 ·rw[List.getElem?_eq_none (by omega),Zve (by omega)]
theorem Zbg{α:Type}{n:Nat}{f g:Nat→α}(h:∀i,i<n→f i=g i): tab n f=tab n g:=by
 refine ZhW Zat fun i hi=>?_
 rw[Zbt hi,h i hi]
theorem ZhX{α:Type}{n k:Nat}{f:Nat→α}{v:α}: (tab n f).set k v=tab n fun i=>if i=k then v else f i:=by
 refine ZhW (by rw[List.length_set,Zat]) fun i hi=>?_
 by_cases q:i=k
 ·subst q
  rw[List.getElem?_set_self (by rw[Zat];exact hi),if_pos rfl]
 ·rw[List.getElem?_set_ne (Ne.symm q),Zbt hi,if_neg q]
theorem tab_map{α β:Type}{n:Nat}{f:Nat→α}{g:α→β}: (tab n f).map g=tab n fun i=>g (f i):=by simp[tab]
noncomputable def cn{α:Type}(a:α)(f:Nat→α): Nat→α
 | 0=>a
 | i+1=>f i
theorem Zs5{α:Type}{n:Nat}{a:α}{f:Nat→α}: a::tab n f=tab (n+1) (cn a f):=by
 refine ZhW (by rw[List.length_cons,Zat]) fun i hi=>?_
 cases i with
 | zero=>rfl
 | succ i=>rw[List.getElem?_cons_succ,Zbt (by omega)];rfl
theorem Zpg{α β γ:Type}{n m:Nat}{f:Nat→α}{g:Nat→β}{h:α→β→γ}: List.zipWith h (tab n f) (tab m g)=tab (min n m) fun i=>h (f i) (g i):=by
 refine ZhW (by rw[List.length_zipWith,Zat,Zat]) fun i hi=>?_
 rw[List.getElem?_zipWith,Zbt (show i<n by omega),Zbt (show i<m by omega)]
def Pk(c:Option T)(Q:T→Prop): Prop:=∃t,c=some t∧Q t
def Pl(c:Option (List T))(Q:List T→Prop): Prop:=∃t,c=some t∧Q t
def Pb(c:Option Bool)(Q:Bool→Prop): Prop:=∃t,c=some t∧Q t
def Psk(c:Option (Option T×TL))(R:T→Prop)(N:TL→Prop): Prop:=∃o σ,c=some (o,σ)∧(∀t,o=some t→R t)∧(o=none→N σ)
theorem ZQ{c:Option T}{Q:T→Prop}{t:T}(h:c=some t)(k:Q t): Pk c Q:=⟨t,h,k⟩
theorem Pk.eq{c:Option T}{t:T}(h:Pk c fun v=>v=t): c=some t:=by obtain⟨v,e,rfl⟩:=h;exact e
theorem Pk.mono{c:Option T}{Q Q':T→Prop}(h:Pk c Q)(k:∀t,Q t→Q' t): Pk c Q':=by obtain⟨v,e,q⟩:=h;exact⟨v,e,k v q⟩
section
variable {σ:TL} {Q:T→Prop} {L:List T→Prop} {B:Bool→Prop} {R:T→Prop} {N:TL→Prop}
theorem Zvf{k:Int}(h:Q (.int k)): Pk (Zj k σ) Q:=⟨_,rfl,h⟩
theorem Zvg(h:Q .none): Pk (Z0 σ) Q:=⟨_,rfl,h⟩
theorem ZtU{k:Bool}(h:Q (.bool k)): Pk (Zbc k σ) Q:=⟨_,rfl,h⟩
theorem Zvh{k:Str}(h:Q (.str k)): Pk (Zfv k σ) Q:=⟨_,rfl,h⟩
theorem Zvi{i:Nat}{t:T}(e:σ i=some t)(h:Q t): Pk (Za i σ) Q:=⟨_,e,h⟩
theorem Zvj{q:T→T→Option T}{f g:PE}(h:Pk (f σ) fun x=>Pk (g σ) fun y=>Pk (q x y) Q): Pk (Zh q f g σ) Q:=by
 obtain⟨x,a,y,b,z,c,k⟩:=h
 exact⟨z,by simp only[Zh,a,b,Option.bind_some,c],k⟩
theorem Zv3{q:T→Option T}{f:PE}(h:Pk (f σ) fun x=>Pk (q x) Q): Pk (pUn q f σ) Q:=by
 obtain⟨x,a,z,c,k⟩:=h
 exact⟨z,by simp only[pUn,a,Option.bind_some,c],k⟩
theorem ZtV{q:List T→Option T}{f:PEs}(h:Pl (f σ) fun x=>Pk (q x) Q): Pk (Zq q f σ) Q:=by
 obtain⟨x,a,z,c,k⟩:=h
 exact⟨z,by simp only[Zq,a,Option.bind_some,c],k⟩
theorem Zvk(h:L []): Pl (Zm σ) L:=⟨_,rfl,h⟩
theorem ZtW{f:PE}{g:PEs}(h:Pk (f σ) fun x=>Pl (g σ) fun xs=>L (x::xs)): Pl (Zd f g σ) L:=by
 obtain⟨x,a,y,b,k⟩:=h
 exact⟨_,by simp only[Zd,a,b,Option.bind_some],k⟩
theorem Zvl{g:PEs}(h:Pl (g σ) fun xs=>Q (.tup xs)): Pk (ZaF g σ) Q:=by
 obtain⟨x,a,k⟩:=h;exact⟨_,by simp only[ZaF,a,Option.map_some],k⟩
theorem ZtX{g:PEs}(h:Pl (g σ) fun xs=>Q (.lst xs)): Pk (ZbS g σ) Q:=by
 obtain⟨x,a,k⟩:=h;exact⟨_,by simp only[ZbS,a,Option.map_some],k⟩
theorem ZtY{f:PE}(h:Pk (f σ) fun t=>t.flat=true∧Q t): Pk (ZbL f σ) Q:=by
 obtain⟨x,a,b,k⟩:=h;exact⟨_,by simp only[ZbL,a,Option.bind_some,b,if_true],k⟩
theorem Zv4{f:PE}(h:Pk (f σ) fun t=>t.flatIn=true∧Q t): Pk (pFl f σ) Q:=by
 obtain⟨x,a,b,k⟩:=h;exact⟨_,by simp only[pFl,a,Option.bind_some,b,if_true],k⟩
theorem Zv5{b:PB}{f g:PE}(h:Pb (b σ) fun x=>(x=true→Pk (f σ) Q)∧(x=false→Pk (g σ) Q)): Pk (pIf b f g σ) Q:=by
 obtain⟨x,a,h1,h2⟩:=h
 cases x with
 | true=>obtain⟨t,c,q⟩:=h1 rfl;exact⟨t,by simp[pIf,a,c],q⟩
 | false=>obtain⟨t,c,q⟩:=h2 rfl;exact⟨t,by simp[pIf,a,c],q⟩
theorem Zvm{f:PE}(h:Pk (f σ) fun x=>Pb (ZbJ x) fun b=>Q (.bool (!b))): Pk (Ziy f σ) Q:=by
 obtain⟨x,a,b,e,q⟩:=h;exact⟨_,by simp only[Ziy,a,Option.bind_some,e,Option.map_some],q⟩
theorem Zvn{f g:PE}(h:Pk (f σ) fun x=>Pb (ZbJ x) fun b=>(b=true→Pk (g σ) Q)∧(b=false→Q x)): Pk (Zdo f g σ) Q:=by
 obtain⟨x,a,b,e,h1,h2⟩:=h
 cases b with
 | true=>obtain⟨t,c,q⟩:=h1 rfl;exact⟨t,by simp[Zdo,a,e,c],q⟩
 | false=>exact⟨x,by simp[Zdo,a,e],h2 rfl⟩
theorem Zv6{f g:PE}(h:Pk (f σ) fun x=>Pb (ZbJ x) fun b=>(b=true→Q x)∧(b=false→Pk (g σ) Q)): Pk (pOr f g σ) Q:=by
 obtain⟨x,a,b,e,h1,h2⟩:=h
 cases b with
 | false=>obtain⟨t,c,q⟩:=h2 rfl;exact⟨t,by simp[pOr,a,e,c],q⟩
 | true=>exact⟨x,by simp[pOr,a,e],h1 rfl⟩
theorem Zv7{K:String}{f:PE}(h:Pk (f σ) fun x=>Q (.bool (ZhT K x))): Pk (pIs K f σ) Q:=by
 obtain⟨x,a,q⟩:=h;exact⟨_,by simp only[pIs,a,Option.map_some],q⟩
theorem Zvo{f:PE}(h:Pk (f σ) fun x=>Pb (ZbJ x) B): Pb (ZF f σ) B:=by
 obtain⟨x,a,b,e,q⟩:=h;exact⟨_,by simp only[ZF,a,Option.bind_some,e],q⟩
theorem ZtZ{f:PB}(h:Pb (f σ) fun b=>B (!b)): Pb (Zb3 f σ) B:=by
 obtain⟨x,a,q⟩:=h;exact⟨_,by simp only[Zb3,a,Option.map_some],q⟩
theorem Zt0(h:B true): Pb (Zak σ) B:=⟨_,rfl,h⟩
theorem Zs6(h:B false): Pb (ZbY σ) B:=⟨_,rfl,h⟩
theorem Zt1{f g:PB}(h:Pb (f σ) fun b=>(b=true→Pb (g σ) B)∧(b=false→B false)): Pb (ZaM f g σ) B:=by
 obtain⟨x,a,h1,h2⟩:=h
 cases x with
 | true=>obtain⟨t,c,q⟩:=h1 rfl;exact⟨t,by simp[ZaM,a,c],q⟩
 | false=>exact⟨_,by simp[ZaM,a],h2 rfl⟩
theorem Zvp{f g:PB}(h:Pb (f σ) fun b=>(b=true→B true)∧(b=false→Pb (g σ) B)): Pb (bOr f g σ) B:=by
 obtain⟨x,a,h1,h2⟩:=h
 cases x with
 | false=>obtain⟨t,c,q⟩:=h2 rfl;exact⟨t,by simp[bOr,a,c],q⟩
 | true=>exact⟨_,by simp[bOr,a],h1 rfl⟩
theorem ZrK{b:Bool}(h:B b): Pb (ZbJ (.bool b)) B:=⟨_,rfl,h⟩
theorem Zt2(h:N σ): Psk (ZX σ) R N:=⟨_,_,rfl,by simp,fun _=>h⟩
theorem Zvq{f:PE}(h:Pk (f σ) R): Psk (ZE f σ) R N:=by
 obtain⟨x,a,q⟩:=h;exact⟨some x,σ,by simp only[ZE,a,Option.map_some],fun t e=>by cases e;exact q,by simp⟩
theorem Zmx{i:Nat}{f:PE}(h:Pk (f σ) fun t=>N (Z8 σ i t)): Psk (ZM i f σ) R N:=by
 obtain⟨x,a,q⟩:=h;exact⟨none,Z8 σ i x,by simp only[ZM,a,Option.map_some],by simp,fun _=>q⟩
theorem Zfm{a b:PS}(h:Psk (a σ) R fun σ1=>Psk (b σ1) R N): Psk (Zs a b σ) R N:=by
 obtain⟨o,σ1,e,h1,h2⟩:=h
 cases o with
 | some t=>exact⟨some t,σ1,by simp only[Zs,e,Option.bind_some],h1,by simp⟩
 | none=>
  obtain⟨o2,σ2,e2,k1,k2⟩:=h2 rfl
  exact⟨o2,σ2,by simp only[Zs,e,Option.bind_some,e2],k1,k2⟩
theorem Zmy{b:PB}{f g:PS}(h:Pb (b σ) fun x=>(x=true→Psk (f σ) R N)∧(x=false→Psk (g σ) R N)): Psk (ZU b f g σ) R N:=by
 obtain⟨x,a,h1,h2⟩:=h
 cases x with
 | true=>obtain⟨o,s,c,q⟩:=h1 rfl;exact⟨o,s,by simp[ZU,a,c],q⟩
 | false=>obtain⟨o,s,c,q⟩:=h2 rfl;exact⟨o,s,by simp[ZU,a,c],q⟩
theorem ZpO{n:Nat}{q:PS}{ts:List T}(hn:ts.length=n)(h:Psk (q fun i=>ts[i]?) Q fun _=>Q .none): Pk (Z7 n q ts) Q:=by
 obtain⟨o,s,e,h1,h2⟩:=h
 cases o with
 | some t=>exact⟨t,by simp only[Z7,hn,if_true,e,Option.map_some,Option.getD_some],h1 t rfl⟩
 | none=>exact⟨.none,by simp only[Z7,hn,if_true,e,Option.map_some,Option.getD_none],h2 rfl⟩
theorem Zvr{b:Bool}{A C:Prop}(h:b=true)(k:A): (b=true→A)∧(b=false→C):=⟨fun _=>k,fun e=>(by rw[h]at e;cases e)⟩
theorem Zvs{b:Bool}{A C:Prop}(h:b=false)(k:C): (b=true→A)∧(b=false→C):=⟨fun e=>(by rw[h]at e;cases e),fun _=>k⟩
theorem Zmz{a b:Int}(h:Q (.int (a+b))): Pk (Zae (.int a) (.int b)) Q:=⟨_,rfl,h⟩
theorem Zvt{a b:Int}(h:Q (.int (a-b))): Pk (Za6 (.int a) (.int b)) Q:=⟨_,rfl,h⟩
theorem Zvu{a:Int}(h:Q (.int (-a))): Pk (ZbP (.int a)) Q:=⟨_,rfl,h⟩
theorem Zv8{a b:Int}(h:Q (.bool (decide (a<b)))): Pk (qLt (.int a) (.int b)) Q:=⟨_,rfl,h⟩
theorem Zv9{a b:Int}(h:Q (.bool (decide (a≤b)))): Pk (qLe (.int a) (.int b)) Q:=⟨_,rfl,h⟩
theorem Zwa{a b:Int}(h:Q (.bool (decide (b<a)))): Pk (qGt (.int a) (.int b)) Q:=⟨_,rfl,h⟩
theorem Zvv{a b:Int}(hb:b≠0)(h:Q (.int (a.fmod b))): Pk (ZaQ (.int a) (.int b)) Q:=⟨_,by simp only[ZaQ];rw[if_pos hb],h⟩
theorem ZdH{a b:Int}(hb:b≠0)(hd:Builtin.divisionGoesByPylong a b=false)(h:Q (.int (a.fdiv b))): Pk (Zcy (.int a) (.int b)) Q:=⟨_,by simp only[Zcy];rw[if_pos ⟨hb,hd⟩],h⟩
theorem ZbK{a b:Int}(hm:mulOk a b=true)(h:Q (.int (a*b))): Pk (ZaE (.int a) (.int b)) Q:=⟨_,by simp only[ZaE];rw[if_pos hm],h⟩
theorem Zvw{a:Int}(h:Q (.int (if a<0 then -a else a))): Pk (ZcS [.int a]) Q:=⟨_,rfl,h⟩
theorem Zvx{a b:Int}(h:Q (.int (if b>a then b else a))): Pk (Zip [.int a,.int b]) Q:=⟨_,rfl,h⟩
theorem ZhY(a b:Int): Zd7 (.int a) (.int b)=some (decide (a=b)):=by
 simp[Zd7,ZcH,SeqAt.shaped,PyData.canLay0,PyData.depth,PyData.eqv]
 by_cases h:a=b <;> simp[h]
theorem Zwb{a b:Int}(h:Q (.bool (decide (a=b)))): Pk (qEq (.int a) (.int b)) Q:=⟨_,by simp only[qEq,ZhY,Option.map_some],h⟩
theorem Zwc{a b:Int}(h:Q (.bool (decide (a≠b)))): Pk (qNe (.int a) (.int b)) Q:=⟨.bool (decide (a≠b)),by simp only[qNe,ZhY,Option.map_some];simp,h⟩
theorem Zvy(h:Q (.bool true)): Pk (qIs .none .none) Q:=⟨_,rfl,h⟩
theorem Zvz{a:Int}(h:Q (.bool false)): Pk (qIs (.int a) .none) Q:=⟨_,rfl,h⟩
theorem ZvA{a:List T}(h:Q (.bool false)): Pk (qIs (.lst a) .none) Q:=⟨_,rfl,h⟩
theorem ZvB{a:List T}(h:Q (.bool false)): Pk (qIs (.tup a) .none) Q:=⟨_,rfl,h⟩
theorem Zt3(h:Q (.bool false)): Pk (Zbr .none .none) Q:=⟨_,rfl,h⟩
theorem Zt4{a:Int}(h:Q (.bool true)): Pk (Zbr (.int a) .none) Q:=⟨_,rfl,h⟩
theorem Zt5{a:List T}(h:Q (.bool true)): Pk (Zbr (.tup a) .none) Q:=⟨_,rfl,h⟩
theorem Zt6{n:Nat}{f:Nat→T}(h:Q (.int n)): Pk (Zax [.lst (tab n f)]) Q:=⟨_,by simp only[Zax,Zat],h⟩
theorem ZvC{ts:List T}(h:Q (.int ts.length)): Pk (Zax [.lst ts]) Q:=⟨_,rfl,h⟩
theorem Zt7{ts:List T}(h:Q (.int ts.length)): Pk (Zax [.tup ts]) Q:=⟨_,rfl,h⟩
theorem Zd2{k:Int}{n:Nat}(h0:0≤k)(h1:k<n): seqIndex? k n=some k.toNat:=by
 unfold seqIndex?
 have:¬k<0:=by omega
 simp[this]
 omega
theorem Zt8{n i:Nat}{f:Nat→T}(hi:i<n)(h:Q (f i)): Pk (Zw (.lst (tab n f)) (.int (i:Nat))) Q:=⟨_,by
 simp only[Zw,Zat,Zd2 (show(0:Int)≤(i:Int)by omega) (show(i:Int)<(n:Int)by omega),Option.bind_some,Int.toNat_natCast]
 exact Zbt hi,h⟩
theorem Zt9{n:Nat}{k:Int}{f:Nat→T}(h0:0≤k)(h1:k<n)(h:Q (f k.toNat)): Pk (Zw (.lst (tab n f)) (.int k)) Q:=⟨_,by
 simp only[Zw,Zat,Zd2 h0 h1,Option.bind_some]
 exact Zbt (by omega),h⟩
theorem ZhZ{ts:List T}{k:Int}{t:T}(h0:0≤k)(e:ts[k.toNat]?=some t)(h:Q t): Pk (Zw (.lst ts) (.int k)) Q:=⟨_,by
 simp only[Zw]
 rw[Zd2 h0 (by have:=(Zz6.mp e).1;omega)]
 exact e,h⟩
theorem Zua{ts:List T}{k:Int}{t:T}(h0:0≤k)(e:ts[k.toNat]?=some t)(h:Q t): Pk (Zw (.tup ts) (.int k)) Q:=⟨_,by
 simp only[Zw]
 rw[Zd2 h0 (by have:=(Zz6.mp e).1;omega)]
 exact e,h⟩
theorem Zph{n:Nat}{a:T}{f:Nat→T}(hn:n<10000)(h:Q (.lst (tab (n+1) (cn a f)))): Pk (Zae (.lst [a]) (.lst (tab n f))) Q:=⟨_,by
 simp only[Zae]
 rw[if_pos (by rw[Zbh,List.length_append,Zat];simp;omega),List.singleton_append,Zs5],h⟩
theorem Zs7{ts:List T}(h:Q (.lst ts)): Pk (Zce [.lst ts]) Q:=⟨_,rfl,h⟩
theorem Zub{ts:List T}(h:Q (.tup ts)): Pk (ZhV [.lst ts]) Q:=⟨_,rfl,h⟩
theorem Zsr{n:Nat}{f:Nat→Bool}: Zfl (tab n fun i=>.bool (f i))=some (tab n f):=by
 have:∀l:List Bool,Zfl (l.map T.bool)=some l:=fun l=>by
  induction l with
  | nil=>rfl
  | cons a l ih=>simp only[List.map_cons,Zfl,ih,Option.map_some]
 rw[show(tab n fun i=>T.bool (f i))=(tab n f).map T.bool from tab_map.symm]
 exact this _
theorem Zs8{n:Nat}{f:Nat→Int}: Zd1 (tab n fun i=>.int (f i))=some (tab n f):=by
 have:∀l:List Int,Zd1 (l.map T.int)=some l:=fun l=>by
  induction l with
  | nil=>rfl
  | cons a l ih=>simp only[List.map_cons,Zd1,ih,Option.map_some]
 rw[show(tab n fun i=>T.int (f i))=(tab n f).map T.int from tab_map.symm]
 exact this _
theorem ZvD{n:Nat}{P:Nat→Prop}(h:Q (.bool (dec (∃i,i<n∧P i)))): Pk (ZgI [.lst (tab n fun i=>.bool (dec (P i)))]) Q:=⟨_,by
 simp only[ZgI,Zsr,Option.map_some]
 congr 2
 symm
 apply Zmw
 rw[List.any_eq_true]
 constructor
 ·rintro⟨x,hx,h⟩
  obtain⟨i,hi,e⟩:=List.getElem_of_mem hx
  rw[Zat]at hi
  have:=Zbt (f:=fun i=>dec (P i)) hi
  rw[List.getElem?_eq_getElem (by rw[Zat];exact hi)]at this
  rw[←e,Option.some.inj this]at h
  exact⟨i,hi,dec_iff.mp h⟩
 ·rintro⟨i,hi,h⟩
  exact⟨_,List.mem_of_getElem? (Zbt hi),Zbv h⟩,h⟩
def SqP(x:T)(L:List T→Prop): Prop:=∃ts,(x=.lst ts∨x=.tup ts)∧L ts
theorem Zl5{f:PE}(h:Pk (f σ) fun t=>SqP t L): Pl (ZbF f σ) L:=by
 obtain⟨t,a,ts,rfl | rfl,q⟩:=h <;> exact⟨_,by simp only[ZbF,a,Option.bind_some],q⟩
theorem Sq.lst{ts:List T}(h:L ts): SqP (.lst ts) L:=⟨ts,.inl rfl,h⟩
theorem ZpP{a b c:Int}{H:Hp}{z:Nx×Nat×Hp}(h:Zco a b c H=some z): Zcm a b c=some ((List.range (rngN a b c)).map fun(i:Nat)=>.int (a+(i:Int)*c)):=by
 unfold Zco at h
 split at h
 ·rename_i hc
  unfold Zcm
  rw[if_pos hc]
 ·cases h
theorem Zs9{n:Nat}(hn:n≤1000): Zcm 0 n 1=some (tab n fun i=>.int i):=by
 rw[ZpP (Zu6 (H:=[]) (b:=n) (by omega) (by omega))]
 have e:rngN 0 n 1=n:=by
  unfold rngN Builtin.Range.rangeSize
  by_cases q:(0:Int)<n
  ·rw[if_pos (by decide),if_pos (by omega)];omega
  ·rw[if_pos (by decide),if_neg (by omega)];omega
 rw[e]
 simp[tab]
theorem Zpi{a n:Nat}(ha:0<n)(hn:a+n≤1000): Zcm a (a+n) 1=some (tab n fun i=>.int (a+i)):=by
 rw[ZpP (Zu8 (H:=[]) (a:=a) (b:=a+n) (c:=1) (by omega) (by omega) (by omega) (by omega) (by omega))]
 have e:rngN a (a+n) 1=n:=by
  unfold rngN
  rw[Zp8 (by omega) (by omega)]
  omega
 rw[e]
 simp[tab]
theorem Zuc{g:PEs}{b:Int}{o:Option (List T)}(e:g σ=some [.int b])(h:Zcm 0 b 1=o): ZaB g σ=o:=by
 subst h;unfold ZaB;rw[e];rfl
theorem Zgi{g:PEs}{a b:Int}{o:Option (List T)}(e:g σ=some [.int a,.int b])(h:Zcm a b 1=o): ZaB g σ=o:=by
 subst h;unfold ZaB;rw[e];rfl
def RnP(xs:List T)(L:List T→Prop): Prop:=(∃n:Nat,xs=[.int n]∧n≤1000∧L (tab n fun i=>.int i))∨∃(a:Nat) (n:Nat),xs=[.int a,.int (a+n)]∧0<n∧a+n≤1000∧L (tab n fun i=>.int (a+i))
theorem Zta{g:PEs}(h:Pl (g σ) fun xs=>RnP xs L): Pl (ZaB g σ) L:=by
 obtain⟨xs,e,h⟩:=h
 rcases h with⟨n,h0,h1,q⟩ | ⟨a,n,h0,h1,h2,q⟩
 ·subst h0;exact⟨_,Zuc e (Zs9 h1),q⟩
 ·subst h0;exact⟨_,Zgi e (Zpi h1 h2),q⟩
theorem Rn.one{n:Nat}(hn:n≤1000)(h:L (tab n fun i=>.int i)): RnP [.int n] L:=.inl ⟨n,rfl,hn,h⟩
theorem Zp9{k:Int}(n:Nat)(e:k=n)(hn:n≤1000)(h:L (tab n fun i=>.int i)): RnP [.int k] L:=.inl ⟨n,by rw[e],hn,h⟩
theorem Rn.two{k l:Int}(a n:Nat)(e0:l=a)(e:k=a+n)(ha:0<n)(hn:a+n≤1000)(h:L (tab n fun i=>.int (a+i))): RnP [.int l,.int k] L:=.inr ⟨a,n,by rw[e,e0],ha,hn,h⟩
def ZiP(x y:T)(L:List T→Prop): Prop:=∃xs ys,x=.lst xs∧y=.lst ys∧L (List.zipWith (fun a b=>.tup [a,b]) xs ys)
theorem ZpQ{f g:PE}(h:Pk (f σ) fun x=>Pk (g σ) fun y=>ZiP x y L): Pl (ZdN f g σ) L:=by
 obtain⟨x,a,y,b,xs,ys,rfl,rfl,q⟩:=h;exact⟨_,by simp only[ZdN,a,b,Option.bind_some],q⟩
theorem Zi.eq{n:Nat}{f g:Nat→T}(h:L (tab n fun i=>.tup [f i,g i])): ZiP (.lst (tab n f)) (.lst (tab n g)) L:=⟨_,_,rfl,rfl,by rw[Zpg,Nat.min_self];exact h⟩
theorem Zop{j:Nat}{f:PE}{h:T→T}: ∀{ts:List T},(∀t∈ts,f (Z8 σ j t)=some (h t))→Zc5 (Zag j) Zak f σ ts=some (ts.map h)
 | [],_=>rfl
 | t::ts,k=>by
  simp only[Zc5,Zag,Zak,Option.bind_some,if_true,k t Zz5,Zop fun t m=>k t (Zz2 _ m),Option.map_some,List.map_cons]
theorem Zl6{put:T→TL→Option TL}{f:PE}: ∀{ts us:List T},us.length=ts.length→(∀(i:Nat) t u,ts[i]?=some t→us[i]?=some u→∃σ1,put t σ=some σ1∧f σ1=some u)→Zc5 put Zak f σ ts=some us
 | [],us,hl,_=>by cases us with
  | nil=>rfl
  | cons _ _=>simp at hl
 | t::ts,us,hl,k=>by
  cases us with
  | nil=>simp at hl
  | cons u us=>
   obtain⟨σ1,h1,h2⟩:=k 0 t u (by simp) (by simp)
   have:=Zl6 (ts:=ts) (us:=us) (f:=f) (put:=put) (by simpa using hl) fun i t' u' h3 h4=>k (i+1) t' u' (by simpa using h3) (by simpa using h4)
   simp only[Zc5,h1,Zak,Option.bind_some,if_true,h2,this,Option.map_some]
theorem Zc0{g:PG}{j n:Nat}{a b:Nat→T}{f:PE}(hn:n<10000)(hg:Pl (g σ) fun ts=>ts=tab n a)(hf:∀i,i<n→Pk (f (Z8 σ j (a i))) fun t=>t=b i)(h:Q (.lst (tab n b))): Pk (ZaC g (Zag j) Zak f σ) Q:=by
 obtain⟨ts,e,rfl⟩:=hg
 refine⟨_,?_,h⟩
 simp only[ZaC,e,Option.bind_some,Zat]
 rw[if_pos (by rw[Zbh];omega),Zl6 (us:=tab n b) (by rw[Zat,Zat]) fun i t u h1 h2=>?_]
 ·rfl
 ·have hi:i<n:=by have:=(Zz6.mp h1).1;rwa [Zat]at this
  rw[Zbt hi]at h1 h2
  cases h1;cases h2
  exact⟨_,rfl,(hf i hi).eq⟩
theorem ZlN{g:PG}{j k n:Nat}{a b c:Nat→T}{f:PE}(hn:n<10000)(hg:Pl (g σ) fun ts=>ts=tab n fun i=>.tup [a i,b i])(hf:∀i,i<n→Pk (f (Z8 (Z8 σ j (a i)) k (b i))) fun t=>t=c i)(h:Q (.lst (tab n c))): Pk (ZaC g (ZcF j k) Zak f σ) Q:=by
 obtain⟨ts,e,rfl⟩:=hg
 refine⟨_,?_,h⟩
 simp only[ZaC,e,Option.bind_some,Zat]
 rw[if_pos (by rw[Zbh];omega),Zl6 (us:=tab n c) (by rw[Zat,Zat]) fun i t u h1 h2=>?_]
 ·rfl
 ·have hi:i<n:=by have:=(Zz6.mp h1).1;rwa [Zat]at this
  rw[Zbt hi]at h1 h2
  cases h1;cases h2
  exact⟨_,rfl,(hf i hi).eq⟩
theorem Zh9{put:T→TL→Option TL}{b:PS}: ∀{ts:List T} (P:Nat→TL→Prop) {σ:TL},P 0 σ→(∀(i:Nat) t σ,ts[i]?=some t→P i σ→∃σ1,put t σ=some σ1∧Psk (b σ1) R (P (i+1)))→(∀σ,P ts.length σ→N σ)→Psk (ZeJ put b σ ts) R N
 | [],P,σ,h0,_,h2=>⟨_,_,rfl,by simp,fun _=>h2 _ h0⟩
 | t::ts,P,σ,h0,h1,h2=>by
  obtain⟨σ1,e1,o,σ2,e2,k1,k2⟩:=h1 0 t σ (by simp) h0
  cases o with
  | some v=>exact⟨some v,σ2,by simp only[ZeJ,e1,Option.bind_some,e2],k1,by simp⟩
  | none=>
   obtain⟨o3,σ3,e3,l1,l2⟩:=Zh9 (ts:=ts) (fun i=>P (i+1)) (k2 rfl) (fun i t' σ' h3 h4=>h1 (i+1) t' σ' (by simpa using h3) h4) (fun σ' h=>h2 σ' (by simpa using h))
   exact⟨o3,σ3,by simp only[ZeJ,e1,Option.bind_some,e2,e3],l1,l2⟩
theorem Zb8{g:PG}{j n:Nat}{a:Nat→T}{b:PS}(hg:Pl (g σ) fun ts=>ts=tab n a)(P:Nat→TL→Prop)(h0:P 0 σ)(h1:∀i σ,i<n→P i σ→Psk (b (Z8 σ j (a i))) R (P (i+1)))(h2:∀σ,P n σ→N σ): Psk (ZaN g (Zag j) b σ) R N:=by
 obtain⟨ts,e,rfl⟩:=hg
 have:=Zh9 (R:=R) (N:=N) (put:=Zag j) (b:=b) (ts:=tab n a) P h0 (fun i t σ' h3 h4=>by
  have hi:i<n:=by have:=(Zz6.mp h3).1;rwa [Zat]at this
  rw[Zbt hi]at h3
  cases h3
  exact⟨_,rfl,h1 i σ' hi h4⟩) (by rw[Zat];exact h2)
 obtain⟨o,s,e2,q⟩:=this
 exact⟨o,s,by simp only[ZaN,e,Option.bind_some,e2],q⟩
theorem Zl7{g:PG}{j k n:Nat}{a c:Nat→T}{b:PS}(hg:Pl (g σ) fun ts=>ts=tab n fun i=>.tup [a i,c i])(P:Nat→TL→Prop)(h0:P 0 σ)(h1:∀i σ,i<n→P i σ→Psk (b (Z8 (Z8 σ j (a i)) k (c i))) R (P (i+1)))(h2:∀σ,P n σ→N σ): Psk (ZaN g (ZcF j k) b σ) R N:=by
 obtain⟨ts,e,rfl⟩:=hg
 have:=Zh9 (R:=R) (N:=N) (put:=ZcF j k) (b:=b) (ts:=tab n fun i=>.tup [a i,c i]) P h0 (fun i t σ' h3 h4=>by
  have hi:i<n:=by have:=(Zz6.mp h3).1;rwa [Zat]at this
  rw[Zbt hi]at h3
  cases h3
  exact⟨_,rfl,h1 i σ' hi h4⟩) (by rw[Zat];exact h2)
 obtain⟨o,s,e2,q⟩:=this
 exact⟨o,s,by simp only[ZaN,e,Option.bind_some,e2],q⟩
theorem Zud{g:PG}{j:Nat}{ts:List T}{b:PS}(hg:Pl (g σ) fun us=>us=ts)(P:Nat→TL→Prop)(h0:P 0 σ)(h1:∀(i:Nat) t σ,ts[i]?=some t→P i σ→Psk (b (Z8 σ j t)) R (P (i+1)))(h2:∀σ,P ts.length σ→N σ): Psk (ZaN g (Zag j) b σ) R N:=by
 obtain⟨us,e,rfl⟩:=hg
 obtain⟨o,s,e2,q⟩:=Zh9 (R:=R) (N:=N) (put:=Zag j) (b:=b) (ts:=us) P h0 (fun i t σ' h3 h4=>⟨_,rfl,h1 i t σ' h3 h4⟩) h2
 exact⟨o,s,by simp only[ZaN,e,Option.bind_some,e2],q⟩
theorem Ze9{t:PB}{b:PS}(P:Nat→TL→Prop)(R:T→Prop)(N:TL→Prop)(h:∀m σ,P m σ→Pb (t σ) fun x=>(x=true→Psk (b σ) R fun σ1=>∃m',m'<m∧P m' σ1)∧(x=false→N σ)): ∀(n:Nat) {m:Nat} {σ:TL},P m σ→m<n→Psk (Zc1 t b n σ) R N
 | 0,_,_,_,hm=>by omega
 | n+1,m,σ,hp,hm=>by
  obtain⟨x,e,h1,h2⟩:=h m σ hp
  cases x with
  | false=>exact⟨none,σ,by simp[Zc1,e],by simp,fun _=>h2 rfl⟩
  | true=>
   obtain⟨o,σ1,e1,k1,k2⟩:=h1 rfl
   cases o with
   | some v=>exact⟨some v,σ1,by simp[Zc1,e,e1],k1,by simp⟩
   | none=>
    obtain⟨m',hm',hp'⟩:=k2 rfl
    obtain⟨o2,σ2,e2,l1,l2⟩:=Ze9 P R N h n hp' (by omega)
    exact⟨o2,σ2,by simp[Zc1,e,e1,e2],l1,l2⟩
theorem Zf2: Zcx σ []=σ:=by funext i;simp[Zcx]
def AppP(σ:TL)(x:Nat)(w:T)(N:TL→Prop): Prop:=∃ts,σ x=some (.lst ts)∧ts.length<10000∧N (Z8 σ x (.lst (ts++[w])))
theorem Zue{x:Nat}{w:T}{ts:List T}(e:σ x=some (.lst ts))(hl:ts.length<10000)(h:N (Z8 σ x (.lst (ts++[w])))): AppP σ x w N:=⟨ts,e,hl,h⟩
theorem ZvE{x:Nat}{f:PE}(h:Pk (f σ) fun w=>AppP σ x w N): Psk (ZcI x [] Zas f σ) R N:=by
 obtain⟨w,e,ts,h1,h2,q⟩:=h
 refine⟨none,_,?_,by simp,fun _=>q⟩
 simp only[ZcI,Zas,Option.bind_some,e,h1,ZcG,Zfw]
 rw[if_pos (by rw[Zbh];omega)]
 simp only[Option.map_some,Zf2]
def AppQ(σ:TL)(x y:Nat)(w:T)(N:TL→Prop): Prop:=∃ts,σ x=some (.lst ts)∧ts.length<10000∧N (Zcx (Z8 σ x (.lst (ts++[w]))) [y])
theorem Zuf{x y:Nat}{w:T}{ts:List T}(e:σ x=some (.lst ts))(hl:ts.length<10000)(h:N (Zcx (Z8 σ x (.lst (ts++[w]))) [y])): AppQ σ x y w N:=⟨ts,e,hl,h⟩
theorem Zug{x y:Nat}{f:PE}(h:Pk (f σ) fun w=>AppQ σ x y w N): Psk (ZcI x [y] Zas f σ) R N:=by
 obtain⟨w,e,ts,h1,h2,q⟩:=h
 refine⟨none,_,?_,by simp,fun _=>q⟩
 simp only[ZcI,Zas,Option.bind_some,e,h1,ZcG,Zfw]
 rw[if_pos (by rw[Zbh];omega)]
 simp only[Option.map_some]
def PutP(σ:TL)(x:Nat)(w k:T)(N:TL→Prop): Prop:=∃ts m,k=.int m∧σ x=some (.lst ts)∧0≤m∧m<ts.length∧N (Z8 σ x (.lst (ts.set m.toNat w)))
theorem Ztb{x n i:Nat}{w:T}{f:Nat→T}(e:σ x=some (.lst (TM.tab n f)))(hi:i<n)(h:N (Z8 σ x (.lst (TM.tab n fun k=>if k=i then w else f k)))): PutP σ x w (.int i) N:=⟨_,_,rfl,e,by omega,by rw[Zat];omega,by rw[Int.toNat_natCast,ZhX];exact h⟩
theorem ZhC{x n:Nat}{k:Int}{w:T}{f:Nat→T}(e:σ x=some (.lst (TM.tab n f)))(h0:0≤k)(hi:k<n)(h:N (Z8 σ x (.lst (TM.tab n fun i=>if i=k.toNat then w else f i)))): PutP σ x w (.int k) N:=⟨_,_,rfl,e,h0,by rw[Zat];omega,by rw[ZhX];exact h⟩
theorem ZvF{x:Nat}{f i:PE}(h:Pk (f σ) fun w=>Pk (i σ) fun k=>PutP σ x w k N): Psk (ZaY x [] f Zas i σ) R N:=by
 obtain⟨w,e,k,e2,ts,m,rfl,h1,h2,h3,q⟩:=h
 refine⟨none,_,?_,by simp,fun _=>q⟩
 simp only[ZaY,Zas,Option.bind_some,e,e2,h1,ZcG,Zfx]
 rw[if_pos ⟨h2,h3⟩]
 simp only[Option.map_some,Zf2]
def Put2(σ:TL)(x:Nat)(w a k:T)(N:TL→Prop): Prop:=∃ts us l m,a=.int l∧k=.int m∧σ x=some (.lst ts)∧0≤l∧ts[l.toNat]?=some (.lst us)∧0≤m∧m<us.length∧N (Z8 σ x (.lst (ts.set l.toNat (.lst (us.set m.toNat w)))))
theorem Ztc{x n m i j:Nat}{w:T}{f:Nat→Nat→T}(e:σ x=some (.lst (TM.tab n fun a=>.lst (TM.tab m (f a)))))(hi:i<n)(hj:j<m)(h:N (Z8 σ x (.lst (TM.tab n fun a=>.lst (TM.tab m fun b=>if a=i∧b=j then w else f a b))))): Put2 σ x w (.int i) (.int j) N:=by
 refine⟨_,TM.tab m (f i),i,j,rfl,rfl,e,by omega,?_,by omega,by rw[Zat];omega,?_⟩
 ·rw[Int.toNat_natCast,Zbt hi]
 ·rw[Int.toNat_natCast,Int.toNat_natCast,ZhX,ZhX]
  have:(TM.tab n fun a=>if a=i then T.lst (TM.tab m fun b=>if b=j then w else f i b)else T.lst (TM.tab m (f a)))=TM.tab n fun a=>.lst (TM.tab m fun b=>if a=i∧b=j then w else f a b):=Zbg fun a _=>by
   by_cases q:a=i
   ·subst q;simp
   ·simp[q]
  rw[this];exact h
theorem Zuh{x:Nat}{f i j:PE}(h:Pk (f σ) fun w=>Pk (i σ) fun a=>Pk (j σ) fun k=>Put2 σ x w a k N): Psk (ZaY x [] f (Zbs Zas i) j σ) R N:=by
 obtain⟨w,e,a,e1,k,e2,ts,us,l,m,rfl,rfl,h1,h0,h4,h2,h3,q⟩:=h
 refine⟨none,_,?_,by simp,fun _=>q⟩
 have hl:=(Zz6.mp h4).1
 simp only[ZaY,Zas,Zbs,Option.bind_some,e,e1,e2,h1,List.nil_append,ZcG,Zfx,Zd2 h0 (show l<ts.length by omega),h4]
 rw[if_pos ⟨h2,h3⟩]
 simp only[Option.map_some,Zf2]
theorem Zui{i j:Nat}{t:T}{o:Option T}(h:j≠i)(e:σ j=o): Z8 σ i t j=o:=by simp[Z8,h,e]
theorem Ztd{j:Nat}{J:List Nat}{o:Option T}(h:j∉J)(e:σ j=o): Zcx σ J j=o:=by simp[Zcx,h,e]
end
end TM
end
section
namespace TM
open PySem PM
inductive Pln: Nat→T→Prop where
 | none {n:Nat}:Pln n .none
 | int {n:Nat} {i:Int}:Pln n (.int i)
 | str {n:Nat} {x:Str}:PyData.strOk x=true→Pln n (.str x)
 | tup {n:Nat} {ts:List T}:(∀t∈ts,Pln n t)→Pln (n+1) (.tup ts)
 | lst {n:Nat} {ts:List T}:(∀t∈ts,Pln n t)→Pln (n+1) (.lst ts)
mutual
noncomputable def dd: T→PyData
 | .none=>.none
 | .bool b=>.bool b
 | .int i=>.int i
 | .str x=>.str x
 | .tup ts=>.tuple (dds ts)
 | .lst ts=>.list (dds ts)
noncomputable def dds: List T→List PyData
 | []=>[]
 | t::ts=>dd t::dds ts
end
theorem ZlO{f:T→Option PyData}: ∀{ts:List T},(∀t∈ts,f t=some (dd t))→ZeA f ts=some (dds ts)
 | [],_=>rfl
 | t::ts,h=>by simp only[ZeA,h t Zz5,ZlO fun t m=>h t (Zz2 _ m),Option.bind_some,dds]
theorem Zl8: ∀{ts:List T},(∀t∈ts,PyData.canLay0 (dd t)=true)→PyData.canLayAll0 (dds ts)=true
 | [],_=>rfl
 | t::ts,h=>by simp only[dds,PyData.canLayAll0,h t Zz5,Zl8 fun t m=>h t (Zz2 _ m),Bool.and_self]
theorem Zl9{n:Nat}: ∀{ts:List T},(∀t∈ts,PyData.depth (dd t)≤n)→PyData.depthAll (dds ts)≤n
 | [],_=>by simp[dds,PyData.depthAll]
 | t::ts,h=>by
  have h1:=h t Zz5
  have h2:=Zl9 fun t m=>h t (Zz2 _ m)
  simp only[dds,PyData.depthAll]
  omega
theorem Pln.dat{n:Nat}{t:T}(h:Pln n t): ZcH n t=some (dd t)∧PyData.canLay0 (dd t)=true∧PyData.depth (dd t)≤n:=by
 induction h with
 | @none n=>cases n <;> exact⟨rfl,rfl,by simp[dd,PyData.depth]⟩
 | @int n i=>cases n <;> exact⟨rfl,rfl,by simp[dd,PyData.depth]⟩
 | @str n x h=>cases n <;> exact⟨rfl,by simpa [dd,PyData.canLay0]using h,by simp[dd,PyData.depth]⟩
 | @tup n ts _ ih=>
  refine⟨?_,?_,?_⟩
  ·simp only[ZcH,ZlO fun t m=>(ih t m).1,Option.map_some,dd]
  ·simp only[dd,PyData.canLay0];exact Zl8 fun t m=>(ih t m).2.1
  ·simp only[dd,PyData.depth]
   have:=Zl9 fun t m=>(ih t m).2.2
   omega
 | @lst n ts _ ih=>
  refine⟨?_,?_,?_⟩
  ·simp only[ZcH,ZlO fun t m=>(ih t m).1,Option.map_some,dd]
  ·simp only[dd,PyData.canLay0];exact Zl8 fun t m=>(ih t m).2.1
  ·simp only[dd,PyData.depth]
   have:=Zl9 fun t m=>(ih t m).2.2
   omega
theorem Zma: ∀{ts us:List T},(∀t∈ts,∀u∈us,(PyData.eqv (dd t) (dd u)=true↔t=u))→(PyData.eqvAll (dds ts) (dds us)=true↔ts=us)
 | [],[],_=>by simp[dds,PyData.eqvAll]
 | [],_::_,_=>by simp[dds,PyData.eqvAll]
 | _::_,[],_=>by simp[dds,PyData.eqvAll]
 | t::ts,u::us,h=>by
  simp only[dds,PyData.eqvAll,Bool.and_eq_true,h t Zz5 u Zz5,Zma fun t m u n=>h t (Zz2 _ m) u (Zz2 _ n),List.cons.injEq]
theorem Pln.eqv{n:Nat}{t:T}(h:Pln n t): ∀{m:Nat} {u:T},Pln m u→(PyData.eqv (dd t) (dd u)=true↔t=u):=by
 induction h with
 | none=>intro m u h;cases h <;> simp[dd,PyData.eqv]
 | int=>intro m u h;cases h <;> simp[dd,PyData.eqv]
 | str _=>intro m u h;cases h <;> simp[dd,PyData.eqv]
 | tup hs ih=>
  intro m u h
  cases h with
  | tup hu=>simp only[dd,PyData.eqv,T.tup.injEq];exact Zma fun t a u b=>ih t a (hu u b)
  | none=>simp[dd,PyData.eqv]
  | int=>simp[dd,PyData.eqv]
  | str=>simp[dd,PyData.eqv]
  | lst=>simp[dd,PyData.eqv]
 | lst hs ih=>
  intro m u h
  cases h with
  | lst hu=>simp only[dd,PyData.eqv,T.lst.injEq];exact Zma fun t a u b=>ih t a (hu u b)
  | none=>simp[dd,PyData.eqv]
  | int=>simp[dd,PyData.eqv]
  | str=>simp[dd,PyData.eqv]
  | tup=>simp[dd,PyData.eqv]
theorem Pln.mono{n:Nat}{t:T}(h:Pln n t): ∀{m:Nat},n≤m→Pln m t:=by
 induction h with
 | none=>intro m _;exact .none
 | int=>intro m _;exact .int
 | str h=>intro m _;exact .str h
 | tup hs ih=>
  intro m hm
  cases m with
  | zero=>omega
  | succ m=>exact .tup fun t a=>ih t a (by omega)
 | lst hs ih=>
  intro m hm
  cases m with
  | zero=>omega
  | succ m=>exact .lst fun t a=>ih t a (by omega)
theorem Zpj{n m:Nat}{a b:T}(ha:Pln n a)(hb:Pln m b)(hn:n≤8:=by decide)(hm:m≤8:=by decide): Zd7 a b=some (dec (a=b)):=by
 have ha:=ha.mono hn
 have hb:=hb.mono hm
 obtain⟨a1,a2,a3⟩:=ha.dat
 obtain⟨b1,b2,b3⟩:=hb.dat
 unfold Zd7 ZbO
 rw[a1,b1]
 simp only[Option.bind_some]
 rw[if_pos ⟨by simp only[SeqAt.shaped,a2,Bool.true_and,decide_eq_true_eq];omega,by simp only[SeqAt.shaped,b2,Bool.true_and,decide_eq_true_eq];omega⟩,Zmw (ha.eqv hb)]
section
variable {Q:T→Prop}
theorem Zfn{n m:Nat}{a b:T}(ha:Pln n a)(hb:Pln m b)(h:Q (.bool (dec (a=b))))(hn:n≤8:=by decide)(hm:m≤8:=by decide): Pk (qEq a b) Q:=⟨_,by simp only[qEq,Zpj ha hb hn hm,Option.map_some],h⟩
theorem ZmA{n m:Nat}{a b:T}(ha:Pln n a)(hb:Pln m b)(h:Q (.bool (!dec (a=b))))(hn:n≤8:=by decide)(hm:m≤8:=by decide): Pk (qNe a b) Q:=⟨_,by simp only[qNe,Zpj ha hb hn hm,Option.map_some],h⟩
end
theorem Zdg{α:Type}{n:Nat}{f:Nat→α}{x:α}(h:x∈tab n f): ∃i,i<n∧x=f i:=by
 obtain⟨i,hi,e⟩:=Zz11.mp h
 exact⟨i,List.mem_range.mp hi,e.symm⟩
theorem Zoq{n:Nat}{f:Nat→T}(h:∀i,i<n→(f i).flat=true): T.flats (tab n f)=true:=by
 have key:∀l:List T,(∀t∈l,t.flat=true)→T.flats l=true:=fun l=>by
  induction l with
  | nil=>intro _;rfl
  | cons t l ih=>intro h;simp only[T.flats,h t Zz5,ih fun t m=>h t (Zz2 _ m),Bool.and_self]
 exact key _ fun t m=>by obtain⟨i,hi,rfl⟩:=Zdg m;exact h i hi
theorem Zn5{n:Nat}{f:Nat→T}(h:∀i,i<n→(f i).flat=true): T.flatIn (.lst (tab n f))=true:=Zoq h
noncomputable def oT: Option Int→T
 | none=>.none
 | some x=>.int x
noncomputable def ZW(q:Int×Int): T:=.tup [.int q.1,.int q.2]
noncomputable def ZiB(n:Nat)(x:Nat→Int): T:=.lst (tab n fun i=>.int (x i))
noncomputable def Zan(n:Nat)(b:Nat→Option Int): T:=.lst (tab n fun j=>oT (b j))
noncomputable def Zab(n:Nat)(G:Nat→Nat→Option Int): T:=.lst (tab n fun i=>Zan n (G i))
noncomputable def ZaR(n:Nat)(R:Nat→Int×Int): T:=.lst (tab n fun i=>ZW (R i))
noncomputable def Z2(n:Nat)(G:Nat→Nat→Option Int)(R:Nat→Int×Int): T:=.tup [Zab (n+1) G,ZaR n R]
theorem Zb6: oT none=.none:=rfl
theorem ZaG{c:Int}: oT (some c)=.int c:=rfl
theorem Zmb{b:Option Int}: (oT b).flat=true:=by cases b <;> rfl
theorem ZhM{q:Int×Int}: (ZW q).flat=true:=rfl
theorem ZpR{a b:Option Int}: oT a=oT b↔a=b:=by cases a <;> cases b <;> simp[oT]
theorem Zuj{a b:Int×Int}: ZW a=ZW b↔a=b:=by cases a;cases b;simp[ZW]
theorem ZdY{n k:Nat}{f:Nat→T}(h:∀i,i<k→Pln n (f i)): Pln (n+1) (.lst (tab k f)):=.lst fun t m=>by obtain⟨i,hi,rfl⟩:=Zdg m;exact h i hi
theorem ZmU{n:Nat}{b:Option Int}: Pln n (oT b):=by cases b;exact .none;exact .int
theorem Zia{n:Nat}{q:Int×Int}: Pln (n+1) (ZW q):=.tup fun t m=>by
 simp at m;rcases m with rfl | rfl <;> exact .int
theorem Zpk{n:Nat}{b:Nat→Option Int}: Pln 1 (Zan n b):=ZdY fun _ _=>ZmU
theorem Zte{n:Nat}{G:Nat→Nat→Option Int}: Pln 2 (Zab n G):=ZdY fun _ _=>Zpk
theorem Ztf{n:Nat}{R:Nat→Int×Int}: Pln 2 (ZaR n R):=ZdY fun _ _=>Zia
theorem ZlP{n:Nat}{G:Nat→Nat→Option Int}{R:Nat→Int×Int}: Pln 3 (Z2 n G R):=.tup fun t m=>by
 simp at m;rcases m with rfl | rfl
 ·exact Zte
 ·exact Ztf
theorem ZcW{σ:TL}{i:Nat}{t:T}: Z8 σ i t i=some t:=by simp[Z8]
end TM
end
section
namespace PM
open PySem PySem.W PySem.Calls PyProof.Rows PyProof PyProof.Rows.LCg PyProof.Rows.LCp
noncomputable def sNo: Sm:=fun _ _=>none
noncomputable def inD(d:PyData): PyData→Option Bool
 | .list xs=>if PyData.canLayAll0 xs=true∧d.canLay0=true∧d.depth≤64 then some (xs.any fun y=>PyData.eqv y d)else none
 | .tuple xs=>if PyData.canLayAll0 xs=true∧d.canLay0=true∧d.depth≤64 then some (xs.any fun y=>PyData.eqv y d)else none
 | _=>none
noncomputable def Zm0(a b:V)(H:Hp): Option Bool:=(toD H ZbO a).bind fun d=>(toD H ZbO b).bind fun e=>inD d e
noncomputable def oIn(a b:V)(H:Hp): Option (V×Hp):=(Zm0 a b H).map fun c=>(.bool c,H)
noncomputable def Zgq(a:Nat): Nx:=fun i H=>H[a]?.bind fun vs=>match vs[i]? with
 | some x=>some (some (.tup [.int i,x]))
 | none=>if i=vs.length then some none else none
noncomputable def Zir(f:Ex): Src:=fun ρ H=>(f ρ H).bind fun p=>match p.1 with
 | .ref a=>p.2[a]?.map fun vs=>(Zgq a,vs.length+1,p.2)
 | _=>none
section
variable {prog:Program} {w:World} {Γ:Cx}
theorem Zwd{st:Stmt}: S1 prog w Γ st sNo:=fun W ρ H fr s Q E r rp hf post=>by cases hf
theorem ZgA: Op2 prog w (compareOp .In) oIn:=by
 intro Γ W ρ H fr s Q E a b x y v H' r hx hy ho post
 obtain⟨c,e1,e2⟩:=Zz1.mp ho
 cases e2
 obtain⟨d,h1,e1⟩:=Zz0.mp e1
 obtain⟨e,h2,e1⟩:=Zz0.mp e1
 obtain⟨as,R1⟩:=Ze0 r ZbO a x d hx h1
 obtain⟨bs,R2⟩:=Ze0 r ZbO b y e hy h2
 have hu:=Γ.hu
 unfold inD at e1
 split at e1
 ·split at e1
  ·rename_i hs
   cases e1
   exact SeqAt.in_list_reads R2 R1 hs.1 hs.2.1 (by omega) (post W s.heap s.toks _ (.refl W) r (.bool _))
  ·cases e1
 ·split at e1
  ·rename_i hs
   cases e1
   exact SeqAt.in_tuple_reads R2 R1 hs.1 hs.2.1 (by omega) (post W s.heap s.toks _ (.refl W) r (.bool _))
  ·cases e1
 ·cases e1
def ES(e it l:Addr)(i:Nat)(h:Heap): Prop:=(∃old,IsEnum h e it i old)∧h.IsListIter it l i
theorem ES.at{e it l:Addr}{i:Nat}{h h':Heap}(x:ES e it l i h)(k:∀a∈[e,it],∀o,h.get? a=some o→h'.get? a=some o): ES e it l i h':=by
 obtain⟨⟨old,h1⟩,h2⟩:=x
 exact⟨⟨old,k e (by simp) _ h1⟩,h2.at fun o x=>k it (by simp) o x⟩
theorem ES.have{e it l:Addr}{i:Nat}{h:Heap}(x:ES e it l i h): ∀a∈[e,it],∃o,h.get? a=some o:=by
 obtain⟨⟨old,h1⟩,o,h2,_⟩:=x
 intro a ha
 simp at ha
 rcases ha with rfl | rfl
 ·exact⟨_,h1⟩
 ·exact⟨_,h2⟩
def EIt(e it l:Addr)(i:Nat)(fs:List (Addr×Obj)): Prop:=fs.map (·.1)=[e,it]∧∀h:Heap,(∀q∈fs,h.get? q.1=some q.2)→ES e it l i h
theorem Zpl{e it l:Addr}{i:Nat}{h:Heap}(x:ES e it l i h): ∃fs,EIt e it l i fs∧∀q∈fs,h.get? q.1=some q.2:=by
 obtain⟨fs,h1,h2⟩:=ZmY h [e,it] x.have
 refine⟨fs,⟨h1,fun h' k=>x.at fun a ha o ho=>?_⟩,h2⟩
 rw[←h1]at ha
 obtain⟨q,hq,eq⟩:=Zz11.mp ha
 have:=h2 q hq
 rw[eq,ho]at this
 cases this
 exact eq▸k q hq
theorem Zuk{W0:Wd}{e it l:Addr}{a:Nat}(ea:W0.pi[a]?=some l)(hei:e≠it)(hle:l≠e)(hli:l≠it):
  Itr2 prog w Γ W0 (.ref e) [e,it] (EIt e it l) (Zgq a):=by
 refine⟨fun i fs h=>h.1,?_,?_,?_,?_⟩
 ·intro i H v hh
  obtain⟨vs,e1,hh⟩:=Zz0.mp hh
  split at hh
  ·cases hh
   exact⟨_,_,rfl⟩
  ·split at hh <;> cases hh
 ·intro i W ρ H fr fs s Q E va vb le r ap hit hn post
  obtain⟨vs,e1,hh⟩:=Zz0.mp hn
  have hv:va=.int i∧vs[i]?=some vb:=by
   split at hh
   ·rename_i x h1
    cases hh
    exact⟨rfl,h1⟩
   ·split at hh <;> cases hh
  obtain⟨_,xs,k1,g1,v1⟩:=r.at e1 (le.at ea)
  obtain⟨x,hx,rx⟩:=v1.at hv.2
  have st:ES e it l i s.heap:=hit.2 _ fun q hq=>r.frAt (Zz4 _ hq)
  have Wk:=WalksT.enumerate (prog:=prog) (w:=w) (A:=Γ.A) Γ.hh e it l hei hle hli xs.toArray
  have isl1:s.heap.IsList l xs.toArray:=⟨_,g1,rfl,k1,rfl⟩
  have hi:i<xs.toArray.size:=by
   have h1:=(Zz6.mp hx).1
   simpa using h1
  refine Wk.item i s Q E hi ⟨st.1,st.2,isl1⟩ fun T vals h1 t1 hp hT hTup hmid keep1=>post T h1 t1 ?_
  intro elts k pos s1 Q1 E1 es1 q1
  subst es1
  have hTw:=Wk.apart i T _ hmid
  refine Wk.go elts k pos i T _ Q1 E1 hmid fun h2 st2 keep2=>?_
  obtain⟨tk,x',hx',ev⟩:=hp
  have ex:x'=x:=by
   have:xs[i]?=some x':=by simpa using hx'
   rw[hx]at this
   exact(Option.some.inj this).symm
  subst ex ev
  obtain⟨fs',hit',at'⟩:=Zpl (h:=h2) (⟨st2.1,st2.2.1⟩:ES e it l (i+1) h2)
  obtain⟨oT,gT,cT,nT,dT⟩:=hTup
  refine q1 fs' h2 (.int i tk) x' hit' ?_ ⟨oT,keep2 T oT hTw gT,cT,nT,dT⟩ (by rw[hv.1];exact .int _ _) rx
  refine r.swap (fs':=fs') (fun q hq t ht=>?_) (fun c o hc e=>?_) fun q hq=>⟨at' q hq,?_⟩
  ·exact ap _ (hit.1▸List.mem_map_of_mem hq) t ht
  ·rw[hit.1]at hc
   exact keep2 c o hc (keep1 c o hc e)
  ·rw[hit.1,←hit'.1]
   exact List.mem_map_of_mem hq
 ·intro i W ρ H fr fs s Q E le r ap hit hn post
  obtain⟨vs,e1,hh⟩:=Zz0.mp hn
  obtain⟨_,xs,k1,g1,v1⟩:=r.at e1 (le.at ea)
  have hi:i=vs.length:=by
   split at hh
   ·cases hh
   ·split at hh
    ·assumption
    ·cases hh
  have st:ES e it l i s.heap:=hit.2 _ fun q hq=>r.frAt (Zz4 _ hq)
  have Wk:=WalksT.enumerate (prog:=prog) (w:=w) (A:=Γ.A) Γ.hh e it l hei hle hli xs.toArray
  have hm:xs.toArray.size=i:=by simp[v1.length,hi]
  refine Wk.done s Q E (by rw[hm];exact⟨st.1,st.2,⟨_,g1,rfl,k1,rfl⟩⟩) fun h' tk keep=>post h' tk ?_
  have:=r.swap (fs':=[]) (fun q hq t ht=>ap _ (hit.1▸List.mem_map_of_mem hq) t ht) (fun c o hc e=>keep c o (by rw[hit.1]at hc;exact hc) e) (fun q hq=>nomatch hq)
  exact this
 ·intro i W ρ H fr fs s Q E o le r hit hn q
  obtain⟨vs,e1,hh⟩:=Zz0.mp hn
  obtain⟨_,xs,k1,g1,v1⟩:=r.at e1 (le.at ea)
  have st:ES e it l i s.heap:=hit.2 _ fun q hq=>r.frAt (Zz4 _ hq)
  have Wk:=WalksT.enumerate (prog:=prog) (w:=w) (A:=Γ.A) Γ.hh e it l hei hle hli xs.toArray
  exact Wk.self i s Q E ⟨st.1,st.2,⟨_,g1,rfl,k1,rfl⟩⟩ q
theorem Ztg{x:Str}{np pos:Pos}{e1:Expr}{f:Ex}(hn:Nm prog w Γ x (.type "enumerate"))(h1:J prog w Γ e1 f)
  (he:starEach [e1] Γ.env=(false,eval e1 Γ.env)::starEach [] Γ.env:=by rfl) (hp:∀pos,(backTo pos (starEach [] Γ.env)).any (·.1)=false:=by intro _;rfl):JI2 prog w Γ (.Call (.Name x np) [e1] [] pos) (Zir f):=by
 intro W ρ H fr s Q E nx n H' r hf post
 obtain⟨p,a1,hf⟩:=Zz0.mp hf
 refine wpAny_Call_ofName (hn.use r ?_)
 refine PySem.Pv.callWith_type1 (wpAny_items_cons (h1 W ρ H fr s _ E _ _ r a1 fun W1 k1 t1 y1 l1 r1 v1=>wpAny_items_nil ?_) he) he (hp pos)
 obtain⟨u1,H1⟩:=p
 simp only at hf v1 r1
 cases u1 <;> first | (cases hf;done) | skip
 rename_i b1
 obtain⟨vs,c1,c3⟩:=Zz1.mp hf
 cases c3
 cases v1 with
 | @ref _ m1 ea=>
 obtain⟨_,xs,n1,g1,w1⟩:=r1.at c1 ea
 have isl1:k1.IsList m1 xs.toArray:=⟨_,g1,rfl,n1,rfl⟩
 refine call_enumerate_list (s:={ s with heap:=k1,toks:=t1 }) isl1 fun h₁ hE hI hsz up=>?_
 have hlt:m1<k1.objs.size:=Heap.lt_size g1
 have Wk:=WalksT.enumerate (prog:=prog) (w:=w) (A:=Γ.A) Γ.hh (k1.objs.size+1) k1.objs.size m1 (Nat.succ_ne_self _) (Nat.ne_of_lt (Nat.lt_succ_of_lt hlt)) (Nat.ne_of_lt hlt) xs.toArray
 have zs:ES (k1.objs.size+1) k1.objs.size m1 0 h₁:=⟨⟨_,hE⟩,hI⟩
 refine Wk.self 0 _ _ _ ⟨⟨_,hE⟩,hI,isl1.at fun o e=>up _ o e⟩ ?_
 obtain⟨fs,hit,at'⟩:=Zpl zs
 obtain⟨r3,ap3⟩:=r1.more (fs:=fs) (h':=h₁) (fun b o e=>up b o e) (fun q hq=>⟨at' q hq,by
  have:q.1∈fs.map (·.1):=List.mem_map_of_mem hq
  rw[hit.1]at this
  simp at this
  rcases this with e | e <;> rw[e] <;> omega⟩)
 refine post W1 h₁ t1 _ _ _ fs l1 hit r3 (fun b hb t ht=>?_) (Zuk ea (Nat.succ_ne_self _) (Nat.ne_of_lt (Nat.lt_succ_of_lt hlt)) (Nat.ne_of_lt hlt)) ?_
 ·rw[←hit.1]at hb
  obtain⟨q,hq,e⟩:=Zz11.mp hb
  exact e▸ap3 q hq t ht
 ·simp only[Zgq,c1,Option.bind_some]
  cases q:vs[0]? with
  | some x=>exact⟨_,rfl⟩
  | none=>
   have:vs.length=0:=by simpa using q
   simp[this]
theorem ZvG{e1 e2 e3:Expr}{es:List Expr}{pos:Pos}{f g:Ex}(h1:J prog w Γ e1 f)(h2:J prog w Γ (.BoolOp .And (e2::e3::es) pos) g) (he:eval (.BoolOp .And (e1::e2::e3::es) pos) Γ.env=(do
  let v ←eval e1 Γ.env
  standAt pos
  let t ←holding [v] (truthy v)
  match BoolOp.And,t with
  | .And,false | .Or,true=>pure v
  | _,_=>eval (.BoolOp .And (e2::e3::es) pos) Γ.env):=by rfl):J prog w Γ (.BoolOp .And (e1::e2::e3::es) pos) (Zc6 f g):=by
 intro W ρ H fr s Q E v H' r hf post
 obtain⟨p,a1,hf⟩:=Zz0.mp hf
 obtain⟨b,a2,a3⟩:=Zz0.mp hf
 rw[he]
 refine wpAny_bind (wpAny_mono (h1 W ρ H fr s (fun x s₁=>wpAny (model prog w) Γ.A (truthy x) (fun t s₂=>if t then wpAny (model prog w) Γ.A (eval (.BoolOp .And (e2::e3::es) pos) Γ.env) Q E s₂ else Q x s₂) E s₁) E _ _ r a1 fun W1 k1 t1 x l1 r1 x1=>?_) (fun v s₁ h₁=>wpAny_bind (wpAny_standAt (wpAny_bind (wpAny_holding (wpAny_mono h₁ (fun t s₂ h₂=>?_) fun _ _ x=>x))))) fun _ _ x=>x)
 ·refine truth Γ W1 ρ _ fr _ _ E _ x b r1 x1 a2 fun W2 k2 t2 l2 r2=>?_
  cases b with
  | true=>exact h2 W2 ρ _ fr _ Q E _ H' r2 a3 fun W3 k3 t3 z l3 r3 z3=>post W3 k3 t3 z ((l1.trans l2).trans l3) r3 z3
  | false=>
   cases a3
   exact post W2 k2 t2 x (l1.trans l2) r2 (x1.mono l2)
 ·cases t with
  | false=>exact wpAny_pure h₂
  | true=>exact h₂
end
end PM
end
section
namespace TM
open PySem PM
noncomputable def ZgK(a b:T): Option Bool:=(ZcH ZbO a).bind fun d=>(ZcH ZbO b).bind fun e=>inD d e
noncomputable def qIn(a b:T): Option T:=(ZgK a b).map .bool
theorem ZvH{H:Hp}{v1 v2:V}{t1 t2:T}{F1 F2:List Nat}(r1:RF H v1 t1 F1)(r2:RF H v2 t2 F2): Zm0 v1 v2 H=ZgK t1 t2:=by
 simp only[Zm0,ZgK,Zh8 ZbO _ _ _ r1,Zh8 ZbO _ _ _ r2]
theorem Zfy: OA2 oIn qIn:=fun H v1 v2 t1 t2 t F1 F2 r1 r2 h=>by
 obtain⟨c,h1,h⟩:=Zz1.mp h
 subst h
 exact⟨_,by simp only[oIn,ZvH r1 r2,h1,Option.map_some],.bool _⟩
theorem ZpS{d:T}: ∀{ts:List T},(∀t∈ts,(PyData.eqv (dd t) (dd d)=true↔t=d))→((dds ts).any fun y=>PyData.eqv y (dd d))=dec (d∈ts)
 | [],_=>by simp[dds,Zch]
 | t::ts,h=>by
  have ih:=ZpS (d:=d) (ts:=ts) fun t m=>h t (Zz2 _ m)
  simp only[dds,List.any_cons,ih]
  symm
  apply Zmw
  rw[Bool.or_eq_true,h t Zz5,dec_iff]
  simp[eq_comm]
theorem ZvI{n m:Nat}{a:T}{ts:List T}(ha:Pln n a)(hb:Pln m (.lst ts))(hn:n≤8:=by decide)(hm:m≤8:=by decide): ZgK a (.lst ts)=some (dec (a∈ts)):=by
 have ha:=ha.mono hn
 have hb:=hb.mono hm
 obtain⟨a1,a2,a3⟩:=ha.dat
 obtain⟨b1,b2,b3⟩:=hb.dat
 unfold ZgK ZbO
 rw[a1,b1]
 simp only[Option.bind_some,dd,inD]
 simp only[dd,PyData.canLay0]at b2
 rw[if_pos ⟨b2,a2,by omega⟩,ZpS]
 intro t m
 cases hb with
 | lst hs=>exact(hs t m).eqv ha
section
variable {Q:T→Prop}
theorem ZgB{n m:Nat}{a:T}{ts:List T}(ha:Pln n a)(hb:Pln m (.lst ts))(h:Q (.bool (dec (a∈ts))))(hn:n≤8:=by decide)(hm:m≤8:=by decide): Pk (qIn a (.lst ts)) Q:=⟨_,by simp only[qIn,ZvI ha hb hn hm,Option.map_some],h⟩
end
noncomputable def ZeB(ts:List T): List T:=List.zipWith (fun i t=>.tup [.int (i:Nat),t]) (List.range ts.length) ts
noncomputable def Zis(p:PE): PG:=fun σ=>(p σ).bind fun t=>match t with
 | .lst ts=>some (ZeB ts)
 | _=>none
theorem Zth{ts:List T}: (ZeB ts).length=ts.length:=by simp[ZeB]
theorem ZoQ{H:Hp}: ∀{vs:List V} {ts:List T} {F:List Nat} (k:Nat),RFs H vs ts F→RFs H (List.zipWith (fun i v=>V.tup [.int (i:Nat),v]) (List.range' k ts.length) vs) (List.zipWith (fun i t=>T.tup [.int (i:Nat),t]) (List.range' k ts.length) ts) F
 | _,_,_,_,.nil=>.nil
 | _,_,_,k,.cons a b=>by
  rw[List.length_cons,List.range'_succ]
  have h1:RF H (V.tup [.int (k:Nat),_]) (T.tup [.int (k:Nat),_]) _:=.tup (.cons (.int _) (.one a))
  simpa using RFs.cons h1 (ZoQ (k+1) b)
theorem Zul{O N:List Nat}{u:Bool}{e:Ex}{p:PE}(x:E O N u e p): Gs O N (Zir e) (Zis p):=fun c ρ σ H Φ ts s h=>by
 obtain⟨t1,h1,h⟩:=Zz0.mp h
 obtain⟨v,X,F,a1,a2,a3,a4⟩:=x c ρ σ H Φ t1 s h1
 have hlt:=a2.lt
 cases a2 with
 | none=>cases h
 | bool=>cases h
 | int=>cases h
 | str=>cases h
 | tup=>cases h
 | @ref b vs us F' e1 hs=>
  cases h
  have hl:=hs.length
  refine⟨Zgq b,X,List.zipWith (fun i v=>V.tup [.int (i:Nat),v]) (List.range us.length) vs,F',b::F',by simp only[Zir,a1,Option.bind_some,e1,Option.map_some,Zth,hl],?_,fun _ m=>List.mem_cons_of_mem _ m,fun a m=>⟨hlt a m,a3 a m⟩,fun K hK i hi=>?_⟩
  ·have:=ZoQ 0 hs
   unfold ZeB
   rw[List.range_eq_range']
   exact this
  ·simp only[Zgq,hK b Zz5,e1,Option.bind_some,List.getElem?_zipWith]
   simp only[List.length_zipWith,List.length_range]at hi
   by_cases q:i<vs.length
   ·rw[List.getElem?_eq_getElem q,List.getElem?_range (by omega)]
   ·rw[List.getElem?_eq_none (by omega),List.getElem?_eq_none (by simp;omega)]
    simp
    omega
theorem Zti{n:Nat}{f:Nat→T}: ZeB (tab n f)=tab n fun i=>.tup [.int (i:Nat),f i]:=by
 unfold ZeB
 rw[Zat]
 have:List.range n=tab n fun i=>i:=by simp[tab]
 rw[this,Zpg,Nat.min_self]
section
variable {σ:TL} {L:List T→Prop}
def EnP(x:T)(L:List T→Prop): Prop:=∃ts,x=.lst ts∧L (ZeB ts)
theorem Zum{f:PE}(h:Pk (f σ) fun t=>EnP t L): Pl (Zis f σ) L:=by
 obtain⟨t,a,ts,rfl,q⟩:=h;exact⟨_,by simp only[Zis,a,Option.bind_some],q⟩
theorem Zun{n:Nat}{f:Nat→T}(h:L (TM.tab n fun i=>.tup [.int (i:Nat),f i])): EnP (.lst (TM.tab n f)) L:=⟨_,rfl,by rw[Zti];exact h⟩
end
noncomputable def Zit(g:PG)(put:T→TL→Option TL)(b:PS): PS:=fun σ=>(g σ).bind fun ts=>if ts=[]then none else ZeJ put b σ ts
end TM
end
section
namespace PM
open PySem PySem.W PySem.Calls PyProof.Rows PyProof
noncomputable def Zgr(o1 o2:V→V→Hp→Option (V×Hp))(f g h:Ex): Ts:=fun ρ H=>(f ρ H).bind fun p=>(g ρ p.2).bind fun q=>(o1 p.1 q.1 q.2).bind fun u=>(ZcB u.1 u.2).bind fun b=>if b then(h ρ u.2).bind fun x=>(o2 q.1 x.1 x.2).bind fun y=>(ZcB y.1 y.2).map fun c=>(c,y.2)else some (false,u.2)
section
variable {prog:Program} {w:World} {Γ:Cx}
theorem Ztj{e1 e2 e3:Expr}{op1 op2:CmpOp}{pos:Pos}{f g h:Ex}{o1 o2:V→V→Hp→Option (V×Hp)}(h1:J prog w Γ e1 f)(h2:J prog w Γ e2 g)(h3:J prog w Γ e3 h)(k1:Op2 prog w (compareOp op1) o1)(k2:Op2 prog w (compareOp op2) o2)(hm:lastMarks [op1,op2] [e2,e3]=false:=by with_unfolding_all rfl): JT prog w Γ (.Compare e1 [op1,op2] [e2,e3] pos) (Zgr o1 o2 f g h):=by
 intro W ρ H fr s Q E b H' r hf post
 obtain⟨p,a1,hf⟩:=Zz0.mp hf
 obtain⟨q,a2,hf⟩:=Zz0.mp hf
 obtain⟨u,a3,hf⟩:=Zz0.mp hf
 obtain⟨c,a4,hf⟩:=Zz0.mp hf
 refine isTrue_chain (h1 W ρ H fr s _ E _ _ r a1 fun W1 n1 t1 x l1 r1 x1=>?_) hm
 refine test_link (h2 W1 ρ _ fr _ _ E _ _ r1 a2 fun W2 n2 t2 y l2 r2 y2=>?_)
 refine k1 Γ W2 ρ _ fr _ _ E _ _ x y _ _ r2 (x1.mono l2) y2 a3 fun W3 n3 t3 z l3 r3 z3=>?_
 refine truth Γ W3 ρ _ fr _ _ E _ z c r3 z3 a4 fun W4 n4 t4 l4 r4=>?_
 cases c with
 | false=>
  cases hf
  exact post W4 n4 t4 (((l1.trans l2).trans l3).trans l4) r4
 | true=>
  simp only[if_true]at hf
  obtain⟨v,a5,hf⟩:=Zz0.mp hf
  obtain⟨v2,a6,hf⟩:=Zz0.mp hf
  obtain⟨d,a7,a8⟩:=Zz1.mp hf
  cases a8
  refine test_last (h3 W4 ρ _ fr _ _ E _ _ r4 a5 fun W5 n5 t5 y5 l5 r5 x5=>?_)
  refine k2 Γ W5 ρ _ fr _ _ E _ _ y y5 _ _ r5 (((y2.mono l3).mono l4).mono l5) x5 a6 fun W6 n6 t6 z6 l6 r6 x6=>?_
  exact truth Γ W6 ρ _ fr _ _ E _ z6 b r6 x6 a7 fun W7 n7 t7 l7 r7=>post W7 n7 t7 ((((((l1.trans l2).trans l3).trans l4).trans l5).trans l6).trans l7) r7
end
end PM
end
section
namespace TM
open PySem PM
section
variable {O N M K:List Nat} {u u' u'':Bool}
noncomputable def Zgs(q1 q2:T→T→Option T)(p1 p2 p3:PE): PB:=fun σ=>(p1 σ).bind fun x=>(p2 σ).bind fun y=>(q1 x y).bind fun z=>(ZbJ z).bind fun b=>if b then(p3 σ).bind fun v=>(q2 y v).bind ZbJ else some false
theorem Ztk{e1 e2 e3:Ex}{p1 p2 p3:PE}{q1 q2:T→T→Option T}{o1 o2:V→V→Hp→Option (V×Hp)}(k1:OA2 o1 q1)(k2:OA2 o2 q2)(x:E O N u e1 p1)(y:E O M u' e2 p2)(z:E O K u'' e3 p3): Bt O (Zgr o1 o2 e1 e2 e3) (Zgs q1 q2 p1 p2 p3):=fun c ρ σ H Φ b s h=>by
 obtain⟨t1,h1,h⟩:=Zz0.mp h
 obtain⟨t2,h2,h⟩:=Zz0.mp h
 obtain⟨t3,h3,h⟩:=Zz0.mp h
 obtain⟨b0,h4,h⟩:=Zz0.mp h
 obtain⟨v1,X,F,a1,a2,_,_⟩:=x c ρ σ H Φ t1 s h1
 obtain⟨v2,Y,G,b1,b2,_,_⟩:=y c ρ σ (H++X) Φ t2 (s.ext X) h2
 obtain⟨v3,c1,c2⟩:=k1 _ v1 v2 t1 t2 t3 F G (a2.ext Y) b2 h3
 have d1:=ZdW c2 h4
 cases b0 with
 | false=>
  cases h
  exact⟨X++Y,by simp only[Zgr,a1,b1,Option.bind_some,c1,d1];simp⟩
 | true=>
  simp only[if_true]at h
  obtain⟨t5,h5,h⟩:=Zz0.mp h
  obtain⟨t6,h6,h⟩:=Zz0.mp h
  obtain⟨v5,Z,F5,e1,e2,_,_⟩:=z c ρ σ (H++X++Y) Φ t5 ((s.ext X).ext Y) h5
  obtain⟨v6,f1,f2⟩:=k2 _ v2 v5 t2 t5 t6 G F5 (b2.ext Z) e2 h6
  have g1:=ZdW f2 h
  exact⟨X++Y++Z,by simp only[Zgr,a1,b1,Option.bind_some,c1,d1,if_true,e1,f1,g1,Option.map_some];simp⟩
def OIn(o:List V→Hp→Option (V×Hp))(q:List T→Option T): Prop:=∀(H:Hp) (vs:List V) (ts:List T) (t:T) (F1:List Nat),RFs H vs ts F1→q ts=some t→∃v F,o vs H=some (v,H)∧RF H v t F∧F.Sublist F1
theorem Zuo{n:Nat}{es:Exs}{ps:PEs}{q:List T→Option T}{o:List V→Hp→Option (V×Hp)}(k:OIn o q)(x:Es O N u n es ps): E O N u (Zr o es) (Zq q ps):=fun c ρ σ H Φ t s h=>by
 obtain⟨ts,h1,h⟩:=Zz0.mp h
 obtain⟨_,vs,X,F,a1,a2,a3,a4⟩:=x c ρ σ H Φ ts s h1
 obtain⟨w,G,b1,b2,b3⟩:=k _ vs ts t F a2 h
 exact⟨w,X,G,by simp only[Zr,a1,Option.bind_some,b1],b2,fun a m=>a3 a (b3.subset m),fun hu=>(a4 hu).sublist b3⟩
theorem Ztl: OIn Zff ZhV:=fun H vs ts t F r h=>by
 unfold ZhV at h
 split at h
 ·obtain⟨v,rfl,r'⟩:=r.one_inv
  cases r' with
  | @ref a vs1 _ F1 e hs=>cases h;exact⟨.tup vs1,F1,by simp only[Zff,e,Option.map_some],.tup hs,List.sublist_cons_self _ _⟩
 ·obtain⟨v,rfl,r'⟩:=r.one_inv
  cases r' with
  | @tup vs1 _ _ hs=>cases h;exact⟨.tup vs1,_,by simp only[Zff],.tup hs,List.Sublist.refl _⟩
 ·cases h
end
theorem ZvJ{O O1 R J Ns:List Nat}{fr:Bool}{g:Src}{q:PG}{put:V→Lc→Option Lc}{pput:T→TL→Option TL}{b:Sm}{qb:PS}(hg:Gs O Ns g q)(hj:PutOk O J put pput)(hj1:PutOk O1 J put pput)(hJ:∀i∈J,i∉O)(hJ1:∀i∈J,i∉O1)(hN:∀i∈Ns,i∉O)(hb:S O O1 R fr b qb)(hb1:S O1 O1 R fr b qb): S O O1 R fr (ZaL g put b) (Zit q pput qb):=fun c ρ σ H Φ r s h=>by
 obtain⟨ts,h1,h⟩:=Zz0.mp h
 obtain⟨nx,X,vs,F,G,g1,g2,g3,g4,g5⟩:=hg c ρ σ H Φ ts s h1
 split at h
 ·cases h
 ·rename_i hne
  cases ts with
  | nil=>exact absurd rfl hne
  | cons t rs=>
   cases g2 with
   | @cons v _ F1 ws _ F2 a b'=>
   have sx:=s.ext X
   have hsrc:∀a∈G,c.H0.length≤a∨c.P a:=fun a m=>s.from_src (g4 a m).2
   have hoff:∀a∈G,¬Held O σ Φ a:=fun a m ⟨k,hk,⟨t,e⟩,q⟩=>s.from_off hN (g4 a m).2 hk e q
   obtain⟨σ1,p0,h⟩:=Zz0.mp h
   obtain⟨r1,h2,h⟩:=Zz0.mp h
   obtain⟨ρ1,Φ1,p1,s1,p3,p4⟩:=hj c ρ σ (H++X) Φ v t F1 σ1 sx a (fun x m=>hsrc x (g3 x (Zz4 _ m))) (fun k hk t' e x m q=>hoff x (g3 x (Zz4 _ q)) ⟨k,hk,⟨t',e⟩,m⟩) p0
   have hh:∀x,Held O σ1 Φ1 x→Held O σ Φ x:=fun x ⟨k,hk,⟨t',e⟩,m⟩=>by
    obtain⟨q1,q2⟩:=p3 k fun q=>hJ k q hk
    exact⟨k,hk,⟨t',q1▸e⟩,q2▸m⟩
   obtain⟨ρ2,K2,Φ2,w1,w2,w3⟩:=hb c ρ1 σ1 (H++X) Φ1 r1 s1 h2
   have e0:nx 0 (H++X)=some (some v):=by have:=g5 (H++X) (fun _ _=>rfl) 0 (Nat.zero_le _);simpa using this
   have estep:ZaL g put b ρ H=(b ρ1 (H++X)).bind fun q=>match q.1 with
     | some _=>some q
     | none=>Zc3 nx put b (rs.length+1) 1 q.2.1 q.2.2:=by
    simp only[ZaL,g1,Option.bind_some,List.length_cons]
    show(nx 0 (H++X)).bind _=_
    rw[e0]
    first | (simp only[Option.bind_some,p1];done) | (simp only[Option.bind_some,p1];rfl)
   rw[estep]
   refine Aft.grow (X:=X) ?_
   rcases w3 with⟨k1,k2,k3,k4⟩ | ⟨t',v',F',k1,k2,k3⟩
   ·rw[k1]at h
    have hG2:∀a∈G,K2[a]?=(H++X)[a]?:=fun x m=>w2 x (g4 x m).1 fun q=>hoff x m (hh x q)
    have hoff2:∀a∈G,¬Held O1 r1.2 Φ2 a:=fun x m q=>by
     rcases k4 x q with q | q
     ·have:=(g4 x m).1;omega
     ·exact hoff x m (hh x q)
    have ih:=ZlM hj1 hJ1 hb1 (H1:=H++X) (fun a m=>(g4 a m).1) hsrc g5 rs ws 1 ρ2 r1.2 K2 Φ2 F2 r (fun j=>by rw[Nat.add_comm];simp) (by simp;omega) k3 w1 hG2 hoff2 (b'.frame fun x m=>hG2 x (g3 x (Zz3 _ m))) (fun x m=>g3 x (Zz3 _ m)) h
    rw[k2]
    simp only[Option.bind_some]
    obtain⟨ρ3,K3,Φ3,l1,l2,l3⟩:=ih
    refine⟨ρ3,K3,Φ3,by omega,fun x hx hn=>?_,?_⟩
    ·rw[l2 x (by omega) fun q=>(k4 x q).elim (fun q=>by omega) fun q=>hn (hh x q),w2 x hx fun q=>hn (hh x q)]
    ·rcases l3 with⟨m1,m2,m3,m4⟩ | l
     ·refine .inl ⟨m1,m2,m3,fun x q=>?_⟩
      rcases m4 x q with q | q
      ·exact .inl (by omega)
      ·exact(k4 x q).imp id (hh x)
     ·exact .inr l
   ·rw[k1]at h
    cases h
    refine⟨ρ2,K2,Φ2,w1,fun x hx hn=>w2 x hx fun q=>hn (hh x q),.inr ⟨t',v',F',k1,?_,k3⟩⟩
    rw[k2]
    rfl
section
variable {σ:TL} {Q:T→Prop} {B:Bool→Prop} {R:T→Prop} {N:TL→Prop}
theorem Ztm{q1 q2:T→T→Option T}{f g h:PE}(k:Pk (f σ) fun x=>Pk (g σ) fun y=>Pk (q1 x y) fun z=>Pb (ZbJ z) fun b=>(b=true→Pk (h σ) fun v=>Pk (q2 y v) fun w=>Pb (ZbJ w) B)∧(b=false→B false)): Pb (Zgs q1 q2 f g h σ) B:=by
 obtain⟨x,a1,y,a2,z,a3,b,a4,k1,k2⟩:=k
 cases b with
 | false=>exact⟨false,by simp[Zgs,a1,a2,a3,a4],k2 rfl⟩
 | true=>
  obtain⟨v,b1,w,b2,c,b3,q⟩:=k1 rfl
  exact⟨c,by simp[Zgs,a1,a2,a3,a4,b1,b2,b3],q⟩
theorem Zup{g:PG}{j n:Nat}{a:Nat→T}{b:PS}(hn:0<n)(hg:Pl (g σ) fun ts=>ts=tab n a)(P:Nat→TL→Prop)(h0:P 0 σ)(h1:∀i σ,i<n→P i σ→Psk (b (Z8 σ j (a i))) R (P (i+1)))(h2:∀σ,P n σ→N σ): Psk (Zit g (Zag j) b σ) R N:=by
 obtain⟨o,s,e,q⟩:=Zb8 (R:=R) (N:=N) (b:=b) (j:=j) hg P h0 h1 h2
 obtain⟨ts,e1,rfl⟩:=hg
 refine⟨o,s,?_,q⟩
 have hne:tab n a≠[]:=fun h=>by have:=congrArg List.length h;rw[Zat]at this;simp at this;omega
 simp only[Zit,e1,Option.bind_some,hne,if_false]
 simpa only[ZaN,e1,Option.bind_some]using e
end
end TM
end
section
namespace TM
open PySem PM
theorem Zor{fr:Bool}: SimF fr (fun _ _=>none) (fun _=>none):=by
 intro H vs ts t F1 hp r h
 cases h
end TM
end
section
namespace TM
open PySem PM
def Keep0(g:Sm): Prop:=∀ρ H r,g ρ H=some r→r.2.1 0=ρ 0
theorem Keep0.next: Keep0 ZY:=fun ρ H r h=>by cases h;rfl
theorem Zlf{e:Ex}: Keep0 (Zck e):=fun ρ H r h=>by
 obtain⟨_,_,q⟩:=Zz1.mp h
 subst q;rfl
theorem Keep0.ret{e:Ex}: Keep0 (ZD e):=fun ρ H r h=>by
 obtain⟨_,_,q⟩:=Zz1.mp h
 subst q;rfl
theorem Keep0.put{f o i:Ex}: Keep0 (ZbB f o i):=fun ρ H r h=>by
 obtain⟨_,_,h⟩:=Zz0.mp h
 obtain⟨_,_,h⟩:=Zz0.mp h
 obtain⟨_,_,h⟩:=Zz0.mp h
 obtain⟨_,_,q⟩:=Zz1.mp h
 subst q;rfl
theorem Keep0.seq{a b:Sm}(x:Keep0 a)(y:Keep0 b): Keep0 (Zt a b):=fun ρ H r h=>by
 obtain⟨r1,e1,h⟩:=Zz0.mp h
 have h1:=x ρ H r1 e1
 split at h
 ·cases h;exact h1
 ·exact(y _ _ _ h).trans h1
theorem Zlg{t:Ts}{a b:Sm}(x:Keep0 a)(y:Keep0 b): Keep0 (ZT t a b):=fun ρ H r h=>by
 obtain⟨p,_,h⟩:=Zz0.mp h
 split at h
 ·exact x _ _ _ h
 ·exact y _ _ _ h
theorem Keep0.set{i:Nat}{e:Ex}(hi:0≠i): Keep0 (ZK i e):=fun ρ H r h=>by
 obtain⟨_,_,q⟩:=Zz1.mp h
 subst q
 simp[upd,hi]
def SimM(f:List V→Hp→Option (V×Hp))(p:List T→Option T): Prop:=∀(H:Hp) (v:V) (vs:List V) (t:T) (ts:List T) (t':T) (F0 F1:List Nat),0<H.length→RF H v t F0→F0.Nodup→0∉F0→RFs H vs ts F1→(∀a∈F0,a∉F1)→p (t::ts)=some t' →
 ∃w H' F',f (v::vs) H=some (w,H')∧H.length≤H'.length∧(∀a,a<H.length→a∉F0→H'[a]?=H[a]?)∧RF H' v t' F'∧F'.Nodup∧∀a∈F',H.length≤a∨a∈F0
noncomputable def ZgL(n:Nat)(q:PS): List T→Option T:=fun ts=>if ts.length=n then(q fun i=>ts[i]?).bind fun r=>r.2 0 else none
theorem Zmc{O':List Nat}{n:Nat}{g:Sm}{q:PS}(h:S [0] O' [0] false g q)(h0:0∈O')(hk:Keep0 g): SimM (Z5 n g) (ZgL n q):=fun H v vs t ts t' F0 F1 hp r0 nd n0 rs dj e=>by
 unfold ZgL at e
 split at e
 ·rename_i hl
  obtain⟨r1,e1,e2⟩:=Zz0.mp e
  obtain⟨Φ,hΦ⟩:=rs.slots
  have st:St ⟨H,F0,fun a=>a∈F0∨a∈F1⟩ [0] (fun i=>(v::vs)[i]?) (fun i=>(t::ts)[i]?) H (fun i=>match i with | 0=>F0 | i+1=>Φ i):=by
   refine⟨fun i u e=>?_,fun i u e a m=>?_,fun i hi u e=>?_,Nat.le_refl _,fun a _ _=>rfl,hp,n0⟩
   ·cases i with
    | zero=>simp at e;subst e;exact⟨v,rfl,r0⟩
    | succ i=>
     simp at e
     obtain⟨w,h1,h2,_⟩:=hΦ i u e
     exact⟨w,by simpa using h1,h2⟩
   ·cases i with
    | zero=>exact .inr (.inl m)
    | succ i=>
     simp at e
     obtain⟨w,h1,h2,h3⟩:=hΦ i u e
     exact .inr (.inr (h3 a m))
   ·have:i=0:=by simpa using hi
    subst this
    refine⟨nd,fun a m=>.inr m,fun j u' hj ej a m=>?_⟩
    cases j with
    | zero=>exact absurd rfl hj
    | succ j=>
     simp at ej
     obtain⟨w,h1,h2,h3⟩:=hΦ j u' ej
     exact fun q=>dj a m (h3 a q)
  obtain⟨ρ',H',Φ',h1,h2,h3⟩:=h _ _ _ _ _ _ st e1
  have hv:(v::vs).length=n:=by rw[←hl];simp[rs.length]
  have go:∀(o:Option V) (O2:List Nat),0∈O2→g (fun i=>(v::vs)[i]?) H=some (o,ρ',H')→St ⟨H,F0,fun a=>a∈F0∨a∈F1⟩ O2 ρ' r1.2 H' Φ'→∃w H' F',Z5 n g (v::vs) H=some (w,H')∧H.length≤H'.length∧(∀a,a<H.length→a∉F0→H'[a]?=H[a]?)∧RF H' v t' F'∧F'.Nodup∧∀a∈F',H.length≤a∨a∈F0:=by
   intro o O2 hO eg s2
   obtain⟨v',ev,rv⟩:=s2.slot 0 t' e2
   have kk:=hk _ _ _ eg
   have:v'=v:=by
    have k2:ρ' 0=some v:=kk
    rw[ev]at k2
    cases k2
    rfl
   subst this
   obtain⟨o1,o2,_⟩:=s2.own 0 hO t' e2
   exact⟨o.getD .none,H',Φ' 0,by simp only[Z5,hv,if_true,eg,Option.map_some],h1,s2.keep,rv,o1,o2⟩
  rcases h3 with⟨k1,k2,k3,k4⟩ | ⟨u,v',F',k1,k2,k3,k4,k5,k6⟩
  ·exact go none O' h0 k2 k3
  ·exact go (some v') [0] List.mem_cons_self k2 k4
 ·cases e
noncomputable def Zfz(x:Nat)(p:List T→Option T)(ps:PEs): PS:=fun σ=>(ps σ).bind fun ts=>(σ x).bind fun t=>(p (t::ts)).map fun t'=>(none,Z8 σ x t')
section
variable {O O' R N:List Nat} {fr u:Bool}
theorem Zgt{x n:Nat}{f:List V→Hp→Option (V×Hp)}{p:List T→Option T}{es:Exs}{ps:PEs}(hx:x∈O)(k:SimM f p)(y:Es O N u n es ps)(hN:x∉N)(hO:∀j∈O',j∈O): S O O' R fr (Zck (Zr f (Ze (Zb x) es))) (Zfz x p ps):=fun c ρ σ H Φ r s q=>by
 obtain⟨ts,h1,q⟩:=Zz0.mp q
 obtain⟨t,h2,q⟩:=Zz0.mp q
 obtain⟨t',h3,q⟩:=Zz1.mp q
 subst q
 obtain⟨v,ev,rv⟩:=s.slot x t h2
 obtain⟨o1,o2,o3⟩:=s.own x hx t h2
 have hlow:∀k t,σ k=some t→∀a∈Φ k,a<H.length:=fun k t e a m=>by
  obtain⟨_,_,r⟩:=s.slot k t e
  exact r.lt a m
 obtain⟨_,vs,X,F,a1,a2,a3,_⟩:=y c ρ σ H Φ ts s h1
 have hp:0<(H++X).length:=by have:=s.pos;have:=s.len;rw[List.length_append];omega
 have hlen:(H++X).length=H.length+X.length:=List.length_append
 have dj:∀a∈Φ x,a∉F:=fun a m q=>by
  rcases a3 a q with h | ⟨j,hj,⟨tj,ej⟩,mj⟩
  ·have:=hlow x t h2 a m;omega
  ·exact o3 j tj (fun e=>hN (e▸hj)) ej a m mj
 obtain⟨w,H',F',b1,b2,b3,b4,b5,b6⟩:=k (H++X) v vs t ts t' (Φ x) F hp (rv.ext X) o1 (fun m=>Zl4 s hx h2 m rfl) a2 dj h3
 have same:∀a,a<H.length→a∉Φ x→H'[a]?=H[a]?:=fun a ha hn=>by
  rw[b3 a (by omega) hn,List.getElem?_append_left ha]
 have eg:Zck (Zr f (Ze (Zb x) es)) ρ H=some (none,ρ,H'):=by
  simp only[Zck,Zr,Ze,Zb,ev,Option.map_some,Option.bind_some,a1,b1]
 refine⟨ρ,H',Zah Φ x F',by omega,fun a ha hn=>same a ha fun m=>hn ⟨x,hx,⟨t,h2⟩,m⟩,.inl ⟨rfl,eg,⟨fun i u' e=>?_,fun i u' e a m=>?_,fun i hi u' e=>?_,by have:=s.len;omega,fun a ha hn=>?_,s.pos,s.f0⟩,fun a hh=>?_⟩⟩
 ·by_cases c1:i=x
  ·subst c1
   simp only[Z8,if_true,Option.some.injEq]at e
   subst e
   exact⟨v,ev,by simpa [Zah]using b4⟩
  ·simp only[Z8,c1,if_false]at e
   obtain⟨v2,e2,r2⟩:=s.slot i u' e
   refine⟨v2,e2,?_⟩
   simp only[Zah,c1,if_false]
   exact r2.frame fun a m=>same a (hlow i u' e a m) fun q=>o3 i u' c1 e a q m
 ·by_cases c1:i=x
  ·subst c1
   simp only[Zah,if_true]at m
   rcases b6 a m with h | h
   ·exact .inl (by have:=s.len;omega)
   ·exact s.src i t h2 a h
  ·simp only[Z8,c1,if_false]at e
   simp only[Zah,c1,if_false]at m
   exact s.src i u' e a m
 ·by_cases c1:i=x
  ·subst c1
   refine⟨by simpa [Zah]using b5,fun a m=>?_,fun j u2 hj ej a m=>?_⟩
   ·simp only[Zah,if_true]at m
    rcases b6 a m with h | h
    ·exact .inl (by have:=s.len;omega)
    ·exact o2 a h
   ·simp only[Zah,if_true]at m
    simp only[Z8,hj,if_false]at ej
    simp only[Zah,hj,if_false]
    intro q
    have hq:=hlow j u2 ej a q
    rcases b6 a m with h | h
    ·omega
    ·exact o3 j u2 hj ej a h q
  ·simp only[Z8,c1,if_false]at e
   obtain⟨q1,q2,q3⟩:=s.own i (hO i hi) u' e
   refine⟨by simpa [Zah,c1]using q1,fun a m=>?_,fun j u2 hj ej a m=>?_⟩
   ·simp only[Zah,c1,if_false]at m
    exact q2 a m
   ·simp only[Zah,c1,if_false]at m
    by_cases c2:j=x
    ·subst c2
     simp only[Zah,if_true]
     intro q
     have hm:=hlow i u' e a m
     rcases b6 a q with h | h
     ·omega
     ·exact q3 j t hj h2 a m h
    ·simp only[Z8,c2,if_false]at ej
     simp only[Zah,c2,if_false]
     exact q3 j u2 hj ej a m
 ·have hs:=s.keep a ha hn
  rw[same a (by have:=s.len;omega) fun m=>?_]
  ·exact hs
  ·rcases o2 a m with h | h
   ·omega
   ·exact hn h
 ·obtain⟨j,hj,⟨u',e⟩,m⟩:=hh
  by_cases c1:j=x
  ·subst c1
   simp only[Zah,if_true]at m
   rcases b6 a m with h | h
   ·exact .inl (by omega)
   ·exact .inr ⟨j,hx,⟨t,h2⟩,h⟩
  ·simp only[Z8,c1,if_false]at e
   simp only[Zah,c1,if_false]at m
   exact .inr ⟨j,hO j hj,⟨u',e⟩,m⟩
end
section
variable {σ:TL} {R:T→Prop} {N:TL→Prop}
end
end TM
end
section
namespace PM
open PySem PySem.W PySem.Calls PyProof.Rows PyProof PyProof.Rows.LCg PyProof.Rows.LCp
section
variable {prog:Program} {w:World} {Γ:Cx}
theorem Zrn{elt iter:Expr}{x x₂ y:Str}{px px₂ tp py pos spos:Pos}{kt:Nat}{scope:Scope}{cl:List (Str×Addr)}{t t₂ i:Nat}{g:Src}{f:Ex}(hy:Sto prog w Γ y i)(hg:JI2 prog w Γ iter g)(hel:∀C ρ,J prog w (Zbe Γ scope cl C [(x,t),(x₂,t₂)] ρ) elt f)
  (hsw:swapsWith (.ListComp elt [⟨.Tuple [.Name x px,.Name x₂ px₂] kt tp,iter,[],0⟩] scope pos) (some (.Name y py)) spos.line Γ.env=pure true)
  (hclos:closureFor scope Γ.env=pure cl) (hcell:∀y∈scope.names,y.2≠.cell) (hkind:scope.kind=.function) (hnames:∀y∈scope.names,y.2=.local→scope.names.lookup y.1=some .local) (hx:scope.names.lookup x=some .local) (hx₂:scope.names.lookup x₂=some .local) (hxx:x≠x₂) (htt:t≠t₂) (hs:∀x,foldedSetIterable iter Γ.env x=pure x:=by intro _;rfl):
  S1 prog w Γ (.Assign [.Name y py] (.ListComp elt [⟨.Tuple [.Name x px,.Name x₂ px₂] kt tp,iter,[],0⟩] scope pos) spos) (ZK i (ZaJ g (Zcl t t₂) Zao f)):=by
 intro W ρ H fr s Q E r rp hf post
 obtain⟨p,e0,e9⟩:=Zz1.mp hf
 cases e9
 obtain⟨z,e1,hf⟩:=Zz0.mp e0
 obtain⟨q,e2,e3⟩:=Zz1.mp hf
 cases e3
 rw[exec_Assign_Name_used _ _ _ _ hsw]
 refine wpAny_bind (wpAny_standAt (wpAny_bind ?_))
 show wpAny _ Γ.A (do let _ ←comprehension (.ListComp elt [⟨.Tuple [.Name x px,.Name x₂ px₂] kt tp,iter,[],0⟩] scope pos) scope Γ.env _ (newList []) false (eval iter Γ.env) (some (assign (.Name y py) Γ.env))) _ _ s
 refine wpAny_bind (wpAny_mono (wpAny_comprehension_free (use:=some (assign (.Name y py) Γ.env)) (Q:=fun _ s'=>Q .next s') rfl hs hclos hkind hnames ?_) (fun _ s' h'=>wpAny_pure (wpAny_pure h')) fun _ _ e=>e)
 refine Zn3 (RR:=fun acc C=>compPost (model prog w) Γ.A E (some (assign (.Name y py) Γ.env)) (fun _ s'=>Q .next s') acc C) hg hel hcell hkind hx hx₂ hxx htt rp (q:=q) (by rw[e1];exact e2) fun W2 h' tk' C D oC m₂ ys l2 hC hv hl aD aC cd r3=>?_
 have r4:Rep Γ W2 ρ q.2 ((D,lst ys)::(C,oC)::fr) h':=r3.less fun t ht=>by
  rcases Zz7.mp ht with e | ht
  ·exact e▸List.mem_cons_of_mem _ Zz5
  ·rcases Zz7.mp ht with e | ht
   ·exact e▸List.mem_cons_self
   ·exact Zz2 _ (Zz2 _ ht)
 obtain⟨W5,l5,r5,v5⟩:=ZfZ r4 (fun t ht=>by
  rcases Zz7.mp ht with e | ht
  ·rw[e]
   exact cd.symm
  ·exact aD t ht) hv hl
 refine wpAny_assign_Name (hy W5 ρ _ _ _ _ _ _ _ r5 v5 fun h6 t6 r6=>?_)
 refine⟨m₂,hC.ns (r6.frAt (q:=(C,oC)) Zz5),fun h'' sb=>?_⟩
 have r7:Rep Γ W5 (upd ρ i (.ref q.2.length)) (q.2++[q.1]) ([]++fr) h'':=
  Rep.swap (fs:=[(C,oC)]) (fs':=[]) r6 (fun q hq t ht=>by rw[List.mem_singleton.mp hq];exact aC t ht) (fun b o hb e=>sb.extBut b o (fun z=>hb (by simp[z])) e) fun q hq=>nomatch hq
 exact post W5 h'' t6 (l2.trans l5) r7
end
end PM
end
section
namespace PM
open PySem PySem.W PySem.Calls PyProof.Rows PyProof
noncomputable def ZeC(ns:List Int): List Int:=ns.mergeSort fun a b=>decide (a≤b)
theorem Ztn{ns ms:List Int}(h1:ms.Perm ns)(h2:ms.Pairwise (·≤·)): ms=ZeC ns:=by
 refine List.Perm.eq_of_pairwise (le:=fun a b:Int=>a≤b) (fun a b _ _ h h'=>Int.le_antisymm h h') h2 ?_ (h1.trans (List.mergeSort_perm ns _).symm)
 have:=List.pairwise_mergeSort (le:=fun a b:Int=>decide (a≤b)) (fun a b c h h'=>by simp at *;omega) (fun a b=>by simp;omega) ns
 unfold ZeC
 simpa using this
theorem Zss{ns:List Int}: (ZeC ns).length=ns.length:=(List.mergeSort_perm ns _).length_eq
theorem Zmd{W:Wd}: ∀{vs:List V} {xs:List Value} {ks:List Int},VRs W vs xs→Zdk vs=some ks→IntsAre xs ks:=by
 intro vs
 induction vs with
 | nil=>intro xs ks h e;cases h;cases e;exact .nil
 | cons v vs ih=>
  intro xs ks h e
  cases h with
  | cons a b=>
   cases v with
   | int i=>
    obtain⟨js,e1,e2⟩:=Zz1.mp e
    subst e2
    cases a with
    | int _ t=>exact .cons i t (ih b e1)
   | none=>cases e
   | bool=>cases e
   | str=>cases e
   | tup=>cases e
   | ref=>cases e
theorem Zpm{W:Wd}: ∀{xs:List Value} {ks:List Int},IntsAre xs ks→VRs W (ks.map V.int) xs
 | _,_,.nil=>.nil
 | _,_,.cons n t r=>.cons (.int n t) (Zpm r)
noncomputable def Zgj: List V→Hp→Option (V×Hp)
 | [.ref a],H=>H[a]?.bind fun vs=>(Zdk vs).bind fun ns=>if vs.length<64 then some (.ref H.length,H++[(ZeC ns).map V.int])else none
 | _,_=>none
section
variable {prog:Program} {w:World}
theorem Zst: OpN prog w (fun xs=>call (.builtin "sorted") xs) Zgj:=by
 intro Γ W ρ H fr s Q E as xs v H' r hx ho post
 unfold Zgj at ho
 split at ho
 ·obtain⟨vs,e1,ho⟩:=Zz0.mp ho
  obtain⟨ks,e3,ho⟩:=Zz0.mp ho
  split at ho
  ·rename_i h64
   cases ho
   obtain⟨x,ex,rx⟩:=hx.one
   subst ex
   cases rx with
   | @ref _ a ea=>
    obtain⟨hl,ys,k,hg,hv⟩:=r.at e1 ea
    have isl:s.heap.IsList a ys.toArray:=⟨_,hg,rfl,k,rfl⟩
    refine sorted_ints isl (Zmd hv e3) (by rw[hv.length];exact h64) fun out ms a1 a2 a3=>?_
    have em:=Ztn a2 a3
    subst em
    obtain⟨q,hq⟩:=sortedAll_at s.heap ys out
    have hlen:ks.length=vs.length:=by rw[←hv.length];exact(Zmd hv e3).length.symm
    obtain⟨r2,ap⟩:=r.more (h':=sortedAll s.heap ys out) (fs:=[(s.heap.objs.size+1,ZbM out.toList q)]) (fun b o hb=>sortedAll_old hb) (fun u hu=>by
     rw[List.mem_singleton.mp hu]
     refine⟨?_,Nat.le_succ _⟩
     rw[hq])
    obtain⟨W2,l2,r3,v3⟩:=ZfZ r2 (fun t ht=>ap _ Zz5 t ht) (Zpm a1) (by rw[List.length_map,Zss,hlen];exact hl)
    exact post W2 _ s.toks _ l2 r3 v3
  ·cases ho
 ·cases ho
end
end PM
namespace PM
open PySem PySem.W PySem.Calls PyProof.Rows PyProof PySem.SeqAt
open SeqRoads2 MeetsSeq3 MeetsSeq2 MeetsSeq AutoSeq1
theorem ZrL(l:Addr)(its:Array Value)(n:Nat)(dd:Option Addr)(sl:Array (Option Value))(x:Value)(tk:Tok)(e:Value→Bool)(j:Nat)(hj:j<its.size)(h1:1≤j)(small:(j:Int)<2 ^ 63-1)
  (hit:e its[j]=true) (no:∀m (hm:m<its.size),1≤m→m<j→e its[m]=false):
  Meets (Builtin.«list.index» ⟨[.ref l,x,.int 1 tk],[]⟩) fun A R s=>s.heap.get? l=some { cls:=.type "list",dict:=dd,data:=.seq its n,slots:=sl }∧(∀y,y∈its→EqAt A.in1 s y x (e y))∧R (.ok (.ret (.int j s.toks))) { s with toks:=s.toks+1 }:=by
 intro prog w A R s h
 obtain⟨hp,g,d,tk',os⟩:=s
 obtain⟨hq0,he,h⟩:=h
 wp_walk using wpAny_loadPart' hq0
 have b1:((fun i:Int=>if i<0 then max 0 (i+(its.size:Int))else i) ((some (1:Int)).getD 0))=((1:Nat):Int):=by simp
 have b2:((fun i:Int=>if i<0 then max 0 (i+(its.size:Int))else i) ((Option.none:Option Int).getD (2 ^ 63-1)))=2 ^ 63-1:=by simp
 rw[b1,b2]
 refine⟨plainId_quiet plain_index_loop _,codeAny_builtin entry_index_loop ?_⟩
 rw[Around.under_plainId plain_index_loop _];exact index_loopAt l its n dd sl x e (2 ^ 63-1) j hj small hit _ 1 rfl h1 no prog w A R _ ⟨hq0,he,h⟩
section
variable {prog:Program} {w:World} {A:Around} {E:Value→Shared→Prop} {s:Shared}
theorem Zro{l:Addr}{vs:List Value}{ns:List Int}{k:Int}{t t':Tok}{Q:Value→Shared→Prop}(hl:s.heap.IsList l vs.toArray)(hi:IntsAre vs ns)(hn:ns.length≤100000)(hk:k∈ns.drop 1)
  (h:Q (.int ((1+(ns.drop 1).idxOf k:Nat)) s.toks) { s with toks:=s.toks+1 }):wpAny (model prog w) A (call (.builtin "list.index") [.ref l,.int k t,.int 1 t']) Q E s:=by
 obtain⟨⟨c0,dd,da,sl⟩,ho,ec,n,ed⟩:=id hl
 simp only at ec ed
 subst ec ed
 have hlen:=hi.length
 have hj:(ns.drop 1).idxOf k<(ns.drop 1).length:=List.idxOf_lt_length_iff.mpr hk
 have hj':1+(ns.drop 1).idxOf k<ns.length:=by rw[List.length_drop]at hj;omega
 refine call_meets PySem.F.slot_list_index ⟨_,ho,rfl⟩ PySem.F.entry_list_index (PySem.F.args_list_index_3 _ _ _) (ZrL l vs.toArray n dd sl (.int k t) t' (isInt k) (1+(ns.drop 1).idxOf k) (by simpa [hlen]using hj') (by omega) (by omega) ?_ ?_) ⟨ho,fun y hy=>(eq_isInt k t hi y (by simpa using hy)).at _ _,h⟩
 ·show isInt k vs[1+(ns.drop 1).idxOf k]=true
  rw[isInt_at k hi _ (by omega) hj']
  have:=List.getElem_idxOf hj
  rw[List.getElem_drop]at this
  simpa using this
 ·intro m hm h1 h2
  show isInt k vs[m]=false
  rw[isInt_at k hi m (by simpa using hm) (by have:=hm;simp[hlen]at this;omega)]
  have hm':m-1<(ns.drop 1).length:=by rw[List.length_drop];omega
  have:=ne_of_lt_idxOf (k:=k) (ns:=ns.drop 1) (j:=m-1) (by omega) hm'
  rw[List.getElem_drop]at this
  simpa [show 1+(m-1)=m by omega]using this
end
noncomputable def Zib: V→V→V→Hp→Option (V×Hp)
 | .ref a,.int k,.int b,H=>H[a]?.bind fun vs=>(Zdk vs).bind fun ns=>if b=1∧k∈ns.drop 1 then some (.int ((1+(ns.drop 1).idxOf k:Nat):Int),H)else none
 | _,_,_,_=>none
noncomputable def Zgu(f g h:Ex): Ex:=fun ρ H=>(f ρ H).bind fun p=>(g ρ p.2).bind fun q=>(h ρ q.2).bind fun u=>Zib p.1 q.1 u.1 u.2
section
variable {prog:Program} {w:World} {Γ:Cx}
theorem Zrp{a b c:V}{H:Hp}{r:V×Hp}(h:Zib a b c H=some r): ∃i k vs ns,a=.ref i∧b=.int k∧c=.int 1∧H[i]?=some vs∧Zdk vs=some ns∧k∈ns.drop 1∧r=(.int ((1+(ns.drop 1).idxOf k:Nat):Int),H):=by
 unfold Zib at h
 split at h
 ·obtain⟨vs,e1,h⟩:=Zz0.mp h
  obtain⟨ns,e2,h⟩:=Zz0.mp h
  split at h
  ·rename_i q
   cases h
   obtain⟨rfl,q⟩:=q
   exact⟨_,_,vs,ns,rfl,rfl,rfl,e1,e2,q,rfl⟩
  ·cases h
 ·cases h
theorem J.index{o e1 e2:Expr}{apos pos:Pos}{f g k:Ex}(ho:J prog w Γ o f)(h1:J prog w Γ e1 g)(h2:J prog w Γ e2 k)(hbase:attributeBase o "index" Γ.env (eval o Γ.env)=eval o Γ.env:=by rfl)
  (hline:(apos.endLine == pos.line)=true:=by rfl) (htrees:backTo pos (starEach [e1,e2] Γ.env)=[(false,eval e1 Γ.env),(false,eval e2 Γ.env)]:=by rfl) (hstay:∀ρ H p,f ρ H=some p→∀q,g ρ p.2=some q→p.2=q.2:=by intro _ _ _ _ _ h;cases h;rfl) (hstay2:∀ρ H p,g ρ H=some p→∀q,k ρ p.2=some q→p.2=q.2:=by intro _ _ _ _ _ h;cases h;rfl):J prog w Γ (.Call (.Attribute o "index" apos) [e1,e2] [] pos) (Zgu f g k):=by
 intro W ρ H fr s Q E v H' r hx post
 obtain⟨p,x1,hx⟩:=Zz0.mp hx
 obtain⟨q,x2,hx⟩:=Zz0.mp hx
 obtain⟨u,x3,x4⟩:=Zz0.mp hx
 obtain⟨i,kk,vs,ns,ea,eb,ec,hvs,hns,hmem,er⟩:=Zrp x4
 refine wpAny_Call_method2_late hbase hline htrees (ho W ρ H fr s _ E _ _ r x1 fun W1 k1 t1 x l1 r1 y1=>?_)
 rw[ea]at y1
 have s1:=hstay ρ H p x1 q x2
 have s2:=hstay2 ρ p.2 q x2 u x3
 cases y1 with
 | @ref _ a aa=>
 obtain⟨hl,xs,n,hg,hv⟩:=r1.at (by rw[s1,s2];exact hvs) aa
 refine⟨"list","list.index",PySem.F.plainAttrs_list,PySem.F.slot_list_index,PySem.F.type_list_index,(show k1.IsList a xs.toArray from⟨_,hg,rfl,n,rfl⟩).typeIs,fun b eb=>by cases eb;exact⟨_,hg,rfl⟩,?_⟩
 refine Calls.callWith_builtin rfl (Calls.evalArgs_plain (Calls.spliced_cons ?_))
 refine h1 W1 ρ _ fr _ _ E _ _ r1 x2 fun W2 k2 t2 y l2 r2 y2=>Calls.spliced_cons ?_
 refine h2 W2 ρ _ fr _ _ E _ _ r2 x3 fun W3 k3 t3 z l3 r3 z3=>Calls.spliced_nil ?_
 rw[eb]at y2
 rw[ec]at z3
 cases y2 with
 | int _ ty=>
 cases z3 with
 | int _ tz=>
 obtain⟨hl3,xs3,n3,hg3,hv3⟩:=r3.at hvs (l3.at (l2.at aa))
 rw[Zbh]at hl3
 have hI:=Zmd hv3 hns
 refine Zro ⟨_,hg3,rfl,n3,rfl⟩ hI (by rw[←hI.length,hv3.length];omega) hmem ?_
 have:=post W3 k3 (t3+1) (.int ((1+(ns.drop 1).idxOf kk:Nat):Int) t3) ((l1.trans l2).trans l3)
 cases er
 exact this r3 (.int _ _)
end
end PM
end
section
namespace TM
open PySem PM
theorem ZoR{H:Hp}: ∀ks:List Int,RFs H (ks.map V.int) (ks.map T.int) []
 | []=>.nil
 | k::ks=>.cons (.int k) (ZoR ks)
noncomputable def Zme: List T→Option T
 | [.lst ts]=>(Zd1 ts).bind fun ns=>if ts.length<64 then some (.lst ((ZeC ns).map T.int))else none
 | _=>none
theorem Zto: OCn Zgj Zme:=fun H vs ts t F hp r h=>by
 unfold Zme at h
 split at h
 ·obtain⟨v,rfl,r'⟩:=r.one_inv
  cases r' with
  | ref e hs=>
   obtain⟨ks,h1,h⟩:=Zz0.mp h
   split at h
   ·rename_i h64
    cases h
    refine⟨_,[(ZeC ks).map V.int],_,?_,ZeI (ZoR (ZeC ks)),fun a m=>?_,fun _=>?_⟩
    ·simp only[Zgj,e,Option.bind_some,ZhU hs h1]
     rw[if_pos (by rw[hs.length];exact h64)]
    ·rcases Zz7.mp m with rfl | m
     ·exact .inl (Zz10 _)
     ·cases m
    ·simp
   ·cases h
 ·cases h
noncomputable def ZmB(p q r:PE): PE:=fun σ=>(p σ).bind fun t=>(q σ).bind fun k=>(r σ).bind fun b=>match t,k,b with
 | .lst ts,.int k,.int b=>(Zd1 ts).bind fun ns=>if b=1∧k∈ns.drop 1 then some (.int ((1+(ns.drop 1).idxOf k:Nat):Int))else none
 | _,_,_=>none
section
variable {O N M K:List Nat} {u u' u'':Bool}
theorem E.index{e1 e2 e3:Ex}{p1 p2 p3:PE}(x:E O N u e1 p1)(y:E O M u' e2 p2)(z:E O K u'' e3 p3): E O [] true (Zgu e1 e2 e3) (ZmB p1 p2 p3):=fun c ρ σ H Φ t s h=>by
 obtain⟨t1,h1,h⟩:=Zz0.mp h
 obtain⟨t2,h2,h⟩:=Zz0.mp h
 obtain⟨t3,h3,h⟩:=Zz0.mp h
 obtain⟨v1,X,F1,a1,a2,_,_⟩:=x c ρ σ H Φ t1 s h1
 obtain⟨v2,Y,F2,b1,b2,_,_⟩:=y c ρ σ (H++X) Φ t2 (s.ext X) h2
 obtain⟨v3,Z,F3,c1,c2,_,_⟩:=z c ρ σ (H++X++Y) Φ t3 ((s.ext X).ext Y) h3
 have a3:=(a2.ext Y).ext Z
 split at h
 ·obtain⟨ns,e1,h⟩:=Zz0.mp h
  split at h
  ·rename_i hc
   cases h
   cases b2
   cases c2
   cases a3 with
   | ref e hs=>
    refine⟨_,X++Y++Z,[],?_,.int _,by simp,by simp⟩
    have e':=e
    simp only[Zgu,a1,b1,c1,Option.bind_some,Zib,e',ZhU hs e1]
    rw[if_pos hc]
    simp
  ·cases h
 ·cases h
end
section
variable {σ:TL} {Q:T→Prop}
end
end TM
end
section
namespace TM
open PySem PM
theorem Zn6{nx:Nx}{put:V→Lc→Option Lc}{b:Sm}(hp:∀v ρ ρ',put v ρ=some ρ'→ρ' 0=ρ 0)(hb:Keep0 b): ∀n i,Keep0 (Zc3 nx put b n i)
 | 0,_=>fun _ _ _ h=>by cases h
 | n+1,i=>fun ρ H r h=>by
  obtain⟨o,_,h⟩:=Zz0.mp h
  split at h
  ·cases h;rfl
  ·obtain⟨ρ1,e1,h⟩:=Zz0.mp h
   obtain⟨q,e2,h⟩:=Zz0.mp h
   have k:=(hb _ _ _ e2).trans (hp _ _ _ e1)
   split at h
   ·cases h;exact k
   ·exact(Zn6 hp hb n (i+1) _ _ _ h).trans k
theorem Zos{g:Src}{put:V→Lc→Option Lc}{b:Sm}(hp:∀v ρ ρ',put v ρ=some ρ'→ρ' 0=ρ 0)(hb:Keep0 b): Keep0 (ZaL g put b):=fun ρ H r h=>by
 obtain⟨z,_,h⟩:=Zz0.mp h
 exact Zn6 hp hb _ _ _ _ _ h
theorem Zn7{i:Nat}(hi:0≠i): ∀v ρ ρ',PM.put1 i v ρ=some ρ'→ρ' 0=ρ 0:=fun v ρ ρ' h=>by
 cases h
 simp[upd,hi]
end TM
end
section
namespace PM
open PySem PySem.W PySem.Calls PyProof.Rows PyProof PySem.Spec
noncomputable def Zic: Expr→Bool
 | .Starred _ _=>true
 | _=>false
theorem ZmV{e:Expr}{es:List Expr}{env:Env}(h:Zic e=false): starEach (e::es) env=(false,eval e env)::starEach es env:=by
 cases e <;> first | rfl | cases h
noncomputable def Zid: List Expr→Bool
 | []=>true
 | e::es=>!Zic e && Zid es
theorem Zqa{env:Env}: ∀{es:List Expr} (pos:Pos),Zid es=true→(backTo pos (starEach es env)).any (·.1)=false
 | [],pos,_=>by rfl
 | e::es,pos,h=>by
  simp only[Zid,Bool.and_eq_true,Bool.not_eq_true']at h
  have ih:=Zqa (env:=env) (es:=es) pos h.2
  rw[ZmV h.1]
  unfold backTo at ih ⊢
  simp only[List.map_cons,List.any_cons,Bool.false_or]
  exact ih
section
variable {prog:Program} {w:World} {Γ:Cx}
theorem jc{e:Expr}{es:List Expr}{f:Ex}{g:Exs}(h1:J prog w Γ e f)(h2:Js prog w Γ es g)(hs:Zic e=false:=by exact rfl): Js prog w Γ (e::es) (Ze f g):=ZtG h1 h2 (ZmV hs)
end
section
variable {prog:Program} {w:World} {K:Frag} {p:Program} {loose:List Str} {mean:ExcName→Option Value} {mg mb:Str→Option Value}
theorem ZoS{f:Addr}{room:Nat}: Def prog w K p loose mean mg mb f room (fun _ _=>none):=by
 intro Γ dp un clr hd hu W ρ H fr s Q E as xs v H' r hx hF post
 cases hF
end
end PM
end
section
namespace PM
open PySem PySem.W PySem.Calls PyProof.Rows PyProof PySem.Spec
section
variable {prog:Program} {w:World} {Γ:Cx}
theorem ln1{α:Type _}: ∀{xs:List α},xs.length=1→∃x0,xs=[x0]
 | [x0],_=>⟨x0,rfl⟩
theorem ln2{α:Type _}: ∀{xs:List α},xs.length=2→∃x0 x1,xs=[x0,x1]
 | [x0,x1],_=>⟨x0,x1,rfl⟩
theorem ln3{α:Type _}: ∀{xs:List α},xs.length=3→∃x0 x1 x2,xs=[x0,x1,x2]
 | [x0,x1,x2],_=>⟨x0,x1,x2,rfl⟩
theorem ln4{α:Type _}: ∀{xs:List α},xs.length=4→∃x0 x1 x2 x3,xs=[x0,x1,x2,x3]
 | [x0,x1,x2,x3],_=>⟨x0,x1,x2,x3,rfl⟩
theorem ln5{α:Type _}: ∀{xs:List α},xs.length=5→∃x0 x1 x2 x3 x4,xs=[x0,x1,x2,x3,x4]
 | [x0,x1,x2,x3,x4],_=>⟨x0,x1,x2,x3,x4,rfl⟩
theorem ln6{α:Type _}: ∀{xs:List α},xs.length=6→∃x0 x1 x2 x3 x4 x5,xs=[x0,x1,x2,x3,x4,x5]
 | [x0,x1,x2,x3,x4,x5],_=>⟨x0,x1,x2,x3,x4,x5,rfl⟩
theorem ln7{α:Type _}: ∀{xs:List α},xs.length=7→∃x0 x1 x2 x3 x4 x5 x6,xs=[x0,x1,x2,x3,x4,x5,x6]
 | [x0,x1,x2,x3,x4,x5,x6],_=>⟨x0,x1,x2,x3,x4,x5,x6,rfl⟩
theorem jI{k:Int}{n:Nat}{pos:Pos}: J prog w Γ (.Constant (.int k) n pos) (Zk k):=J.int _ _ _
theorem jN{n:Nat}{pos:Pos}: J prog w Γ (.Constant .none n pos) ZZ:=J.none _ _
theorem jB{b:Bool}{n:Nat}{pos:Pos}: J prog w Γ (.Constant (.bool b) n pos) (ZbD b):=J.bool _ _ _
theorem jS{x:Str}{n:Nat}{pos:Pos}: J prog w Γ (.Constant (.str x) n pos) (ZeF x):=J.str _ _ _
theorem cO{elt iter:Expr}{x:Str}{px:Pos}{ifs:List Expr}{scope:Scope}{pos:Pos}{cl:List (Str×Addr)}{t:Nat}{g:Src}{c:Ts}{f:Ex}(hg:JI prog w Γ iter g)(hel:∀C ρ,J prog w (Zbe Γ scope cl C [(x,t)] ρ) elt f)(hif:∀C ρ,JF prog w (Zbe Γ scope cl C [(x,t)] ρ) ifs c)
  (hclos:closureFor scope Γ.env=pure cl:=by with_unfolding_all rfl) (hcell:∀y∈scope.names,y.2≠.cell:=by decide) (hkind:scope.kind=.function:=by exact rfl) (hnames:∀y∈scope.names,y.2=.local→scope.names.lookup y.1=some .local:=by decide) (hx:scope.names.lookup x=some .local:=by exact rfl) (hs:∀x,foldedSetIterable iter Γ.env x=pure x:=by intro _;rfl):
  J prog w Γ (.ListComp elt [⟨.Name x px,iter,ifs,0⟩] scope pos) (ZaJ g (put1 t) c f):=Zu1 hg hel hif hclos hcell hkind hnames hx hs
theorem cT{elt iter:Expr}{x x₂:Str}{px px₂ tp:Pos}{kt:Nat}{scope:Scope}{pos:Pos}{cl:List (Str×Addr)}{t t₂:Nat}{g:Src}{f:Ex}(hg:JI2 prog w Γ iter g)(hel:∀C ρ,J prog w (Zbe Γ scope cl C [(x,t),(x₂,t₂)] ρ) elt f)
  (hclos:closureFor scope Γ.env=pure cl:=by with_unfolding_all rfl) (hcell:∀y∈scope.names,y.2≠.cell:=by decide) (hkind:scope.kind=.function:=by exact rfl) (hnames:∀y∈scope.names,y.2=.local→scope.names.lookup y.1=some .local:=by decide) (hx:scope.names.lookup x=some .local:=by exact rfl) (hx₂:scope.names.lookup x₂=some .local:=by exact rfl) (hxx:x≠x₂:=by decide) (htt:t≠t₂:=by decide) (hs:∀x,foldedSetIterable iter Γ.env x=pure x:=by intro _;rfl):
  J prog w Γ (.ListComp elt [⟨.Tuple [.Name x px,.Name x₂ px₂] kt tp,iter,[],0⟩] scope pos) (ZaJ g (Zcl t t₂) Zao f):=ZtM hg hel hclos hcell hkind hnames hx hx₂ hxx htt hs
theorem sO{elt iter:Expr}{x y:Str}{px py pos spos:Pos}{ifs:List Expr}{scope:Scope}{cl:List (Str×Addr)}{t i:Nat}{g:Src}{c:Ts}{f:Ex}(hy:Sto prog w Γ y i)(hg:JI prog w Γ iter g)(hel:∀C ρ,J prog w (Zbe Γ scope cl C [(x,t)] ρ) elt f)(hif:∀C ρ,JF prog w (Zbe Γ scope cl C [(x,t)] ρ) ifs c)
  (hsw:swapsWith (.ListComp elt [⟨.Name x px,iter,ifs,0⟩] scope pos) (some (.Name y py)) spos.line Γ.env=pure true:=by rfl)
  (hclos:closureFor scope Γ.env=pure cl:=by with_unfolding_all rfl) (hcell:∀y∈scope.names,y.2≠.cell:=by decide) (hkind:scope.kind=.function:=by exact rfl) (hnames:∀y∈scope.names,y.2=.local→scope.names.lookup y.1=some .local:=by decide) (hx:scope.names.lookup x=some .local:=by exact rfl) (hs:∀x,foldedSetIterable iter Γ.env x=pure x:=by intro _;rfl):
  S1 prog w Γ (.Assign [.Name y py] (.ListComp elt [⟨.Name x px,iter,ifs,0⟩] scope pos) spos) (ZK i (ZaJ g (put1 t) c f)):=ZrI hy hg hel hif hsw hclos hcell hkind hnames hx hs
theorem sT{elt iter:Expr}{x x₂ y:Str}{px px₂ tp py pos spos:Pos}{kt:Nat}{scope:Scope}{cl:List (Str×Addr)}{t t₂ i:Nat}{g:Src}{f:Ex}(hy:Sto prog w Γ y i)(hg:JI2 prog w Γ iter g)(hel:∀C ρ,J prog w (Zbe Γ scope cl C [(x,t),(x₂,t₂)] ρ) elt f)
  (hsw:swapsWith (.ListComp elt [⟨.Tuple [.Name x px,.Name x₂ px₂] kt tp,iter,[],0⟩] scope pos) (some (.Name y py)) spos.line Γ.env=pure true:=by rfl)
  (hclos:closureFor scope Γ.env=pure cl:=by with_unfolding_all rfl) (hcell:∀y∈scope.names,y.2≠.cell:=by decide) (hkind:scope.kind=.function:=by exact rfl) (hnames:∀y∈scope.names,y.2=.local→scope.names.lookup y.1=some .local:=by decide) (hx:scope.names.lookup x=some .local:=by exact rfl) (hx₂:scope.names.lookup x₂=some .local:=by exact rfl) (hxx:x≠x₂:=by decide) (htt:t≠t₂:=by decide) (hs:∀x,foldedSetIterable iter Γ.env x=pure x:=by intro _;rfl):
  S1 prog w Γ (.Assign [.Name y py] (.ListComp elt [⟨.Tuple [.Name x px,.Name x₂ px₂] kt tp,iter,[],0⟩] scope pos) spos) (ZK i (ZaJ g (Zcl t t₂) Zao f)):=Zrn hy hg hel hsw hclos hcell hkind hnames hx hx₂ hxx htt hs
end
section
variable {prog:Program} {w:World} {dp un:Nat} {gd:Option (List Code)} {cn:Str} {cs:Scope} {L a:Addr} {ccd:Value} {cl:List (Str×Addr)} {outer:List Env} {h₀:Heap} {hu:un+200<cLine} {names:List Str}
theorem vL{x:Str}{i:Nat}{pos:Pos}(hi:names[i]?=some x:=by rfl)(hx:cs.names.lookup x=some .local:=by exact rfl)(hk:cs.kind=.function:=by exact rfl)(hd:(x == ("__debug__":Str))=false:=by exact rfl): J prog w (ZbE dp un gd cn cs L a ccd cl outer h₀ hu names) (.Name x pos) (Zb i):=Zio (ZuZ hi hx hk hd)
theorem vC{x:Str}{i:Nat}{pos:Pos}(hi:names[i]?=some x:=by rfl)(hx:cs.names.lookup x=some .cell:=by exact rfl)(hk:cs.kind=.function:=by exact rfl)(hd:(x == ("__debug__":Str))=false:=by exact rfl): J prog w (ZbE dp un gd cn cs L a ccd cl outer h₀ hu names) (.Name x pos) (Zb i):=Zio (Zu0 hi hx hk hd)
theorem sL{x:Str}{i:Nat}(nd:names.Nodup:=by decide)(hi:names[i]?=some x:=by rfl)(hx:cs.names.lookup x=some .local:=by exact rfl)(hk:cs.kind=.function:=by exact rfl): Sto prog w (ZbE dp un gd cn cs L a ccd cl outer h₀ hu names) x i:=ZtJ nd hi hx hk
theorem sC{x:Str}{i:Nat}(nd:names.Nodup:=by decide)(hi:names[i]?=some x:=by rfl)(hx:cs.names.lookup x=some .cell:=by exact rfl)(hk:cs.kind=.function:=by exact rfl)(hcl:(cl.lookup x).isSome=true:=by exact rfl): Sto prog w (ZbE dp un gd cn cs L a ccd cl outer h₀ hu names) x i:=ZtK nd hi hx hk hcl
end
section
variable {prog:Program} {w:World} {K:Frag} {p:Program} {loose:List Str} {mean:ExcName→Option Value} {mg mb:Str→Option Value} {Γ:Cx} {dp un:Nat}
theorem nB{x:Str}{v:Value}(clr:Clr K p loose mean mg mb Γ dp un)(e:nsIn K mainGlobals x=some Option.none:=by k_is)(hv:bootBuiltins x=some v:=by boot_by_name)(hn:x≠"__name__":=by decide)(hg:Γ.env.globals=mainGlobals:=by exact rfl)(hb:Γ.env.builtins=builtinsNs:=by exact rfl)(hk:Γ.env.scope.kind=.function:=by exact rfl)(hx:Γ.env.kindOf x=some .globalImplicit:=by exact rfl)(hd:(x == ("__debug__":Str))=false:=by exact rfl): Nm prog w Γ x v:=Zs0 clr e hv hn hg hb hk hx hd
theorem cF{x:Str}{np pos:Pos}{f:Addr}{room:Nat}{e:Expr}{es:List Expr}{g:Exs}{o:List V→Hp→Option (V×Hp)}(clr:Clr K p loose mean mg mb Γ dp un)(D:Def prog w K p loose mean mg mb f room o)(h:Js prog w Γ (e::es) g)
  (en:nsIn K mainGlobals x=some (some (.ref f)):=by k_is) (hg:Γ.env.globals=mainGlobals:=by exact rfl) (hk:Γ.env.scope.kind=.function:=by exact rfl) (hx:Γ.env.kindOf x=some .globalImplicit:=by exact rfl) (hd0:(x == ("__debug__":Str))=false:=by exact rfl)
  (hkeep:keepIn K (.ref f)=true:=by k_is) (hd:dp+room<recursionLimit:=by omega) (hu:un+10*room+300<cLine:=by omega)
  (he:Zic e=false:=by exact rfl) (hp:Zid es=true:=by exact rfl):J prog w Γ (.Call (.Name x np) (e::es) [] pos) (Zr o g):=ZtN clr (Zu5 clr en hg hk hx hd0) hkeep D hd hu h (ZmV he) (fun pos=>Zqa pos hp)
theorem Dof{name qual:Str}{params:Arguments}{body:List Stmt}{scope:Scope}{dV kV doc pm cdv ct oc:Value}{an od:Option Addr}{osl:Array (Option Value)}{f:Addr}{names:List Str}{n room:Nat}{g:Sm}
  (hbody:∀(dp un:Nat) (gd:Option (List Code)) (L:Addr) (outer:List Env) (h₀:Heap) (hu:un+200<cLine),Clr K p loose mean mg mb (ZbE dp un gd qual scope L f cdv (cellsFrom (L+1) scope.names []) outer h₀ hu names) dp un→dp+room<recursionLimit→un+10*room+300<cLine →
   Ss prog w (ZbE dp un gd qual scope L f cdv (cellsFrom (L+1) scope.names []) outer h₀ hu names) body g)
  (ho:K.lookup f=some ⟨oc,od,.func (fnOf name qual params body scope dV kV doc pm an cdv ct),osl⟩:=by k_is) (hcd:codeIn K cdv qual=true:=by k_is) (nd:names.Nodup:=by decide) (hn:n≤names.length:=by decide)
  (hbind:∀s xs,xs.length=n→BindsTo s (fnOf name qual params body scope dV kV doc pm an cdv ct) ⟨xs,[]⟩ ((names.take n).zip xs):=by
   intro s xs hx
   first
   | (obtain⟨x0,rfl⟩:=ln1 hx;exact BindsTo.of_eq rfl)
   | (obtain⟨x0,x1,rfl⟩:=ln2 hx;exact BindsTo.of_eq rfl)
   | (obtain⟨x0,x1,x2,rfl⟩:=ln3 hx;exact BindsTo.of_eq rfl)
   | (obtain⟨x0,x1,x2,x3,rfl⟩:=ln4 hx;exact BindsTo.of_eq rfl)
   | (obtain⟨x0,x1,x2,x3,x4,rfl⟩:=ln5 hx;exact BindsTo.of_eq rfl)
   | (obtain⟨x0,x1,x2,x3,x4,x5,rfl⟩:=ln6 hx;exact BindsTo.of_eq rfl)
   | (obtain⟨x0,x1,x2,x3,x4,x5,x6,rfl⟩:=ln7 hx;exact BindsTo.of_eq rfl)) (hkinds:∀x∈names.take n,scope.names.lookup x=some .local∨scope.names.lookup x=some .cell:=by decide) (hone:((cellsFrom 0 scope.names []).map (·.1)).Nodup:=by decide +kernel)
  (hco:scope.isCoroutine=false:=by exact rfl) (hgen:scope.isGenerator=false:=by exact rfl) (hk:scope.kind=.function:=by exact rfl):
  Def prog w K p loose mean mg mb f (room+1) (Z5 n g):=Zmu ho hcd nd hn hbind hkinds hone hco hgen hk hbody
end
section
variable {prog:Program} {w:World} {Γ:Cx} {scope:Scope} {cl:List (Str×Addr)} {C:Addr} {ts:List (Str×Nat)} {ρ0:Lc}
theorem vO{x:Str}{t:Nat}{pos:Pos}(hm:(x,t)∈ts:=by first | exact Zz5 | exact Zz2 _ Zz5)(hk:scope.kind=.function:=by exact rfl)(hl:(compEnvC scope cl C Γ.env).kindOf x=some .local:=by exact rfl)(hd:(x == ("__debug__":Str))=false:=by exact rfl): J prog w (Zbe Γ scope cl C ts ρ0) (.Name x pos) (Zb t):=Zio (ZtP hm hk hl hd)
end
section
variable {prog:Program} {w:World} {dp un:Nat} {gd:Option (List Code)} {cn:Str} {cs:Scope} {L a:Addr} {ccd:Value} {clf:List (Str×Addr)} {outer:List Env} {h₀:Heap} {hu:un+200<cLine} {names:List Str} {scope:Scope} {cl:List (Str×Addr)} {C:Addr} {ts:List (Str×Nat)} {ρ0:Lc}
theorem vD{x:Str}{i:Nat}{pos:Pos}(hi:names[i]?=some x:=by rfl)(hx:cs.names.lookup x=some .cell:=by exact rfl)(hne:∀p∈ts,p.2≠i:=by decide)(hcl:cl.lookup x=clf.lookup x:=by exact rfl)(hk:scope.kind=.function:=by exact rfl)(hl:(compEnvC scope cl C (envX cn cs L a ccd clf)).kindOf x=some .cell:=by exact rfl)(hd:(x == ("__debug__":Str))=false:=by exact rfl):
  J prog w (Zbe (ZbE dp un gd cn cs L a ccd clf outer h₀ hu names) scope cl C ts ρ0) (.Name x pos) (Zb i):=Zio (ZtQ hi hx hne hcl hk hl hd)
end
end PM
end
noncomputable section
open PySem PM TM
namespace L
variable {H:Hp} {a:V} {t:T} {F:List Nat} {ρ:Lc} {σ:TL}
def ZjV: Sm:=Zt (ZK 2 (Zg Zaf (Zg ZaP (Zg ZaP (Zb 1) (Zb 1)) (Zk 7919)) (Zk 11))) (Zt (ZT (ZG (Zg oGt (Zr ZaH (Ze (Zb 0) Zn)) (Zk 0))) (ZK 2 (Zg Zaf (Zb 2) (Zg Zu (Zb 0) (Zg oMod (Zb 1) (Zr ZaH (Ze (Zb 0) Zn)))))) ZY) (ZD (Zb 2)))
def Zg7:=Z5 2 ZjV
def ZjW: PS:=(Zs (ZM 2 (Zh Zae (Zh ZaE (Zh ZaE (Za 1) (Za 1)) (Zj 7919)) (Zj 11))) (Zs (ZU (ZF (Zh qGt (Zq Zax (Zd (Za 0) Zm)) (Zj 0))) (ZM 2 (Zh Zae (Za 2) (Zh Zw (Za 0) (Zh ZaQ (Za 1) (Zq Zax (Zd (Za 0) Zm)))))) ZX) (ZE (Za 2))))
def ZfJ:=Z7 2 ZjW
theorem ZnM: SimF false Zg7 ZfJ:=Zac (show S [] [] [] false ZjV ZjW from(Zx (ZV (O':=[]) (Zaa Zaj (Zaa Za4 (Zaa Za4 (Zc 1) (Zc 1)) (Zl _)) (Zl _))) (Zx (Z3 (ZL (ZC ZeH (Zar ZaX (Zf (Zc 0) Zo)) (Zl _))) (ZV (O':=[]) (Zaa Zaj (Zc 2) (ZB ZA (Zc 0) (ZC ZaW (Zc 1) (Zar ZaX (Zf (Zc 0) Zo)))))) Z6) (ZP (Zc 2)))))
def Zky: Sm:=ZD (Zg oMod (Zg oMod (Zg ZaP (Zr Zg7 (Ze (Zb 0) (Ze (Zb 1) Zn))) (Zk 48271)) (Zk 2147483647)) (Zb 2))
def Zby:=Z5 3 Zky
def Zkz: PS:=(ZE (Zh ZaQ (Zh ZaQ (Zh ZaE (Zq ZfJ (Zd (Za 0) (Zd (Za 1) Zm))) (Zj 48271)) (Zj 2147483647)) (Za 2)))
def Zbf:=Z7 3 Zkz
theorem ZbI: SimF false Zby Zbf:=Zac (show S [] [] [] false Zky Zkz from(ZP (ZC ZaW (ZC ZaW (Zaa Za4 (ZI ZnM (Zf (Zc 0) (Zf (Zc 1) Zo))) (Zl _)) (Zl _)) (Zc 2))))
def Zjy: Sm:=Zt (ZK 2 (Zr Zg7 (Ze (Zb 0) (Ze (Zb 1) Zn)))) (Zt (ZK 3 (Zg Zu (ZbZ (Ze (Zk 3) (Ze (Zk 9) (Ze (Zg oPow (Zk 10) (Zk 9)) (Ze (Zg oPow (Zk 10) (Zk 40)) Zn))))) (Zg oMod (Zg oMod (Zg ZaP (Zb 2) (Zk 69621)) (Zk 2147483629)) (Zk 4)))) (ZD (Zg Za9 (Zg oMod (Zg ZaP (Zb 2) (Zg oPow (Zk 48271) (Zk 9))) (Zg Zaf (Zg ZaP (Zk 2) (Zb 3)) (Zk 1))) (Zb 3))))
def ZdR:=Z5 2 Zjy
def Zjz: PS:=(Zs (ZM 2 (Zq ZfJ (Zd (Za 0) (Zd (Za 1) Zm)))) (Zs (ZM 3 (Zh Zw (ZbS (Zd (Zj 3) (Zd (Zj 9) (Zd (Zh Zc7 (Zj 10) (Zj 9)) (Zd (Zh Zc7 (Zj 10) (Zj 40)) Zm))))) (Zh ZaQ (Zh ZaQ (Zh ZaE (Za 2) (Zj 69621)) (Zj 2147483629)) (Zj 4)))) (ZE (Zh Za6 (Zh ZaQ (Zh ZaE (Za 2) (Zh Zc7 (Zj 48271) (Zj 9))) (Zh Zae (Zh ZaE (Zj 2) (Za 3)) (Zj 1))) (Za 3)))))
def Zdt:=Z7 2 Zjz
theorem ZeO: SimF false ZdR Zdt:=Zac (show S [] [] [] false Zjy Zjz from(Zx (ZV (O':=[]) (ZI ZnM (Zf (Zc 0) (Zf (Zc 1) Zo)))) (Zx (ZV (O':=[]) (ZB ZA (E.list (Zf (Zl _) (Zf (Zl _) (Zf (ZC ZmS (Zl _) (Zl _)) (Zf (ZC ZmS (Zl _) (Zl _)) Zo))))) (ZC ZaW (ZC ZaW (Zaa Za4 (Zc 2) (Zl _)) (Zl _)) (Zl _)))) (ZP (ZC Zbk (ZC ZaW (Zaa Za4 (Zc 2) (ZC ZmS (Zl _) (Zl _))) (Zaa Zaj (Zaa Za4 (Zl _) (Zc 3)) (Zl _))) (Zc 3))))))
def ZjX: Sm:=Zt (ZK 2 (Zr Zby (Ze (Zb 0) (Ze (Zb 1) (Ze (Zk 42) Zn))))) (Zt (ZT (ZG (Zg oLt (Zg oMod (Zb 2) (Zk 6)) (Zk 2))) (ZD (ZZ)) ZY) (Zt (ZT (ZG (Zg oLt (Zg oMod (Zb 2) (Zk 6)) (Zk 4))) (ZD (Zk 0)) ZY) (Zt (ZT (ZG (Zg oEq (Zg oMod (Zb 2) (Zk 6)) (Zk 4))) (ZD (Zg oDiv (Zb 2) (Zk 6))) ZY) (ZD (Zr ZcR (Ze (Zr ZdR (Ze (Zb 0) (Ze (Zb 1) Zn))) Zn))))))
def ZjY:=Z5 2 ZjX
def ZjZ: PS:=(Zs (ZM 2 (Zq Zbf (Zd (Za 0) (Zd (Za 1) (Zd (Zj 42) Zm))))) (Zs (ZU (ZF (Zh qLt (Zh ZaQ (Za 2) (Zj 6)) (Zj 2))) (ZE (Z0)) ZX) (Zs (ZU (ZF (Zh qLt (Zh ZaQ (Za 2) (Zj 6)) (Zj 4))) (ZE (Zj 0)) ZX) (Zs (ZU (ZF (Zh qEq (Zh ZaQ (Za 2) (Zj 6)) (Zj 4))) (ZE (Zh Zcy (Za 2) (Zj 6))) ZX) (ZE (Zq ZcS (Zd (Zq Zdt (Zd (Za 0) (Zd (Za 1) Zm))) Zm)))))))
def Zg8:=Z7 2 ZjZ
theorem Zrq: SimF false ZjY Zg8:=Zac (show S [] [] [] false ZjX ZjZ from(Zx (ZV (O':=[]) (ZI ZbI (Zf (Zc 0) (Zf (Zc 1) (Zf (Zl _) Zo))))) (Zx (Z3 (ZL (ZC Zcs (ZC ZaW (Zc 2) (Zl _)) (Zl _))) (ZP (Z9)) Z6) (Zx (Z3 (ZL (ZC Zcs (ZC ZaW (Zc 2) (Zl _)) (Zl _))) (ZP (Zl _)) Z6) (Zx (Z3 (ZL (ZC Zav (ZC ZaW (Zc 2) (Zl _)) (Zl _))) (ZP (ZC Zdn (Zc 2) (Zl _))) Z6) (ZP (Zar ZdK (Zf (ZI ZeO (Zf (Zc 0) (Zf (Zc 1) Zo))) Zo))))))))
def Zjc: Sm:=Zt (ZT (ZG (Zg oEq (Zb 0) (Zk 0))) (ZD (ZaD (Ze (Zk 0) (Ze (Zb 1) Zn)))) ZY) (ZD (ZaD (Ze (Zb 0) (Ze (Zg oMod (Zb 1) (Zb 0)) Zn))))
def Zdr:=Z5 2 Zjc
def Zjd: PS:=(Zs (ZU (ZF (Zh qEq (Za 0) (Zj 0))) (ZE (ZaF (Zd (Zj 0) (Zd (Za 1) Zm)))) ZX) (ZE (ZaF (Zd (Za 0) (Zd (Zh ZaQ (Za 1) (Za 0)) Zm)))))
def Zda:=Z7 2 Zjd
theorem Zec: SimF false Zdr Zda:=Zac (show S [] [] [] false Zjc Zjd from(Zx (Z3 (ZL (ZC Zav (Zc 0) (Zl _))) (ZP (E.tup (Zf (Zl _) (Zf (Zc 1) Zo)))) Z6) (ZP (E.tup (Zf (Zc 0) (Zf (ZC ZaW (Zc 1) (Zc 0)) Zo))))))
def ZkA: Sm:=Zt (ZK 3 (Zr Zby (Ze (Zb 0) (Ze (Zb 1) (Ze (Zk 60) Zn))))) (Zt (ZT (ZG (Zg oLt (Zg oMod (Zb 3) (Zk 5)) (Zk 2))) (ZD (ZaD (Ze (Zk 1) (Ze (Zk 0) Zn)))) ZY) (Zt (ZT (ZG (Zg oEq (Zg oMod (Zb 3) (Zk 5)) (Zk 2))) (ZD (ZaD (Ze (Zk 0) (Ze (Zb 2) Zn)))) ZY) (Zt (ZT (ZG (Zg oEq (Zg oMod (Zb 3) (Zk 5)) (Zk 3))) (ZD (Zr Zdr (Ze (Zg Zaf (Zg oDiv (Zb 3) (Zk 5)) (Zk 1)) (Ze (Zb 2) Zn)))) ZY) (ZD (Zr Zdr (Ze (Zr ZcR (Ze (Zr ZdR (Ze (Zb 0) (Ze (Zb 1) Zn))) Zn)) (Ze (Zb 2) Zn)))))))
def ZkB:=Z5 3 ZkA
def ZkC: PS:=(Zs (ZM 3 (Zq Zbf (Zd (Za 0) (Zd (Za 1) (Zd (Zj 60) Zm))))) (Zs (ZU (ZF (Zh qLt (Zh ZaQ (Za 3) (Zj 5)) (Zj 2))) (ZE (ZaF (Zd (Zj 1) (Zd (Zj 0) Zm)))) ZX) (Zs (ZU (ZF (Zh qEq (Zh ZaQ (Za 3) (Zj 5)) (Zj 2))) (ZE (ZaF (Zd (Zj 0) (Zd (Za 2) Zm)))) ZX) (Zs (ZU (ZF (Zh qEq (Zh ZaQ (Za 3) (Zj 5)) (Zj 3))) (ZE (Zq Zda (Zd (Zh Zae (Zh Zcy (Za 3) (Zj 5)) (Zj 1)) (Zd (Za 2) Zm)))) ZX) (ZE (Zq Zda (Zd (Zq ZcS (Zd (Zq Zdt (Zd (Za 0) (Zd (Za 1) Zm))) Zm)) (Zd (Za 2) Zm))))))))
def Zhk:=Z7 3 ZkC
theorem ZrM: SimF false ZkB Zhk:=Zac (show S [] [] [] false ZkA ZkC from(Zx (ZV (O':=[]) (ZI ZbI (Zf (Zc 0) (Zf (Zc 1) (Zf (Zl _) Zo))))) (Zx (Z3 (ZL (ZC Zcs (ZC ZaW (Zc 3) (Zl _)) (Zl _))) (ZP (E.tup (Zf (Zl _) (Zf (Zl _) Zo)))) Z6) (Zx (Z3 (ZL (ZC Zav (ZC ZaW (Zc 3) (Zl _)) (Zl _))) (ZP (E.tup (Zf (Zl _) (Zf (Zc 2) Zo)))) Z6) (Zx (Z3 (ZL (ZC Zav (ZC ZaW (Zc 3) (Zl _)) (Zl _))) (ZP (ZI Zec (Zf (Zaa Zaj (ZC Zdn (Zc 3) (Zl _)) (Zl _)) (Zf (Zc 2) Zo)))) Z6) (ZP (ZI Zec (Zf (Zar ZdK (Zf (ZI ZeO (Zf (Zc 0) (Zf (Zc 1) Zo))) Zo)) (Zf (Zc 2) Zo)))))))))
def ZkD: Sm:=Zt (ZK 3 (Zg Zaf (ZbZ (Ze (Zk 0) Zn)) (Zb 2))) (Zt (ZK 4 (Zr ZaH (Ze (Zb 3) Zn))) (Zt (ZK 5 (ZbZ Zn)) (Zt (ZaL (ZaO (Ze (Zb 4) Zn)) (put1 6) (Zt (ZK 7 (ZbZ Zn)) (Zt (ZaL (ZaO (Ze (Zb 4) Zn)) (put1 8) (Zt (ZK 9 (Zr ZjY (Ze (Zb 0) (Ze (Zg Zaf (Zg Zaf (Zb 1) (Zg ZaP (Zb 6) (Zb 4))) (Zb 8)) Zn)))) (Zt (ZT (ZG (Zg ZbX (Zb 9) (ZZ))) (ZK 9 (Zg Zaf (Zg Za9 (Zg Zu (Zb 3) (Zb 6)) (Zg Zu (Zb 3) (Zb 8))) (Zb 9))) ZY) (Zck (Zep (Zb 7) (Zb 9)))))) (Zt (ZbB (Zk 0) (Zb 7) (Zb 6)) (Zck (Zep (Zb 5) (Zb 7))))))) (ZD (ZaD (Ze (Zb 5) (Ze (ZaJ (ZaO (Ze (Zg Za9 (Zb 4) (Zk 1)) Zn)) (put1 100) Zao (Zr ZkB (Ze (Zb 0) (Ze (Zg Zaf (Zg Zaf (Zb 1) (Zg ZaP (Zb 4) (Zb 4))) (Zb 100)) (Ze (Zg Zu (Zb 2) (Zb 100)) Zn))))) Zn)))))))
def ZkE:=Z5 3 ZkD
def ZkF: PS:=(Zs (ZM 3 (Zh Zae (ZbS (Zd (Zj 0) Zm)) (Za 2))) (Zs (ZM 4 (Zq Zax (Zd (Za 3) Zm))) (Zs (ZM 5 (ZbS Zm)) (Zs (ZaN (ZaB (Zd (Za 4) Zm)) (Zag 6) (Zs (ZM 7 (ZbS Zm)) (Zs (ZaN (ZaB (Zd (Za 4) Zm)) (Zag 8) (Zs (ZM 9 (Zq Zg8 (Zd (Za 0) (Zd (Zh Zae (Zh Zae (Za 1) (Zh ZaE (Za 6) (Za 4))) (Za 8)) Zm)))) (Zs (ZU (ZF (Zh Zbr (Za 9) (Z0))) (ZM 9 (Zh Zae (Zh Za6 (Zh Zw (Za 3) (Za 6)) (Zh Zw (Za 3) (Za 8))) (Za 9))) ZX) (ZcI 7 [] Zas (ZbL (Za 9)))))) (Zs (ZaY 7 [] (Zj 0) Zas (Za 6)) (ZcI 5 [7] Zas (Za 7)))))) (ZE (ZaF (Zd (Za 5) (Zd (ZaC (ZaB (Zd (Zh Za6 (Za 4) (Zj 1)) Zm)) (Zag 100) Zak (ZbL (Zq Zhk (Zd (Za 0) (Zd (Zh Zae (Zh Zae (Za 1) (Zh ZaE (Za 4) (Za 4))) (Za 100)) (Zd (Zh Zw (Za 2) (Za 100)) Zm)))))) Zm))))))))
def Zhl:=Z7 3 ZkF
theorem ZrN: SimF true ZkE Zhl:=Zac (show S [] [5] [] true ZkD ZkF from(Zx (ZV (O':=[]) (Zaa Zaj (E.list (Zf (Zl _) Zo)) (Zc 2))) (Zx (ZV (O':=[]) (Zar ZaX (Zf (Zc 3) Zo))) (Zx (Zcf (O':=[5]) (E.list Zo)) (Zx (Zbl (Gs.range (Zf (Zc 4) Zo)) PutOk.one (by decide) (by decide) (Zx (Zcf (O':=[5,7]) (Za8 (O':=[]) (E.list Zo))) (Zx (Zbl (Gs.range (Zf (Zc 4) Zo)) PutOk.one (by decide) (by decide) (Zx (ZV (O':=[5,7]) (ZI Zrq (Zf (Zc 0) (Zf (Zaa Zaj (Zaa Zaj (Zc 1) (Zaa Za4 (Zc 6) (Zc 4))) (Zc 8)) Zo)))) (Zx (Z3 (ZL (ZC Zcd (Zc 9) (Z9))) (ZV (O':=[5,7]) (Zaa Zaj (ZC Zbk (ZB ZA (Zc 3) (Zc 6)) (ZB ZA (Zc 3) (Zc 8))) (Zc 9))) Z6) (Ziq (O':=[5,7]) (by decide) ZbA (Za8 (O':=[5]) (E.flat (Zc 9))) (by decide) (by decide))))) (Zx (S.put (O':=[5,7]) (by decide) (Za8 (O':=[5]) (Zl _)) ZbA (Zc 6) (by decide) (by decide)) (Ziq (O':=[5]) (by decide) ZbA (Za8 (O':=[7]) (E.own (by decide))) (by decide) (by decide)))))) (ZaU (E.tup (Zga (E.own (by decide)) (Zga (Zdf (Gs.range (Zf (ZC Zbk (Zc 4) (Zl _)) Zo)) PutOk.one (by decide) ZaI (Za8 (O':=[]) (E.flat (ZI ZrM (Zf (Zc 0) (Zf (Zaa Zaj (Zaa Zaj (Zc 1) (Zaa Za4 (Zc 4) (Zc 4))) (Zc 100)) (Zf (ZB ZA (Zc 2) (Zc 100)) Zo))))))) Zo (by decide) (by decide)) (by decide) (by decide)))))))))
def ZkG: Sm:=Zt (ZT (ZG (Zg oIs (Zb 0) (ZZ))) (ZD (ZZ)) ZY) (ZD (ZaD (Ze (ZaJ (Zb9 (Zg Zu (Zb 0) (Zk 0))) (put1 100) Zao (Zr Zcp (Ze (Zb 100) Zn))) (Ze (Zr Zcp (Ze (Zg Zu (Zb 0) (Zk 1)) Zn)) Zn))))
def Zhm:=Z5 1 ZkG
def Zhn: PS:=(Zs (ZU (ZF (Zh qIs (Za 0) (Z0))) (ZE (Z0)) ZX) (ZE (ZaF (Zd (ZaC (ZbF (Zh Zw (Za 0) (Zj 0))) (Zag 100) Zak (Zq Zce (Zd (Za 100) Zm))) (Zd (Zq Zce (Zd (Zh Zw (Za 0) (Zj 1)) Zm)) Zm)))))
def ZcV:=Z7 1 Zhn
theorem Zn8: SimF false Zhm ZcV:=Zac (show S [] [] [] false ZkG Zhn from(Zx (Z3 (ZL (ZC Zbx (Zc 0) (Z9))) (ZP (Z9)) Z6) (ZP (E.tup (Zf (ZcM (Gs.seq (ZB ZA (Zc 0) (Zl _))) PutOk.one (by decide) ZaI (ZhS Zde (Zf (Zc 100) Zo))) (Zf (ZhS Zde (Zf (ZB ZA (Zc 0) (Zl _)) Zo)) Zo))))))
def Zj0: Sm:=ZD (eOr (Zg oIs (Zb 1) (ZZ)) (Zc6 (Zg ZbX (Zb 0) (ZZ)) (Zg oLe (Zb 0) (Zb 1))))
def Zg9:=Z5 2 Zj0
def Zj1: PS:=(ZE ((pOr (Zh qIs (Za 1) (Z0)) ((Zdo (Zh Zbr (Za 0) (Z0)) (Zh qLe (Za 0) (Za 1)))))))
def ZfK:=Z7 2 Zj1
theorem ZnN: SimF false Zg9 ZfK:=Zac (show S [] [] [] false Zj0 Zj1 from(ZP ((Zwp (E.sh (ZC Zbx (Zc 1) (Z9))) (E.sh ((Zfr (E.sh (ZC Zcd (Zc 0) (Z9))) (E.sh (ZC ZmZ (Zc 0) (Zc 1))))))))))
def ZkH: Sm:=Zt (ZT (ZG (Zg oEq (Zg Zu (Zb 0) (Zk 0)) (Zk 0))) (ZD (Zg oEq (Zb 1) (Zg Zu (Zb 0) (Zk 1)))) ZY) (ZD (Zg oEq (Zg oMod (Zb 1) (Zg Zu (Zb 0) (Zk 0))) (Zg Zu (Zb 0) (Zk 1))))
def Zei:=Z5 2 ZkH
def ZkI: PS:=(Zs (ZU (ZF (Zh qEq (Zh Zw (Za 0) (Zj 0)) (Zj 0))) (ZE (Zh qEq (Za 1) (Zh Zw (Za 0) (Zj 1)))) ZX) (ZE (Zh qEq (Zh ZaQ (Za 1) (Zh Zw (Za 0) (Zj 0))) (Zh Zw (Za 0) (Zj 1)))))
def ZdT:=Z7 2 ZkI
theorem ZfQ: SimF false Zei ZdT:=Zac (show S [] [] [] false ZkH ZkI from(Zx (Z3 (ZL (ZC Zav (ZB ZA (Zc 0) (Zl _)) (Zl _))) (ZP (ZC Zav (Zc 1) (ZB ZA (Zc 0) (Zl _)))) Z6) (ZP (ZC Zav (ZC ZaW (Zc 1) (ZB ZA (Zc 0) (Zl _))) (ZB ZA (Zc 0) (Zl _))))))
def Zje: Sm:=Zt (ZT (ZG (Zg oEq (Zg Zu (Zb 1) (Zk 0)) (Zk 0))) (ZD (Zg oEq (Zb 0) (Zb 1))) ZY) (ZD (Zc6 (Zg oEq (Zg oMod (Zg Zu (Zb 0) (Zk 0)) (Zg Zu (Zb 1) (Zk 0))) (Zk 0)) (Zr Zei (Ze (Zb 1) (Ze (Zg Zu (Zb 0) (Zk 1)) Zn)))))
def Zjf:=Z5 2 Zje
def Zjg: PS:=(Zs (ZU (ZF (Zh qEq (Zh Zw (Za 1) (Zj 0)) (Zj 0))) (ZE (Zh qEq (Za 0) (Za 1))) ZX) (ZE ((Zdo (Zh qEq (Zh ZaQ (Zh Zw (Za 0) (Zj 0)) (Zh Zw (Za 1) (Zj 0))) (Zj 0)) (Zq ZdT (Zd (Za 1) (Zd (Zh Zw (Za 0) (Zj 1)) Zm)))))))
def ZgV:=Z7 2 Zjg
theorem ZqF: SimF false Zjf ZgV:=Zac (show S [] [] [] false Zje Zjg from(Zx (Z3 (ZL (ZC Zav (ZB ZA (Zc 1) (Zl _)) (Zl _))) (ZP (ZC Zav (Zc 0) (Zc 1))) Z6) (ZP ((Zfr (E.sh (ZC Zav (ZC ZaW (ZB ZA (Zc 0) (Zl _)) (ZB ZA (Zc 1) (Zl _))) (Zl _))) (E.sh (ZI ZfQ (Zf (Zc 1) (Zf (ZB ZA (Zc 0) (Zl _)) Zo)))))))))
def Zlh: Sm:=Zt (ZK 0 (Zr ZcR (Ze (Zb 0) Zn))) (Zt (ZK 1 (Zr ZcR (Ze (Zb 1) Zn))) (Zt (ZcN (ZG (Zg oNe (Zb 1) (Zk 0))) (Zt (ZK 2 (Zg oMod (Zb 0) (Zb 1))) (Zt (ZK 0 (Zb 1)) (ZK 1 (Zb 2)))) 1000000) (ZD (Zb 0))))
def Ze1:=Z5 2 Zlh
def Zli: PS:=(Zs (ZM 0 (Zq ZcS (Zd (Za 0) Zm))) (Zs (ZM 1 (Zq ZcS (Zd (Za 1) Zm))) (Zs (Zc1 (ZF (Zh qNe (Za 1) (Zj 0))) (Zs (ZM 2 (Zh ZaQ (Za 0) (Za 1))) (Zs (ZM 0 (Za 1)) (ZM 1 (Za 2)))) 1000000) (ZE (Za 0)))))
def Zel:=Z7 2 Zli
theorem ZhD: SimF false Ze1 Zel:=Zac (show S [] [] [] false Zlh Zli from(Zx (ZV (O':=[]) (Zar ZdK (Zf (Zc 0) Zo))) (Zx (ZV (O':=[]) (Zar ZdK (Zf (Zc 1) Zo))) (Zx (Zfh (ZL (ZC Zbw (Zc 1) (Zl _))) (Zx (ZV (O':=[]) (ZC ZaW (Zc 0) (Zc 1))) (Zx (ZV (O':=[]) (Zc 1)) (ZV (O':=[]) (Zc 2)))) 1000000) (ZP (Zc 0))))))
def ZjA: Sm:=Zt (ZK 3 (ZaJ (Zb9 (Zg Zu (Zb 2) (Zk 0))) (put1 100) Zao (Zr Zcp (Ze (Zb 100) Zn)))) (Zt (ZK 4 (Zr Zcp (Ze (Zg Zu (Zb 2) (Zk 1)) Zn))) (Zt (ZK 5 (Zr Zby (Ze (Zb 0) (Ze (Zb 1) (Ze (Zr ZaH (Ze (Zb 3) Zn)) Zn))))) (Zt (ZK 6 (Zr Zby (Ze (Zb 0) (Ze (Zg Zaf (Zb 1) (Zk 1)) (Ze (Zr ZaH (Ze (Zb 3) Zn)) Zn))))) (Zt (ZK 7 (Zr Zby (Ze (Zb 0) (Ze (Zg Zaf (Zb 1) (Zk 2)) (Ze (Zk 5) Zn))))) (Zt (ZT (ZaK (ZG (Zg oLt (Zb 7) (Zk 3))) (ZaK (ZG (Zg oNe (Zb 5) (Zb 6))) (ZaK (ZG (Zg oIs (Zg Zu (Zg Zu (Zb 3) (Zb 5)) (Zb 6)) (ZZ))) Zao))) (ZbB (Zr ZdR (Ze (Zb 0) (Ze (Zg Zaf (Zb 1) (Zk 3)) Zn))) (Zg Zu (Zb 3) (Zb 5)) (Zb 6)) (ZT (ZaK (ZG (Zg oLt (Zb 7) (Zk 3))) (ZaK (ZG (Zg oNe (Zb 5) (Zb 6))) Zao)) (ZbB (Zg Za9 (Zg Za9 (Zg Zu (Zg Zu (Zb 3) (Zb 5)) (Zb 6)) (Zk 1)) (Zr Zby (Ze (Zb 0) (Ze (Zg Zaf (Zb 1) (Zk 3)) (Ze (Zk 4) Zn))))) (Zg Zu (Zb 3) (Zb 5)) (Zb 6)) (ZT (ZG (Zg oGt (Zr ZaH (Ze (Zb 4) Zn)) (Zk 0))) (Zt (ZK 8 (Zr Zby (Ze (Zb 0) (Ze (Zb 1) (Ze (Zr ZaH (Ze (Zb 4) Zn)) Zn))))) (Zt (ZK 9 (Zg Zu (Zb 4) (Zb 8))) (ZbB (Zr Zdr (Ze (Zg ZaP (Zg Zu (Zb 9) (Zk 0)) (Zg Zaf (Zk 1) (Zg oMod (Zb 7) (Zk 2)))) (Ze (Zg Zaf (Zg Zu (Zb 9) (Zk 1)) (Zr Zby (Ze (Zb 0) (Ze (Zg Zaf (Zb 1) (Zk 3)) (Ze (Zk 3) Zn))))) Zn))) (Zb 4) (Zb 8)))) ZY))) (ZD (ZaD (Ze (Zb 3) (Ze (Zb 4) Zn)))))))))
def ZjB:=Z5 3 ZjA
def ZjC: PS:=(Zs (ZM 3 (ZaC (ZbF (Zh Zw (Za 2) (Zj 0))) (Zag 100) Zak (pFl (Zq Zce (Zd (Za 100) Zm))))) (Zs (ZM 4 (pFl (Zq Zce (Zd (Zh Zw (Za 2) (Zj 1)) Zm)))) (Zs (ZM 5 (Zq Zbf (Zd (Za 0) (Zd (Za 1) (Zd (Zq Zax (Zd (Za 3) Zm)) Zm))))) (Zs (ZM 6 (Zq Zbf (Zd (Za 0) (Zd (Zh Zae (Za 1) (Zj 1)) (Zd (Zq Zax (Zd (Za 3) Zm)) Zm))))) (Zs (ZM 7 (Zq Zbf (Zd (Za 0) (Zd (Zh Zae (Za 1) (Zj 2)) (Zd (Zj 5) Zm))))) (Zs (ZU (ZaM (ZF (Zh qLt (Za 7) (Zj 3))) (ZaM (ZF (Zh qNe (Za 5) (Za 6))) (ZaM (ZF (Zh qIs (Zh Zw (Zh Zw (Za 3) (Za 5)) (Za 6)) (Z0))) Zak))) (ZaY 3 [] (ZbL (Zq Zdt (Zd (Za 0) (Zd (Zh Zae (Za 1) (Zj 3)) Zm)))) (Zbs Zas (Za 5)) (Za 6)) (ZU (ZaM (ZF (Zh qLt (Za 7) (Zj 3))) (ZaM (ZF (Zh qNe (Za 5) (Za 6))) Zak)) (ZaY 3 [] (Zh Za6 (Zh Za6 (Zh Zw (Zh Zw (Za 3) (Za 5)) (Za 6)) (Zj 1)) (Zq Zbf (Zd (Za 0) (Zd (Zh Zae (Za 1) (Zj 3)) (Zd (Zj 4) Zm))))) (Zbs Zas (Za 5)) (Za 6)) (ZU (ZF (Zh qGt (Zq Zax (Zd (Za 4) Zm)) (Zj 0))) (Zs (ZM 8 (Zq Zbf (Zd (Za 0) (Zd (Za 1) (Zd (Zq Zax (Zd (Za 4) Zm)) Zm))))) (Zs (ZM 9 (ZbL (Zh Zw (Za 4) (Za 8)))) (ZaY 4 [] (ZbL (Zq Zda (Zd (Zh ZaE (Zh Zw (Za 9) (Zj 0)) (Zh Zae (Zj 1) (Zh ZaQ (Za 7) (Zj 2)))) (Zd (Zh Zae (Zh Zw (Za 9) (Zj 1)) (Zq Zbf (Zd (Za 0) (Zd (Zh Zae (Za 1) (Zj 3)) (Zd (Zj 3) Zm))))) Zm)))) Zas (Za 8)))) ZX))) (ZE (ZaF (Zd (Za 3) (Zd (Za 4) Zm))))))))))
def Zg0:=Z7 3 ZjC
theorem Zq5: SimF false ZjB Zg0:=Zac (show S [] [3,4] [] false ZjA ZjC from(Zx (Zcf (O':=[3]) (Zdf (Gs.seq (ZB ZA (Zc 2) (Zl _))) PutOk.one (by decide) ZaI (Zeq Zde (Zf (Zc 100) Zo)))) (Zx (Zcf (O':=[3,4]) (Za8 (O':=[]) (Zeq Zde (Zf (ZB ZA (Zc 2) (Zl _)) Zo)))) (Zx (ZV (O':=[3,4]) (ZI ZbI (Zf (Zc 0) (Zf (Zc 1) (Zf (Zar ZaX (Zf (Zc 3) Zo)) Zo))))) (Zx (ZV (O':=[3,4]) (ZI ZbI (Zf (Zc 0) (Zf (Zaa Zaj (Zc 1) (Zl _)) (Zf (Zar ZaX (Zf (Zc 3) Zo)) Zo))))) (Zx (ZV (O':=[3,4]) (ZI ZbI (Zf (Zc 0) (Zf (Zaa Zaj (Zc 1) (Zl _)) (Zf (Zl _) Zo))))) (Zx (Z3 (ZaT (ZL (ZC Zcs (Zc 7) (Zl _))) (ZaT (ZL (ZC Zbw (Zc 5) (Zc 6))) (ZaT (ZL (ZC Zbx (ZB ZA (ZB ZA (Zc 3) (Zc 5)) (Zc 6)) (Z9))) ZaI))) (S.put (O':=[3,4]) (by decide) (Za8 (O':=[4]) (E.flat (ZI ZeO (Zf (Zc 0) (Zf (Zaa Zaj (Zc 1) (Zl _)) Zo))))) (ZdG ZbA (Zc 5)) (Zc 6) (by decide) (by decide)) (Z3 (ZaT (ZL (ZC Zcs (Zc 7) (Zl _))) (ZaT (ZL (ZC Zbw (Zc 5) (Zc 6))) ZaI)) (S.put (O':=[3,4]) (by decide) (Za8 (O':=[4]) (ZC Zbk (ZC Zbk (ZB ZA (ZB ZA (Zc 3) (Zc 5)) (Zc 6)) (Zl _)) (ZI ZbI (Zf (Zc 0) (Zf (Zaa Zaj (Zc 1) (Zl _)) (Zf (Zl _) Zo)))))) (ZdG ZbA (Zc 5)) (Zc 6) (by decide) (by decide)) (Z3 (ZL (ZC ZeH (Zar ZaX (Zf (Zc 4) Zo)) (Zl _))) (Zx (ZV (O':=[3,4]) (ZI ZbI (Zf (Zc 0) (Zf (Zc 1) (Zf (Zar ZaX (Zf (Zc 4) Zo)) Zo))))) (Zx (ZV (O':=[3,4]) (Za8 (O':=[]) (E.flat (ZB ZA (Zc 4) (Zc 8))))) (S.put (O':=[3,4]) (by decide) (Za8 (O':=[3]) (E.flat (ZI Zec (Zf (Zaa Za4 (ZB ZA (Zc 9) (Zl _)) (Zaa Zaj (Zl _) (ZC ZaW (Zc 7) (Zl _)))) (Zf (Zaa Zaj (ZB ZA (Zc 9) (Zl _)) (ZI ZbI (Zf (Zc 0) (Zf (Zaa Zaj (Zc 1) (Zl _)) (Zf (Zl _) Zo))))) Zo))))) ZbA (Zc 8) (by decide) (by decide)))) Z6))) (ZP (E.tup (Zf (Zc 3) (Zf (Zc 4) Zo)))))))))))
def Zlj: Sm:=Zt (ZK 2 (Zr ZcR (Ze (Zb 0) Zn))) (Zt (ZK 3 (Zr ZcR (Ze (Zb 1) Zn))) (Zt (ZcN (ZG (Zg oNe (Zb 3) (Zk 0))) (Zt (ZK 4 (Zg oMod (Zb 2) (Zb 3))) (Zt (ZK 2 (Zb 3)) (ZK 3 (Zb 4)))) 1000000) (ZD (Zb 2))))
def Zf3:=Z5 2 Zlj
def Zlk: PS:=(Zs (ZM 2 (Zq ZcS (Zd (Za 0) Zm))) (Zs (ZM 3 (Zq ZcS (Zd (Za 1) Zm))) (Zs (Zc1 (ZF (Zh qNe (Za 3) (Zj 0))) (Zs (ZM 4 (Zh ZaQ (Za 2) (Za 3))) (Zs (ZM 2 (Za 3)) (ZM 3 (Za 4)))) 1000000) (ZE (Za 2)))))
def Ze2:=Z7 2 Zlk
theorem Zll: SimF false Zf3 Ze2:=Zac (show S [] [] [] false Zlj Zlk from(Zx (ZV (O':=[]) (Zar ZdK (Zf (Zc 0) Zo))) (Zx (ZV (O':=[]) (Zar ZdK (Zf (Zc 1) Zo))) (Zx (Zfh (ZL (ZC Zbw (Zc 3) (Zl _))) (Zx (ZV (O':=[]) (ZC ZaW (Zc 2) (Zc 3))) (Zx (ZV (O':=[]) (Zc 3)) (ZV (O':=[]) (Zc 4)))) 1000000) (ZP (Zc 2))))))
def ZmC: Sm:=Zt (ZT (ZG (Zg oLt (Zb 0) (Zk 0))) (PM.sNo) ZY) (Zt (ZT (ZG (Zg oEq (Zb 0) (Zk 0))) (ZD (ZaD (Ze (Zk 0) (Ze (Zb 1) Zn)))) ZY) (ZD (ZaD (Ze (Zb 0) (Ze (Zg oMod (Zb 1) (Zb 0)) Zn)))))
def Zfo:=Z5 2 ZmC
def ZmD: PS:=(Zs (ZU (ZF (Zh qLt (Za 0) (Zj 0))) (qNo) ZX) (Zs (ZU (ZF (Zh qEq (Za 0) (Zj 0))) (ZE (ZaF (Zd (Zj 0) (Zd (Za 1) Zm)))) ZX) (ZE (ZaF (Zd (Za 0) (Zd (Zh ZaQ (Za 1) (Za 0)) Zm))))))
def Zet:=Z7 2 ZmD
theorem Zie: SimF false Zfo Zet:=Zac (show S [] [] [] false ZmC ZmD from(Zx (Z3 (ZL (ZC Zcs (Zc 0) (Zl _))) (Zwq (O':=[])) Z6) (Zx (Z3 (ZL (ZC Zav (Zc 0) (Zl _))) (ZP (E.tup (Zf (Zl _) (Zf (Zc 1) Zo)))) Z6) (ZP (E.tup (Zf (Zc 0) (Zf (ZC ZaW (Zc 1) (Zc 0)) Zo)))))))
def Zlm: Sm:=Zt (ZK 2 (Zg oMod (Zb 0) (Zb 1))) (Zt (ZK 3 (Zb 1)) (Zt (ZK 4 (Zk 1)) (Zt (ZK 5 (Zk 0)) (Zt (ZcN (ZG (Zg oNe (Zb 3) (Zk 0))) (Zt (ZK 6 (Zg oDiv (Zb 2) (Zb 3))) (Zt (ZK 7 (Zg Za9 (Zb 2) (Zg ZaP (Zb 6) (Zb 3)))) (Zt (ZK 8 (Zg Za9 (Zb 4) (Zg ZaP (Zb 6) (Zb 5)))) (Zt (ZK 2 (Zb 3)) (Zt (ZK 4 (Zb 5)) (Zt (ZK 3 (Zb 7)) (ZK 5 (Zb 8)))))))) 1000000) (ZD (Zg oMod (Zb 4) (Zb 1)))))))
def Zln:=Z5 2 Zlm
def Zlo: PS:=(Zs (ZM 2 (Zh ZaQ (Za 0) (Za 1))) (Zs (ZM 3 (Za 1)) (Zs (ZM 4 (Zj 1)) (Zs (ZM 5 (Zj 0)) (Zs (Zc1 (ZF (Zh qNe (Za 3) (Zj 0))) (Zs (ZM 6 (Zh Zcy (Za 2) (Za 3))) (Zs (ZM 7 (Zh Za6 (Za 2) (Zh ZaE (Za 6) (Za 3)))) (Zs (ZM 8 (Zh Za6 (Za 4) (Zh ZaE (Za 6) (Za 5)))) (Zs (ZM 2 (Za 3)) (Zs (ZM 4 (Za 5)) (Zs (ZM 3 (Za 7)) (ZM 5 (Za 8)))))))) 1000000) (ZE (Zh ZaQ (Za 4) (Za 1))))))))
def ZhE:=Z7 2 Zlo
theorem Zsu: SimF false Zln ZhE:=Zac (show S [] [] [] false Zlm Zlo from(Zx (ZV (O':=[]) (ZC ZaW (Zc 0) (Zc 1))) (Zx (ZV (O':=[]) (Zc 1)) (Zx (ZV (O':=[]) (Zl _)) (Zx (ZV (O':=[]) (Zl _)) (Zx (Zfh (ZL (ZC Zbw (Zc 3) (Zl _))) (Zx (ZV (O':=[]) (ZC Zdn (Zc 2) (Zc 3))) (Zx (ZV (O':=[]) (ZC Zbk (Zc 2) (Zaa Za4 (Zc 6) (Zc 3)))) (Zx (ZV (O':=[]) (ZC Zbk (Zc 4) (Zaa Za4 (Zc 6) (Zc 5)))) (Zx (ZV (O':=[]) (Zc 3)) (Zx (ZV (O':=[]) (Zc 5)) (Zx (ZV (O':=[]) (Zc 7)) (ZV (O':=[]) (Zc 8)))))))) 1000000) (ZP (ZC ZaW (Zc 4) (Zc 1)))))))))
def ZkJ: Sm:=Zt (ZT (ZG (Zg oEq (Zg Zu (Zb 0) (Zk 0)) (Zk 0))) (ZD (eIf (ZG (Zr Zei (Ze (Zb 1) (Ze (Zg Zu (Zb 0) (Zk 1)) Zn)))) (Zb 0) (ZZ))) ZY) (Zt (ZT (ZG (Zg oEq (Zg Zu (Zb 1) (Zk 0)) (Zk 0))) (ZD (eIf (ZG (Zr Zei (Ze (Zb 0) (Ze (Zg Zu (Zb 1) (Zk 1)) Zn)))) (Zb 1) (ZZ))) ZY) (Zt (ZK 2 (Zr Zf3 (Ze (Zg Zu (Zb 0) (Zk 0)) (Ze (Zg Zu (Zb 1) (Zk 0)) Zn)))) (Zt (ZK 3 (Zg Za9 (Zg Zu (Zb 1) (Zk 1)) (Zg Zu (Zb 0) (Zk 1)))) (Zt (ZT (ZG (Zg oNe (Zg oMod (Zb 3) (Zb 2)) (Zk 0))) (ZD (ZZ)) ZY) (Zt (ZK 4 (Zg oDiv (Zg Zu (Zb 1) (Zk 0)) (Zb 2))) (Zt (ZK 5 (Zg ZaP (Zg oDiv (Zb 3) (Zb 2)) (Zr Zln (Ze (Zg oDiv (Zg Zu (Zb 0) (Zk 0)) (Zb 2)) (Ze (Zb 4) Zn))))) (ZD (Zr Zfo (Ze (Zg ZaP (Zg Zu (Zb 0) (Zk 0)) (Zb 4)) (Ze (Zg Zaf (Zg Zu (Zb 0) (Zk 1)) (Zg ZaP (Zg Zu (Zb 0) (Zk 0)) (Zb 5))) Zn))))))))))
def Zho:=Z5 2 ZkJ
def ZkK: PS:=(Zs (ZU (ZF (Zh qEq (Zh Zw (Za 0) (Zj 0)) (Zj 0))) (ZE (pIf (ZF (Zq ZdT (Zd (Za 1) (Zd (Zh Zw (Za 0) (Zj 1)) Zm)))) (Za 0) (Z0))) ZX) (Zs (ZU (ZF (Zh qEq (Zh Zw (Za 1) (Zj 0)) (Zj 0))) (ZE (pIf (ZF (Zq ZdT (Zd (Za 0) (Zd (Zh Zw (Za 1) (Zj 1)) Zm)))) (Za 1) (Z0))) ZX) (Zs (ZM 2 (Zq Ze2 (Zd (Zh Zw (Za 0) (Zj 0)) (Zd (Zh Zw (Za 1) (Zj 0)) Zm)))) (Zs (ZM 3 (Zh Za6 (Zh Zw (Za 1) (Zj 1)) (Zh Zw (Za 0) (Zj 1)))) (Zs (ZU (ZF (Zh qNe (Zh ZaQ (Za 3) (Za 2)) (Zj 0))) (ZE (Z0)) ZX) (Zs (ZM 4 (Zh Zcy (Zh Zw (Za 1) (Zj 0)) (Za 2))) (Zs (ZM 5 (Zh ZaE (Zh Zcy (Za 3) (Za 2)) (Zq ZhE (Zd (Zh Zcy (Zh Zw (Za 0) (Zj 0)) (Za 2)) (Zd (Za 4) Zm))))) (ZE (Zq Zet (Zd (Zh ZaE (Zh Zw (Za 0) (Zj 0)) (Za 4)) (Zd (Zh Zae (Zh Zw (Za 0) (Zj 1)) (Zh ZaE (Zh Zw (Za 0) (Zj 0)) (Za 5))) Zm)))))))))))
def ZfR:=Z7 2 ZkK
theorem Zn9: SimF false Zho ZfR:=Zac (show S [] [] [] false ZkJ ZkK from(Zx (Z3 (ZL (ZC Zav (ZB ZA (Zc 0) (Zl _)) (Zl _))) (ZP (Zez (ZL (ZI ZfQ (Zf (Zc 1) (Zf (ZB ZA (Zc 0) (Zl _)) Zo)))) (E.sh (Zc 0)) (E.sh (Z9)))) Z6) (Zx (Z3 (ZL (ZC Zav (ZB ZA (Zc 1) (Zl _)) (Zl _))) (ZP (Zez (ZL (ZI ZfQ (Zf (Zc 0) (Zf (ZB ZA (Zc 1) (Zl _)) Zo)))) (E.sh (Zc 1)) (E.sh (Z9)))) Z6) (Zx (ZV (O':=[]) (ZI Zll (Zf (ZB ZA (Zc 0) (Zl _)) (Zf (ZB ZA (Zc 1) (Zl _)) Zo)))) (Zx (ZV (O':=[]) (ZC Zbk (ZB ZA (Zc 1) (Zl _)) (ZB ZA (Zc 0) (Zl _)))) (Zx (Z3 (ZL (ZC Zbw (ZC ZaW (Zc 3) (Zc 2)) (Zl _))) (ZP (Z9)) Z6) (Zx (ZV (O':=[]) (ZC Zdn (ZB ZA (Zc 1) (Zl _)) (Zc 2))) (Zx (ZV (O':=[]) (Zaa Za4 (ZC Zdn (Zc 3) (Zc 2)) (ZI Zsu (Zf (ZC Zdn (ZB ZA (Zc 0) (Zl _)) (Zc 2)) (Zf (Zc 4) Zo))))) (ZP (ZI Zie (Zf (Zaa Za4 (ZB ZA (Zc 0) (Zl _)) (Zc 4)) (Zf (Zaa Zaj (ZB ZA (Zc 0) (Zl _)) (Zaa Za4 (ZB ZA (Zc 0) (Zl _)) (Zc 5))) Zo))))))))))))
def Zj2: Sm:=ZD (Zr Zfo (Ze (Zr Zf3 (Ze (Zg Zu (Zb 0) (Zk 0)) (Ze (Zg Zu (Zb 1) (Zk 0)) Zn))) (Ze (Zg Zaf (Zg Zu (Zb 0) (Zk 1)) (Zg Zu (Zb 1) (Zk 1))) Zn)))
def ZfL:=Z5 2 Zj2
def Zj3: PS:=(ZE (Zq Zet (Zd (Zq Ze2 (Zd (Zh Zw (Za 0) (Zj 0)) (Zd (Zh Zw (Za 1) (Zj 0)) Zm))) (Zd (Zh Zae (Zh Zw (Za 0) (Zj 1)) (Zh Zw (Za 1) (Zj 1))) Zm))))
def ZeR:=Z7 2 Zj3
theorem Zj4: SimF false ZfL ZeR:=Zac (show S [] [] [] false Zj2 Zj3 from(ZP (ZI Zie (Zf (ZI Zll (Zf (ZB ZA (Zc 0) (Zl _)) (Zf (ZB ZA (Zc 1) (Zl _)) Zo))) (Zf (Zaa Zaj (ZB ZA (Zc 0) (Zl _)) (ZB ZA (Zc 1) (Zl _))) Zo)))))
def ZjD: Sm:=ZD (Zr Zfo (Ze (Zg ZaP (Zg Zu (Zb 0) (Zk 0)) (Zr ZcR (Ze (Zb 1) Zn))) (Ze (Zg ZaP (Zg Zu (Zb 0) (Zk 1)) (Zb 1)) Zn)))
def ZfH:=Z5 2 ZjD
def ZjE: PS:=(ZE (Zq Zet (Zd (Zh ZaE (Zh Zw (Za 0) (Zj 0)) (Zq ZcS (Zd (Za 1) Zm))) (Zd (Zh ZaE (Zh Zw (Za 0) (Zj 1)) (Za 1)) Zm))))
def ZeP:=Z7 2 ZjE
theorem ZjF: SimF false ZfH ZeP:=Zac (show S [] [] [] false ZjD ZjE from(ZP (ZI Zie (Zf (Zaa Za4 (ZB ZA (Zc 0) (Zl _)) (Zar ZdK (Zf (Zc 1) Zo))) (Zf (Zaa Za4 (ZB ZA (Zc 0) (Zl _)) (Zc 1)) Zo)))))
def ZjG: Sm:=Zt (ZT (ZG (Zg oEq (Zg Zu (Zb 0) (Zk 0)) (Zk 0))) (ZD (eIf (ZG (Zg oLe (Zg Zu (Zb 0) (Zk 1)) (Zb 1))) (Zg Zu (Zb 0) (Zk 1)) (ZZ))) ZY) (ZD (Zg Za9 (Zb 1) (Zg oMod (Zg Za9 (Zb 1) (Zg Zu (Zb 0) (Zk 1))) (Zg Zu (Zb 0) (Zk 0)))))
def ZjH:=Z5 2 ZjG
def ZjI: PS:=(Zs (ZU (ZF (Zh qEq (Zh Zw (Za 0) (Zj 0)) (Zj 0))) (ZE (pIf (ZF (Zh qLe (Zh Zw (Za 0) (Zj 1)) (Za 1))) (Zh Zw (Za 0) (Zj 1)) (Z0))) ZX) (ZE (Zh Za6 (Za 1) (Zh ZaQ (Zh Za6 (Za 1) (Zh Zw (Za 0) (Zj 1))) (Zh Zw (Za 0) (Zj 0))))))
def Zg1:=Z7 2 ZjI
theorem Zq6: SimF false ZjH Zg1:=Zac (show S [] [] [] false ZjG ZjI from(Zx (Z3 (ZL (ZC Zav (ZB ZA (Zc 0) (Zl _)) (Zl _))) (ZP (Zez (ZL (ZC ZmZ (ZB ZA (Zc 0) (Zl _)) (Zc 1))) (E.sh (ZB ZA (Zc 0) (Zl _))) (E.sh (Z9)))) Z6) (ZP (ZC Zbk (Zc 1) (ZC ZaW (ZC Zbk (Zc 1) (ZB ZA (Zc 0) (Zl _))) (ZB ZA (Zc 0) (Zl _)))))))
def ZlQ: Sm:=ZD (eIf (ZG (Zr Zg9 (Ze (Zb 0) (Ze (Zb 1) Zn)))) (Zb 0) (Zb 1))
def ZhN:=Z5 2 ZlQ
def ZlR: PS:=(ZE (pIf (ZF (Zq ZfK (Zd (Za 0) (Zd (Za 1) Zm)))) (Za 0) (Za 1)))
def Zgc:=Z7 2 ZlR
theorem ZoT: SimF false ZhN Zgc:=Zac (show S [] [] [] false ZlQ ZlR from(ZP (Zez (ZL (ZI ZnN (Zf (Zc 0) (Zf (Zc 1) Zo)))) (E.sh (Zc 0)) (E.sh (Zc 1)))))
def ZkL: Sm:=Zt (ZT (tOr (ZG (Zg oIs (Zb 0) (ZZ))) (tOr (ZG (Zg oIs (Zb 1) (ZZ))) Zb7)) (ZD (ZZ)) ZY) (ZD (Zg Zaf (Zb 0) (Zb 1)))
def ZdU:=Z5 2 ZkL
def ZkM: PS:=(Zs (ZU (bOr (ZF (Zh qIs (Za 0) (Z0))) (bOr (ZF (Zh qIs (Za 1) (Z0))) ZbY)) (ZE (Z0)) ZX) (ZE (Zh Zae (Za 0) (Za 1))))
def Zdw:=Z7 2 ZkM
theorem ZeV: SimF false ZdU Zdw:=Zac (show S [] [] [] false ZkL ZkM from(Zx (Z3 (Za3 (ZL (ZC Zbx (Zc 0) (Z9))) (Za3 (ZL (ZC Zbx (Zc 1) (Z9))) Zcv)) (ZP (Z9)) Z6) (ZP (Zaa Zaj (Zc 0) (Zc 1)))))
def ZiF: Sm:=ZD (ZaJ (ZdL (Zb 0) (Zb 2)) (Zcl 100 101) Zao (Zr ZhN (Ze (Zb 100) (Ze (Zr ZdU (Ze (Zb 1) (Ze (Zb 101) Zn))) Zn))))
def ZiG:=Z5 3 ZiF
def ZiH: PS:=(ZE (ZaC (ZdN (Za 0) (Za 2)) (ZcF 100 101) Zak (ZbL (Zq Zgc (Zd (Za 100) (Zd (Zq Zdw (Zd (Za 1) (Zd (Za 101) Zm))) Zm))))))
def ZgO:=Z7 3 ZiH
theorem Zqf: SimF true ZiG ZgO:=Zac (show S [] [] [] true ZiF ZiH from(ZaU (Zdf (Gs.zip (Zc 0) (Zc 2)) PutOk.two (by decide) ZaI (E.flat (ZI ZoT (Zf (Zc 100) (Zf (ZI ZeV (Zf (Zc 1) (Zf (Zc 101) Zo))) Zo)))))))
def Zj5: Sm:=ZD (ZaJ (Zb9 (Zb 0)) (put1 100) Zao (Zr ZiG (Ze (Zb 100) (Ze (Zg Zu (Zb 100) (Zb 1)) (Ze (Zg Zu (Zb 0) (Zb 1)) Zn)))))
def Zj6:=Z5 2 Zj5
def Zj7: PS:=(ZE (ZaC (ZbF (Za 0)) (Zag 100) Zak (Zq ZgO (Zd (Za 100) (Zd (Zh Zw (Za 100) (Za 1)) (Zd (Zh Zw (Za 0) (Za 1)) Zm))))))
def Zha:=Z7 2 Zj7
theorem ZnO: SimF true Zj6 Zha:=Zac (show S [] [] [] true Zj5 Zj7 from(ZaU (Zdf (Gs.seq (Zc 0)) PutOk.one (by decide) ZaI (Zbo Zqf (Zf (Zc 100) (Zf (ZB ZA (Zc 100) (Zc 1)) (Zf (ZB ZA (Zc 0) (Zc 1)) Zo)))))))
def ZiW: Sm:=ZD (Zr ZgH (Ze (ZaJ (ZaO (Ze (Zr ZaH (Ze (Zb 0) Zn)) Zn)) (put1 100) Zao (Zg oLt (Zg Zu (Zg Zu (Zb 0) (Zb 100)) (Zb 100)) (Zk 0))) Zn))
def ZiX:=Z5 1 ZiW
def ZiY: PS:=(ZE (Zq ZgI (Zd (ZaC (ZaB (Zd (Zq Zax (Zd (Za 0) Zm)) Zm)) (Zag 100) Zak (Zh qLt (Zh Zw (Zh Zw (Za 0) (Za 100)) (Za 100)) (Zj 0))) Zm)))
def ZgR:=Z7 1 ZiY
theorem Zne: SimF false ZiX ZgR:=Zac (show S [] [] [] false ZiW ZiY from(ZP (Zar Zv2 (Zf (ZcM (Gs.range (Zf (Zar ZaX (Zf (Zc 0) Zo)) Zo)) PutOk.one (by decide) ZaI (ZC Zcs (ZB ZA (ZB ZA (Zc 0) (Zc 100)) (Zc 100)) (Zl _))) Zo))))
def ZlS: Sm:=Zt (ZK 1 (Zb 0)) (Zt (ZaL (ZaO (Ze (Zr ZaH (Ze (Zb 0) Zn)) Zn)) (put1 2) (Zt (ZK 1 (Zr Zj6 (Ze (Zb 1) (Ze (Zb 2) Zn)))) (ZT (ZG (Zr ZiX (Ze (Zb 1) Zn))) (ZD (ZZ)) ZY))) (ZD (Zb 1)))
def Zfa:=Z5 1 ZlS
def ZlT: PS:=(Zs (ZM 1 (Za 0)) (Zs (Zit (ZaB (Zd (Zq Zax (Zd (Za 0) Zm)) Zm)) (Zag 2) (Zs (ZM 1 (Zq Zha (Zd (Za 1) (Zd (Za 2) Zm)))) (ZU (ZF (Zq ZgR (Zd (Za 1) Zm))) (ZE (Z0)) ZX))) (ZE (Za 1))))
def Zgd:=Z7 1 ZlT
theorem Ztp: SimF true Zfa Zgd:=Zac (show S [] [1] [] true ZlS ZlT from(Zx (ZV (O':=[]) (Zc 0)) (Zx (ZvJ (Gs.range (Zf (Zar ZaX (Zf (Zc 0) Zo)) Zo)) PutOk.one PutOk.one (by decide) (by decide) (by decide) (Zx (Zcf (O':=[1]) (Zbo ZnO (Zf (Zc 1) (Zf (Zc 2) Zo)))) (Z3 (ZL (ZI Zne (Zf (Zc 1) Zo))) (ZaU (Z9)) Z6)) (Zx (Zcf (O':=[1]) (Za8 (O':=[]) (Zbo ZnO (Zf (Zc 1) (Zf (Zc 2) Zo))))) (Z3 (ZL (ZI Zne (Zf (Zc 1) Zo))) (ZaU (Z9)) Z6))) (ZaU (E.own (by decide))))))
def Zj8: Sm:=ZD (Zc6 (eIs "int" (Zb 0)) (Ziv (eIs "bool" (Zb 0))))
def ZfM:=Z5 1 Zj8
def Zj9: PS:=(ZE ((Zdo (pIs "int" (Za 0)) (Ziy (pIs "bool" (Za 0))))))
def ZeS:=Z7 1 Zj9
theorem Zka: SimF false ZfM ZeS:=Zac (show S [] [] [] false Zj8 Zj9 from(ZP ((Zfr (E.sh (ZdM (Zc 0))) (E.sh (Zv0 (ZdM (Zc 0))))))))
def ZkN: Sm:=Zt (ZT (tOr (Zcj (ZG (eIs "list" (Zb 0)))) (tOr (ZG (Zg oNe (Zr ZaH (Ze (Zb 0) Zn)) (Zb 1))) Zb7)) (ZD (ZbD false)) ZY) (Zt (ZaL (ZaO (Ze (Zb 1) Zn)) (put1 2) (Zt (ZT (tOr (Zcj (ZG (eIs "list" (Zg Zu (Zb 0) (Zb 2))))) (tOr (ZG (Zg oNe (Zr ZaH (Ze (Zg Zu (Zb 0) (Zb 2)) Zn)) (Zb 1))) Zb7)) (ZD (ZbD false)) ZY) (Zt (ZaL (Zb9 (Zg Zu (Zb 0) (Zb 2))) (put1 3) (ZT (ZaK (ZG (Zg ZbX (Zb 3) (ZZ))) (ZaK (Zcj (ZG (Zr ZfM (Ze (Zb 3) Zn)))) Zao)) (ZD (ZbD false)) ZY)) (ZT (ZG (Zg oNe (Zg Zu (Zg Zu (Zb 0) (Zb 2)) (Zb 2)) (Zk 0))) (ZD (ZbD false)) ZY)))) (ZD (ZbD true)))
def ZkO:=Z5 2 ZkN
def ZkP: PS:=(Zs (ZU (bOr (Zb3 (ZF (pIs "list" (Za 0)))) (bOr (ZF (Zh qNe (Zq Zax (Zd (Za 0) Zm)) (Za 1))) ZbY)) (ZE (Zbc false)) ZX) (Zs (ZaN (ZaB (Zd (Za 1) Zm)) (Zag 2) (Zs (ZU (bOr (Zb3 (ZF (pIs "list" (Zh Zw (Za 0) (Za 2))))) (bOr (ZF (Zh qNe (Zq Zax (Zd (Zh Zw (Za 0) (Za 2)) Zm)) (Za 1))) ZbY)) (ZE (Zbc false)) ZX) (Zs (ZaN (ZbF (Zh Zw (Za 0) (Za 2))) (Zag 3) (ZU (ZaM (ZF (Zh Zbr (Za 3) (Z0))) (ZaM (Zb3 (ZF (Zq ZeS (Zd (Za 3) Zm)))) Zak)) (ZE (Zbc false)) ZX)) (ZU (ZF (Zh qNe (Zh Zw (Zh Zw (Za 0) (Za 2)) (Za 2)) (Zj 0))) (ZE (Zbc false)) ZX)))) (ZE (Zbc true))))
def Zhp:=Z7 2 ZkP
theorem ZrO: SimF false ZkO Zhp:=Zac (show S [] [] [] false ZkN ZkP from(Zx (Z3 (Za3 (ZcD (ZL (ZdM (Zc 0)))) (Za3 (ZL (ZC Zbw (Zar ZaX (Zf (Zc 0) Zo)) (Zc 1))) Zcv)) (ZP (E.bool _)) Z6) (Zx (Zbl (Gs.range (Zf (Zc 1) Zo)) PutOk.one (by decide) (by decide) (Zx (Z3 (Za3 (ZcD (ZL (ZdM (ZB ZA (Zc 0) (Zc 2))))) (Za3 (ZL (ZC Zbw (Zar ZaX (Zf (ZB ZA (Zc 0) (Zc 2)) Zo)) (Zc 1))) Zcv)) (ZP (E.bool _)) Z6) (Zx (Zbl (Gs.seq (ZB ZA (Zc 0) (Zc 2))) PutOk.one (by decide) (by decide) (Z3 (ZaT (ZL (ZC Zcd (Zc 3) (Z9))) (ZaT (ZcD (ZL (ZI Zka (Zf (Zc 3) Zo)))) ZaI)) (ZP (E.bool _)) Z6)) (Z3 (ZL (ZC Zbw (ZB ZA (ZB ZA (Zc 0) (Zc 2)) (Zc 2)) (Zl _))) (ZP (E.bool _)) Z6)))) (ZP (E.bool _)))))
def ZiZ: Sm:=ZD (ZaD (Ze (Zr ZdU (Ze (Zg Zu (Zb 0) (Zk 0)) (Ze (Zg Zu (Zb 1) (Zk 0)) Zn))) (Ze (Zr ZdU (Ze (Zg Zu (Zb 0) (Zk 1)) (Ze (Zg Zu (Zb 1) (Zk 1)) Zn))) Zn)))
def Zi0:=Z5 2 ZiZ
def Znf: PS:=(ZE (ZaF (Zd (Zq Zdw (Zd (Zh Zw (Za 0) (Zj 0)) (Zd (Zh Zw (Za 1) (Zj 0)) Zm))) (Zd (Zq Zdw (Zd (Zh Zw (Za 0) (Zj 1)) (Zd (Zh Zw (Za 1) (Zj 1)) Zm))) Zm))))
def Zng:=Z7 2 Znf
theorem Zqs: SimF false Zi0 Zng:=Zac (show S [] [] [] false ZiZ Znf from(ZP (E.tup (Zf (ZI ZeV (Zf (ZB ZA (Zc 0) (Zl _)) (Zf (ZB ZA (Zc 1) (Zl _)) Zo))) (Zf (ZI ZeV (Zf (ZB ZA (Zc 0) (Zl _)) (Zf (ZB ZA (Zc 1) (Zl _)) Zo))) Zo)))))
def Zkb: Sm:=Zt (ZT (ZG (Zg oIs (Zb 0) (ZZ))) (ZD (ZZ)) ZY) (ZD (Zg ZaP (Zb 0) (Zb 1)))
def ZeT:=Z5 2 Zkb
def ZnP: PS:=(Zs (ZU (ZF (Zh qIs (Za 0) (Z0))) (ZE (Z0)) ZX) (ZE (Zh ZaE (Za 0) (Za 1))))
def ZfN:=Z7 2 ZnP
theorem Zhb: SimF false ZeT ZfN:=Zac (show S [] [] [] false Zkb ZnP from(Zx (Z3 (ZL (ZC Zbx (Zc 0) (Z9))) (ZP (Z9)) Z6) (ZP (Zaa Za4 (Zc 0) (Zc 1)))))
def ZiI: Sm:=Zt (ZT (ZG (Zg oEq (Zb 1) (Zk 0))) (ZD (ZaD (Ze (Zk 0) (Ze (Zk 0) Zn)))) ZY) (Zt (ZK 2 (Zr ZeT (Ze (Zg Zu (Zb 0) (Zk 0)) (Ze (Zb 1) Zn)))) (Zt (ZK 3 (Zr ZeT (Ze (Zg Zu (Zb 0) (Zk 1)) (Ze (Zb 1) Zn)))) (Zt (ZT (ZG (Zg oLt (Zb 1) (Zk 0))) (ZD (ZaD (Ze (Zb 3) (Ze (Zb 2) Zn)))) ZY) (ZD (ZaD (Ze (Zb 2) (Ze (Zb 3) Zn)))))))
def ZiJ:=Z5 2 ZiI
def Zm6: PS:=(Zs (ZU (ZF (Zh qEq (Za 1) (Zj 0))) (ZE (ZaF (Zd (Zj 0) (Zd (Zj 0) Zm)))) ZX) (Zs (ZM 2 (Zq ZfN (Zd (Zh Zw (Za 0) (Zj 0)) (Zd (Za 1) Zm)))) (Zs (ZM 3 (Zq ZfN (Zd (Zh Zw (Za 0) (Zj 1)) (Zd (Za 1) Zm)))) (Zs (ZU (ZF (Zh qLt (Za 1) (Zj 0))) (ZE (ZaF (Zd (Za 3) (Zd (Za 2) Zm)))) ZX) (ZE (ZaF (Zd (Za 2) (Zd (Za 3) Zm))))))))
def Zm7:=Z7 2 Zm6
theorem Zqg: SimF false ZiJ Zm7:=Zac (show S [] [] [] false ZiI Zm6 from(Zx (Z3 (ZL (ZC Zav (Zc 1) (Zl _))) (ZP (E.tup (Zf (Zl _) (Zf (Zl _) Zo)))) Z6) (Zx (ZV (O':=[]) (ZI Zhb (Zf (ZB ZA (Zc 0) (Zl _)) (Zf (Zc 1) Zo)))) (Zx (ZV (O':=[]) (ZI Zhb (Zf (ZB ZA (Zc 0) (Zl _)) (Zf (Zc 1) Zo)))) (Zx (Z3 (ZL (ZC Zcs (Zc 1) (Zl _))) (ZP (E.tup (Zf (Zc 3) (Zf (Zc 2) Zo)))) Z6) (ZP (E.tup (Zf (Zc 2) (Zf (Zc 3) Zo)))))))))
def Zjh: Sm:=Zt (ZK 2 (ZaD (Ze (Zg Zu (Zb 0) (Zk 0)) (Ze (Zg Zu (Zb 0) (Zk 0)) Zn)))) (Zt (ZaL (ZdL (Zdm (Zb 0) 1) (Zb 1)) (Zcl 3 4) (ZK 2 (Zr Zi0 (Ze (Zb 2) (Ze (Zr ZiJ (Ze (Zb 4) (Ze (Zb 3) Zn))) Zn))))) (ZD (Zb 2)))
def Zji:=Z5 2 Zjh
def Znp: PS:=(Zs (ZM 2 (ZaF (Zd (Zh Zw (Za 0) (Zj 0)) (Zd (Zh Zw (Za 0) (Zj 0)) Zm)))) (Zs (ZaN (ZdN (Zc4 (Za 0) 1) (Za 1)) (ZcF 3 4) (ZM 2 (Zq Zng (Zd (Za 2) (Zd (Zq Zm7 (Zd (Za 4) (Zd (Za 3) Zm))) Zm))))) (ZE (Za 2))))
def Znq:=Z7 2 Znp
theorem ZqG: SimF false Zji Znq:=Zac (show S [] [] [] false Zjh Znp from(Zx (ZV (O':=[]) (E.tup (Zf (ZB ZA (Zc 0) (Zl _)) (Zf (ZB ZA (Zc 0) (Zl _)) Zo)))) (Zx (Zbl (Gs.zip (Zgp (Zc 0)) (Zc 1)) PutOk.two (by decide) (by decide) (ZV (O':=[]) (ZI Zqs (Zf (Zc 2) (Zf (ZI Zqg (Zf (Zc 4) (Zf (Zc 3) Zo))) Zo))))) (ZP (Zc 2)))))
def ZkQ: Sm:=Zt (ZK 2 (ZaD (Ze (Zk 0) (Ze (Zg Zu (Zb 0) (Zk 0)) Zn)))) (Zt (ZaL (ZdL (Zdm (Zb 0) 1) (Zb 1)) (Zcl 3 4) (ZK 2 (Zr ZfL (Ze (Zb 2) (Ze (Zr ZfH (Ze (Zb 4) (Ze (Zb 3) Zn))) Zn))))) (ZD (Zb 2)))
def ZeW:=Z5 2 ZkQ
def ZkR: PS:=(Zs (ZM 2 (ZaF (Zd (Zj 0) (Zd (Zh Zw (Za 0) (Zj 0)) Zm)))) (Zs (ZaN (ZdN (Zc4 (Za 0) 1) (Za 1)) (ZcF 3 4) (ZM 2 (Zq ZeR (Zd (Za 2) (Zd (Zq ZeP (Zd (Za 4) (Zd (Za 3) Zm))) Zm))))) (ZE (Za 2))))
def Zej:=Z7 2 ZkR
theorem Zhq: SimF false ZeW Zej:=Zac (show S [] [] [] false ZkQ ZkR from(Zx (ZV (O':=[]) (E.tup (Zf (Zl _) (Zf (ZB ZA (Zc 0) (Zl _)) Zo)))) (Zx (Zbl (Gs.zip (Zgp (Zc 0)) (Zc 1)) PutOk.two (by decide) (by decide) (ZV (O':=[]) (ZI Zj4 (Zf (Zc 2) (Zf (ZI ZjF (Zf (Zc 4) (Zf (Zc 3) Zo))) Zo))))) (ZP (Zc 2)))))
def Zlp: Sm:=ZD (Zc6 (Zg ZbX (Zb 0) (ZZ)) (Zc6 (Zg ZbX (Zb 1) (ZZ)) (Zg oGt (Zb 0) (Zb 1))))
def Zlq:=Z5 2 Zlp
def Zot: PS:=(ZE ((Zdo (Zh Zbr (Za 0) (Z0)) (Zdo (Zh Zbr (Za 1) (Z0)) (Zh qGt (Za 0) (Za 1))))))
def Zou:=Z7 2 Zot
theorem Zsv: SimF false Zlq Zou:=Zac (show S [] [] [] false Zlp Zot from(ZP ((Zfr (E.sh (ZC Zcd (Zc 0) (Z9))) (Zfr (E.sh (ZC Zcd (Zc 1) (Z9))) (E.sh (ZC ZeH (Zc 0) (Zc 1))))))))
def Zjj: Sm:=ZD (Zg Zaf (ZbZ (Ze (ZaD (Ze (Zk 0) (Ze (Zk 0) Zn))) Zn)) (Zb 0))
def ZeM:=Z5 1 Zjj
def Zjk: PS:=(ZE (Zh Zae (ZbS (Zd (ZaF (Zd (Zj 0) (Zd (Zj 0) Zm))) Zm)) (Za 0)))
def ZeN:=Z7 1 Zjk
theorem Zjl: SimF false ZeM ZeN:=Zac (show S [] [] [] false Zjj Zjk from(ZP (Zaa Zaj (E.list (Zf (E.tup (Zf (Zl _) (Zf (Zl _) Zo))) Zo)) (Zc 0))))
def Zi1: Sm:=Zt (ZK 3 (Zg Zu (Zb 1) (Zb 2))) (Zt (ZaL (Zir (Zb 1)) (Zcl 4 5) (ZT (ZaK (ZG (Zg ZbX (Zb 3) (ZZ))) (ZaK (ZG (Zg oEq (Zr ZdU (Ze (Zg Zu (Zg Zu (Zb 0) (Zb 2)) (Zb 4)) (Ze (Zg Zu (Zg Zu (Zb 0) (Zb 4)) (Zb 2)) Zn))) (Zk 0))) Zao)) (ZK 3 (Zr Zho (Ze (Zb 3) (Ze (Zr ZfL (Ze (Zb 5) (Ze (ZaD (Ze (Zk 0) (Ze (Zg Zu (Zg Zu (Zb 0) (Zb 2)) (Zb 4)) Zn))) Zn))) Zn)))) ZY)) (ZD (Zb 3)))
def ZfD:=Z5 3 Zi1
def Zi2: PS:=(Zs (ZM 3 (Zh Zw (Za 1) (Za 2))) (Zs (ZaN (Zis (Za 1)) (ZcF 4 5) (ZU (ZaM (ZF (Zh Zbr (Za 3) (Z0))) (ZaM (ZF (Zh qEq (Zq Zdw (Zd (Zh Zw (Zh Zw (Za 0) (Za 2)) (Za 4)) (Zd (Zh Zw (Zh Zw (Za 0) (Za 4)) (Za 2)) Zm))) (Zj 0))) Zak)) (ZM 3 (Zq ZfR (Zd (Za 3) (Zd (Zq ZeR (Zd (Za 5) (Zd (ZaF (Zd (Zj 0) (Zd (Zh Zw (Zh Zw (Za 0) (Za 2)) (Za 4)) Zm))) Zm))) Zm)))) ZX)) (ZE (Za 3))))
def Zea:=Z7 3 Zi2
theorem Znh: SimF false ZfD Zea:=Zac (show S [] [] [] false Zi1 Zi2 from(Zx (ZV (O':=[]) (ZB ZA (Zc 1) (Zc 2))) (Zx (Zbl (Zul (Zc 1)) PutOk.two (by decide) (by decide) (Z3 (ZaT (ZL (ZC Zcd (Zc 3) (Z9))) (ZaT (ZL (ZC Zav (ZI ZeV (Zf (ZB ZA (ZB ZA (Zc 0) (Zc 2)) (Zc 4)) (Zf (ZB ZA (ZB ZA (Zc 0) (Zc 4)) (Zc 2)) Zo))) (Zl _))) ZaI)) (ZV (O':=[]) (ZI Zn9 (Zf (Zc 3) (Zf (ZI Zj4 (Zf (Zc 5) (Zf (E.tup (Zf (Zl _) (Zf (ZB ZA (ZB ZA (Zc 0) (Zc 2)) (Zc 4)) Zo))) Zo))) Zo)))) Z6)) (ZP (Zc 3)))))
def ZfE: Sm:=Zt (ZT (ZG (Zg oIs (Zb 0) (ZZ))) (ZD (ZZ)) ZY) (Zt (ZK 1 (Zr ZeM (Ze (Zg Zu (Zb 0) (Zk 1)) Zn))) (Zt (ZK 2 (ZaJ (ZaO (Ze (Zk 1) (Ze (Zr ZaH (Ze (Zb 1) Zn)) Zn))) (put1 100) Zao (Zr ZfD (Ze (Zg Zu (Zb 0) (Zk 0)) (Ze (Zb 1) (Ze (Zb 100) Zn)))))) (Zt (ZT (ZG (Zg oIn (ZZ) (Zb 2))) (ZD (ZZ)) ZY) (ZD (ZaD (Ze (Zg Zu (Zb 0) (Zk 0)) (Ze (Zb 2) Zn)))))))
def ZdQ:=Z5 1 ZfE
def ZfF: PS:=(Zs (ZU (ZF (Zh qIs (Za 0) (Z0))) (ZE (Z0)) ZX) (Zs (ZM 1 (Zq ZeN (Zd (Zh Zw (Za 0) (Zj 1)) Zm))) (Zs (ZM 2 (ZaC (ZaB (Zd (Zj 1) (Zd (Zq Zax (Zd (Za 1) Zm)) Zm))) (Zag 100) Zak (Zq Zea (Zd (Zh Zw (Za 0) (Zj 0)) (Zd (Za 1) (Zd (Za 100) Zm)))))) (Zs (ZU (ZF (Zh qIn (Z0) (Za 2))) (ZE (Z0)) ZX) (ZE (ZaF (Zd (Zh Zw (Za 0) (Zj 0)) (Zd (Za 2) Zm))))))))
def Zds:=Z7 1 ZfF
theorem ZqH: SimF false ZdQ Zds:=Zac (show S [] [] [] false ZfE ZfF from(Zx (Z3 (ZL (ZC Zbx (Zc 0) (Z9))) (ZP (Z9)) Z6) (Zx (ZV (O':=[]) (ZI Zjl (Zf (ZB ZA (Zc 0) (Zl _)) Zo))) (Zx (ZV (O':=[]) (ZcM (Gs.range (Zf (Zl _) (Zf (Zar ZaX (Zf (Zc 1) Zo)) Zo))) PutOk.one (by decide) ZaI (ZI Znh (Zf (ZB ZA (Zc 0) (Zl _)) (Zf (Zc 1) (Zf (Zc 100) Zo)))))) (Zx (Z3 (ZL (ZC Zfy (Z9) (Zc 2))) (ZP (Z9)) Z6) (ZP (E.tup (Zf (ZB ZA (Zc 0) (Zl _)) (Zf (Zc 2) Zo)))))))))
def Zif: Sm:=Zt (ZT (ZG (Zg oIs (Zb 0) (ZZ))) (ZD (ZZ)) ZY) (Zt (ZK 1 (Zr Zfa (Ze (Zg Zu (Zb 0) (Zk 0)) Zn))) (Zt (ZT (ZG (Zg oIs (Zb 1) (ZZ))) (ZD (ZZ)) ZY) (ZD (ZaD (Ze (Zb 1) (Ze (Zg Zu (Zb 0) (Zk 1)) Zn))))))
def ZdZ:=Z5 1 Zif
def Zig: PS:=(Zs (ZU (ZF (Zh qIs (Za 0) (Z0))) (ZE (Z0)) ZX) (Zs (ZM 1 (Zq Zgd (Zd (Zh Zw (Za 0) (Zj 0)) Zm))) (Zs (ZU (ZF (Zh qIs (Za 1) (Z0))) (ZE (Z0)) ZX) (ZE (ZaF (Zd (Za 1) (Zd (Zh Zw (Za 0) (Zj 1)) Zm)))))))
def Zd0:=Z7 1 Zig
def ZmE: Sm:=ZD (Zr ZdQ (Ze (Zr ZdZ (Ze (Zb 0) Zn)) Zn))
def Zfp:=Z5 1 ZmE
def Zih: PS:=(ZE (Zq Zds (Zd (Zq Zd0 (Zd (Za 0) Zm)) Zm)))
def Zgk: T→Bool
 | .none=>true
 | .tup [_,.lst ts]=>T.flats ts
 | _=>false
def Zeu: List T→Option T:=fun ts=>(Z7 1 Zih ts).bind fun t=>if Zgk t then some t else none
theorem ZpT(hp:0<H.length)(r:RF H a t F): St ⟨H,[],fun x=>x∈F⟩ [] (fun i=>[a][i]?) (fun i=>[t][i]?) H (fun _=>F):=by
 refine⟨fun i u e=>?_,fun i u e x m=>.inr m,fun i hi=>(nomatch hi),Nat.le_refl _,fun x _ _=>rfl,hp,by simp⟩
 cases i with
 | zero=>cases e;exact⟨a,rfl,r⟩
 | succ i=>simp at e
theorem Zpn(e:ρ 0=some a)(r:RF H a t F)(ht:t≠.none): ZT (ZG (Zg oIs (Zb 0) (ZZ))) (ZD (ZZ)) ZY ρ H=some (none,ρ,H):=by
 cases r <;> first | exact absurd rfl ht | simp[ZT,ZG,Zg,Zb,e,ZZ,oIs,ZcB,ZY]
theorem Zpo(e:σ 0=some t)(ht:t≠.none): ZU (ZF (Zh qIs (Za 0) (Z0))) (ZE (Z0)) ZX σ=some (none,σ):=by
 cases t <;> first | exact absurd rfl ht | simp[ZU,ZF,Zh,Za,e,Z0,qIs,ZbJ,ZX]
theorem Zpp(e:σ 0=some .none): ZU (ZF (Zh qIs (Za 0) (Z0))) (ZE (Z0)) ZX σ=some (some .none,σ):=by
 simp[ZU,ZF,Zh,Za,e,Z0,qIs,ZbJ,ZE]
theorem Zm1{a b:PS}{σ1:TL}(h:a σ=some (none,σ1)): Zs a b σ=b σ1:=by simp only[Zs,h,Option.bind_some]
theorem Zqc{a b:PS}{σ1:TL}(h:a σ=some (some t,σ1)): Zs a b σ=some (some t,σ1):=by simp only[Zs,h,Option.bind_some]
theorem ZeD{a b:Sm}{ρ1:Lc}{H1:Hp}(h:a ρ H=some (none,ρ1,H1)): Zt a b ρ H=b ρ1 H1:=by simp only[Zt,h,Option.bind_some]
theorem Zwe{a b:Sm}{ρ1:Lc}{H1:Hp}{v:V}(h:a ρ H=some (some v,ρ1,H1)): Zt a b ρ H=some (some v,ρ1,H1):=by simp only[Zt,h,Option.bind_some]
theorem ZrP{u:T}(hp:0<H.length)(r:RF H a t F)(h:Zd0 [t]=some u):
  (u=.none∧∃X,ZdZ [a] H=some (.none,H++X))∨∃w0 v1 u0 u1 X F0 F1,u=.tup [u0,u1]∧ZdZ [a] H=some (.tup [w0,v1],H++X)∧RF (H++X) w0 u0 F0∧F0.Nodup∧(∀x∈F0,H.length≤x)∧RF (H++X) v1 u1 F1:=by
 have st:=ZpT hp r
 unfold Zd0 Z7 at h
 simp only[List.length_cons,List.length_nil,Nat.zero_add,if_true]at h
 obtain⟨r1,h,h0⟩:=Zz1.mp h
 unfold Zig at h
 by_cases hn:t=.none
 ·subst hn
  rw[Zqc (Zpp rfl)]at h
  cases h
  cases h0
  cases r
  exact .inl ⟨rfl,[],by simp[ZdZ,Z5,Zif,Zt,ZT,ZG,Zg,Zb,ZZ,oIs,ZcB,ZD]⟩
 ·rw[Zm1 (Zpo (σ:=fun i=>[t][i]?) rfl hn)]at h
  have ev:∀b:Sm,Zt (ZT (ZG (Zg oIs (Zb 0) (ZZ))) (ZD (ZZ)) ZY) b (fun i=>[a][i]?) H=b (fun i=>[a][i]?) H:=fun b=>ZeD (Zpn rfl r hn)
  obtain⟨r2,h1',h⟩:=Zz0.mp h
  obtain⟨u0,h1,e1⟩:=Zz1.mp h1'
  subst e1
  have x1:E [] [] true (Zr Zfa (Ze (Zg Zu (Zb 0) (Zk 0)) Zn)) (Zq Zgd (Zd (Zh Zw (Za 0) (Zj 0)) Zm)):=Zbo Ztp (Zf (ZB ZA (Zc 0) (Zl _)) Zo)
  obtain⟨w0,X,F0,a1,a2,a3,a4⟩:=x1 _ _ _ _ _ _ st h1
  have new:∀x∈F0,H.length≤x:=fun x m=>(a3 x m).nil
  have e2:ZK 1 (Zr Zfa (Ze (Zg Zu (Zb 0) (Zk 0)) Zn)) (fun i=>[a][i]?) H=some (none,upd (fun i=>[a][i]?) 1 w0,H++X):=by simp only[ZK,a1,Option.map_some]
  simp only at h
  have ev2:∀b:Sm,Zt (ZK 1 (Zr Zfa (Ze (Zg Zu (Zb 0) (Zk 0)) Zn))) b (fun i=>[a][i]?) H=b (upd (fun i=>[a][i]?) 1 w0) (H++X):=fun b=>ZeD e2
  have fin:∀o,Zt (ZT (ZG (Zg oIs (Zb 1) (ZZ))) (ZD (ZZ)) ZY) (ZD (ZaD (Ze (Zb 1) (Ze (Zg Zu (Zb 0) (Zk 1)) Zn)))) (upd (fun i=>[a][i]?) 1 w0) (H++X)=some o→ZdZ [a] H=some (o.1.getD .none,o.2.2):=fun o ho=>by
   unfold ZdZ Z5 Zif
   simp only[List.length_cons,List.length_nil,Nat.zero_add,if_true]
   rw[ev,ev2,ho]
   rfl
  by_cases hu:u0=.none
  ·subst hu
   cases a2
   obtain⟨r3,h2,h⟩:=Zz0.mp h
   have:r3=(some .none,Z8 (fun i=>[t][i]?) 1 .none):=by
    have:=h2
    simp[ZU,ZF,Zh,Za,Z8,Z0,qIs,ZbJ,ZE]at this
    exact this.symm
   subst this
   cases h
   cases h0
   refine .inl ⟨rfl,X,fin (some .none,upd (fun i=>[a][i]?) 1 .none,H++X) ?_⟩
   exact Zwe (by simp[ZT,ZG,Zg,Zb,upd,ZZ,oIs,ZcB,ZD])
  ·have e3:ZT (ZG (Zg oIs (Zb 1) (ZZ))) (ZD (ZZ)) ZY (upd (fun i=>[a][i]?) 1 w0) (H++X)=some (none,upd (fun i=>[a][i]?) 1 w0,H++X):=by
    cases a2 <;> first | exact(hu rfl).elim | simp[ZT,ZG,Zg,Zb,upd,ZZ,oIs,ZcB,ZY]
   have e4:ZU (ZF (Zh qIs (Za 1) (Z0))) (ZE (Z0)) ZX (Z8 (fun i=>[t][i]?) 1 u0)=some (none,Z8 (fun i=>[t][i]?) 1 u0):=by
    cases u0 <;> first | exact(hu rfl).elim | simp[ZU,ZF,Zh,Za,Z8,Z0,qIs,ZbJ,ZX]
   rw[Zm1 e4]at h
   obtain⟨u',h5,h6⟩:=Zz1.mp h
   subst h6
   obtain⟨us,h7,h8⟩:=Zz1.mp h5
   subst h8
   obtain⟨q0,g1,h9⟩:=Zz0.mp h7
   obtain⟨qs,g2,h10⟩:=Zz0.mp h9
   cases h10
   obtain⟨q1,g3,g6⟩:=Zz0.mp g2
   obtain⟨qs',g4,g7⟩:=Zz0.mp g6
   cases g7
   cases g4
   have eq0:q0=u0:=by
    have:Z8 (fun i=>[t][i]?) 1 u0 1=some q0:=g1
    simp[Z8]at this
    exact this.symm
   subst eq0
   have g5:Zw t (.int 1)=some q1:=by
    have:=g3
    simpa [Zh,Za,Z8,Zj]using this
   obtain⟨v1,F1,b1,b2,b3⟩:=ZA _ _ _ _ _ _ _ _ (r.ext X) (RF.int (H:=H++X) 1) g5
   cases h0
   refine .inr ⟨w0,v1,q0,q1,X,F0,F1,rfl,fin (some (.tup [w0,v1]),upd (fun i=>[a][i]?) 1 w0,H++X) ?_,a2,a4 rfl,new,b2⟩
   rw[ZeD e3]
   simp[ZD,ZaD,Ze,Zb,upd,Zg,Zk,b1,Zn,Zbh]
theorem Zov{put:T→TL→Option TL}{f:PE}{σ:TL}: ∀{ts us:List T},Zc5 put Zak f σ ts=some us→T.flats us=true→Zc5 put Zak (ZbL f) σ ts=some us
 | [],_,h,_=>h
 | t::ts,us,h,hf=>by
  obtain⟨σ1,h1,h⟩:=Zz0.mp h
  simp only[Zak,Option.bind_some,if_true]at h
  obtain⟨x,h2,h⟩:=Zz0.mp h
  obtain⟨xs,h3,h⟩:=Zz1.mp h
  subst h
  simp only[T.flats,Bool.and_eq_true]at hf
  simp only[Zc5,h1,Option.bind_some,Zak,if_true,ZbL,h2,hf.1,Zov h3 hf.2,Option.map_some]
theorem Zoa{u:T}(hp:0<H.length)(r:RF H a t F)(h:Zds [t]=some u)(ok:Zgk u=true):
  (u=.none∧∃X,ZdQ [a] H=some (.none,H++X))∨∃w0 w1 u0 u1 X F1,u=.tup [u0,u1]∧Zu a (.int 0) H=some (w0,H)∧Zw t (.int 0)=some u0∧ZdQ [a] H=some (.tup [w0,w1],H++X)∧RF (H++X) w1 u1 F1∧F1.Nodup∧(∀x∈F1,H.length≤x):=by
 have st:=ZpT hp r
 have hfull:=h
 unfold Zds Z7 at h
 simp only[List.length_cons,List.length_nil,Nat.zero_add,if_true]at h
 obtain⟨r1,h,h0⟩:=Zz1.mp h
 unfold ZfF at h
 by_cases hn:t=.none
 ·subst hn
  rw[Zqc (Zpp rfl)]at h
  cases h
  cases h0
  cases r
  exact .inl ⟨rfl,[],by simp[ZdQ,Z5,ZfE,Zt,ZT,ZG,Zg,Zb,ZZ,oIs,ZcB,ZD]⟩
 ·rw[Zm1 (Zpo (σ:=fun i=>[t][i]?) rfl hn)]at h
  have ev:∀b:Sm,Zt (ZT (ZG (Zg oIs (Zb 0) (ZZ))) (ZD (ZZ)) ZY) b (fun i=>[a][i]?) H=b (fun i=>[a][i]?) H:=fun b=>ZeD (Zpn rfl r hn)
  obtain⟨r2,h1',h⟩:=Zz0.mp h
  obtain⟨t1,h1,e1⟩:=Zz1.mp h1'
  subst e1
  have x1:E [] ([0]++[]) false (Zr ZeM (Ze (Zg Zu (Zb 0) (Zk 1)) Zn)) (Zq ZeN (Zd (Zh Zw (Za 0) (Zj 1)) Zm)):=ZI Zjl (Zf (ZB ZA (Zc 0) (Zl _)) Zo)
  obtain⟨v1,X1,Fr,a1,a2,a3,_⟩:=x1 _ _ _ _ _ _ st h1
  have st1:=(st.ext X1).put (j:=1) (by simp) a2 (fun x m=>st.from_src (a3 x m)) (fun i hi=>(nomatch hi))
  have ev1:∀b:Sm,Zt (ZK 1 (Zr ZeM (Ze (Zg Zu (Zb 0) (Zk 1)) Zn))) b (fun i=>[a][i]?) H=b (upd (fun i=>[a][i]?) 1 v1) (H++X1):=fun b=>ZeD (by simp only[ZK,a1,Option.map_some])
  simp only at h
  obtain⟨r3,h2',h⟩:=Zz0.mp h
  obtain⟨t2,h2,e2⟩:=Zz1.mp h2'
  subst e2
  simp only at h
  generalize hσ:Z8 (fun i=>[t][i]?) 1 t1=σ1 at *
  generalize hρ:upd (fun i=>[a][i]?) 1 v1=ρ1 at *
  have hρ0:ρ1 0=some a:=by rw[←hρ];simp[upd]
  have hσ0:σ1 0=some t:=by rw[←hσ];simp[Z8]
  have x2:∀ts,T.flats ts=true→ZaC (ZaB (Zd (Zj 1) (Zd (Zq Zax (Zd (Za 1) Zm)) Zm))) (Zag 100) Zak (Zq Zea (Zd (Zh Zw (Za 0) (Zj 0)) (Zd (Za 1) (Zd (Za 100) Zm)))) σ1=some (.lst ts)→∃w X G,ZaJ (ZaO (Ze (Zk 1) (Ze (Zr ZaH (Ze (Zb 1) Zn)) Zn))) (put1 100) Zao (Zr ZfD (Ze (Zg Zu (Zb 0) (Zk 0)) (Ze (Zb 1) (Ze (Zb 100) Zn)))) ρ1 (H++X1)=some (w,H++X1++X)∧RF (H++X1++X) w (.lst ts) G∧G.Nodup∧∀x∈G,(H++X1).length≤x:=fun ts hf he=>by
   have y:E [] [] true (ZaJ (ZaO (Ze (Zk 1) (Ze (Zr ZaH (Ze (Zb 1) Zn)) Zn))) (put1 100) Zao (Zr ZfD (Ze (Zg Zu (Zb 0) (Zk 0)) (Ze (Zb 1) (Ze (Zb 100) Zn))))) (ZaC (ZaB (Zd (Zj 1) (Zd (Zq Zax (Zd (Za 1) Zm)) Zm))) (Zag 100) Zak (ZbL (Zq Zea (Zd (Zh Zw (Za 0) (Zj 0)) (Zd (Za 1) (Zd (Za 100) Zm)))))):=Zdf (Gs.range (Zf (Zl _) (Zf (Zar ZaX (Zf (Zc 1) Zo)) Zo))) PutOk.one (by decide) ZaI (E.flat (ZI Znh (Zf (ZB ZA (Zc 0) (Zl _)) (Zf (Zc 1) (Zf (Zc 100) Zo)))))
   have he2:ZaC (ZaB (Zd (Zj 1) (Zd (Zq Zax (Zd (Za 1) Zm)) Zm))) (Zag 100) Zak (ZbL (Zq Zea (Zd (Zh Zw (Za 0) (Zj 0)) (Zd (Za 1) (Zd (Za 100) Zm))))) σ1=some (.lst ts):=by
    obtain⟨zs,g1,g2⟩:=Zz0.mp he
    split at g2
    ·rename_i hl
     obtain⟨us,g3,g4⟩:=Zz1.mp g2
     cases g4
     simp only[ZaC,g1,Option.bind_some]
     rw[if_pos hl,Zov g3 hf]
     rfl
    ·cases g2
   obtain⟨w,X,G,b1,b2,b3,b4⟩:=y _ _ _ _ _ _ st1 he2
   exact⟨w,X,G,b1,b2,b4 rfl,fun x m=>(b3 x m).nil⟩
  obtain⟨ts,rfl⟩:∃ts,t2=.lst ts:=by
   obtain⟨zs,g1,g2⟩:=Zz0.mp h2
   split at g2
   ·obtain⟨us,g3,g4⟩:=Zz1.mp g2
    exact⟨us,g4.symm⟩
   ·cases g2
  by_cases hu:u=.none
  ·subst hu
   obtain⟨v,X,G,c1,c2,_⟩:=ZqH H [a] [t] .none F hp (RFs.one r) hfull
   cases c2
   exact .inl ⟨rfl,X,c1⟩
  ·obtain⟨r4,h3,h⟩:=Zz0.mp h
   obtain⟨b,h4,h5⟩:=Zz0.mp h3
   cases b with
   | true=>
    simp only[if_true]at h5
    cases h5
    cases h
    cases h0
    exact absurd rfl hu
   | false=>
    cases h5
    simp only at h
    obtain⟨u',h6,h7⟩:=Zz1.mp h
    subst h7
    obtain⟨us,h8,h9⟩:=Zz1.mp h6
    subst h9
    obtain⟨q0,g1,h10⟩:=Zz0.mp h8
    obtain⟨qs,g2,h11⟩:=Zz0.mp h10
    cases h11
    obtain⟨q1,g3,g6⟩:=Zz0.mp g2
    obtain⟨qs',g4,g7⟩:=Zz0.mp g6
    cases g7
    cases g4
    have eq1:q1=.lst ts:=by
     have:Z8 σ1 2 (.lst ts) 2=some q1:=g3
     simp[Z8]at this
     exact this.symm
    subst eq1
    have g5:Zw t (.int 0)=some q0:=by
     have:=g1
     simpa [Zh,Za,Z8,Zj,hσ0]using this
    cases h0
    obtain⟨w,X,G,b1,b2,b3,b4⟩:=x2 ts ok h2
    obtain⟨w0,F0,i1,i2,i3⟩:=ZA _ _ _ _ _ _ _ _ r (RF.int (H:=H) 0) g5
    have st2:=(st1.ext X).put (j:=2) (by simp) b2 (fun x m=>.inl (by have:=b4 x m;simp at this;show H.length≤x;omega)) (fun i hi=>(nomatch hi))
    have bt:Bt [] (ZG (Zg oIn (ZZ) (Zb 2))) (ZF (Zh qIn (Z0) (Za 2))):=ZL (ZC Zfy Z9 (Zc 2))
    obtain⟨Y,k1⟩:=bt _ _ _ _ _ _ st2 h4
    refine .inr ⟨w0,w,q0,.lst ts,X1++X++Y,G,rfl,i1,g5,?_,by rw[←List.append_assoc,←List.append_assoc];exact b2.ext Y,b3,fun x m=>by have:=b4 x m;simp at this;omega⟩
    unfold ZdQ Z5 ZfE
    simp only[List.length_cons,List.length_nil,Nat.zero_add,if_true]
    rw[ev,ev1,ZeD (ρ1:=upd ρ1 2 w) (H1:=H++X1++X) (by simp only[ZK,b1,Option.map_some]),ZeD (ρ1:=upd ρ1 2 w) (H1:=H++X1++X++Y) (by simp only[ZT,k1,Option.bind_some];rfl)]
    have hidx:=(Zle i1 (X1++X++Y)).2
    have hr:(upd ρ1 2 w) 0=some a:=by simp[upd,hρ0]
    have h2w:(upd ρ1 2 w) 2=some w:=by simp[upd]
    simp only[←List.append_assoc]at hidx ⊢
    generalize H++X1++X++Y=K at *
    have e5:ZaD (Ze (Zg Zu (Zb 0) (Zk 0)) (Ze (Zb 2) Zn)) (upd ρ1 2 w) K=some (.tup [w0,w],K):=by
     simp only[ZaD,Ze,Zg,Zb,hr,h2w,Zk,Zn,Option.map_some,Option.bind_some,hidx]
     rw[if_pos (by rw[Zbh];simp)]
    simp only[ZD,e5,Option.map_some]
    rfl
theorem ZpU: SimF true Zfp Zeu:=fun H vs ts t F1 hp r h=>by
 obtain⟨t',h1,h2⟩:=Zz0.mp h
 by_cases ok:Zgk t'=true
 ·rw[if_pos ok]at h2
  cases h2
  unfold Z7 at h1
  split at h1
  ·rename_i hl
   obtain⟨t0,rfl⟩:∃t0,ts=[t0]:=List.length_eq_one_iff.mp hl
   obtain⟨a,rfl,r0⟩:=r.one_inv
   obtain⟨r1,h3,h4⟩:=Zz1.mp h1
   obtain⟨u,h5,h6⟩:=Zz1.mp h3
   subst h6
   cases h4
   obtain⟨us,h7,h8⟩:=Zz0.mp h5
   obtain⟨q0,g1,h9⟩:=Zz0.mp h7
   obtain⟨qs,g2,h10⟩:=Zz0.mp h9
   cases h10
   cases g2
   have g3:Zd0 [t0]=some q0:=by
    have:=g1
    simpa [Zq,Zd,Za,Zm]using this
   have g4:Zds [q0]=some u:=h8
   have run:∀v1 X1 v2 X2,ZdZ [a] H=some (v1,H++X1)→ZdQ [v1] (H++X1)=some (v2,H++X1++X2)→Zfp [a] H=some (v2,H++(X1++X2)):=fun v1 X1 v2 X2 e1 e2=>by
    simp[Zfp,Z5,ZmE,ZD,Zr,Ze,Zb,Zn,e1,e2]
   rcases ZrP hp r0 g3 with⟨rfl,X,e1⟩ | ⟨w0,v1,u0,u1,X,F0,F2,rfl,e1,a1,a2,a3,a4⟩
   ·have hp2:0<(H++X).length:=by rw[List.length_append];omega
    rcases Zoa hp2 (.none (H:=H++X)) g4 ok with⟨rfl,Y,e2⟩ | ⟨_,_,_,_,_,_,_,e2,_⟩
    ·exact⟨.none,X++Y,[],run _ _ _ _ e1 e2,.none,by simp,by simp⟩
    ·cases e2
   ·have hp2:0<(H++X).length:=by rw[List.length_append];omega
    rcases Zoa hp2 (.tup (.cons a1 (.one a4))) g4 ok with⟨rfl,Y,e2⟩ | ⟨x0,w1,y0,y1,Y,F1',rfl,e3,e4,e2,b1,b2,b3⟩
    ·exact⟨.none,X++Y,[],run _ _ _ _ e1 e2,.none,by simp,by simp⟩
    ·have ex:x0=w0:=by
      have:Zu (.tup [w0,v1]) (.int 0) (H++X)=some (w0,H++X):=by simp[Zu,seqIndex?]
      rw[this]at e3
      cases e3
      rfl
     have ey:y0=u0:=by
      have:Zw (.tup [u0,u1]) (.int 0)=some u0:=by simp[Zw,seqIndex?]
      rw[this]at e4
      cases e4
      rfl
     subst ex ey
     have nd:(F0++F1').Nodup:=by
      rw[List.nodup_append]
      refine⟨a2,b2,fun x hx y hy e=>?_⟩
      have:=a1.lt x hx
      have:=b3 y hy
      omega
     have nw:∀x∈F0++F1',H.length≤x:=fun x m=>by
      rcases Zz8.mp m with m | m
      ·exact a3 x m
      ·have:=b3 x m;rw[List.length_append]at this;omega
     exact⟨.tup [x0,w1],X++Y,F0++F1',run _ _ _ _ e1 e2,by rw[←List.append_assoc];exact .tup (.cons (a1.ext Y) (.one b1)),fun x m=>.inl (nw x m),fun _=>⟨nd,nw⟩⟩
  ·cases h1
 ·rw[if_neg ok]at h2
  cases h2
def ZiK: Sm:=Zt (ZT (ZG (Zg ZbX (Zb 0) (ZZ))) (ZD (Zr ZjH (Ze (Zb 1) (Ze (Zb 0) Zn)))) ZY) (Zt (ZT (ZG (Zg oEq (Zg Zu (Zb 1) (Zk 0)) (Zk 0))) (ZD (Zg Zu (Zb 1) (Zk 1))) ZY) (ZD (ZZ)))
def ZiL:=Z5 2 ZiK
def ZiM: PS:=(Zs (ZU (ZF (Zh Zbr (Za 0) (Z0))) (ZE (Zq Zg1 (Zd (Za 1) (Zd (Za 0) Zm)))) ZX) (Zs (ZU (ZF (Zh qEq (Zh Zw (Za 1) (Zj 0)) (Zj 0))) (ZE (Zh Zw (Za 1) (Zj 1))) ZX) (ZE (Z0))))
def ZgP:=Z7 2 ZiM
theorem Zqh: SimF false ZiL ZgP:=Zac (show S [] [] [] false ZiK ZiM from(Zx (Z3 (ZL (ZC Zcd (Zc 0) (Z9))) (ZP (ZI Zq6 (Zf (Zc 1) (Zf (Zc 0) Zo)))) Z6) (Zx (Z3 (ZL (ZC Zav (ZB ZA (Zc 1) (Zl _)) (Zl _))) (ZP (ZB ZA (Zc 1) (Zl _))) Z6) (ZP (Z9)))))
def Zjm: Sm:=Zt (ZK 3 (ZbZ Zn)) (Zt (ZaL (ZdL (Zb 0) (Zb 2)) (Zcl 4 5) (Zt (ZK 6 (Zr ZiL (Ze (Zb 4) (Ze (Zr ZfL (Ze (Zb 1) (Ze (Zr ZfH (Ze (Zb 5) (Ze (eUn ZbN (Zk 1)) Zn))) Zn))) Zn)))) (Zt (ZT (ZaK (ZG (Zg oIs (Zb 6) (ZZ))) (ZaK (ZG (Zg ZbX (Zb 4) (ZZ))) Zao)) (ZD (ZZ)) ZY) (Zck (Zep (Zb 3) (Zb 6)))))) (ZD (Zb 3)))
def Zjn:=Z5 3 Zjm
def Zjo: PS:=(Zs (ZM 3 (ZbS Zm)) (Zs (ZaN (ZdN (Za 0) (Za 2)) (ZcF 4 5) (Zs (ZM 6 (Zq ZgP (Zd (Za 4) (Zd (Zq ZeR (Zd (Za 1) (Zd (Zq ZeP (Zd (Za 5) (Zd (pUn ZbP (Zj 1)) Zm))) Zm))) Zm)))) (Zs (ZU (ZaM (ZF (Zh qIs (Za 6) (Z0))) (ZaM (ZF (Zh Zbr (Za 4) (Z0))) Zak)) (ZE (Z0)) ZX) (ZcI 3 [] Zas (ZbL (Za 6)))))) (ZE (Za 3))))
def ZgW:=Z7 3 Zjo
theorem ZqI: SimF false Zjn ZgW:=Zac (show S [] [3] [] false Zjm Zjo from(Zx (Zcf (O':=[3]) (E.list Zo)) (Zx (Zbl (Gs.zip (Zc 0) (Zc 2)) PutOk.two (by decide) (by decide) (Zx (ZV (O':=[3]) (ZI Zqh (Zf (Zc 4) (Zf (ZI Zj4 (Zf (Zc 1) (Zf (ZI ZjF (Zf (Zc 5) (Zf (Zb0 Zb1 (Zl _)) Zo))) Zo))) Zo)))) (Zx (Z3 (ZaT (ZL (ZC Zbx (Zc 6) (Z9))) (ZaT (ZL (ZC Zcd (Zc 4) (Z9))) ZaI)) (ZP (Z9)) Z6) (Ziq (O':=[3]) (by decide) ZbA (Za8 (O':=[]) (E.flat (Zc 6))) (by decide) (by decide))))) (ZP (Zc 3)))))
def Zlr: Sm:=Zt (ZT (ZG (Zg oIs (Zb 0) (ZZ))) (ZD (ZZ)) ZY) (Zt (ZK 1 (Zr ZeM (Ze (Zg Zu (Zb 0) (Zk 1)) Zn))) (Zt (ZK 2 (ZaJ (ZdL (Zg Zu (Zb 0) (Zk 0)) (Zb 1)) (Zcl 100 101) Zao (Zr Zjn (Ze (Zb 100) (Ze (Zb 101) (Ze (Zb 1) Zn)))))) (Zt (ZT (ZG (Zg oIn (ZZ) (Zb 2))) (ZD (ZZ)) ZY) (ZD (ZaD (Ze (Zb 2) (Ze (Zg Zu (Zb 0) (Zk 1)) Zn)))))))
def Zls:=Z5 1 Zlr
def ZhF: PS:=(Zs (ZU (ZF (Zh qIs (Za 0) (Z0))) (ZE (Z0)) ZX) (Zs (ZM 1 (Zq ZeN (Zd (Zh Zw (Za 0) (Zj 1)) Zm))) (Zs (ZM 2 (ZaC (ZdN (Zh Zw (Za 0) (Zj 0)) (Za 1)) (ZcF 100 101) Zak (Zq ZgW (Zd (Za 100) (Zd (Za 101) (Zd (Za 1) Zm)))))) (Zs (ZU (ZF (Zh qIn (Z0) (Za 2))) (ZE (Z0)) ZX) (ZE (ZaF (Zd (Za 2) (Zd (Zh Zw (Za 0) (Zj 1)) Zm))))))))
def Ze3:=Z7 1 ZhF
theorem Zsw: SimF false Zls Ze3:=Zac (show S [] [] [] false Zlr ZhF from(Zx (Z3 (ZL (ZC Zbx (Zc 0) (Z9))) (ZP (Z9)) Z6) (Zx (ZV (O':=[]) (ZI Zjl (Zf (ZB ZA (Zc 0) (Zl _)) Zo))) (Zx (ZV (O':=[]) (ZcM (Gs.zip (ZB ZA (Zc 0) (Zl _)) (Zc 1)) PutOk.two (by decide) ZaI (ZI ZqI (Zf (Zc 100) (Zf (Zc 101) (Zf (Zc 1) Zo)))))) (Zx (Z3 (ZL (ZC Zfy (Z9) (Zc 2))) (ZP (Z9)) Z6) (ZP (E.tup (Zf (Zc 2) (Zf (ZB ZA (Zc 0) (Zl _)) Zo)))))))))
def Zmf: Sm:=ZD (Zr Zfp (Ze (Zr Zls (Ze (Zr Zfp (Ze (Zb 0) Zn)) Zn)) Zn))
def Zh0:=Z5 1 Zmf
def Zmg: PS:=(ZE (Zq Zeu (Zd (Zq Ze3 (Zd (Zq Zeu (Zd (Za 0) Zm)) Zm)) Zm)))
def ZdX:=Z7 1 Zmg
theorem Zpq: SimF true Zh0 ZdX:=Zac (show S [] [] [] true Zmf Zmg from(ZaU (Zbo ZpU (Zf (ZI Zsw (Zf (ZI ZpU (Zf (Zc 0) Zo)) Zo)) Zo))))
def ZiC: Sm:=Zt (ZK 1 (Zr ZaH (Ze (Zb 0) Zn))) (Zt (ZK 2 (ZaJ (Zb9 (Zb 0)) (put1 100) Zao (Zr Zcp (Ze (Zb 100) Zn)))) (Zt (ZK 3 (Zk 1)) (Zt (ZcN (ZG (Zg oLt (Zb 3) (Zb 1))) (Zt (ZK 4 (ZaJ (Zb9 (Zb 2)) (put1 102) Zao (Zr Zcp (Ze (Zb 102) Zn)))) (Zt (ZaL (ZaO (Ze (Zb 1) Zn)) (put1 5) (ZaL (ZaO (Ze (Zb 1) Zn)) (put1 6) (ZaL (ZaO (Ze (Zb 1) Zn)) (put1 7) (ZT (ZaK (ZG (Zg ZbX (Zg Zu (Zg Zu (Zb 4) (Zb 5)) (Zb 7)) (ZZ))) (ZaK (ZG (Zg ZbX (Zg Zu (Zg Zu (Zb 4) (Zb 7)) (Zb 6)) (ZZ))) Zao)) (Zt (ZK 8 (Zg Zaf (Zg Zu (Zg Zu (Zb 4) (Zb 5)) (Zb 7)) (Zg Zu (Zg Zu (Zb 4) (Zb 7)) (Zb 6)))) (ZT (tOr (ZG (Zg oIs (Zg Zu (Zg Zu (Zb 2) (Zb 5)) (Zb 6)) (ZZ))) (tOr (ZG (Zg oLt (Zb 8) (Zg Zu (Zg Zu (Zb 2) (Zb 5)) (Zb 6)))) Zb7)) (ZbB (Zb 8) (Zg Zu (Zb 2) (Zb 5)) (Zb 6)) ZY)) ZY)))) (ZK 3 (Zg ZaP (Zk 2) (Zb 3))))) 1000000) (Zt (ZaL (ZaO (Ze (Zb 1) Zn)) (put1 5) (ZT (ZG (Zg oLt (Zg Zu (Zg Zu (Zb 2) (Zb 5)) (Zb 5)) (Zk 0))) (ZD (ZZ)) ZY)) (ZD (Zb 2))))))
def ZgN:=Z5 1 ZiC
def ZiD: PS:=(Zs (ZM 1 (Zq Zax (Zd (Za 0) Zm))) (Zs (ZM 2 (ZaC (ZbF (Za 0)) (Zag 100) Zak (pFl (Zq Zce (Zd (Za 100) Zm))))) (Zs (ZM 3 (Zj 1)) (Zs (Zc1 (ZF (Zh qLt (Za 3) (Za 1))) (Zs (ZM 4 (ZaC (ZbF (Za 2)) (Zag 102) Zak (pFl (Zq Zce (Zd (Za 102) Zm))))) (Zs (ZaN (ZaB (Zd (Za 1) Zm)) (Zag 5) (ZaN (ZaB (Zd (Za 1) Zm)) (Zag 6) (ZaN (ZaB (Zd (Za 1) Zm)) (Zag 7) (ZU (ZaM (ZF (Zh Zbr (Zh Zw (Zh Zw (Za 4) (Za 5)) (Za 7)) (Z0))) (ZaM (ZF (Zh Zbr (Zh Zw (Zh Zw (Za 4) (Za 7)) (Za 6)) (Z0))) Zak)) (Zs (ZM 8 (Zh Zae (Zh Zw (Zh Zw (Za 4) (Za 5)) (Za 7)) (Zh Zw (Zh Zw (Za 4) (Za 7)) (Za 6)))) (ZU (bOr (ZF (Zh qIs (Zh Zw (Zh Zw (Za 2) (Za 5)) (Za 6)) (Z0))) (bOr (ZF (Zh qLt (Za 8) (Zh Zw (Zh Zw (Za 2) (Za 5)) (Za 6)))) ZbY)) (ZaY 2 [] (ZbL (Za 8)) (Zbs Zas (Za 5)) (Za 6)) ZX)) ZX)))) (ZM 3 (Zh ZaE (Zj 2) (Za 3))))) 1000000) (Zs (ZaN (ZaB (Zd (Za 1) Zm)) (Zag 5) (ZU (ZF (Zh qLt (Zh Zw (Zh Zw (Za 2) (Za 5)) (Za 5)) (Zj 0))) (ZE (Z0)) ZX)) (ZE (Za 2)))))))
def ZeL:=Z7 1 ZiD
theorem Zm2: SimF false ZgN ZeL:=Zac (show S [] [2] [] false ZiC ZiD from(Zx (ZV (O':=[]) (Zar ZaX (Zf (Zc 0) Zo))) (Zx (Zcf (O':=[2]) (Zdf (Gs.seq (Zc 0)) PutOk.one (by decide) ZaI (Zeq Zde (Zf (Zc 100) Zo)))) (Zx (ZV (O':=[2]) (Zl _)) (Zx (Zfh (ZL (ZC Zcs (Zc 3) (Zc 1))) (Zx (ZV (O':=[2]) (Za8 (O':=[]) (Zdf (Gs.seq (Zc 2)) PutOk.one (by decide) ZaI (Zeq Zde (Zf (Zc 102) Zo))))) (Zx (Zbl (Gs.range (Zf (Zc 1) Zo)) PutOk.one (by decide) (by decide) (Zbl (Gs.range (Zf (Zc 1) Zo)) PutOk.one (by decide) (by decide) (Zbl (Gs.range (Zf (Zc 1) Zo)) PutOk.one (by decide) (by decide) (Z3 (ZaT (ZL (ZC Zcd (ZB ZA (ZB ZA (Zc 4) (Zc 5)) (Zc 7)) (Z9))) (ZaT (ZL (ZC Zcd (ZB ZA (ZB ZA (Zc 4) (Zc 7)) (Zc 6)) (Z9))) ZaI)) (Zx (ZV (O':=[2]) (Zaa Zaj (ZB ZA (ZB ZA (Zc 4) (Zc 5)) (Zc 7)) (ZB ZA (ZB ZA (Zc 4) (Zc 7)) (Zc 6)))) (Z3 (Za3 (ZL (ZC Zbx (ZB ZA (ZB ZA (Zc 2) (Zc 5)) (Zc 6)) (Z9))) (Za3 (ZL (ZC Zcs (Zc 8) (ZB ZA (ZB ZA (Zc 2) (Zc 5)) (Zc 6)))) Zcv)) (S.put (O':=[2]) (by decide) (Za8 (O':=[]) (E.flat (Zc 8))) (ZdG ZbA (Zc 5)) (Zc 6) (by decide) (by decide)) Z6)) Z6)))) (ZV (O':=[2]) (Zaa Za4 (Zl _) (Zc 3))))) 1000000) (Zx (Zbl (Gs.range (Zf (Zc 1) Zo)) PutOk.one (by decide) (by decide) (Z3 (ZL (ZC Zcs (ZB ZA (ZB ZA (Zc 2) (Zc 5)) (Zc 5)) (Zl _))) (ZP (Z9)) Z6)) (ZP (Zc 2))))))))
def Zlt: Sm:=Zt (ZK 2 (Zg Zu (Zb 0) (Zk 0))) (Zt (ZK 3 (Zg Zu (Zb 1) (Zk 0))) (Zt (ZK 4 (Zk 1)) (Zt (ZK 5 (Zk 0)) (Zt (ZcN (ZG (Zg oNe (Zb 3) (Zk 0))) (Zt (ZK 6 (Zg oDiv (Zb 2) (Zb 3))) (Zt (ZK 7 (Zg Za9 (Zb 2) (Zg ZaP (Zb 6) (Zb 3)))) (Zt (ZK 2 (Zb 3)) (Zt (ZK 3 (Zb 7)) (Zt (ZK 7 (Zg Za9 (Zb 4) (Zg ZaP (Zb 6) (Zb 5)))) (Zt (ZK 4 (Zb 5)) (ZK 5 (Zb 7)))))))) 1000000) (Zt (ZK 8 (Zg Za9 (Zg Zu (Zb 1) (Zk 1)) (Zg Zu (Zb 0) (Zk 1)))) (Zt (ZT (ZG (Zg oEq (Zb 2) (Zk 0))) (Zt (ZT (ZG (Zg oNe (Zb 8) (Zk 0))) (ZD (ZZ)) ZY) (ZD (Zb 0))) ZY) (Zt (ZT (ZG (Zg oNe (Zg oMod (Zb 8) (Zb 2)) (Zk 0))) (ZD (ZZ)) ZY) (ZD (Zr Zdr (Ze (Zg ZaP (Zg oDiv (Zg Zu (Zb 0) (Zk 0)) (Zb 2)) (Zg Zu (Zb 1) (Zk 0))) (Ze (Zg Zaf (Zg Zu (Zb 0) (Zk 1)) (Zg ZaP (Zg ZaP (Zg Zu (Zb 0) (Zk 0)) (Zb 4)) (Zg oDiv (Zb 8) (Zb 2)))) Zn)))))))))))
def ZhG:=Z5 2 Zlt
def Zlu: PS:=(Zs (ZM 2 (Zh Zw (Za 0) (Zj 0))) (Zs (ZM 3 (Zh Zw (Za 1) (Zj 0))) (Zs (ZM 4 (Zj 1)) (Zs (ZM 5 (Zj 0)) (Zs (Zc1 (ZF (Zh qNe (Za 3) (Zj 0))) (Zs (ZM 6 (Zh Zcy (Za 2) (Za 3))) (Zs (ZM 7 (Zh Za6 (Za 2) (Zh ZaE (Za 6) (Za 3)))) (Zs (ZM 2 (Za 3)) (Zs (ZM 3 (Za 7)) (Zs (ZM 7 (Zh Za6 (Za 4) (Zh ZaE (Za 6) (Za 5)))) (Zs (ZM 4 (Za 5)) (ZM 5 (Za 7)))))))) 1000000) (Zs (ZM 8 (Zh Za6 (Zh Zw (Za 1) (Zj 1)) (Zh Zw (Za 0) (Zj 1)))) (Zs (ZU (ZF (Zh qEq (Za 2) (Zj 0))) (Zs (ZU (ZF (Zh qNe (Za 8) (Zj 0))) (ZE (Z0)) ZX) (ZE (Za 0))) ZX) (Zs (ZU (ZF (Zh qNe (Zh ZaQ (Za 8) (Za 2)) (Zj 0))) (ZE (Z0)) ZX) (ZE (Zq Zda (Zd (Zh ZaE (Zh Zcy (Zh Zw (Za 0) (Zj 0)) (Za 2)) (Zh Zw (Za 1) (Zj 0))) (Zd (Zh Zae (Zh Zw (Za 0) (Zj 1)) (Zh ZaE (Zh ZaE (Zh Zw (Za 0) (Zj 0)) (Za 4)) (Zh Zcy (Za 8) (Za 2)))) Zm))))))))))))
def Zf4:=Z7 2 Zlu
theorem Zow: SimF false ZhG Zf4:=Zac (show S [] [] [] false Zlt Zlu from(Zx (ZV (O':=[]) (ZB ZA (Zc 0) (Zl _))) (Zx (ZV (O':=[]) (ZB ZA (Zc 1) (Zl _))) (Zx (ZV (O':=[]) (Zl _)) (Zx (ZV (O':=[]) (Zl _)) (Zx (Zfh (ZL (ZC Zbw (Zc 3) (Zl _))) (Zx (ZV (O':=[]) (ZC Zdn (Zc 2) (Zc 3))) (Zx (ZV (O':=[]) (ZC Zbk (Zc 2) (Zaa Za4 (Zc 6) (Zc 3)))) (Zx (ZV (O':=[]) (Zc 3)) (Zx (ZV (O':=[]) (Zc 7)) (Zx (ZV (O':=[]) (ZC Zbk (Zc 4) (Zaa Za4 (Zc 6) (Zc 5)))) (Zx (ZV (O':=[]) (Zc 5)) (ZV (O':=[]) (Zc 7)))))))) 1000000) (Zx (ZV (O':=[]) (ZC Zbk (ZB ZA (Zc 1) (Zl _)) (ZB ZA (Zc 0) (Zl _)))) (Zx (Z3 (ZL (ZC Zav (Zc 2) (Zl _))) (Zx (Z3 (ZL (ZC Zbw (Zc 8) (Zl _))) (ZP (Z9)) Z6) (ZP (Zc 0))) Z6) (Zx (Z3 (ZL (ZC Zbw (ZC ZaW (Zc 8) (Zc 2)) (Zl _))) (ZP (Z9)) Z6) (ZP (ZI Zec (Zf (Zaa Za4 (ZC Zdn (ZB ZA (Zc 0) (Zl _)) (Zc 2)) (ZB ZA (Zc 1) (Zl _))) (Zf (Zaa Zaj (ZB ZA (Zc 0) (Zl _)) (Zaa Za4 (Zaa Za4 (ZB ZA (Zc 0) (Zl _)) (Zc 4)) (ZC Zdn (Zc 8) (Zc 2)))) Zo)))))))))))))
def ZjJ: Sm:=Zt (ZK 2 (Zg Zaf (ZbZ (Ze (ZaD (Ze (Zk 0) (Ze (Zk 0) Zn))) Zn)) (Zb 1))) (Zt (ZK 3 (Zg Zaf (ZbZ (Ze (ZaD (Ze (Zk 0) (Ze (Zk 0) Zn))) Zn)) (Zb 1))) (Zt (ZaL (ZaO (Ze (Zk 1) (Ze (Zr ZaH (Ze (Zb 2) Zn)) Zn))) (put1 4) (ZaL (ZaO (Ze (Zr ZaH (Ze (Zb 2) Zn)) Zn)) (put1 5) (Zt (ZK 6 (Zg Zu (Zg Zu (Zb 0) (Zb 4)) (Zb 5))) (ZT (ZaK (ZG (Zg oNe (Zb 4) (Zb 5))) (ZaK (ZG (Zg ZbX (Zb 6) (ZZ))) (ZaK (ZG (Zg oEq (Zg Zu (Zg Zu (Zb 0) (Zb 5)) (Zb 4)) (eUn ZbN (Zb 6)))) (ZaK (ZG (Zg ZbX (Zg Zu (Zb 3) (Zb 4)) (ZZ))) Zao)))) (ZbB (Zr ZhG (Ze (Zg Zu (Zb 3) (Zb 4)) (Ze (Zr Zdr (Ze (Zg Zu (Zg Zu (Zb 2) (Zb 5)) (Zk 0)) (Ze (Zg Zaf (Zg Zu (Zg Zu (Zb 2) (Zb 5)) (Zk 1)) (Zb 6)) Zn))) Zn))) (Zb 3) (Zb 4)) ZY)))) (Zt (ZT (ZG (Zg oIn (ZZ) (Zb 3))) (ZD (ZZ)) ZY) (ZD (Zdm (Zb 3) 1)))))
def Zg2:=Z5 2 ZjJ
def ZjK: PS:=(Zs (ZM 2 (Zh Zae (ZbS (Zd (ZaF (Zd (Zj 0) (Zd (Zj 0) Zm))) Zm)) (Za 1))) (Zs (ZM 3 (pFl (Zh Zae (ZbS (Zd (ZaF (Zd (Zj 0) (Zd (Zj 0) Zm))) Zm)) (Za 1)))) (Zs (ZaN (ZaB (Zd (Zj 1) (Zd (Zq Zax (Zd (Za 2) Zm)) Zm))) (Zag 4) (ZaN (ZaB (Zd (Zq Zax (Zd (Za 2) Zm)) Zm)) (Zag 5) (Zs (ZM 6 (Zh Zw (Zh Zw (Za 0) (Za 4)) (Za 5))) (ZU (ZaM (ZF (Zh qNe (Za 4) (Za 5))) (ZaM (ZF (Zh Zbr (Za 6) (Z0))) (ZaM (ZF (Zh qEq (Zh Zw (Zh Zw (Za 0) (Za 5)) (Za 4)) (pUn ZbP (Za 6)))) (ZaM (ZF (Zh Zbr (Zh Zw (Za 3) (Za 4)) (Z0))) Zak)))) (ZaY 3 [] (ZbL (Zq Zf4 (Zd (Zh Zw (Za 3) (Za 4)) (Zd (Zq Zda (Zd (Zh Zw (Zh Zw (Za 2) (Za 5)) (Zj 0)) (Zd (Zh Zae (Zh Zw (Zh Zw (Za 2) (Za 5)) (Zj 1)) (Za 6)) Zm))) Zm)))) Zas (Za 4)) ZX)))) (Zs (ZU (ZF (Zh qIn (Z0) (Za 3))) (ZE (Z0)) ZX) (ZE (Zc4 (Za 3) 1))))))
def ZfI:=Z7 2 ZjK
theorem Znx: SimF false Zg2 ZfI:=Zac (show S [] [3] [] false ZjJ ZjK from(Zx (ZV (O':=[]) (Zaa Zaj (E.list (Zf (E.tup (Zf (Zl _) (Zf (Zl _) Zo))) Zo)) (Zc 1))) (Zx (Zcf (O':=[3]) (Zmv Zaj (E.list (Zf (E.tup (Zf (Zl _) (Zf (Zl _) Zo))) Zo)) (Zc 1))) (Zx (Zbl (Gs.range (Zf (Zl _) (Zf (Zar ZaX (Zf (Zc 2) Zo)) Zo))) PutOk.one (by decide) (by decide) (Zbl (Gs.range (Zf (Zar ZaX (Zf (Zc 2) Zo)) Zo)) PutOk.one (by decide) (by decide) (Zx (ZV (O':=[3]) (ZB ZA (ZB ZA (Zc 0) (Zc 4)) (Zc 5))) (Z3 (ZaT (ZL (ZC Zbw (Zc 4) (Zc 5))) (ZaT (ZL (ZC Zcd (Zc 6) (Z9))) (ZaT (ZL (ZC Zav (ZB ZA (ZB ZA (Zc 0) (Zc 5)) (Zc 4)) (Zb0 Zb1 (Zc 6)))) (ZaT (ZL (ZC Zcd (ZB ZA (Zc 3) (Zc 4)) (Z9))) ZaI)))) (S.put (O':=[3]) (by decide) (Za8 (O':=[]) (E.flat (ZI Zow (Zf (ZB ZA (Zc 3) (Zc 4)) (Zf (ZI Zec (Zf (ZB ZA (ZB ZA (Zc 2) (Zc 5)) (Zl _)) (Zf (Zaa Zaj (ZB ZA (ZB ZA (Zc 2) (Zc 5)) (Zl _)) (Zc 6)) Zo))) Zo))))) ZbA (Zc 4) (by decide) (by decide)) Z6)))) (Zx (Z3 (ZL (ZC Zfy (Z9) (Zc 3))) (ZP (Z9)) Z6) (ZP (Zgp (Zc 3))))))))
def Zjp: Sm:=Zt (ZK 2 (Zg Zaf (ZbZ (Ze (ZaD (Ze (Zk 0) (Ze (Zk 0) Zn))) Zn)) (Zb 1))) (Zt (ZK 3 (ZaJ (Zb9 (Zb 0)) (put1 100) Zao (Zr Zcp (Ze (Zb 100) Zn)))) (Zt (ZaL (ZaO (Ze (Zr ZaH (Ze (Zb 2) Zn)) Zn)) (put1 4) (ZaL (ZaO (Ze (Zr ZaH (Ze (Zb 2) Zn)) Zn)) (put1 5) (Zt (ZK 6 (Zr Ze1 (Ze (Zg Zu (Zg Zu (Zb 2) (Zb 4)) (Zk 0)) (Ze (Zg Zu (Zg Zu (Zb 2) (Zb 5)) (Zk 0)) Zn)))) (Zt (ZK 7 (Zg Za9 (Zg Zu (Zg Zu (Zb 2) (Zb 4)) (Zk 1)) (Zg Zu (Zg Zu (Zb 2) (Zb 5)) (Zk 1)))) (Zt (ZK 8 (Zg Zu (Zg Zu (Zb 0) (Zb 4)) (Zb 5))) (ZT (ZaK (ZG (Zg oNe (Zb 4) (Zb 5))) (ZaK (ZG (Zg oEq (Zb 6) (Zk 0))) Zao)) (Zt (ZT (ZaK (ZG (Zg ZbX (Zb 8) (ZZ))) (ZaK (ZG (Zg oLt (Zb 8) (Zb 7))) Zao)) (ZD (ZZ)) ZY) (ZbB (Zb 7) (Zg Zu (Zb 3) (Zb 4)) (Zb 5))) (ZT (ZaK (ZG (Zg oNe (Zb 4) (Zb 5))) (ZaK (ZG (Zg ZbX (Zb 8) (ZZ))) Zao)) (ZbB (Zg Za9 (Zb 8) (Zg oMod (Zg Za9 (Zb 8) (Zb 7)) (Zb 6))) (Zg Zu (Zb 3) (Zb 4)) (Zb 5)) ZY))))))) (ZD (Zb 3))))
def Zjq:=Z5 2 Zjp
def Zjr: PS:=(Zs (ZM 2 (Zh Zae (ZbS (Zd (ZaF (Zd (Zj 0) (Zd (Zj 0) Zm))) Zm)) (Za 1))) (Zs (ZM 3 (ZaC (ZbF (Za 0)) (Zag 100) Zak (pFl (Zq Zce (Zd (Za 100) Zm))))) (Zs (ZaN (ZaB (Zd (Zq Zax (Zd (Za 2) Zm)) Zm)) (Zag 4) (ZaN (ZaB (Zd (Zq Zax (Zd (Za 2) Zm)) Zm)) (Zag 5) (Zs (ZM 6 (Zq Zel (Zd (Zh Zw (Zh Zw (Za 2) (Za 4)) (Zj 0)) (Zd (Zh Zw (Zh Zw (Za 2) (Za 5)) (Zj 0)) Zm)))) (Zs (ZM 7 (Zh Za6 (Zh Zw (Zh Zw (Za 2) (Za 4)) (Zj 1)) (Zh Zw (Zh Zw (Za 2) (Za 5)) (Zj 1)))) (Zs (ZM 8 (Zh Zw (Zh Zw (Za 0) (Za 4)) (Za 5))) (ZU (ZaM (ZF (Zh qNe (Za 4) (Za 5))) (ZaM (ZF (Zh qEq (Za 6) (Zj 0))) Zak)) (Zs (ZU (ZaM (ZF (Zh Zbr (Za 8) (Z0))) (ZaM (ZF (Zh qLt (Za 8) (Za 7))) Zak)) (ZE (Z0)) ZX) (ZaY 3 [] (ZbL (Za 7)) (Zbs Zas (Za 4)) (Za 5))) (ZU (ZaM (ZF (Zh qNe (Za 4) (Za 5))) (ZaM (ZF (Zh Zbr (Za 8) (Z0))) Zak)) (ZaY 3 [] (Zh Za6 (Za 8) (Zh ZaQ (Zh Za6 (Za 8) (Za 7)) (Za 6))) (Zbs Zas (Za 4)) (Za 5)) ZX))))))) (ZE (Za 3)))))
def ZgX:=Z7 2 Zjr
theorem ZqJ: SimF false Zjq ZgX:=Zac (show S [] [3] [] false Zjp Zjr from(Zx (ZV (O':=[]) (Zaa Zaj (E.list (Zf (E.tup (Zf (Zl _) (Zf (Zl _) Zo))) Zo)) (Zc 1))) (Zx (Zcf (O':=[3]) (Zdf (Gs.seq (Zc 0)) PutOk.one (by decide) ZaI (Zeq Zde (Zf (Zc 100) Zo)))) (Zx (Zbl (Gs.range (Zf (Zar ZaX (Zf (Zc 2) Zo)) Zo)) PutOk.one (by decide) (by decide) (Zbl (Gs.range (Zf (Zar ZaX (Zf (Zc 2) Zo)) Zo)) PutOk.one (by decide) (by decide) (Zx (ZV (O':=[3]) (ZI ZhD (Zf (ZB ZA (ZB ZA (Zc 2) (Zc 4)) (Zl _)) (Zf (ZB ZA (ZB ZA (Zc 2) (Zc 5)) (Zl _)) Zo)))) (Zx (ZV (O':=[3]) (ZC Zbk (ZB ZA (ZB ZA (Zc 2) (Zc 4)) (Zl _)) (ZB ZA (ZB ZA (Zc 2) (Zc 5)) (Zl _)))) (Zx (ZV (O':=[3]) (ZB ZA (ZB ZA (Zc 0) (Zc 4)) (Zc 5))) (Z3 (ZaT (ZL (ZC Zbw (Zc 4) (Zc 5))) (ZaT (ZL (ZC Zav (Zc 6) (Zl _))) ZaI)) (Zx (Z3 (ZaT (ZL (ZC Zcd (Zc 8) (Z9))) (ZaT (ZL (ZC Zcs (Zc 8) (Zc 7))) ZaI)) (ZP (Z9)) Z6) (S.put (O':=[3]) (by decide) (Za8 (O':=[]) (E.flat (Zc 7))) (ZdG ZbA (Zc 4)) (Zc 5) (by decide) (by decide))) (Z3 (ZaT (ZL (ZC Zbw (Zc 4) (Zc 5))) (ZaT (ZL (ZC Zcd (Zc 8) (Z9))) ZaI)) (S.put (O':=[3]) (by decide) (Za8 (O':=[]) (ZC Zbk (Zc 8) (ZC ZaW (ZC Zbk (Zc 8) (Zc 7)) (Zc 6)))) (ZdG ZbA (Zc 4)) (Zc 5) (by decide) (by decide)) Z6))))))) (ZP (Zc 3))))))
def Zkc: Sm:=Zt (ZT (ZG (Zg oIs (Zb 0) (ZZ))) (ZD (ZZ)) ZY) (Zt (ZK 1 (Zr ZgN (Ze (Zg Zu (Zb 0) (Zk 0)) Zn))) (Zt (ZT (ZG (Zg oIs (Zb 1) (ZZ))) (ZD (ZZ)) ZY) (Zt (ZK 2 (Zr Zg2 (Ze (Zb 1) (Ze (Zg Zu (Zb 0) (Zk 1)) Zn)))) (Zt (ZT (ZG (Zg oIs (Zb 2) (ZZ))) (ZD (ZZ)) ZY) (Zt (ZK 1 (Zr Zjq (Ze (Zb 1) (Ze (Zb 2) Zn)))) (Zt (ZT (ZG (Zg oIs (Zb 1) (ZZ))) (ZD (ZZ)) ZY) (Zt (ZK 1 (Zr ZgN (Ze (Zb 1) Zn))) (Zt (ZT (ZG (Zg oIs (Zb 1) (ZZ))) (ZD (ZZ)) ZY) (Zt (ZK 2 (Zr Zg2 (Ze (Zb 1) (Ze (Zb 2) Zn)))) (Zt (ZT (ZG (Zg oIs (Zb 2) (ZZ))) (ZD (ZZ)) ZY) (ZD (ZaD (Ze (Zb 1) (Ze (Zb 2) Zn))))))))))))))
def Zkd:=Z5 1 Zkc
def Zke: PS:=(Zs (ZU (ZF (Zh qIs (Za 0) (Z0))) (ZE (Z0)) ZX) (Zs (ZM 1 (Zq ZeL (Zd (Zh Zw (Za 0) (Zj 0)) Zm))) (Zs (ZU (ZF (Zh qIs (Za 1) (Z0))) (ZE (Z0)) ZX) (Zs (ZM 2 (Zq ZfI (Zd (Za 1) (Zd (Zh Zw (Za 0) (Zj 1)) Zm)))) (Zs (ZU (ZF (Zh qIs (Za 2) (Z0))) (ZE (Z0)) ZX) (Zs (ZM 1 (Zq ZgX (Zd (Za 1) (Zd (Za 2) Zm)))) (Zs (ZU (ZF (Zh qIs (Za 1) (Z0))) (ZE (Z0)) ZX) (Zs (ZM 1 (Zq ZeL (Zd (Za 1) Zm))) (Zs (ZU (ZF (Zh qIs (Za 1) (Z0))) (ZE (Z0)) ZX) (Zs (ZM 2 (Zq ZfI (Zd (Za 1) (Zd (Za 2) Zm)))) (Zs (ZU (ZF (Zh qIs (Za 2) (Z0))) (ZE (Z0)) ZX) (ZE (ZaF (Zd (Za 1) (Zd (Za 2) Zm)))))))))))))))
def Zee:=Z7 1 Zke
theorem Zrr: SimF false Zkd Zee:=Zac (show S [] [] [] false Zkc Zke from(Zx (Z3 (ZL (ZC Zbx (Zc 0) (Z9))) (ZP (Z9)) Z6) (Zx (ZV (O':=[]) (ZI Zm2 (Zf (ZB ZA (Zc 0) (Zl _)) Zo))) (Zx (Z3 (ZL (ZC Zbx (Zc 1) (Z9))) (ZP (Z9)) Z6) (Zx (ZV (O':=[]) (ZI Znx (Zf (Zc 1) (Zf (ZB ZA (Zc 0) (Zl _)) Zo)))) (Zx (Z3 (ZL (ZC Zbx (Zc 2) (Z9))) (ZP (Z9)) Z6) (Zx (ZV (O':=[]) (ZI ZqJ (Zf (Zc 1) (Zf (Zc 2) Zo)))) (Zx (Z3 (ZL (ZC Zbx (Zc 1) (Z9))) (ZP (Z9)) Z6) (Zx (ZV (O':=[]) (ZI Zm2 (Zf (Zc 1) Zo))) (Zx (Z3 (ZL (ZC Zbx (Zc 1) (Z9))) (ZP (Z9)) Z6) (Zx (ZV (O':=[]) (ZI Znx (Zf (Zc 1) (Zf (Zc 2) Zo)))) (Zx (Z3 (ZL (ZC Zbx (Zc 2) (Z9))) (ZP (Z9)) Z6) (ZP (E.tup (Zf (Zc 1) (Zf (Zc 2) Zo))))))))))))))))
def Zkf: Sm:=Zt (ZT (tOr (Zcj (ZG (eIs "tuple" (Zb 0)))) (tOr (ZG (Zg oNe (Zr ZaH (Ze (Zb 0) Zn)) (Zk 2))) (tOr (Zcj (ZG (Zr ZkO (Ze (Zg Zu (Zb 0) (Zk 0)) (Ze (Zg Zaf (Zb 1) (Zk 1)) Zn))))) Zb7))) (ZD (ZbD false)) ZY) (Zt (ZT (tOr (Zcj (ZG (eIs "list" (Zg Zu (Zb 0) (Zk 1))))) (tOr (ZG (Zg oNe (Zr ZaH (Ze (Zg Zu (Zb 0) (Zk 1)) Zn)) (Zb 1))) Zb7)) (ZD (ZbD false)) ZY) (Zt (ZaL (Zb9 (Zg Zu (Zb 0) (Zk 1))) (put1 2) (Zt (ZT (tOr (Zcj (ZG (eIs "tuple" (Zb 2)))) (tOr (ZG (Zg oNe (Zr ZaH (Ze (Zb 2) Zn)) (Zk 2))) Zb7)) (ZD (ZbD false)) ZY) (Zt (ZT (tOr (Zcj (ZG (Zr ZfM (Ze (Zg Zu (Zb 2) (Zk 0)) Zn)))) (tOr (Zcj (ZG (Zr ZfM (Ze (Zg Zu (Zb 2) (Zk 1)) Zn)))) Zb7)) (ZD (ZbD false)) ZY) (ZT (tOr (ZG (Zg oLt (Zg Zu (Zb 2) (Zk 0)) (Zk 0))) (tOr (ZaK (ZG (Zg oGt (Zg Zu (Zb 2) (Zk 0)) (Zk 0))) (ZaK (Zcj (Zgr oLe oLt (Zk 0) (Zg Zu (Zb 2) (Zk 1)) (Zg Zu (Zb 2) (Zk 0)))) Zao)) Zb7)) (ZD (ZbD false)) ZY)))) (ZD (ZbD true))))
def Zkg:=Z5 2 Zkf
def Zkh: PS:=(Zs (ZU (bOr (Zb3 (ZF (pIs "tuple" (Za 0)))) (bOr (ZF (Zh qNe (Zq Zax (Zd (Za 0) Zm)) (Zj 2))) (bOr (Zb3 (ZF (Zq Zhp (Zd (Zh Zw (Za 0) (Zj 0)) (Zd (Zh Zae (Za 1) (Zj 1)) Zm))))) ZbY))) (ZE (Zbc false)) ZX) (Zs (ZU (bOr (Zb3 (ZF (pIs "list" (Zh Zw (Za 0) (Zj 1))))) (bOr (ZF (Zh qNe (Zq Zax (Zd (Zh Zw (Za 0) (Zj 1)) Zm)) (Za 1))) ZbY)) (ZE (Zbc false)) ZX) (Zs (ZaN (ZbF (Zh Zw (Za 0) (Zj 1))) (Zag 2) (Zs (ZU (bOr (Zb3 (ZF (pIs "tuple" (Za 2)))) (bOr (ZF (Zh qNe (Zq Zax (Zd (Za 2) Zm)) (Zj 2))) ZbY)) (ZE (Zbc false)) ZX) (Zs (ZU (bOr (Zb3 (ZF (Zq ZeS (Zd (Zh Zw (Za 2) (Zj 0)) Zm)))) (bOr (Zb3 (ZF (Zq ZeS (Zd (Zh Zw (Za 2) (Zj 1)) Zm)))) ZbY)) (ZE (Zbc false)) ZX) (ZU (bOr (ZF (Zh qLt (Zh Zw (Za 2) (Zj 0)) (Zj 0))) (bOr (ZaM (ZF (Zh qGt (Zh Zw (Za 2) (Zj 0)) (Zj 0))) (ZaM (Zb3 (Zgs qLe qLt (Zj 0) (Zh Zw (Za 2) (Zj 1)) (Zh Zw (Za 2) (Zj 0)))) Zak)) ZbY)) (ZE (Zbc false)) ZX)))) (ZE (Zbc true)))))
def Zhc:=Z7 2 Zkh
theorem Zrs: SimF false Zkg Zhc:=Zac (show S [] [] [] false Zkf Zkh from(Zx (Z3 (Za3 (ZcD (ZL (ZdM (Zc 0)))) (Za3 (ZL (ZC Zbw (Zar ZaX (Zf (Zc 0) Zo)) (Zl _))) (Za3 (ZcD (ZL (ZI ZrO (Zf (ZB ZA (Zc 0) (Zl _)) (Zf (Zaa Zaj (Zc 1) (Zl _)) Zo))))) Zcv))) (ZP (E.bool _)) Z6) (Zx (Z3 (Za3 (ZcD (ZL (ZdM (ZB ZA (Zc 0) (Zl _))))) (Za3 (ZL (ZC Zbw (Zar ZaX (Zf (ZB ZA (Zc 0) (Zl _)) Zo)) (Zc 1))) Zcv)) (ZP (E.bool _)) Z6) (Zx (Zbl (Gs.seq (ZB ZA (Zc 0) (Zl _))) PutOk.one (by decide) (by decide) (Zx (Z3 (Za3 (ZcD (ZL (ZdM (Zc 2)))) (Za3 (ZL (ZC Zbw (Zar ZaX (Zf (Zc 2) Zo)) (Zl _))) Zcv)) (ZP (E.bool _)) Z6) (Zx (Z3 (Za3 (ZcD (ZL (ZI Zka (Zf (ZB ZA (Zc 2) (Zl _)) Zo)))) (Za3 (ZcD (ZL (ZI Zka (Zf (ZB ZA (Zc 2) (Zl _)) Zo)))) Zcv)) (ZP (E.bool _)) Z6) (Z3 (Za3 (ZL (ZC Zcs (ZB ZA (Zc 2) (Zl _)) (Zl _))) (Za3 (ZaT (ZL (ZC ZeH (ZB ZA (Zc 2) (Zl _)) (Zl _))) (ZaT (ZcD (Ztk ZmZ Zcs (Zl _) (ZB ZA (Zc 2) (Zl _)) (ZB ZA (Zc 2) (Zl _)))) ZaI)) Zcv)) (ZP (E.bool _)) Z6)))) (ZP (E.bool _))))))
def ZkS: Sm:=Zt (ZT (ZG (Zg oIs (Zb 1) (ZZ))) (ZD (Zg oIs (Zb 0) (ZZ))) ZY) (ZD (Zc6 (Zr Zkg (Ze (Zb 0) (Ze (Zr ZaH (Ze (Zg Zu (Zb 1) (Zk 1)) Zn)) Zn))) (Zg oEq (Zb 0) (Zb 1))))
def ZkT:=Z5 2 ZkS
def Zhr: PS:=(Zs (ZU (ZF (Zh qIs (Za 1) (Z0))) (ZE (Zh qIs (Za 0) (Z0))) ZX) (ZE ((Zdo (Zq Zhc (Zd (Za 0) (Zd (Zq Zax (Zd (Zh Zw (Za 1) (Zj 1)) Zm)) Zm))) (Zh qEq (Za 0) (Za 1))))))
def Zdx:=Z7 2 Zhr
theorem ZrQ: SimF false ZkT Zdx:=Zac (show S [] [] [] false ZkS Zhr from(Zx (Z3 (ZL (ZC Zbx (Zc 1) (Z9))) (ZP (ZC Zbx (Zc 0) (Z9))) Z6) (ZP ((Zfr (E.sh (ZI Zrs (Zf (Zc 0) (Zf (Zar ZaX (Zf (ZB ZA (Zc 1) (Zl _)) Zo)) Zo)))) (E.sh (ZC Zav (Zc 0) (Zc 1))))))))
def Zmh(F:List V→Hp→Option (V×Hp)): Sm:=Zt (ZT (ZG (eIs "list" (Zb 0))) (ZD (ZaJ (Zb9 (Zb 0)) (put1 100) Zao (Zr F (Ze (Zb 100) Zn)))) ZY) (Zt (ZT (ZG (eIs "tuple" (Zb 0))) (ZD (Zr Zff (Ze (ZaJ (Zb9 (Zb 0)) (put1 102) Zao (Zr F (Ze (Zb 102) Zn))) Zn))) ZY) (ZD (Zb 0)))
def Zfb: Nat→List V→Hp→Option (V×Hp)
 | 0=>fun _ _=>none
 | n+1=>Z5 1 (Zmh (Zfb n))
def Zgl: List V→Hp→Option (V×Hp):=Zfb 9
def Zfi(F:List T→Option T): PS:=(Zs (ZU (ZF (pIs "list" (Za 0))) (ZE (ZaC (ZbF (Za 0)) (Zag 100) Zak (Zq F (Zd (Za 100) Zm)))) ZX) (Zs (ZU (ZF (pIs "tuple" (Za 0))) (ZE (Zq ZhV (Zd (ZaC (ZbF (Za 0)) (Zag 102) Zak (Zq F (Zd (Za 102) Zm))) Zm))) ZX) (ZE (ZbL (Za 0)))))
def Zeo: Nat→List T→Option T
 | 0=>fun _=>none
 | n+1=>Z7 1 (Zfi (Zeo n))
def Zfj: List T→Option T:=Zeo 9
theorem ZlU: ∀n:Nat,SimF true (Zfb n) (Zeo n)
 | 0=>Zor
 | n+1=>Zac (show S [] [] [] true (Zmh (Zfb n)) (Zfi (Zeo n))from(Zx (Z3 (ZL (ZdM (Zc 0))) (ZaU (Zdf (Gs.seq (Zc 0)) PutOk.one (by decide) ZaI (Zbo (ZlU n) (Zf (Zc 100) Zo)))) Z6) (Zx (Z3 (ZL (ZdM (Zc 0))) (ZaU (Zuo Ztl (Zga (Zdf (Gs.seq (Zc 0)) PutOk.one (by decide) ZaI (Zbo (ZlU n) (Zf (Zc 102) Zo))) Zo (by decide) (by decide)))) Z6) (ZaU (E.flat (Zc 0))))))
theorem Zmi: SimF true Zgl Zfj:=ZlU 9
def Zhs: Sm:=ZbB (Zr ZhN (Ze (Zg Zu (Zg Zu (Zb 0) (Zb 1)) (Zb 2)) (Ze (Zb 3) Zn))) (Zg Zu (Zb 0) (Zb 1)) (Zb 2)
def ZfS:=Z5 4 Zhs
def Zob: PS:=(ZaY 0 [] (ZbL (Zq Zgc (Zd (Zh Zw (Zh Zw (Za 0) (Za 1)) (Za 2)) (Zd (Za 3) Zm)))) (Zbs Zas (Za 1)) (Za 2))
def Zht:=ZgL 4 Zob
theorem ZkU: SimM ZfS Zht:=Zmc (show S [0] [0] [0] false Zhs Zob from(S.put (O':=[0]) (by decide) (Za8 (O':=[]) (E.flat (ZI ZoT (Zf (ZB ZA (ZB ZA (Zc 0) (Zc 1)) (Zc 2)) (Zf (Zc 3) Zo))))) (ZdG ZbA (Zc 1)) (Zc 2) (by decide) (by decide))) (by decide) (by unfold Zhs;repeat' first | exact Keep0.next | exact Zlf | exact Keep0.ret | exact Keep0.put | apply Keep0.seq | apply Zlg | exact Keep0.set (by decide))
def Zlv: Sm:=Zt (ZK 3 (Zg Zaf (ZbZ (Ze (Zr ZdR (Ze (Zb 0) (Ze (Zb 1) Zn))) Zn)) (Zg ZaP (ZbZ (Ze (Zk 0) Zn)) (Zb 2)))) (Zt (ZK 4 (Zr Zby (Ze (Zb 0) (Ze (Zb 1) (Ze (Zk 6) Zn))))) (Zt (ZT (tOr (ZG (Zg oEq (Zb 4) (Zk 0))) (tOr (ZG (Zg oEq (Zb 2) (Zk 0))) Zb7)) (ZD (Zb 3)) ZY) (Zt (ZK 5 (Zg Zaf (Zk 1) (Zr Zby (Ze (Zb 0) (Ze (Zg Zaf (Zb 1) (Zk 1)) (Ze (Zb 2) Zn)))))) (Zt (ZT (ZG (Zg oEq (Zb 4) (Zk 1))) (ZbB (Zg Za9 (Zr Zby (Ze (Zb 0) (Ze (Zg Zaf (Zb 1) (Zk 2)) (Ze (Zk 13) Zn)))) (Zk 6)) (Zb 3) (Zb 5)) ZY) (Zt (ZT (tOr (ZG (Zg oEq (Zb 4) (Zk 2))) (tOr (ZG (Zg oEq (Zb 4) (Zk 3))) Zb7)) (Zt (ZK 6 (Zg Zaf (Zk 1) (Zr Zby (Ze (Zb 0) (Ze (Zg Zaf (Zb 1) (Zk 2)) (Ze (Zb 2) Zn)))))) (Zt (ZbB (Zk 1) (Zb 3) (Zb 5)) (ZbB (Zg Za9 (Zg Zu (Zb 3) (Zb 6)) (Zk 1)) (Zb 3) (Zb 6)))) ZY) (Zt (ZT (ZG (Zg oEq (Zb 4) (Zk 4))) (ZaL (ZaO (Ze (Zb 2) Zn)) (put1 7) (ZbB (Zg Za9 (Zr Zby (Ze (Zb 0) (Ze (Zg Zaf (Zg Zaf (Zb 1) (Zk 1)) (Zb 7)) (Ze (Zk 7) Zn)))) (Zk 3)) (Zb 3) (Zg Zaf (Zb 7) (Zk 1)))) ZY) (Zt (ZT (ZG (Zg oEq (Zb 4) (Zk 5))) (ZaL (ZaO (Ze (Zb 2) Zn)) (put1 7) (ZbB (Zg Za9 (Zr Zby (Ze (Zb 0) (Ze (Zg Zaf (Zg Zaf (Zb 1) (Zk 1)) (Zb 7)) (Ze (Zk 2000000001) Zn)))) (Zk 1000000000)) (Zb 3) (Zg Zaf (Zb 7) (Zk 1)))) ZY) (ZD (Zb 3)))))))))
def Zlw:=Z5 3 Zlv
def Zlx: PS:=(Zs (ZM 3 (pFl (Zh Zae (ZbS (Zd (Zq Zdt (Zd (Za 0) (Zd (Za 1) Zm))) Zm)) (Zh ZaE (ZbS (Zd (Zj 0) Zm)) (Za 2))))) (Zs (ZM 4 (Zq Zbf (Zd (Za 0) (Zd (Za 1) (Zd (Zj 6) Zm))))) (Zs (ZU (bOr (ZF (Zh qEq (Za 4) (Zj 0))) (bOr (ZF (Zh qEq (Za 2) (Zj 0))) ZbY)) (ZE (Za 3)) ZX) (Zs (ZM 5 (Zh Zae (Zj 1) (Zq Zbf (Zd (Za 0) (Zd (Zh Zae (Za 1) (Zj 1)) (Zd (Za 2) Zm)))))) (Zs (ZU (ZF (Zh qEq (Za 4) (Zj 1))) (ZaY 3 [] (Zh Za6 (Zq Zbf (Zd (Za 0) (Zd (Zh Zae (Za 1) (Zj 2)) (Zd (Zj 13) Zm)))) (Zj 6)) Zas (Za 5)) ZX) (Zs (ZU (bOr (ZF (Zh qEq (Za 4) (Zj 2))) (bOr (ZF (Zh qEq (Za 4) (Zj 3))) ZbY)) (Zs (ZM 6 (Zh Zae (Zj 1) (Zq Zbf (Zd (Za 0) (Zd (Zh Zae (Za 1) (Zj 2)) (Zd (Za 2) Zm)))))) (Zs (ZaY 3 [] (Zj 1) Zas (Za 5)) (ZaY 3 [] (Zh Za6 (Zh Zw (Za 3) (Za 6)) (Zj 1)) Zas (Za 6)))) ZX) (Zs (ZU (ZF (Zh qEq (Za 4) (Zj 4))) (ZaN (ZaB (Zd (Za 2) Zm)) (Zag 7) (ZaY 3 [] (Zh Za6 (Zq Zbf (Zd (Za 0) (Zd (Zh Zae (Zh Zae (Za 1) (Zj 1)) (Za 7)) (Zd (Zj 7) Zm)))) (Zj 3)) Zas (Zh Zae (Za 7) (Zj 1)))) ZX) (Zs (ZU (ZF (Zh qEq (Za 4) (Zj 5))) (ZaN (ZaB (Zd (Za 2) Zm)) (Zag 7) (ZaY 3 [] (Zh Za6 (Zq Zbf (Zd (Za 0) (Zd (Zh Zae (Zh Zae (Za 1) (Zj 1)) (Za 7)) (Zd (Zj 2000000001) Zm)))) (Zj 1000000000)) Zas (Zh Zae (Za 7) (Zj 1)))) ZX) (ZE (Za 3))))))))))
def ZhH:=Z7 3 Zlx
theorem Zsx: SimF true Zlw ZhH:=Zac (show S [] [3] [] true Zlv Zlx from(Zx (Zcf (O':=[3]) (Zmv Zaj (E.list (Zf (ZI ZeO (Zf (Zc 0) (Zf (Zc 1) Zo))) Zo)) (Zaa Za4 (E.list (Zf (Zl _) Zo)) (Zc 2)))) (Zx (ZV (O':=[3]) (ZI ZbI (Zf (Zc 0) (Zf (Zc 1) (Zf (Zl _) Zo))))) (Zx (Z3 (Za3 (ZL (ZC Zav (Zc 4) (Zl _))) (Za3 (ZL (ZC Zav (Zc 2) (Zl _))) Zcv)) (ZaU (E.own (by decide))) Z6) (Zx (ZV (O':=[3]) (Zaa Zaj (Zl _) (ZI ZbI (Zf (Zc 0) (Zf (Zaa Zaj (Zc 1) (Zl _)) (Zf (Zc 2) Zo)))))) (Zx (Z3 (ZL (ZC Zav (Zc 4) (Zl _))) (S.put (O':=[3]) (by decide) (Za8 (O':=[]) (ZC Zbk (ZI ZbI (Zf (Zc 0) (Zf (Zaa Zaj (Zc 1) (Zl _)) (Zf (Zl _) Zo)))) (Zl _))) ZbA (Zc 5) (by decide) (by decide)) Z6) (Zx (Z3 (Za3 (ZL (ZC Zav (Zc 4) (Zl _))) (Za3 (ZL (ZC Zav (Zc 4) (Zl _))) Zcv)) (Zx (ZV (O':=[3]) (Zaa Zaj (Zl _) (ZI ZbI (Zf (Zc 0) (Zf (Zaa Zaj (Zc 1) (Zl _)) (Zf (Zc 2) Zo)))))) (Zx (S.put (O':=[3]) (by decide) (Za8 (O':=[]) (Zl _)) ZbA (Zc 5) (by decide) (by decide)) (S.put (O':=[3]) (by decide) (Za8 (O':=[]) (ZC Zbk (ZB ZA (Zc 3) (Zc 6)) (Zl _))) ZbA (Zc 6) (by decide) (by decide)))) Z6) (Zx (Z3 (ZL (ZC Zav (Zc 4) (Zl _))) (Zbl (Gs.range (Zf (Zc 2) Zo)) PutOk.one (by decide) (by decide) (S.put (O':=[3]) (by decide) (Za8 (O':=[]) (ZC Zbk (ZI ZbI (Zf (Zc 0) (Zf (Zaa Zaj (Zaa Zaj (Zc 1) (Zl _)) (Zc 7)) (Zf (Zl _) Zo)))) (Zl _))) ZbA (Zaa Zaj (Zc 7) (Zl _)) (by decide) (by decide))) Z6) (Zx (Z3 (ZL (ZC Zav (Zc 4) (Zl _))) (Zbl (Gs.range (Zf (Zc 2) Zo)) PutOk.one (by decide) (by decide) (S.put (O':=[3]) (by decide) (Za8 (O':=[]) (ZC Zbk (ZI ZbI (Zf (Zc 0) (Zf (Zaa Zaj (Zaa Zaj (Zc 1) (Zl _)) (Zc 7)) (Zf (Zl _) Zo)))) (Zl _))) ZbA (Zaa Zaj (Zc 7) (Zl _)) (by decide) (by decide))) Z6) (ZaU (E.own (by decide))))))))))))
def ZiN: Sm:=ZD (Zg oEq (Zr Zgj (Ze (ZaJ (Zb9 (Zdm (Zb 0) 1)) (put1 100) (ZG (Zg oNe (Zb 100) (Zk 0))) (Zb 100)) Zn)) (ZbZ (Ze (eUn ZbN (Zk 1)) (Ze (Zk 1) Zn))))
def ZiO:=Z5 1 ZiN
def Zm8: PS:=(ZE (Zh qEq (Zq Zme (Zd (ZaC (ZbF (Zc4 (Za 0) 1)) (Zag 100) (ZF (Zh qNe (Za 100) (Zj 0))) (Za 100)) Zm)) (ZbS (Zd (pUn ZbP (Zj 1)) (Zd (Zj 1) Zm)))))
def Zm9:=Z7 1 Zm8
theorem Zqi: SimF false ZiO Zm9:=Zac (show S [] [] [] false ZiN Zm8 from(ZP (ZC Zav (ZhS Zto (Zf (ZcM (Gs.seq (Zgp (Zc 0))) PutOk.one (by decide) (ZL (ZC Zbw (Zc 100) (Zl _))) (Zc 100)) Zo)) (E.list (Zf (Zb0 Zb1 (Zl _)) (Zf (Zl _) Zo))))))
def Zi3: Sm:=Zt (ZK 1 (Zg Zu (Zb 0) (Zk 0))) (ZD (ZaJ (ZaO (Ze (Zk 1) (Ze (Zr ZaH (Ze (Zb 1) Zn)) Zn))) (put1 100) Zao (ZaD (Ze (Zr ZeT (Ze (Zg Zu (Zg Zu (Zb 1) (Zk 0)) (Zb 100)) (Ze (eUn ZbN (Zk 1)) Zn))) (Ze (Zg Zu (Zg Zu (Zb 1) (Zb 100)) (Zk 0)) Zn)))))
def Zi4:=Z5 1 Zi3
def Zni: PS:=(Zs (ZM 1 (Zh Zw (Za 0) (Zj 0))) (ZE (ZaC (ZaB (Zd (Zj 1) (Zd (Zq Zax (Zd (Za 1) Zm)) Zm))) (Zag 100) Zak (ZaF (Zd (Zq ZfN (Zd (Zh Zw (Zh Zw (Za 1) (Zj 0)) (Za 100)) (Zd (pUn ZbP (Zj 1)) Zm))) (Zd (Zh Zw (Zh Zw (Za 1) (Za 100)) (Zj 0)) Zm))))))
def Znj:=Z7 1 Zni
theorem Zqt: SimF false Zi4 Znj:=Zac (show S [] [] [] false Zi3 Zni from(Zx (ZV (O':=[]) (ZB ZA (Zc 0) (Zl _))) (ZP (ZcM (Gs.range (Zf (Zl _) (Zf (Zar ZaX (Zf (Zc 1) Zo)) Zo))) PutOk.one (by decide) ZaI (E.tup (Zf (ZI Zhb (Zf (ZB ZA (ZB ZA (Zc 1) (Zl _)) (Zc 100)) (Zf (Zb0 Zb1 (Zl _)) Zo))) (Zf (ZB ZA (ZB ZA (Zc 1) (Zc 100)) (Zl _)) Zo)))))))
def ZkV: Sm:=Zt (ZT (ZG (Zr ZiO (Ze (Zb 1) Zn))) (ZD (Zr ZdU (Ze (Zg Zu (Zg Zu (Zg Zu (Zb 0) (Zk 0)) (Zgu (Zb 1) (Zk 1) (Zk 1))) (Zgu (Zb 1) (eUn ZbN (Zk 1)) (Zk 1))) (Ze (Zg Zu (Zb 1) (Zk 0)) Zn)))) ZY) (ZD (Zg Zu (Zr Zji (Ze (Zb 1) (Ze (Zr Zi4 (Ze (Zb 0) Zn)) Zn))) (Zk 1)))
def ZfT:=Z5 2 ZkV
def Zoc: PS:=(Zs (ZU (ZF (Zq Zm9 (Zd (Za 1) Zm))) (ZE (Zq Zdw (Zd (Zh Zw (Zh Zw (Zh Zw (Za 0) (Zj 0)) (ZmB (Za 1) (Zj 1) (Zj 1))) (ZmB (Za 1) (pUn ZbP (Zj 1)) (Zj 1))) (Zd (Zh Zw (Za 1) (Zj 0)) Zm)))) ZX) (ZE (Zh Zw (Zq Znq (Zd (Za 1) (Zd (Zq Znj (Zd (Za 0) Zm)) Zm))) (Zj 1))))
def Zhu:=Z7 2 Zoc
theorem ZkW: SimF false ZfT Zhu:=Zac (show S [] [] [] false ZkV Zoc from(Zx (Z3 (ZL (ZI Zqi (Zf (Zc 1) Zo))) (ZP (ZI ZeV (Zf (ZB ZA (ZB ZA (ZB ZA (Zc 0) (Zl _)) (E.index (Zc 1) (Zl _) (Zl _))) (E.index (Zc 1) (Zb0 Zb1 (Zl _)) (Zl _))) (Zf (ZB ZA (Zc 1) (Zl _)) Zo)))) Z6) (ZP (ZB ZA (ZI ZqG (Zf (Zc 1) (Zf (ZI Zqt (Zf (Zc 0) Zo)) Zo))) (Zl _)))))
def Zki: Sm:=ZD (ZaJ (Zb9 (Zb 0)) (put1 100) Zao (Zg ZaP (Zb 100) (Zb 1)))
def Zdu:=Z5 2 Zki
def Zkj: PS:=(ZE (ZaC (ZbF (Za 0)) (Zag 100) Zak (Zh ZaE (Za 100) (Za 1))))
def Zdb:=Z7 2 Zkj
theorem Zef: SimF false Zdu Zdb:=Zac (show S [] [] [] false Zki Zkj from(ZP (ZcM (Gs.seq (Zc 0)) PutOk.one (by decide) ZaI (Zaa Za4 (Zc 100) (Zc 1)))))
def Zmj: Sm:=ZD (Zr ZeT (Ze (Zr ZfT (Ze (Zb 0) (Ze (Zr Zdu (Ze (Zb 1) (Ze (eUn ZbN (Zk 1)) Zn))) Zn))) (Ze (eUn ZbN (Zk 1)) Zn)))
def Zmk:=Z5 2 Zmj
def Zpr: PS:=(ZE (Zq ZfN (Zd (Zq Zhu (Zd (Za 0) (Zd (Zq Zdb (Zd (Za 1) (Zd (pUn ZbP (Zj 1)) Zm))) Zm))) (Zd (pUn ZbP (Zj 1)) Zm))))
def Zps:=Z7 2 Zpr
theorem Zuq: SimF false Zmk Zps:=Zac (show S [] [] [] false Zmj Zpr from(ZP (ZI Zhb (Zf (ZI ZkW (Zf (Zc 0) (Zf (ZI Zef (Zf (Zc 1) (Zf (Zb0 Zb1 (Zl _)) Zo))) Zo))) (Zf (Zb0 Zb1 (Zl _)) Zo)))))
def Zkk: Sm:=ZD (Zg Zaf (Zg Zu (Zb 0) (Zk 0)) (Zr ZgF (Ze (ZaJ (ZaO (Ze (Zr ZaH (Ze (Zb 1) Zn)) Zn)) (put1 100) Zao (Zg ZaP (Zg Zu (Zb 0) (Zg Zaf (Zb 100) (Zk 1))) (Zg Zu (Zb 1) (Zb 100)))) Zn)))
def Zkl:=Z5 2 Zkk
def Zkm: PS:=(ZE (Zh Zae (Zh Zw (Za 0) (Zj 0)) (Zq ZiA (Zd (ZaC (ZaB (Zd (Zq Zax (Zd (Za 1) Zm)) Zm)) (Zag 100) Zak (Zh ZaE (Zh Zw (Za 0) (Zh Zae (Za 100) (Zj 1))) (Zh Zw (Za 1) (Za 100)))) Zm))))
def Zhd:=Z7 2 Zkm
theorem Zrt: SimF false Zkl Zhd:=Zac (show S [] [] [] false Zkk Zkm from(ZP (Zaa Zaj (ZB ZA (Zc 0) (Zl _)) (Zar Zv1 (Zf (ZcM (Gs.range (Zf (Zar ZaX (Zf (Zc 1) Zo)) Zo)) PutOk.one (by decide) ZaI (Zaa Za4 (ZB ZA (Zc 0) (Zaa Zaj (Zc 100) (Zl _))) (ZB ZA (Zc 1) (Zc 100)))) Zo)))))
def ZkX: Sm:=ZD (ZaJ (ZdL (Zb 0) (Zb 1)) (Zcl 100 101) Zao (Zg Zaf (Zb 100) (Zb 101)))
def ZkY:=Z5 2 ZkX
def ZkZ: PS:=(ZE (ZaC (ZdN (Za 0) (Za 1)) (ZcF 100 101) Zak (Zh Zae (Za 100) (Za 101))))
def Zhv:=Z7 2 ZkZ
theorem ZrR: SimF false ZkY Zhv:=Zac (show S [] [] [] false ZkX ZkZ from(ZP (ZcM (Gs.zip (Zc 0) (Zc 1)) PutOk.two (by decide) ZaI (Zaa Zaj (Zc 100) (Zc 101)))))
def Zk0: Sm:=ZD (Zr ZkY (Ze (Zb 0) (Ze (Zr Zdu (Ze (Zb 1) (Ze (eUn ZbN (Zk 1)) Zn))) Zn)))
def ZfU:=Z5 2 Zk0
def Zk1: PS:=(ZE (Zq Zhv (Zd (Za 0) (Zd (Zq Zdb (Zd (Za 1) (Zd (pUn ZbP (Zj 1)) Zm))) Zm))))
def ZeX:=Z7 2 Zk1
theorem Zk2: SimF false ZfU ZeX:=Zac (show S [] [] [] false Zk0 Zk1 from(ZP (ZI ZrR (Zf (Zc 0) (Zf (ZI Zef (Zf (Zc 1) (Zf (Zb0 Zb1 (Zl _)) Zo))) Zo)))))
def Zly: Sm:=ZD (ZaJ (ZaO (Ze (Zg Zaf (Zb 1) (Zk 1)) Zn)) (put1 100) Zao (eIf (ZaK (ZG (Zg oGt (Zb 0) (Zk 0))) (ZaK (ZG (Zg oEq (Zb 100) (Zb 0))) Zao)) (Zk 1) (Zk 0)))
def Ze4:=Z5 2 Zly
def Zlz: PS:=(ZE (ZaC (ZaB (Zd (Zh Zae (Za 1) (Zj 1)) Zm)) (Zag 100) Zak (pIf (ZaM (ZF (Zh qGt (Za 0) (Zj 0))) (ZaM (ZF (Zh qEq (Za 100) (Za 0))) Zak)) (Zj 1) (Zj 0))))
def Zem:=Z7 2 Zlz
theorem ZhI: SimF false Ze4 Zem:=Zac (show S [] [] [] false Zly Zlz from(ZP (ZcM (Gs.range (Zf (Zaa Zaj (Zc 1) (Zl _)) Zo)) PutOk.one (by decide) ZaI (Zez (ZaT (ZL (ZC ZeH (Zc 0) (Zl _))) (ZaT (ZL (ZC Zav (Zc 100) (Zc 0))) ZaI)) (E.sh (Zl _)) (E.sh (Zl _))))))
def Zi5: Sm:=Zt (ZK 2 (Zk 0)) (Zt (ZK 3 (Zg Zu (Zb 0) (Zk 0))) (Zt (ZaL (ZaO (Ze (Zr ZaH (Ze (Zb 1) Zn)) Zn)) (put1 4) (Zt (ZK 2 (Zr Ze1 (Ze (Zb 2) (Ze (Zg ZaP (Zg Zu (Zb 0) (Zg Zaf (Zb 4) (Zk 1))) (Zg Zu (Zg Zu (Zb 1) (Zb 4)) (Zk 0))) Zn)))) (ZK 3 (Zg Zaf (Zb 3) (Zg ZaP (Zg Zu (Zb 0) (Zg Zaf (Zb 4) (Zk 1))) (Zg Zu (Zg Zu (Zb 1) (Zb 4)) (Zk 1))))))) (ZD (Zr Zdr (Ze (Zb 2) (Ze (Zb 3) Zn))))))
def ZgS:=Z5 2 Zi5
def Zi6: PS:=(Zs (ZM 2 (Zj 0)) (Zs (ZM 3 (Zh Zw (Za 0) (Zj 0))) (Zs (ZaN (ZaB (Zd (Zq Zax (Zd (Za 1) Zm)) Zm)) (Zag 4) (Zs (ZM 2 (Zq Zel (Zd (Za 2) (Zd (Zh ZaE (Zh Zw (Za 0) (Zh Zae (Za 4) (Zj 1))) (Zh Zw (Zh Zw (Za 1) (Za 4)) (Zj 0))) Zm)))) (ZM 3 (Zh Zae (Za 3) (Zh ZaE (Zh Zw (Za 0) (Zh Zae (Za 4) (Zj 1))) (Zh Zw (Zh Zw (Za 1) (Za 4)) (Zj 1))))))) (ZE (Zq Zda (Zd (Za 2) (Zd (Za 3) Zm)))))))
def Zeb:=Z7 2 Zi6
theorem Znk: SimF false ZgS Zeb:=Zac (show S [] [] [] false Zi5 Zi6 from(Zx (ZV (O':=[]) (Zl _)) (Zx (ZV (O':=[]) (ZB ZA (Zc 0) (Zl _))) (Zx (Zbl (Gs.range (Zf (Zar ZaX (Zf (Zc 1) Zo)) Zo)) PutOk.one (by decide) (by decide) (Zx (ZV (O':=[]) (ZI ZhD (Zf (Zc 2) (Zf (Zaa Za4 (ZB ZA (Zc 0) (Zaa Zaj (Zc 4) (Zl _))) (ZB ZA (ZB ZA (Zc 1) (Zc 4)) (Zl _))) Zo)))) (ZV (O':=[]) (Zaa Zaj (Zc 3) (Zaa Za4 (ZB ZA (Zc 0) (Zaa Zaj (Zc 4) (Zl _))) (ZB ZA (ZB ZA (Zc 1) (Zc 4)) (Zl _))))))) (ZP (ZI Zec (Zf (Zc 2) (Zf (Zc 3) Zo))))))))
def ZjL: Sm:=ZD (Zr ZdU (Ze (Zr ZfT (Ze (Zb 0) (Ze (Zr ZfU (Ze (Zb 1) (Ze (Zb 2) Zn))) Zn))) (Ze (Zb 3) Zn)))
def Zg3:=Z5 4 ZjL
def Zny: PS:=(ZE (Zq Zdw (Zd (Zq Zhu (Zd (Za 0) (Zd (Zq ZeX (Zd (Za 1) (Zd (Za 2) Zm))) Zm))) (Zd (Za 3) Zm))))
def ZjM:=Z7 4 Zny
theorem Znz: SimF false Zg3 ZjM:=Zac (show S [] [] [] false ZjL Zny from(ZP (ZI ZeV (Zf (ZI ZkW (Zf (Zc 0) (Zf (ZI Zk2 (Zf (Zc 1) (Zf (Zc 2) Zo))) Zo))) (Zf (Zc 3) Zo)))))
def ZgY: Sm:=Zt (ZK 4 (Zr ZaH (Ze (Zg Zu (Zb 1) (Zk 1)) Zn))) (ZaL (ZaO (Ze (Zg Zaf (Zb 4) (Zk 1)) Zn)) (put1 5) (ZaL (ZaO (Ze (Zg Zaf (Zb 4) (Zk 1)) Zn)) (put1 6) (Zt (ZK 7 (Zr ZfU (Ze (Zr Ze4 (Ze (Zb 5) (Ze (Zb 4) Zn))) (Ze (Zr Ze4 (Ze (Zb 6) (Ze (Zb 4) Zn))) Zn)))) (Zck (Zr ZfS (Ze (Zb 0) (Ze (Zb 5) (Ze (Zb 6) (Ze (Zr Zg3 (Ze (Zb 1) (Ze (Zb 7) (Ze (Zb 2) (Ze (Zb 3) Zn))))) Zn)))))))))
def Zjs:=Z5 4 ZgY
def Znr: PS:=(Zs (ZM 4 (Zq Zax (Zd (Zh Zw (Za 1) (Zj 1)) Zm))) (ZaN (ZaB (Zd (Zh Zae (Za 4) (Zj 1)) Zm)) (Zag 5) (ZaN (ZaB (Zd (Zh Zae (Za 4) (Zj 1)) Zm)) (Zag 6) (Zs (ZM 7 (Zq ZeX (Zd (Zq Zem (Zd (Za 5) (Zd (Za 4) Zm))) (Zd (Zq Zem (Zd (Za 6) (Zd (Za 4) Zm))) Zm)))) (Zfz 0 Zht (Zd (Za 5) (Zd (Za 6) (Zd (Zq ZjM (Zd (Za 1) (Zd (Za 7) (Zd (Za 2) (Zd (Za 3) Zm))))) Zm))))))))
def Zns:=ZgL 4 Znr
theorem ZqK: SimM Zjs Zns:=Zmc (show S [0] [0] [0] false ZgY Znr from(Zx (ZV (O':=[0]) (Zar ZaX (Zf (ZB ZA (Zc 1) (Zl _)) Zo))) (Zbl (Gs.range (Zf (Zaa Zaj (Zc 4) (Zl _)) Zo)) PutOk.one (by decide) (by decide) (Zbl (Gs.range (Zf (Zaa Zaj (Zc 4) (Zl _)) Zo)) PutOk.one (by decide) (by decide) (Zx (ZV (O':=[0]) (ZI Zk2 (Zf (ZI ZhI (Zf (Zc 5) (Zf (Zc 4) Zo))) (Zf (ZI ZhI (Zf (Zc 6) (Zf (Zc 4) Zo))) Zo)))) (Zgt (O':=[0]) (by decide) ZkU (Zf (Zc 5) (Zf (Zc 6) (Zf (ZI Znz (Zf (Zc 1) (Zf (Zc 7) (Zf (Zc 2) (Zf (Zc 3) Zo))))) Zo))) (by decide) (by decide))))))) (by decide) (by unfold ZgY;repeat' first | exact Keep0.next | exact Zlf | exact Keep0.ret | exact Keep0.put | apply Keep0.seq | apply Zlg | exact Keep0.set (by decide) | apply Zos (Zn7 (by decide)))
def ZjN: Sm:=Zt (ZT (ZG (Zg oIs (Zb 0) (ZZ))) (ZD (ZZ)) ZY) (ZD (Zg oDiv (Zb 0) (Zb 1)))
def Zg4:=Z5 2 ZjN
def ZnA: PS:=(Zs (ZU (ZF (Zh qIs (Za 0) (Z0))) (ZE (Z0)) ZX) (ZE (Zh Zcy (Za 0) (Za 1))))
def ZjO:=Z7 2 ZnA
theorem ZnB: SimF false Zg4 ZjO:=Zac (show S [] [] [] false ZjN ZnA from(Zx (Z3 (ZL (ZC Zbx (Zc 0) (Z9))) (ZP (Z9)) Z6) (ZP (ZC Zdn (Zc 0) (Zc 1)))))
def ZgZ: Sm:=Zt (ZK 4 (Zr ZaH (Ze (Zg Zu (Zb 1) (Zk 1)) Zn))) (ZaL (ZaO (Ze (Zk 1) (Ze (Zg Zaf (Zb 4) (Zk 1)) Zn))) (put1 5) (Zt (ZK 6 (Zg Zu (Zb 2) (Zb 5))) (Zt (ZK 7 (Zr Zg3 (Ze (Zb 1) (Ze (Zr Zdu (Ze (Zr Ze4 (Ze (Zb 5) (Ze (Zb 4) Zn))) (Ze (Zb 6) Zn))) (Ze (Zb 2) (Ze (Zb 3) Zn)))))) (Zt (ZT (ZG (Zg oGt (Zb 6) (Zk 0))) (Zck (Zr ZfS (Ze (Zb 0) (Ze (Zb 5) (Ze (Zk 0) (Ze (Zr Zg4 (Ze (Zb 7) (Ze (Zb 6) Zn))) Zn)))))) ZY) (ZT (ZG (Zg oLt (Zb 6) (Zk 0))) (Zck (Zr ZfS (Ze (Zb 0) (Ze (Zk 0) (Ze (Zb 5) (Ze (Zr Zg4 (Ze (Zb 7) (Ze (eUn ZbN (Zb 6)) Zn))) Zn)))))) ZY)))))
def Zjt:=Z5 4 ZgZ
def Znt: PS:=(Zs (ZM 4 (Zq Zax (Zd (Zh Zw (Za 1) (Zj 1)) Zm))) (ZaN (ZaB (Zd (Zj 1) (Zd (Zh Zae (Za 4) (Zj 1)) Zm))) (Zag 5) (Zs (ZM 6 (Zh Zw (Za 2) (Za 5))) (Zs (ZM 7 (Zq ZjM (Zd (Za 1) (Zd (Zq Zdb (Zd (Zq Zem (Zd (Za 5) (Zd (Za 4) Zm))) (Zd (Za 6) Zm))) (Zd (Za 2) (Zd (Za 3) Zm)))))) (Zs (ZU (ZF (Zh qGt (Za 6) (Zj 0))) (Zfz 0 Zht (Zd (Za 5) (Zd (Zj 0) (Zd (Zq ZjO (Zd (Za 7) (Zd (Za 6) Zm))) Zm)))) ZX) (ZU (ZF (Zh qLt (Za 6) (Zj 0))) (Zfz 0 Zht (Zd (Zj 0) (Zd (Za 5) (Zd (Zq ZjO (Zd (Za 7) (Zd (pUn ZbP (Za 6)) Zm))) Zm)))) ZX))))))
def Znu:=ZgL 4 Znt
theorem ZqL: SimM Zjt Znu:=Zmc (show S [0] [0] [0] false ZgZ Znt from(Zx (ZV (O':=[0]) (Zar ZaX (Zf (ZB ZA (Zc 1) (Zl _)) Zo))) (Zbl (Gs.range (Zf (Zl _) (Zf (Zaa Zaj (Zc 4) (Zl _)) Zo))) PutOk.one (by decide) (by decide) (Zx (ZV (O':=[0]) (ZB ZA (Zc 2) (Zc 5))) (Zx (ZV (O':=[0]) (ZI Znz (Zf (Zc 1) (Zf (ZI Zef (Zf (ZI ZhI (Zf (Zc 5) (Zf (Zc 4) Zo))) (Zf (Zc 6) Zo))) (Zf (Zc 2) (Zf (Zc 3) Zo)))))) (Zx (Z3 (ZL (ZC ZeH (Zc 6) (Zl _))) (Zgt (O':=[0]) (by decide) ZkU (Zf (Zc 5) (Zf (Zl _) (Zf (ZI ZnB (Zf (Zc 7) (Zf (Zc 6) Zo))) Zo))) (by decide) (by decide)) Z6) (Z3 (ZL (ZC Zcs (Zc 6) (Zl _))) (Zgt (O':=[0]) (by decide) ZkU (Zf (Zl _) (Zf (Zc 5) (Zf (ZI ZnB (Zf (Zc 7) (Zf (Zb0 Zb1 (Zc 6)) Zo))) Zo))) (by decide) (by decide)) Z6))))))) (by decide) (by unfold ZgZ;repeat' first | exact Keep0.next | exact Zlf | exact Keep0.ret | exact Keep0.put | apply Keep0.seq | apply Zlg | exact Keep0.set (by decide) | apply Zos (Zn7 (by decide)))
def ZlA: Sm:=Zt (ZT (tOr (ZG (Zg oIs (Zb 0) (ZZ))) (tOr (ZG (Zr Zlq (Ze (Zr Zmk (Ze (Zb 0) (Ze (Zb 1) Zn))) (Ze (Zb 2) Zn)))) Zb7)) (ZD (ZZ)) ZY) (Zt (ZK 3 (Zr Zgl (Ze (Zg Zu (Zb 0) (Zk 0)) Zn))) (Zt (Zck (Zr Zjs (Ze (Zb 3) (Ze (Zb 0) (Ze (Zb 1) (Ze (Zb 2) Zn)))))) (Zt (Zck (Zr Zjt (Ze (Zb 3) (Ze (Zb 0) (Ze (Zb 1) (Ze (Zb 2) Zn)))))) (ZD (Zr Zh0 (Ze (ZaD (Ze (Zb 3) (Ze (Zg Zu (Zb 0) (Zk 1)) Zn))) Zn))))))
def Zen:=Z5 3 ZlA
def Zox: PS:=(Zs (ZU (bOr (ZF (Zh qIs (Za 0) (Z0))) (bOr (ZF (Zq Zou (Zd (Zq Zps (Zd (Za 0) (Zd (Za 1) Zm))) (Zd (Za 2) Zm)))) ZbY)) (ZE (Z0)) ZX) (Zs (ZM 3 (Zq Zfj (Zd (Zh Zw (Za 0) (Zj 0)) Zm))) (Zs (Zfz 3 Zns (Zd (Za 0) (Zd (Za 1) (Zd (Za 2) Zm)))) (Zs (Zfz 3 Znu (Zd (Za 0) (Zd (Za 1) (Zd (Za 2) Zm)))) (ZE (Zq ZdX (Zd (ZaF (Zd (Za 3) (Zd (Zh Zw (Za 0) (Zj 1)) Zm))) Zm)))))))
def Ze5:=Z7 3 Zox
theorem Zf5: SimF true Zen Ze5:=Zac (show S [] [3] [] true ZlA Zox from(Zx (Z3 (Za3 (ZL (ZC Zbx (Zc 0) (Z9))) (Za3 (ZL (ZI Zsv (Zf (ZI Zuq (Zf (Zc 0) (Zf (Zc 1) Zo))) (Zf (Zc 2) Zo)))) Zcv)) (ZaU (Z9)) Z6) (Zx (Zcf (O':=[3]) (Zbo Zmi (Zf (ZB ZA (Zc 0) (Zl _)) Zo))) (Zx (Zgt (O':=[3]) (by decide) ZqK (Zf (Zc 0) (Zf (Zc 1) (Zf (Zc 2) Zo))) (by decide) (by decide)) (Zx (Zgt (O':=[3]) (by decide) ZqL (Zf (Zc 0) (Zf (Zc 1) (Zf (Zc 2) Zo))) (by decide) (by decide)) (ZaU (Zbo Zpq (Zf (E.tup (Zf (Zc 3) (Zf (ZB ZA (Zc 0) (Zl _)) Zo))) Zo))))))))
def ZjP: Sm:=Zt (ZT (ZG (Zb 2)) (ZD (Zr Zen (Ze (Zb 0) (Ze (Zb 1) (Ze (eUn ZbN (Zk 1)) Zn))))) ZY) (ZD (Zr Zen (Ze (Zb 0) (Ze (Zr Zdu (Ze (Zb 1) (Ze (eUn ZbN (Zk 1)) Zn))) (Ze (Zk 0) Zn)))))
def ZjQ:=Z5 3 ZjP
def ZnC: PS:=(Zs (ZU (ZF (Za 2)) (ZE (Zq Ze5 (Zd (Za 0) (Zd (Za 1) (Zd (pUn ZbP (Zj 1)) Zm))))) ZX) (ZE (Zq Ze5 (Zd (Za 0) (Zd (Zq Zdb (Zd (Za 1) (Zd (pUn ZbP (Zj 1)) Zm))) (Zd (Zj 0) Zm))))))
def ZnD:=Z7 3 ZnC
theorem Zq7: SimF true ZjQ ZnD:=Zac (show S [] [] [] true ZjP ZnC from(Zx (Z3 (ZL (Zc 2)) (ZaU (Zbo Zf5 (Zf (Zc 0) (Zf (Zc 1) (Zf (Zb0 Zb1 (Zl _)) Zo))))) Z6) (ZaU (Zbo Zf5 (Zf (Zc 0) (Zf (ZI Zef (Zf (Zc 1) (Zf (Zb0 Zb1 (Zl _)) Zo))) (Zf (Zl _) Zo)))))))
def ZiQ: Sm:=ZD (Zr Zfo (Ze (Zr Zf3 (Ze (Zg Zu (Zb 0) (Zk 0)) (Ze (Zb 1) Zn))) (Ze (Zg Zu (Zb 0) (Zk 1)) Zn)))
def ZgQ:=Z5 2 ZiQ
def ZiR: PS:=(ZE (Zq Zet (Zd (Zq Ze2 (Zd (Zh Zw (Za 0) (Zj 0)) (Zd (Za 1) Zm))) (Zd (Zh Zw (Za 0) (Zj 1)) Zm))))
def ZfB:=Z7 2 ZiR
theorem Zna: SimF false ZgQ ZfB:=Zac (show S [] [] [] false ZiQ ZiR from(ZP (ZI Zie (Zf (ZI Zll (Zf (ZB ZA (Zc 0) (Zl _)) (Zf (Zc 1) Zo))) (Zf (ZB ZA (Zc 0) (Zl _)) Zo)))))
def Zju: Sm:=Zt (ZK 4 (Zg Zu (Zb 1) (Zb 3))) (Zt (ZK 5 (Zg Zu (Zb 0) (Zg Za9 (Zb 3) (Zk 1)))) (Zt (ZT (ZG (Zg oNe (Zr ZcR (Ze (Zb 4) Zn)) (Zk 1))) (ZD (Zb 5)) ZY) (Zt (ZK 6 (Zr ZfU (Ze (Zb 1) (Ze (Zr Zdu (Ze (Zr Ze4 (Ze (Zb 3) (Ze (Zr ZaH (Ze (Zb 0) Zn)) Zn))) (Ze (Zb 4) Zn))) Zn)))) (ZD (Zr Zho (Ze (Zb 5) (Ze (Zr ZgQ (Ze (Zr ZfH (Ze (Zr ZeW (Ze (Zb 6) (Ze (Zb 0) Zn))) (Ze (eUn ZbN (Zb 4)) Zn))) (Ze (Zb 2) Zn))) Zn)))))))
def Zjv:=Z5 4 Zju
def Zjw: PS:=(Zs (ZM 4 (Zh Zw (Za 1) (Za 3))) (Zs (ZM 5 (Zh Zw (Za 0) (Zh Za6 (Za 3) (Zj 1)))) (Zs (ZU (ZF (Zh qNe (Zq ZcS (Zd (Za 4) Zm)) (Zj 1))) (ZE (Za 5)) ZX) (Zs (ZM 6 (Zq ZeX (Zd (Za 1) (Zd (Zq Zdb (Zd (Zq Zem (Zd (Za 3) (Zd (Zq Zax (Zd (Za 0) Zm)) Zm))) (Zd (Za 4) Zm))) Zm)))) (ZE (Zq ZfR (Zd (Za 5) (Zd (Zq ZfB (Zd (Zq ZeP (Zd (Zq Zej (Zd (Za 6) (Zd (Za 0) Zm))) (Zd (pUn ZbP (Za 4)) Zm))) (Zd (Za 2) Zm))) Zm))))))))
def ZfG:=Z7 4 Zjw
theorem ZqM: SimF false Zjv ZfG:=Zac (show S [] [] [] false Zju Zjw from(Zx (ZV (O':=[]) (ZB ZA (Zc 1) (Zc 3))) (Zx (ZV (O':=[]) (ZB ZA (Zc 0) (ZC Zbk (Zc 3) (Zl _)))) (Zx (Z3 (ZL (ZC Zbw (Zar ZdK (Zf (Zc 4) Zo)) (Zl _))) (ZP (Zc 5)) Z6) (Zx (ZV (O':=[]) (ZI Zk2 (Zf (Zc 1) (Zf (ZI Zef (Zf (ZI ZhI (Zf (Zc 3) (Zf (Zar ZaX (Zf (Zc 0) Zo)) Zo))) (Zf (Zc 4) Zo))) Zo)))) (ZP (ZI Zn9 (Zf (Zc 5) (Zf (ZI Zna (Zf (ZI ZjF (Zf (ZI Zhq (Zf (Zc 6) (Zf (Zc 0) Zo))) (Zf (Zb0 Zb1 (Zc 4)) Zo))) (Zf (Zc 2) Zo))) Zo)))))))))
def Zkn: Sm:=Zt (ZT (ZG (Zg oIs (Zb 0) (ZZ))) (ZD (ZZ)) ZY) (Zt (ZK 3 (ZaJ (ZaO (Ze (Zk 1) (Ze (Zr ZaH (Ze (Zb 1) Zn)) Zn))) (put1 100) Zao (Zr Zjv (Ze (Zg Zu (Zb 0) (Zk 1)) (Ze (Zb 1) (Ze (Zb 2) (Ze (Zb 100) Zn))))))) (Zt (ZT (ZG (Zg oIn (ZZ) (Zb 3))) (ZD (ZZ)) ZY) (ZD (Zr Zh0 (Ze (ZaD (Ze (Zg Zu (Zb 0) (Zk 0)) (Ze (Zb 3) Zn))) Zn)))))
def Zhe:=Z5 3 Zkn
def Zko: PS:=(Zs (ZU (ZF (Zh qIs (Za 0) (Z0))) (ZE (Z0)) ZX) (Zs (ZM 3 (ZaC (ZaB (Zd (Zj 1) (Zd (Zq Zax (Zd (Za 1) Zm)) Zm))) (Zag 100) Zak (Zq ZfG (Zd (Zh Zw (Za 0) (Zj 1)) (Zd (Za 1) (Zd (Za 2) (Zd (Za 100) Zm))))))) (Zs (ZU (ZF (Zh qIn (Z0) (Za 3))) (ZE (Z0)) ZX) (ZE (Zq ZdX (Zd (ZaF (Zd (Zh Zw (Za 0) (Zj 0)) (Zd (Za 3) Zm))) Zm))))))
def ZdS:=Z7 3 Zko
theorem ZnQ: SimF true Zhe ZdS:=Zac (show S [] [] [] true Zkn Zko from(Zx (Z3 (ZL (ZC Zbx (Zc 0) (Z9))) (ZaU (Z9)) Z6) (Zx (ZV (O':=[]) (ZcM (Gs.range (Zf (Zl _) (Zf (Zar ZaX (Zf (Zc 1) Zo)) Zo))) PutOk.one (by decide) ZaI (ZI ZqM (Zf (ZB ZA (Zc 0) (Zl _)) (Zf (Zc 1) (Zf (Zc 2) (Zf (Zc 100) Zo))))))) (Zx (Z3 (ZL (ZC Zfy (Z9) (Zc 3))) (ZaU (Z9)) Z6) (ZaU (Zbo Zpq (Zf (E.tup (Zf (ZB ZA (Zc 0) (Zl _)) (Zf (Zc 3) Zo))) Zo)))))))
def Zkp: Sm:=Zt (ZT (Zcj (ZG (Zr Zei (Ze (Zr ZgQ (Ze (Zr ZeW (Ze (Zb 1) (Ze (Zg Zu (Zb 0) (Zk 1)) Zn))) (Ze (Zb 2) Zn))) (Ze (Zk 0) Zn))))) (ZD (ZZ)) ZY) (ZD (Zr Zhe (Ze (Zb 0) (Ze (Zb 1) (Ze (Zb 2) Zn)))))
def Zhf:=Z5 3 Zkp
def Zhg: PS:=(Zs (ZU (Zb3 (ZF (Zq ZdT (Zd (Zq ZfB (Zd (Zq Zej (Zd (Za 1) (Zd (Zh Zw (Za 0) (Zj 1)) Zm))) (Zd (Za 2) Zm))) (Zd (Zj 0) Zm))))) (ZE (Z0)) ZX) (ZE (Zq ZdS (Zd (Za 0) (Zd (Za 1) (Zd (Za 2) Zm))))))
def Zeg:=Z7 3 Zhg
theorem ZnR: SimF true Zhf Zeg:=Zac (show S [] [] [] true Zkp Zhg from(Zx (Z3 (ZcD (ZL (ZI ZfQ (Zf (ZI Zna (Zf (ZI Zhq (Zf (Zc 1) (Zf (ZB ZA (Zc 0) (Zl _)) Zo))) (Zf (Zc 2) Zo))) (Zf (Zl _) Zo))))) (ZaU (Z9)) Z6) (ZaU (Zbo ZnQ (Zf (Zc 0) (Zf (Zc 1) (Zf (Zc 2) Zo)))))))
def ZiS: Sm:=Zt (ZT (ZG (Zr Zjf (Ze (Zr ZeW (Ze (Zb 1) (Ze (Zg Zu (Zb 0) (Zk 1)) Zn))) (Ze (ZaD (Ze (Zb 2) (Ze (Zk 0) Zn))) Zn)))) (ZD (ZZ)) ZY) (Zt (ZT (ZG (Zg oEq (Zb 2) (Zk 2))) (ZD (Zr Zhf (Ze (Zb 0) (Ze (Zg Zaf (ZbZ (Ze (Zg Zaf (Zg Zu (Zb 1) (Zk 0)) (Zk 1)) Zn)) (Zdm (Zb 1) 1)) (Ze (Zk 2) Zn))))) ZY) (ZD (Zr Zgl (Ze (Zb 0) Zn))))
def ZiT:=Z5 3 ZiS
def ZfC: PS:=(Zs (ZU (ZF (Zq ZgV (Zd (Zq Zej (Zd (Za 1) (Zd (Zh Zw (Za 0) (Zj 1)) Zm))) (Zd (ZaF (Zd (Za 2) (Zd (Zj 0) Zm))) Zm)))) (ZE (Z0)) ZX) (Zs (ZU (ZF (Zh qEq (Za 2) (Zj 2))) (ZE (Zq Zeg (Zd (Za 0) (Zd (Zh Zae (ZbS (Zd (Zh Zae (Zh Zw (Za 1) (Zj 0)) (Zj 1)) Zm)) (Zc4 (Za 1) 1)) (Zd (Zj 2) Zm))))) ZX) (ZE (Zq Zfj (Zd (Za 0) Zm)))))
def Zd9:=Z7 3 ZfC
theorem Zqj: SimF true ZiT Zd9:=Zac (show S [] [] [] true ZiS ZfC from(Zx (Z3 (ZL (ZI ZqF (Zf (ZI Zhq (Zf (Zc 1) (Zf (ZB ZA (Zc 0) (Zl _)) Zo))) (Zf (E.tup (Zf (Zc 2) (Zf (Zl _) Zo))) Zo)))) (ZaU (Z9)) Z6) (Zx (Z3 (ZL (ZC Zav (Zc 2) (Zl _))) (ZaU (Zbo ZnR (Zf (Zc 0) (Zf (Zaa Zaj (E.list (Zf (Zaa Zaj (ZB ZA (Zc 1) (Zl _)) (Zl _)) Zo)) (Zgp (Zc 1))) (Zf (Zl _) Zo))))) Z6) (ZaU (Zbo Zmi (Zf (Zc 0) Zo))))))
def Zkq: Sm:=Zt (ZT (Zcj (ZG (Zr Zei (Ze (Zr ZeW (Ze (Zb 1) (Ze (Zg Zu (Zb 0) (Zk 1)) Zn))) (Ze (Zk 0) Zn))))) (ZD (ZZ)) ZY) (Zt (ZK 2 (Zr Zen (Ze (Zr Zen (Ze (Zb 0) (Ze (Zb 1) (Ze (Zk 0) Zn)))) (Ze (Zr Zdu (Ze (Zb 1) (Ze (eUn ZbN (Zk 1)) Zn))) (Ze (Zk 0) Zn))))) (ZD (Zr Zhe (Ze (Zb 2) (Ze (Zb 1) (Ze (Zk 0) Zn))))))
def Zkr:=Z5 2 Zkq
def ZnS: PS:=(Zs (ZU (Zb3 (ZF (Zq ZdT (Zd (Zq Zej (Zd (Za 1) (Zd (Zh Zw (Za 0) (Zj 1)) Zm))) (Zd (Zj 0) Zm))))) (ZE (Z0)) ZX) (Zs (ZM 2 (Zq Ze5 (Zd (Zq Ze5 (Zd (Za 0) (Zd (Za 1) (Zd (Zj 0) Zm)))) (Zd (Zq Zdb (Zd (Za 1) (Zd (pUn ZbP (Zj 1)) Zm))) (Zd (Zj 0) Zm))))) (ZE (Zq ZdS (Zd (Za 2) (Zd (Za 1) (Zd (Zj 0) Zm)))))))
def ZnT:=Z7 2 ZnS
theorem Zru: SimF true Zkr ZnT:=Zac (show S [] [] [] true Zkq ZnS from(Zx (Z3 (ZcD (ZL (ZI ZfQ (Zf (ZI Zhq (Zf (Zc 1) (Zf (ZB ZA (Zc 0) (Zl _)) Zo))) (Zf (Zl _) Zo))))) (ZaU (Z9)) Z6) (Zx (ZV (O':=[]) (ZI Zf5 (Zf (ZI Zf5 (Zf (Zc 0) (Zf (Zc 1) (Zf (Zl _) Zo)))) (Zf (ZI Zef (Zf (Zc 1) (Zf (Zb0 Zb1 (Zl _)) Zo))) (Zf (Zl _) Zo))))) (ZaU (Zbo ZnQ (Zf (Zc 2) (Zf (Zc 1) (Zf (Zl _) Zo))))))))
def Zk3: Sm:=Zt (ZT (ZaK (ZG (Zg ZbX (Zb 0) (ZZ))) (ZaK (ZG (Zr Zg9 (Ze (Zr ZfT (Ze (Zb 0) (Ze (Zb 1) Zn))) (Ze (Zk 0) Zn)))) Zao)) (ZD (Zr Zen (Ze (Zb 0) (Ze (Zb 1) (Ze (eUn ZbN (Zk 1)) Zn))))) ZY) (ZD (Zb 0))
def Zhw:=Z5 2 Zk3
def Zod: PS:=(Zs (ZU (ZaM (ZF (Zh Zbr (Za 0) (Z0))) (ZaM (ZF (Zq ZfK (Zd (Zq Zhu (Zd (Za 0) (Zd (Za 1) Zm))) (Zd (Zj 0) Zm)))) Zak)) (ZE (Zq Ze5 (Zd (Za 0) (Zd (Za 1) (Zd (pUn ZbP (Zj 1)) Zm))))) ZX) (ZE (Za 0)))
def Zk4:=Z7 2 Zod
theorem Zoe: SimF false Zhw Zk4:=Zac (show S [] [] [] false Zk3 Zod from(Zx (Z3 (ZaT (ZL (ZC Zcd (Zc 0) (Z9))) (ZaT (ZL (ZI ZnN (Zf (ZI ZkW (Zf (Zc 0) (Zf (Zc 1) Zo))) (Zf (Zl _) Zo)))) ZaI)) (ZP (ZI Zf5 (Zf (Zc 0) (Zf (Zc 1) (Zf (Zb0 Zb1 (Zl _)) Zo))))) Z6) (ZP (Zc 0))))
def ZiU: Sm:=ZD (Zr Zgl (Ze (Zr Zhw (Ze (Zr Zhw (Ze (Zb 0) (Ze (Zb 1) Zn))) (Ze (Zr Zdu (Ze (Zb 1) (Ze (eUn ZbN (Zk 1)) Zn))) Zn))) Zn))
def ZiV:=Z5 2 ZiU
def Znb: PS:=(ZE (Zq Zfj (Zd (Zq Zk4 (Zd (Zq Zk4 (Zd (Za 0) (Zd (Za 1) Zm))) (Zd (Zq Zdb (Zd (Za 1) (Zd (pUn ZbP (Zj 1)) Zm))) Zm))) Zm)))
def Znc:=Z7 2 Znb
theorem Zqk: SimF true ZiV Znc:=Zac (show S [] [] [] true ZiU Znb from(ZaU (Zbo Zmi (Zf (ZI Zoe (Zf (ZI Zoe (Zf (Zc 0) (Zf (Zc 1) Zo))) (Zf (ZI Zef (Zf (Zc 1) (Zf (Zb0 Zb1 (Zl _)) Zo))) Zo))) Zo))))
def ZmF: Sm:=Zt (ZT (ZG (Zg oIs (Zb 0) (ZZ))) (ZD (ZZ)) ZY) (Zt (ZT (ZG (Zg oEq (Zg Zu (Zb 1) (Zk 0)) (ZeF (Str.ofString "under")))) (ZD (Zr ZjQ (Ze (Zb 0) (Ze (Zg Zu (Zb 1) (Zk 1)) (Ze (Zb 2) Zn))))) ZY) (Zt (ZT (ZG (Zg oEq (Zg Zu (Zb 1) (Zk 0)) (ZeF (Str.ofString "same")))) (ZD (eIf (ZG (Zb 2)) (Zr Zkr (Ze (Zb 0) (Ze (Zg Zu (Zb 1) (Zk 1)) Zn))) (Zr ZiV (Ze (Zb 0) (Ze (Zg Zu (Zb 1) (Zk 1)) Zn))))) ZY) (ZD (eIf (ZG (Zb 2)) (Zr Zhf (Ze (Zb 0) (Ze (Zg Zu (Zb 1) (Zk 1)) (Ze (Zg Zu (Zb 1) (Zk 2)) Zn)))) (Zr ZiT (Ze (Zb 0) (Ze (Zg Zu (Zb 1) (Zk 1)) (Ze (Zg Zu (Zb 1) (Zk 2)) Zn))))))))
def ZmG:=Z5 3 ZmF
def Zii: PS:=(Zs (ZU (ZF (Zh qIs (Za 0) (Z0))) (ZE (Z0)) ZX) (Zs (ZU (ZF (Zh qEq (Zh Zw (Za 1) (Zj 0)) (Zfv (Str.ofString "under")))) (ZE (Zq ZnD (Zd (Za 0) (Zd (Zh Zw (Za 1) (Zj 1)) (Zd (Za 2) Zm))))) ZX) (Zs (ZU (ZF (Zh qEq (Zh Zw (Za 1) (Zj 0)) (Zfv (Str.ofString "same")))) (ZE (pIf (ZF (Za 2)) (Zq ZnT (Zd (Za 0) (Zd (Zh Zw (Za 1) (Zj 1)) Zm))) (Zq Znc (Zd (Za 0) (Zd (Zh Zw (Za 1) (Zj 1)) Zm))))) ZX) (ZE (pIf (ZF (Za 2)) (Zq Zeg (Zd (Za 0) (Zd (Zh Zw (Za 1) (Zj 1)) (Zd (Zh Zw (Za 1) (Zj 2)) Zm)))) (Zq Zd9 (Zd (Za 0) (Zd (Zh Zw (Za 1) (Zj 1)) (Zd (Zh Zw (Za 1) (Zj 2)) Zm)))))))))
def ZdI:=Z7 3 Zii
theorem ZvK: SimF true ZmG ZdI:=Zac (show S [] [] [] true ZmF Zii from(Zx (Z3 (ZL (ZC Zbx (Zc 0) (Z9))) (ZaU (Z9)) Z6) (Zx (Z3 (ZL (ZC Zav (ZB ZA (Zc 1) (Zl _)) (E.str _))) (ZaU (Zbo Zq7 (Zf (Zc 0) (Zf (ZB ZA (Zc 1) (Zl _)) (Zf (Zc 2) Zo))))) Z6) (Zx (Z3 (ZL (ZC Zav (ZB ZA (Zc 1) (Zl _)) (E.str _))) (ZaU (Zez (ZL (Zc 2)) (Zbo Zru (Zf (Zc 0) (Zf (ZB ZA (Zc 1) (Zl _)) Zo))) (Zbo Zqk (Zf (Zc 0) (Zf (ZB ZA (Zc 1) (Zl _)) Zo))))) Z6) (ZaU (Zez (ZL (Zc 2)) (Zbo ZnR (Zf (Zc 0) (Zf (ZB ZA (Zc 1) (Zl _)) (Zf (ZB ZA (Zc 1) (Zl _)) Zo)))) (Zbo Zqj (Zf (Zc 0) (Zf (ZB ZA (Zc 1) (Zl _)) (Zf (ZB ZA (Zc 1) (Zl _)) Zo))))))))))
def Zi7: Sm:=Zt (ZK 3 (Zr Zcp (Ze (Zb 0) Zn))) (Zt (ZbB (Zg Zaf (Zg Zu (Zb 3) (Zb 1)) (Zb 2)) (Zb 3) (Zb 1)) (ZD (Zb 3)))
def ZgT:=Z5 3 Zi7
def ZgU: PS:=(Zs (ZM 3 (pFl (Zq Zce (Zd (Za 0) Zm)))) (Zs (ZaY 3 [] (pFl (Zh Zae (Zh Zw (Za 3) (Za 1)) (Za 2))) Zas (Za 1)) (ZE (Za 3))))
def ZdO:=Z7 3 ZgU
theorem Znl: SimF false ZgT ZdO:=Zac (show S [] [3] [] false Zi7 ZgU from(Zx (Zcf (O':=[3]) (Zeq Zde (Zf (Zc 0) Zo))) (Zx (S.put (O':=[3]) (by decide) (Za8 (O':=[]) (Zmv Zaj (ZB ZA (Zc 3) (Zc 1)) (Zc 2))) ZbA (Zc 1) (by decide) (by decide)) (ZP (Zc 3)))))
def Zi8: Sm:=Zt (ZK 3 (Zr Zcp (Ze (Zg Zu (Zb 0) (Zk 1)) Zn))) (Zt (ZaL (ZaO (Ze (Zk 1) (Ze (Zr ZaH (Ze (Zb 1) Zn)) Zn))) (put1 4) (Zt (ZK 5 (Zg Zu (Zb 1) (Zb 4))) (ZT (tOr (ZG (Zg oEq (Zb 5) (Zk 1))) (tOr (ZG (Zg oEq (Zb 5) (eUn ZbN (Zk 1)))) Zb7)) (Zt (ZK 6 (Zr ZgS (Ze (Zr ZgT (Ze (Zb 1) (Ze (Zb 4) (Ze (eUn ZbN (Zb 5)) Zn)))) (Ze (Zg Zu (Zb 0) (Zk 1)) Zn)))) (Zt (ZK 6 (Zr Zdr (Ze (Zr Ze1 (Ze (Zg Zu (Zb 6) (Zk 0)) (Ze (Zb 2) Zn))) (Ze (Zg ZaP (eUn ZbN (Zb 5)) (Zg Zu (Zb 6) (Zk 1))) Zn)))) (ZbB (Zr ZhG (Ze (Zg Zu (Zb 3) (Zg Za9 (Zb 4) (Zk 1))) (Ze (Zb 6) Zn))) (Zb 3) (Zg Za9 (Zb 4) (Zk 1))))) ZY))) (Zt (ZT (ZG (Zg oIn (ZZ) (Zb 3))) (ZD (ZZ)) ZY) (ZD (Zr Zkd (Ze (ZaD (Ze (Zg Zu (Zb 0) (Zk 0)) (Ze (Zb 3) Zn))) Zn)))))
def Zi9:=Z5 3 Zi8
def Zja: PS:=(Zs (ZM 3 (pFl (Zq Zce (Zd (Zh Zw (Za 0) (Zj 1)) Zm)))) (Zs (ZaN (ZaB (Zd (Zj 1) (Zd (Zq Zax (Zd (Za 1) Zm)) Zm))) (Zag 4) (Zs (ZM 5 (Zh Zw (Za 1) (Za 4))) (ZU (bOr (ZF (Zh qEq (Za 5) (Zj 1))) (bOr (ZF (Zh qEq (Za 5) (pUn ZbP (Zj 1)))) ZbY)) (Zs (ZM 6 (Zq Zeb (Zd (Zq ZdO (Zd (Za 1) (Zd (Za 4) (Zd (pUn ZbP (Za 5)) Zm)))) (Zd (Zh Zw (Za 0) (Zj 1)) Zm)))) (Zs (ZM 6 (Zq Zda (Zd (Zq Zel (Zd (Zh Zw (Za 6) (Zj 0)) (Zd (Za 2) Zm))) (Zd (Zh ZaE (pUn ZbP (Za 5)) (Zh Zw (Za 6) (Zj 1))) Zm)))) (ZaY 3 [] (ZbL (Zq Zf4 (Zd (Zh Zw (Za 3) (Zh Za6 (Za 4) (Zj 1))) (Zd (Za 6) Zm)))) Zas (Zh Za6 (Za 4) (Zj 1))))) ZX))) (Zs (ZU (ZF (Zh qIn (Z0) (Za 3))) (ZE (Z0)) ZX) (ZE (Zq Zee (Zd (ZaF (Zd (Zh Zw (Za 0) (Zj 0)) (Zd (Za 3) Zm))) Zm))))))
def ZdP:=Z7 3 Zja
theorem Zqu: SimF false Zi9 ZdP:=Zac (show S [] [3] [] false Zi8 Zja from(Zx (Zcf (O':=[3]) (Zeq Zde (Zf (ZB ZA (Zc 0) (Zl _)) Zo))) (Zx (Zbl (Gs.range (Zf (Zl _) (Zf (Zar ZaX (Zf (Zc 1) Zo)) Zo))) PutOk.one (by decide) (by decide) (Zx (ZV (O':=[3]) (ZB ZA (Zc 1) (Zc 4))) (Z3 (Za3 (ZL (ZC Zav (Zc 5) (Zl _))) (Za3 (ZL (ZC Zav (Zc 5) (Zb0 Zb1 (Zl _)))) Zcv)) (Zx (ZV (O':=[3]) (ZI Znk (Zf (ZI Znl (Zf (Zc 1) (Zf (Zc 4) (Zf (Zb0 Zb1 (Zc 5)) Zo)))) (Zf (ZB ZA (Zc 0) (Zl _)) Zo)))) (Zx (ZV (O':=[3]) (ZI Zec (Zf (ZI ZhD (Zf (ZB ZA (Zc 6) (Zl _)) (Zf (Zc 2) Zo))) (Zf (Zaa Za4 (Zb0 Zb1 (Zc 5)) (ZB ZA (Zc 6) (Zl _))) Zo)))) (S.put (O':=[3]) (by decide) (Za8 (O':=[]) (E.flat (ZI Zow (Zf (ZB ZA (Zc 3) (ZC Zbk (Zc 4) (Zl _))) (Zf (Zc 6) Zo))))) ZbA (ZC Zbk (Zc 4) (Zl _)) (by decide) (by decide)))) Z6))) (Zx (Z3 (ZL (ZC Zfy (Z9) (Zc 3))) (ZP (Z9)) Z6) (ZP (ZI Zrr (Zf (E.tup (Zf (ZB ZA (Zc 0) (Zl _)) (Zf (Zc 3) Zo))) Zo)))))))
def Zk5(F:List V→Hp→Option (V×Hp)): Sm:=Zt (ZT (ZG (Zg oIs (Zb 0) (ZZ))) (ZD (ZZ)) ZY) (Zt (ZK 4 (Zr ZgS (Ze (Zb 1) (Ze (Zg Zu (Zb 0) (Zk 1)) Zn)))) (Zt (ZT (ZG (Zb 3)) (Zt (ZT (ZG (Zg oNe (Zg oMod (Zg Zu (Zb 4) (Zk 1)) (Zr Ze1 (Ze (Zg Zu (Zb 4) (Zk 0)) (Ze (Zb 2) Zn)))) (Zk 0))) (ZD (ZZ)) ZY) (ZD (Zr Zi9 (Ze (Zb 0) (Ze (Zb 1) (Ze (Zb 2) Zn)))))) ZY) (Zt (ZT (ZaK (ZG (Zg oEq (Zg oMod (Zg Zu (Zb 4) (Zk 0)) (Zb 2)) (Zk 0))) (ZaK (ZG (Zg oEq (Zg oMod (Zg Zu (Zb 4) (Zk 1)) (Zb 2)) (Zk 0))) Zao)) (ZD (ZZ)) ZY) (Zt (ZT (ZG (Zg oEq (Zb 2) (Zk 2))) (ZD (Zr F (Ze (Zb 0) (Ze (Zr ZgT (Ze (Zb 1) (Ze (Zk 0) (Ze (Zk 1) Zn)))) (Ze (Zk 2) (Ze (ZbD true) Zn)))))) ZY) (ZD (Zb 0))))))
def ZeU: Nat→List V→Hp→Option (V×Hp)
 | 0=>fun _ _=>none
 | n+1=>Z5 4 (Zk5 (ZeU n))
def Zk6: List V→Hp→Option (V×Hp):=ZeU 3
def ZfV(F:List T→Option T): PS:=(Zs (ZU (ZF (Zh qIs (Za 0) (Z0))) (ZE (Z0)) ZX) (Zs (ZM 4 (Zq Zeb (Zd (Za 1) (Zd (Zh Zw (Za 0) (Zj 1)) Zm)))) (Zs (ZU (ZF (Za 3)) (Zs (ZU (ZF (Zh qNe (Zh ZaQ (Zh Zw (Za 4) (Zj 1)) (Zq Zel (Zd (Zh Zw (Za 4) (Zj 0)) (Zd (Za 2) Zm)))) (Zj 0))) (ZE (Z0)) ZX) (ZE (Zq ZdP (Zd (Za 0) (Zd (Za 1) (Zd (Za 2) Zm)))))) ZX) (Zs (ZU (ZaM (ZF (Zh qEq (Zh ZaQ (Zh Zw (Za 4) (Zj 0)) (Za 2)) (Zj 0))) (ZaM (ZF (Zh qEq (Zh ZaQ (Zh Zw (Za 4) (Zj 1)) (Za 2)) (Zj 0))) Zak)) (ZE (Z0)) ZX) (Zs (ZU (ZF (Zh qEq (Za 2) (Zj 2))) (ZE (Zq F (Zd (Za 0) (Zd (Zq ZdO (Zd (Za 1) (Zd (Zj 0) (Zd (Zj 1) Zm)))) (Zd (Zj 2) (Zd (Zbc true) Zm)))))) ZX) (ZE (Za 0)))))))
def ZcU: Nat→List T→Option T
 | 0=>fun _=>none
 | n+1=>Z7 4 (ZfV (ZcU n))
def ZdV: List T→Option T:=ZcU 3
theorem ZnU: ∀n:Nat,SimF false (ZeU n) (ZcU n)
 | 0=>Zor
 | n+1=>Zac (show S [] [] [] false (Zk5 (ZeU n)) (ZfV (ZcU n))from(Zx (Z3 (ZL (ZC Zbx (Zc 0) (Z9))) (ZP (Z9)) Z6) (Zx (ZV (O':=[]) (ZI Znk (Zf (Zc 1) (Zf (ZB ZA (Zc 0) (Zl _)) Zo)))) (Zx (Z3 (ZL (Zc 3)) (Zx (Z3 (ZL (ZC Zbw (ZC ZaW (ZB ZA (Zc 4) (Zl _)) (ZI ZhD (Zf (ZB ZA (Zc 4) (Zl _)) (Zf (Zc 2) Zo)))) (Zl _))) (ZP (Z9)) Z6) (ZP (ZI Zqu (Zf (Zc 0) (Zf (Zc 1) (Zf (Zc 2) Zo)))))) Z6) (Zx (Z3 (ZaT (ZL (ZC Zav (ZC ZaW (ZB ZA (Zc 4) (Zl _)) (Zc 2)) (Zl _))) (ZaT (ZL (ZC Zav (ZC ZaW (ZB ZA (Zc 4) (Zl _)) (Zc 2)) (Zl _))) ZaI)) (ZP (Z9)) Z6) (Zx (Z3 (ZL (ZC Zav (Zc 2) (Zl _))) (ZP (ZI (ZnU n) (Zf (Zc 0) (Zf (ZI Znl (Zf (Zc 1) (Zf (Zl _) (Zf (Zl _) Zo)))) (Zf (Zl _) (Zf (E.bool _) Zo)))))) Z6) (ZP (Zc 0))))))))
theorem ZrS: SimF false Zk6 ZdV:=ZnU 3
def ZlV: Sm:=Zt (ZK 1 (Zg Zu (ZbZ (Ze (Zk 0) (Ze (Zk 1) (Ze (Zk 2) (Ze (Zk 1) (Ze (Zk 2) (Ze (Zk 1) (Ze (Zk 2) (Ze (Zk 1) (Ze (Zk 3) Zn)))))))))) (Zr Zby (Ze (Zb 0) (Ze (Zk 0) (Ze (Zk 9) Zn)))))) (Zt (ZK 2 (ZaJ (ZaO (Ze (Zb 1) Zn)) (put1 100) Zao (Zr ZdR (Ze (Zb 0) (Ze (Zg Zaf (Zk 2) (Zb 100)) Zn))))) (Zt (ZK 3 (Zr ZkE (Ze (Zb 0) (Ze (Zk 14) (Ze (Zb 2) Zn))))) (Zt (ZK 4 (Zr Zlw (Ze (Zb 0) (Ze (Zk 8) (Ze (Zb 1) Zn))))) (Zt (ZT (ZG (Zg oGt (Zr Zby (Ze (Zb 0) (Ze (Zk 7) (Ze (Zk 4) Zn)))) (Zk 0))) (ZbB (Zg Za9 (Zg Zaf (Zg Za9 (Zg Zu (Zb 4) (Zk 0)) (Zr Zkl (Ze (Zb 4) (Ze (Zb 2) Zn)))) (Zr Zby (Ze (Zb 0) (Ze (Zk 6) (Ze (Zk 5) Zn))))) (Zk 2)) (Zb 4) (Zk 0)) ZY) (Zt (ZK 5 (Zg Zaf (Zk 1) (Zr Zby (Ze (Zb 0) (Ze (Zk 5) (Ze (Zk 6) Zn)))))) (Zt (ZT (ZG (Zg oEq (Zr Zby (Ze (Zb 0) (Ze (Zk 13) (Ze (Zk 3) Zn)))) (Zk 1))) (ZK 5 (Zr Zin (Ze (Zk 1) (Ze (Zr ZcR (Ze (Zr ZdR (Ze (Zb 0) (Ze (Zk 5) Zn))) Zn)) Zn)))) ZY) (Zt (ZK 6 (ZaD (Ze (ZeF (Str.ofString "even")) (Ze (Zr Zcp (Ze (Zb 4) Zn)) (Ze (Zb 5) Zn))))) (Zt (ZK 7 (Zr Zby (Ze (Zb 0) (Ze (Zk 1) (Ze (Zk 55) Zn))))) (Zt (ZT (ZG (Zg oEq (Zg oMod (Zb 7) (Zk 5)) (Zk 1))) (ZK 3 (Zr ZjB (Ze (Zb 0) (Ze (Zk 40) (Ze (Zb 3) Zn))))) ZY) (Zt (ZT (ZG (Zg oEq (Zg oMod (Zb 7) (Zk 11)) (Zk 4))) (ZK 3 (ZZ)) ZY) (Zt (ZK 8 (Zr Zhm (Ze (Zb 3) Zn))) (Zt (ZaL (Zb9 (ZbZ (Ze (ZbD true) (Ze (ZbD false) Zn)))) (put1 9) (Zt (ZK 10 (Zr ZmG (Ze (Zb 3) (Ze (Zb 6) (Ze (Zb 9) Zn))))) (Zt (ZT (tOr (ZG (Zg oNe (Zg Zu (Zb 6) (Zk 1)) (Zb 4))) (tOr (Zcj (ZG (Zr ZkT (Ze (Zb 10) (Ze (Zr Zk6 (Ze (Zr Zhm (Ze (Zb 8) Zn)) (Ze (Zb 4) (Ze (Zb 5) (Ze (Zb 9) Zn))))) Zn))))) Zb7)) (ZD (ZbD false)) ZY) (Zt (ZT (ZG (Zg ZbX (Zb 10) (ZZ))) (Zt (ZbB (Zk 7) (Zg Zu (Zg Zu (Zb 10) (Zk 0)) (Zk 0)) (Zk 0)) (Zck (Zep (Zg Zu (Zb 10) (Zk 1)) (ZaD (Ze (Zk 7) (Ze (Zk 7) Zn)))))) ZY) (ZT (ZG (Zg oNe (Zb 3) (Zb 8))) (ZD (ZbD false)) ZY))))) (ZD (ZbD true))))))))))))))
def ZoU:=Z5 1 ZlV
def ZlW: PS:=(Zs (ZM 1 (Zh Zw (ZbS (Zd (Zj 0) (Zd (Zj 1) (Zd (Zj 2) (Zd (Zj 1) (Zd (Zj 2) (Zd (Zj 1) (Zd (Zj 2) (Zd (Zj 1) (Zd (Zj 3) Zm)))))))))) (Zq Zbf (Zd (Za 0) (Zd (Zj 0) (Zd (Zj 9) Zm)))))) (Zs (ZM 2 (ZaC (ZaB (Zd (Za 1) Zm)) (Zag 100) Zak (Zq Zdt (Zd (Za 0) (Zd (Zh Zae (Zj 2) (Za 100)) Zm))))) (Zs (ZM 3 (Zq Zhl (Zd (Za 0) (Zd (Zj 14) (Zd (Za 2) Zm))))) (Zs (ZM 4 (Zq ZhH (Zd (Za 0) (Zd (Zj 8) (Zd (Za 1) Zm))))) (Zs (ZU (ZF (Zh qGt (Zq Zbf (Zd (Za 0) (Zd (Zj 7) (Zd (Zj 4) Zm)))) (Zj 0))) (ZaY 4 [] (Zh Za6 (Zh Zae (Zh Za6 (Zh Zw (Za 4) (Zj 0)) (Zq Zhd (Zd (Za 4) (Zd (Za 2) Zm)))) (Zq Zbf (Zd (Za 0) (Zd (Zj 6) (Zd (Zj 5) Zm))))) (Zj 2)) Zas (Zj 0)) ZX) (Zs (ZM 5 (Zh Zae (Zj 1) (Zq Zbf (Zd (Za 0) (Zd (Zj 5) (Zd (Zj 6) Zm)))))) (Zs (ZU (ZF (Zh qEq (Zq Zbf (Zd (Za 0) (Zd (Zj 13) (Zd (Zj 3) Zm)))) (Zj 1))) (ZM 5 (Zq Zip (Zd (Zj 1) (Zd (Zq ZcS (Zd (Zq Zdt (Zd (Za 0) (Zd (Zj 5) Zm))) Zm)) Zm)))) ZX) (Zs (ZM 6 (ZaF (Zd (Zfv (Str.ofString "even")) (Zd (Zq Zce (Zd (Za 4) Zm)) (Zd (Za 5) Zm))))) (Zs (ZM 7 (Zq Zbf (Zd (Za 0) (Zd (Zj 1) (Zd (Zj 55) Zm))))) (Zs (ZU (ZF (Zh qEq (Zh ZaQ (Za 7) (Zj 5)) (Zj 1))) (ZM 3 (Zq Zg0 (Zd (Za 0) (Zd (Zj 40) (Zd (Za 3) Zm))))) ZX) (Zs (ZU (ZF (Zh qEq (Zh ZaQ (Za 7) (Zj 11)) (Zj 4))) (ZM 3 (Z0)) ZX) (Zs (ZM 8 (Zq ZcV (Zd (Za 3) Zm))) (Zs (ZaN (ZbF (ZbS (Zd (Zbc true) (Zd (Zbc false) Zm)))) (Zag 9) (Zs (ZM 10 (Zq ZdI (Zd (Za 3) (Zd (Za 6) (Zd (Za 9) Zm))))) (Zs (ZU (bOr (ZF (Zh qNe (Zh Zw (Za 6) (Zj 1)) (Za 4))) (bOr (Zb3 (ZF (Zq Zdx (Zd (Za 10) (Zd (Zq ZdV (Zd (Zq ZcV (Zd (Za 8) Zm)) (Zd (Za 4) (Zd (Za 5) (Zd (Za 9) Zm))))) Zm))))) ZbY)) (ZE (Zbc false)) ZX) (Zs (ZU (ZF (Zh Zbr (Za 10) (Z0))) (Zs (ZaY 10 [] (Zj 7) (Zbs (Zbs Zas (Zj 0)) (Zj 0)) (Zj 0)) (ZcI 10 [] (Zbs Zas (Zj 1)) (ZaF (Zd (Zj 7) (Zd (Zj 7) Zm))))) ZX) (ZU (ZF (Zh qNe (Za 3) (Za 8))) (ZE (Zbc false)) ZX))))) (ZE (Zbc true)))))))))))))))
def ZlX:=Z7 1 ZlW
theorem Ztq: SimF false ZoU ZlX:=Zac (show S [] [] [] false ZlV ZlW from(Zx (ZV (O':=[]) (ZB ZA (E.list (Zf (Zl _) (Zf (Zl _) (Zf (Zl _) (Zf (Zl _) (Zf (Zl _) (Zf (Zl _) (Zf (Zl _) (Zf (Zl _) (Zf (Zl _) Zo)))))))))) (ZI ZbI (Zf (Zc 0) (Zf (Zl _) (Zf (Zl _) Zo)))))) (Zx (ZV (O':=[]) (ZcM (Gs.range (Zf (Zc 1) Zo)) PutOk.one (by decide) ZaI (ZI ZeO (Zf (Zc 0) (Zf (Zaa Zaj (Zl _) (Zc 100)) Zo))))) (Zx (ZV (O':=[]) (ZI ZrN (Zf (Zc 0) (Zf (Zl _) (Zf (Zc 2) Zo))))) (Zx (Zcf (O':=[4]) (Zbo Zsx (Zf (Zc 0) (Zf (Zl _) (Zf (Zc 1) Zo))))) (Zx (Z3 (ZL (ZC ZeH (ZI ZbI (Zf (Zc 0) (Zf (Zl _) (Zf (Zl _) Zo)))) (Zl _))) (S.put (O':=[4]) (by decide) (Za8 (O':=[]) (ZC Zbk (Zaa Zaj (ZC Zbk (ZB ZA (Zc 4) (Zl _)) (ZI Zrt (Zf (Zc 4) (Zf (Zc 2) Zo)))) (ZI ZbI (Zf (Zc 0) (Zf (Zl _) (Zf (Zl _) Zo))))) (Zl _))) ZbA (Zl _) (by decide) (by decide)) Z6) (Zx (ZV (O':=[4]) (Zaa Zaj (Zl _) (ZI ZbI (Zf (Zc 0) (Zf (Zl _) (Zf (Zl _) Zo)))))) (Zx (Z3 (ZL (ZC Zav (ZI ZbI (Zf (Zc 0) (Zf (Zl _) (Zf (Zl _) Zo)))) (Zl _))) (ZV (O':=[4]) (Zar Zvb (Zf (Zl _) (Zf (Zar ZdK (Zf (ZI ZeO (Zf (Zc 0) (Zf (Zl _) Zo))) Zo)) Zo)))) Z6) (Zx (ZV (O':=[]) (E.tup (Zf (E.str _) (Zf (ZhS Zde (Zf (Zc 4) Zo)) (Zf (Zc 5) Zo))))) (Zx (ZV (O':=[]) (ZI ZbI (Zf (Zc 0) (Zf (Zl _) (Zf (Zl _) Zo))))) (Zx (Z3 (ZL (ZC Zav (ZC ZaW (Zc 7) (Zl _)) (Zl _))) (ZV (O':=[]) (ZI Zq5 (Zf (Zc 0) (Zf (Zl _) (Zf (Zc 3) Zo))))) Z6) (Zx (Z3 (ZL (ZC Zav (ZC ZaW (Zc 7) (Zl _)) (Zl _))) (ZV (O':=[]) (Z9)) Z6) (Zx (ZV (O':=[]) (ZI Zn8 (Zf (Zc 3) Zo))) (Zx (Zbl (Gs.seq (E.list (Zf (E.bool _) (Zf (E.bool _) Zo)))) PutOk.one (by decide) (by decide) (Zvd (O1:=[10]) (Zx (Zcf (O':=[10]) (Zbo ZvK (Zf (Zc 3) (Zf (Zc 6) (Zf (Zc 9) Zo))))) (Zx (Z3 (Za3 (ZL (ZC Zbw (ZB ZA (Zc 6) (Zl _)) (Zc 4))) (Za3 (ZcD (ZL (ZI ZrQ (Zf (Zc 10) (Zf (ZI ZrS (Zf (ZI Zn8 (Zf (Zc 8) Zo)) (Zf (Zc 4) (Zf (Zc 5) (Zf (Zc 9) Zo))))) Zo))))) Zcv)) (ZP (E.bool _)) Z6) (Zx (Z3 (ZL (ZC Zcd (Zc 10) (Z9))) (Zx (S.put (O':=[10]) (by decide) (Za8 (O':=[]) (Zl _)) (ZdG (ZdG ZbA (Zl _)) (Zl _)) (Zl _) (by decide) (by decide)) (Ziq (O':=[10]) (by decide) (ZdG ZbA (Zl _)) (Za8 (O':=[]) (E.tup (Zga (Zl _) (Zga (Zl _) Zo (by decide) (by decide)) (by decide) (by decide)))) (by decide) (by decide))) Z6) (Z3 (ZL (ZC Zbw (Zc 3) (Zc 8))) (ZP (E.bool _)) Z6)))) (by decide))) (ZP (E.bool _))))))))))))))))
end L
end
section
open PySem PySem.W PyProof.Rows PM TM My
local macro_rules | `(tactic| tm_at "r")=>`(tactic| assumption)
local macro_rules | `(tactic| tm_at "r")=>`(tactic| exact rfl)
local macro_rules | `(tactic| tm_at "r")=>`(tactic| ((with_reducible apply Ztd);decide;tm_at "r"))
local macro_rules | `(tactic| tm_at "r")=>`(tactic| ((with_reducible apply Zui);decide;tm_at "r"))
local macro_rules | `(tactic| tm_at "r")=>`(tactic| with_reducible exact ZcW)
local macro_rules | `(tactic| tm_at "r")=>`(tactic| with_reducible assumption)
local macro_rules|`(tactic|walk_at "r")=>`(tactic|first | tm_at "r" | fail)
local macro_rules | `(tactic| tm_at "y")=>`(tactic| (simp only[Bool.not_eq_true',Bool.not_eq_false',decide_eq_true_eq,decide_eq_false_iff_not,beq_iff_eq,beq_eq_false_iff_ne,ne_eq,Bool.not_true,Bool.not_false,not_false_eq_true,not_true_eq_false,bne_iff_ne,Decidable.not_not,List.length_map] <;> first | done | omega | assumption))
local macro_rules | `(tactic| tm_at "y")=>`(tactic| (with_reducible assumption))
local macro_rules | `(tactic| tm_at "y")=>`(tactic| rfl)
local macro_rules|`(tactic|walk_at "y")=>`(tactic|first | tm_at "y" | fail)
local macro_rules | `(tactic| tm_at "f")=>`(tactic| exact Zn5 fun i hi=>by(first | rfl | exact Zmb | exact ZhM))
local macro_rules | `(tactic| tm_at "f")=>`(tactic| exact ZhM)
local macro_rules | `(tactic| tm_at "f")=>`(tactic| exact Zmb)
local macro_rules | `(tactic| tm_at "f")=>`(tactic| rfl)
local macro_rules|`(tactic|walk_at "f")=>`(tactic|first | tm_at "f" | fail)
local macro_rules | `(tactic| tm_at "o")=>`(tactic| ((with_reducible apply Zvv);(first | decide | omega)))
local macro_rules | `(tactic| tm_at "o")=>`(tactic| with_reducible refine ZvD ?_)
local macro_rules | `(tactic| tm_at "o")=>`(tactic| with_reducible refine tk_all ?_)
local macro_rules | `(tactic| tm_at "o")=>`(tactic| with_reducible refine Zub ?_)
local macro_rules | `(tactic| tm_at "o")=>`(tactic| with_reducible refine tk_list1t ?_)
local macro_rules | `(tactic| tm_at "o")=>`(tactic| with_reducible refine Zs7 ?_)
local macro_rules | `(tactic| tm_at "o")=>`(tactic| ((with_reducible apply Zph);omega))
local macro_rules | `(tactic| tm_at "o")=>`(tactic| ((with_reducible apply ZhZ);(first | decide | omega);rfl))
local macro_rules | `(tactic| tm_at "o")=>`(tactic| ((with_reducible apply Zua);(first | decide | omega);rfl))
local macro_rules | `(tactic| tm_at "o")=>`(tactic| ((with_reducible apply Zt9);(first | decide | omega);(first | decide | omega)))
local macro_rules | `(tactic| tm_at "o")=>`(tactic| ((with_reducible apply Zt8);(first | assumption | omega)))
local macro_rules | `(tactic| tm_at "o")=>`(tactic| with_reducible refine Zt7 ?_)
local macro_rules | `(tactic| tm_at "o")=>`(tactic| with_reducible refine ZvC ?_)
local macro_rules | `(tactic| tm_at "o")=>`(tactic| with_reducible refine Zt6 ?_)
local macro_rules | `(tactic| tm_at "o")=>`(tactic| with_reducible refine Zt5 ?_)
local macro_rules | `(tactic| tm_at "o")=>`(tactic| with_reducible refine tk_notl ?_)
local macro_rules | `(tactic| tm_at "o")=>`(tactic| with_reducible refine Zt4 ?_)
local macro_rules | `(tactic| tm_at "o")=>`(tactic| with_reducible refine Zt3 ?_)
local macro_rules | `(tactic| tm_at "o")=>`(tactic| with_reducible refine ZvB ?_)
local macro_rules | `(tactic| tm_at "o")=>`(tactic| with_reducible refine ZvA ?_)
local macro_rules | `(tactic| tm_at "o")=>`(tactic| with_reducible refine Zvz ?_)
local macro_rules | `(tactic| tm_at "o")=>`(tactic| with_reducible refine Zvy ?_)
local macro_rules | `(tactic| tm_at "o")=>`(tactic| with_reducible refine tk_neb ?_)
local macro_rules | `(tactic| tm_at "o")=>`(tactic| with_reducible refine tk_eqb ?_)
local macro_rules | `(tactic| tm_at "o")=>`(tactic| with_reducible refine Zwc ?_)
local macro_rules | `(tactic| tm_at "o")=>`(tactic| with_reducible refine Zwb ?_)
local macro_rules | `(tactic| tm_at "o")=>`(tactic| with_reducible refine tk_min ?_)
local macro_rules | `(tactic| tm_at "o")=>`(tactic| with_reducible refine Zvx ?_)
local macro_rules | `(tactic| tm_at "o")=>`(tactic| with_reducible refine Zvw ?_)
local macro_rules | `(tactic| tm_at "o")=>`(tactic| with_reducible refine tk_ge ?_)
local macro_rules | `(tactic| tm_at "o")=>`(tactic| with_reducible refine Zwa ?_)
local macro_rules | `(tactic| tm_at "o")=>`(tactic| with_reducible refine Zv9 ?_)
local macro_rules | `(tactic| tm_at "o")=>`(tactic| with_reducible refine Zv8 ?_)
local macro_rules | `(tactic| tm_at "o")=>`(tactic| with_reducible refine Zvu ?_)
local macro_rules | `(tactic| tm_at "o")=>`(tactic| with_reducible refine Zvt ?_)
local macro_rules | `(tactic| tm_at "o")=>`(tactic| with_reducible refine Zmz ?_)
local macro_rules|`(tactic|walk_at "o")=>`(tactic|first | tm_at "o" | fail)
local macro_rules | `(tactic| tm_at "1")=>`(tactic| tm_at "o")
local macro_rules | `(tactic| tm_at "1")=>`(tactic| ((with_reducible apply Ztc);tm_at "r";(first | assumption | omega);(first | assumption | omega)))
local macro_rules | `(tactic| tm_at "1")=>`(tactic| ((with_reducible apply Ztb);tm_at "r";(first | assumption | omega)))
local macro_rules | `(tactic| tm_at "1")=>`(tactic| ((with_reducible apply Zuf);tm_at "r";(first | (rw[Zat];omega) | (simp;done))))
local macro_rules | `(tactic| tm_at "1")=>`(tactic| ((with_reducible apply Zue);tm_at "r";(first | (rw[Zat];omega) | (simp;done))))
local macro_rules | `(tactic| tm_at "1")=>`(tactic| with_reducible refine Zuh ?_)
local macro_rules | `(tactic| tm_at "1")=>`(tactic| with_reducible refine ZvF ?_)
local macro_rules | `(tactic| tm_at "1")=>`(tactic| with_reducible refine Zug ?_)
local macro_rules | `(tactic| tm_at "1")=>`(tactic| with_reducible refine ZvE ?_)
local macro_rules | `(tactic| tm_at "1")=>`(tactic| with_reducible refine Zi.mn ?_)
local macro_rules | `(tactic| tm_at "1")=>`(tactic| with_reducible refine Zi.eq ?_)
local macro_rules | `(tactic| tm_at "1")=>`(tactic| with_reducible refine Ztm ?_)
local macro_rules | `(tactic| tm_at "1")=>`(tactic| with_reducible refine Zun ?_)
local macro_rules | `(tactic| tm_at "1")=>`(tactic| with_reducible refine Zum ?_)
local macro_rules | `(tactic| tm_at "1")=>`(tactic| with_reducible refine ZpQ ?_)
local macro_rules | `(tactic| tm_at "1")=>`(tactic| ((with_reducible apply Rn.one);omega))
local macro_rules | `(tactic| tm_at "1")=>`(tactic| with_reducible refine Zta ?_)
local macro_rules | `(tactic| tm_at "1")=>`(tactic| with_reducible refine Sq.tup ?_)
local macro_rules | `(tactic| tm_at "1")=>`(tactic| with_reducible refine Sq.lst ?_)
local macro_rules | `(tactic| tm_at "1")=>`(tactic| with_reducible refine Zl5 ?_)
local macro_rules|`(tactic|tm_at "1")=>`(tactic|(refine And.intro (show T.flatIn _ = true by walk_at "f") ?_))
local macro_rules|`(tactic|tm_at "1")=>`(tactic|(refine And.intro (show T.flat _ = true by walk_at "f") ?_))
local macro_rules | `(tactic| tm_at "1")=>`(tactic| ((with_reducible apply ZpO);rfl))
local macro_rules | `(tactic| tm_at "1")=>`(tactic| ((with_reducible apply Zvs);tm_at "y"))
local macro_rules | `(tactic| tm_at "1")=>`(tactic| ((with_reducible apply Zvr);tm_at "y"))
local macro_rules | `(tactic| tm_at "1")=>`(tactic| ((with_reducible apply Zvi);tm_at "r"))
local macro_rules | `(tactic| tm_at "1")=>`(tactic| with_reducible refine Zvh ?_)
local macro_rules | `(tactic| tm_at "1")=>`(tactic| with_reducible refine ZtU ?_)
local macro_rules | `(tactic| tm_at "1")=>`(tactic| with_reducible refine Zvg ?_)
local macro_rules | `(tactic| tm_at "1")=>`(tactic| with_reducible refine Zvf ?_)
local macro_rules | `(tactic| tm_at "1")=>`(tactic| with_reducible refine Zmy ?_)
local macro_rules | `(tactic| tm_at "1")=>`(tactic| with_reducible refine Zfm ?_)
local macro_rules | `(tactic| tm_at "1")=>`(tactic| with_reducible refine tk_exp ?_)
local macro_rules | `(tactic| tm_at "1")=>`(tactic| with_reducible refine Zmx ?_)
local macro_rules | `(tactic| tm_at "1")=>`(tactic| with_reducible refine Zvq ?_)
local macro_rules | `(tactic| tm_at "1")=>`(tactic| with_reducible refine Zt2 ?_)
local macro_rules | `(tactic| tm_at "1")=>`(tactic| with_reducible refine tk_truth_n ?_)
local macro_rules | `(tactic| tm_at "1")=>`(tactic| with_reducible refine ZrK ?_)
local macro_rules | `(tactic| tm_at "1")=>`(tactic| with_reducible refine Zvp ?_)
local macro_rules | `(tactic| tm_at "1")=>`(tactic| with_reducible refine Zt1 ?_)
local macro_rules | `(tactic| tm_at "1")=>`(tactic| with_reducible refine Zs6 ?_)
local macro_rules | `(tactic| tm_at "1")=>`(tactic| with_reducible refine Zt0 ?_)
local macro_rules | `(tactic| tm_at "1")=>`(tactic| with_reducible refine ZtZ ?_)
local macro_rules | `(tactic| tm_at "1")=>`(tactic| with_reducible refine Zvo ?_)
local macro_rules | `(tactic| tm_at "1")=>`(tactic| with_reducible refine Zv7 ?_)
local macro_rules | `(tactic| tm_at "1")=>`(tactic| with_reducible refine Zv6 ?_)
local macro_rules | `(tactic| tm_at "1")=>`(tactic| with_reducible refine Zvn ?_)
local macro_rules | `(tactic| tm_at "1")=>`(tactic| with_reducible refine Zvm ?_)
local macro_rules | `(tactic| tm_at "1")=>`(tactic| with_reducible refine Zv5 ?_)
local macro_rules | `(tactic| tm_at "1")=>`(tactic| with_reducible refine Zv4 ?_)
local macro_rules | `(tactic| tm_at "1")=>`(tactic| with_reducible refine ZtY ?_)
local macro_rules | `(tactic| tm_at "1")=>`(tactic| with_reducible refine ZtV ?_)
local macro_rules | `(tactic| tm_at "1")=>`(tactic| with_reducible refine ZtX ?_)
local macro_rules | `(tactic| tm_at "1")=>`(tactic| with_reducible refine Zvl ?_)
local macro_rules | `(tactic| tm_at "1")=>`(tactic| with_reducible refine Zvk ?_)
local macro_rules | `(tactic| tm_at "1")=>`(tactic| with_reducible refine ZtW ?_)
local macro_rules | `(tactic| tm_at "1")=>`(tactic| with_reducible refine Zv3 ?_)
local macro_rules | `(tactic| tm_at "1")=>`(tactic| with_reducible refine Zvj ?_)
local macro_rules|`(tactic|walk_at "1")=>`(tactic|first | tm_at "1" | fail)
local macro_rules|`(tactic|walk_at "z")=>`(tactic|repeat' (first | tm_at "1" | fail))
namespace L
open PySem PySem.W PyProof.Rows PM TM My
variable {a v:Option Int} {K K' M M' b d m r top y:Int} {ns:List Int} {i j k k' n t:Nat} {c x:Nat→Int} {A B D F G G2:Nat→Nat→Option Int} {σ:TL} {f g:PE} {Q:T→Prop} {R R' R2 S:Nat→Int×Int} {p q:Int×Int} {β:Type} {o:Option (Int×Int)} {done done':Nat→Nat→Nat→Prop} {N:TL→Prop} {T0:T}
section
variable {Q:T→Prop}
theorem Zwr(h:Q (.int T9)): Pk (Zc7 (.int 10) (.int 9)) Q:=by
 have:=ZvZ []
 simp only[oPow]at this
 split at this
 ·rename_i hc
  refine⟨_,by simp only[Zc7];rw[if_pos hc],?_⟩
  simp only[Option.some.injEq,Prod.mk.injEq,V.int.injEq,and_true]at this
  rw[this];exact h
 ·cases this
theorem Zwf(h:Q (.int T40)): Pk (Zc7 (.int 10) (.int 40)) Q:=by
 have:=Zva []
 simp only[oPow]at this
 split at this
 ·rename_i hc
  refine⟨_,by simp only[Zc7];rw[if_pos hc],?_⟩
  simp only[Option.some.injEq,Prod.mk.injEq,V.int.injEq,and_true]at this
  rw[this];exact h
 ·cases this
theorem Zwg(h:Q (.int M9)): Pk (Zc7 (.int 48271) (.int 9)) Q:=by
 have:=Zu9 []
 simp only[oPow]at this
 split at this
 ·rename_i hc
  refine⟨_,by simp only[Zc7];rw[if_pos hc],?_⟩
  simp only[Option.some.injEq,Prod.mk.injEq,V.int.injEq,and_true]at this
  rw[this];exact h
 ·cases this
theorem ZdB{a:Int}(h1:-(2 ^ 64)<b)(h2:b<2 ^ 64)(h:Q (.int (a*b))): Pk (ZaE (.int a) (.int b)) Q:=ZbK (Zso h1 h2) h
theorem Zpt{a:Int}(h1:-(2 ^ 64)<a)(h2:a<2 ^ 64)(h:Q (.int (a*b))): Pk (ZaE (.int a) (.int b)) Q:=ZbK (ZrJ h1 h2) h
end
noncomputable def scr(ns:List Int): T:=.lst (ns.map T.int)
def Lay(ns:List Int): Prop:=PyData.layable0 (.list (ns.map .int))=true
noncomputable def Zcg(ns:List Int)(k:Int): Int:=k*k*7919+11+(if 0<ns.length then cellAt ns (k.fmod ns.length) 0 else 0)
theorem ZoV{k:Int}(h0:0≤k)(h9:k≤10000): ZfJ [scr ns,.int k]=some (.int (Zcg ns k)):=by
 apply Pk.eq
 unfold ZfJ ZjW Zcg scr
 by_cases hl:0<ns.length
 ·have a:=Int.fmod_nonneg_of_pos k (show(0:Int)<ns.length by omega)
  have b:=Int.fmod_lt_of_pos k (show(0:Int)<ns.length by omega)
  have e:(ns.map T.int).length=ns.length:=by simp
  walk_at "z"
  refine ZdB (by omega) (by omega) ?_
  walk_at "z"
  refine ZdB (by omega) (by omega) ?_
  walk_at "z"
  refine ZhZ (t:=.int (cellAt ns (k.fmod ns.length) 0)) (by rw[e];omega) ?_ ?_
  ·rw[e,List.getElem?_map,List.getElem?_eq_getElem (by omega),cellAt_def]
   simp only[Option.map_some,T.int.injEq,Option.some.injEq]
   rw[List.getD_eq_getElem?_getD,List.getElem?_eq_getElem (by omega)]
   rfl
  walk_at "z"
  rw[if_pos hl]
 ·walk_at "z"
  refine ZdB (by omega) (by omega) ?_
  walk_at "z"
  refine ZdB (by omega) (by omega) ?_
  walk_at "z"
  rw[if_neg hl]
  simp
theorem ZrT{k:Int}(hL:Lay ns)(h0:0≤k)(h9:k≤10000): Builtin.Int.intBits (Zcg ns k)≤2 ^ 21:=by
 unfold Zcg
 have h1:0≤k*k:=Int.mul_nonneg h0 h0
 have h2:k*k≤10000*10000:=Int.mul_le_mul h9 h9 h0 (by decide)
 have hb:Builtin.Int.intBits (k*k*7919+11)≤2 ^ 20:=Nat.le_trans (intBits_le_64 (by omega) (by omega)) (by decide)
 have hc:Builtin.Int.intBits (if 0<ns.length then cellAt ns (k.fmod ns.length) 0 else 0)≤2 ^ 20:=by
  split
  ·exact(cell_at hL _).bits
  ·exact bits_zero
 exact Nat.le_trans (PM.Zs3 hb hc) (by decide)
noncomputable def Zbd(ns:List Int)(k many:Int): Int:=((Zcg ns k*48271).fmod 2147483647).fmod many
theorem ZbV(ns:List Int)(k:Int){many:Int}(h:0<many): 0≤Zbd ns k many∧Zbd ns k many<many:=⟨Int.fmod_nonneg_of_pos _ h,Int.fmod_lt_of_pos _ h⟩
theorem ZbR{k many:Int}(h0:0≤k)(h9:k≤10000)(hm:0<many): Zbf [scr ns,.int k,.int many]=some (.int (Zbd ns k many)):=by
 apply Pk.eq
 unfold Zbf Zkz
 walk_at "z"
 refine ZQ (ZoV h0 h9) ?_
 walk_at "z"
 refine ZdB (by decide) (by decide) ?_
 walk_at "z"
 rfl
noncomputable def ZdJ(ns:List Int)(k:Int): Int:=[3,9,T9,T40].getD (((Zcg ns k*69621).fmod 2147483629).fmod 4).toNat 0
theorem ZoW(ns:List Int)(k:Int): 0<ZdJ ns k∧ZdJ ns k≤T40:=by
 unfold ZdJ
 have a:=Int.fmod_nonneg_of_pos ((Zcg ns k*69621).fmod 2147483629) (show(0:Int)<4 by decide)
 have b:=Int.fmod_lt_of_pos ((Zcg ns k*69621).fmod 2147483629) (show(0:Int)<4 by decide)
 generalize ((Zcg ns k*69621).fmod 2147483629).fmod 4=i at a b
 have h9:=T9_eq
 have h40:=Zh7
 have:i=0∨i=1∨i=2∨i=3:=by omega
 obtain rfl | rfl | rfl | rfl:=this
 ·show 0<3∧3≤T40;omega
 ·show 0<9∧9≤T40;omega
 ·show 0<T9∧T9≤T40;omega
 ·show 0<T40∧T40≤T40;omega
noncomputable def ZbT(ns:List Int)(k:Int): Int:=(Zcg ns k*M9).fmod (2*ZdJ ns k+1)-ZdJ ns k
theorem ZpV(ns:List Int)(k:Int): -T40≤ZbT ns k∧ZbT ns k≤T40:=by
 obtain⟨a,b⟩:=ZoW ns k
 have h1:=Int.fmod_nonneg_of_pos (Zcg ns k*M9) (show 0<2*ZdJ ns k+1 by omega)
 have h2:=Int.fmod_lt_of_pos (Zcg ns k*M9) (show 0<2*ZdJ ns k+1 by omega)
 unfold ZbT
 omega
theorem Ze6{k:Int}(hL:Lay ns)(h0:0≤k)(h9:k≤10000): Zdt [scr ns,.int k]=some (.int (ZbT ns k)):=by
 apply Pk.eq
 unfold Zdt Zjz
 have hb:=ZoM (ZrT hL h0 h9) ZtS
 obtain⟨r0,r1⟩:=ZoW ns k
 have a:=Int.fmod_nonneg_of_pos ((Zcg ns k*69621).fmod 2147483629) (show(0:Int)<4 by decide)
 have b:=Int.fmod_lt_of_pos ((Zcg ns k*69621).fmod 2147483629) (show(0:Int)<4 by decide)
 walk_at "z"
 refine ZQ (ZoV h0 h9) ?_
 walk_at "z"
 refine Zwr ?_
 walk_at "z"
 refine Zwf ?_
 walk_at "z"
 refine ZdB (by decide) (by decide) ?_
 walk_at "z"
 refine ZhZ (t:=.int (ZdJ ns k)) (by omega) ?_ ?_
 ·unfold ZdJ
  have:(((Zcg ns k*69621).fmod 2147483629).fmod 4).toNat<4:=by omega
  generalize (((Zcg ns k*69621).fmod 2147483629).fmod 4).toNat=i at this
  match i,this with
  | 0,_=>rfl
  | 1,_=>rfl
  | 2,_=>rfl
  | 3,_=>rfl
 walk_at "z"
 refine Zwg ?_
 walk_at "z"
 refine ZbK hb ?_
 walk_at "z"
 refine Zpt (by decide) (by decide) ?_
 walk_at "z"
 rfl
noncomputable def ZaZ(a:Int): Int:=if a<0 then -a else a
theorem Zdh(a:Int): 0≤ZaZ a:=by unfold ZaZ;split <;> omega
noncomputable def Zc2(ns:List Int)(k:Int): Option Int:=
 if(Zbd ns k 42).fmod 6<2 then none else if(Zbd ns k 42).fmod 6<4 then some 0 else if(Zbd ns k 42).fmod 6=4 then some ((Zbd ns k 42).fdiv 6)else some (ZaZ (ZbT ns k))
theorem Ztr(ns:List Int)(k:Int){c:Int}(h:Zc2 ns k=some c): 0≤c∧c≤T40:=by
 have h40:=Zh7
 unfold Zc2 at h
 split at h
 ·cases h
 ·split at h
  ·cases h;omega
  ·split at h
   ·cases h
    obtain⟨p0,p1⟩:=ZbV ns k (show(0:Int)<42 by decide)
    rw[Int.fdiv_eq_ediv_of_nonneg _ (by decide)]
    omega
   ·cases h
    have:=ZpV ns k
    have:=Zdh (ZbT ns k)
    unfold ZaZ at *
    split at * <;> omega
theorem Zoy{a:Int}(h0:0≤b)(h1:b<2 ^ 30): Builtin.divisionGoesByPylong a b=false:=PyProof.noPylong_small (by omega)
theorem Zts{k:Int}(hL:Lay ns)(h0:0≤k)(h9:k≤10000): Zg8 [scr ns,.int k]=some (oT (Zc2 ns k)):=by
 apply Pk.eq
 unfold Zg8 ZjZ Zc2
 obtain⟨p0,p1⟩:=ZbV ns k (show(0:Int)<42 by decide)
 walk_at "z"
 refine ZQ (ZbR h0 h9 (by decide)) ?_
 walk_at "z"
 refine⟨fun c=>?_,fun c=>?_⟩
 ·walk_at "z"
  rw[if_pos (by simpa using c)];rfl
 rw[if_neg (by simpa using c)]
 walk_at "z"
 refine⟨fun c=>?_,fun c=>?_⟩
 ·walk_at "z"
  rw[if_pos (by simpa using c)];rfl
 rw[if_neg (by simpa using c)]
 walk_at "z"
 refine⟨fun c=>?_,fun c=>?_⟩
 ·walk_at "z"
  refine ZdH (by decide) (Zoy (by decide) (by decide)) ?_
  rw[if_pos (by simpa using c)];rfl
 rw[if_neg (by simpa using c)]
 walk_at "z"
 refine ZQ (Ze6 hL h0 h9) ?_
 walk_at "z"
 rfl
def RestOk(q:Int×Int): Prop:=q.1=0∨(0<q.1∧0≤q.2∧q.2<q.1)
noncomputable def Zap(m r:Int): Int×Int:=if m=0 then(0,r)else(m,r.fmod m)
theorem Zca(h:0≤m)(r:Int): RestOk (Zap m r):=by
 unfold RestOk Zap
 split
 ·exact .inl rfl
 ·exact .inr ⟨by show 0<m;omega,Int.fmod_nonneg_of_pos _ (by omega),Int.fmod_lt_of_pos _ (by omega)⟩
theorem Zek: Zda [.int m,.int r]=some (ZW (Zap m r)):=by
 apply Pk.eq
 unfold Zda Zjd Zap
 by_cases c:m=0
 ·walk_at "z"
  rw[if_pos c];rfl
 ·walk_at "z"
  rw[if_neg c];rfl
noncomputable def Zd3(ns:List Int)(k x:Int): Int×Int:=
 if(Zbd ns k 60).fmod 5<2 then(1,0)else if(Zbd ns k 60).fmod 5=2 then(0,x)else if(Zbd ns k 60).fmod 5=3 then Zap ((Zbd ns k 60).fdiv 5+1) x else Zap (ZaZ (ZbT ns k)) x
def Zal(q:Int×Int)(x:Int): Prop:=(q.1=0→x=q.2)∧(0<q.1→(x-q.2).emod q.1=0)
theorem ZoX(ns:List Int)(k:Int): 0≤(Zbd ns k 60).fdiv 5∧(Zbd ns k 60).fdiv 5<12:=by
 obtain⟨p0,p1⟩:=ZbV ns k (show(0:Int)<60 by decide)
 rw[Int.fdiv_eq_ediv_of_nonneg _ (by decide)]
 omega
theorem Ztt(ns:List Int)(k x:Int): RestOk (Zd3 ns k x):=by
 have:=ZoX ns k
 unfold Zd3
 split
 ·exact .inr ⟨by decide,by decide,by decide⟩
 ·split
  ·exact .inl rfl
  ·split
   ·exact Zca (by omega) x
   ·exact Zca (Zdh _) x
theorem Zur{k x:Int}(hL:Lay ns)(h0:0≤k)(h9:k≤10000): Zhk [scr ns,.int k,.int x]=some (ZW (Zd3 ns k x)):=by
 apply Pk.eq
 unfold Zhk ZkC Zd3
 obtain⟨p0,p1⟩:=ZbV ns k (show(0:Int)<60 by decide)
 walk_at "z"
 refine ZQ (ZbR h0 h9 (by decide)) ?_
 walk_at "z"
 refine⟨fun c=>?_,fun c=>?_⟩
 ·walk_at "z"
  rw[if_pos (by simpa using c)];rfl
 rw[if_neg (by simpa using c)]
 walk_at "z"
 refine⟨fun c=>?_,fun c=>?_⟩
 ·walk_at "z"
  rw[if_pos (by simpa using c)];rfl
 rw[if_neg (by simpa using c)]
 walk_at "z"
 refine⟨fun c=>?_,fun c=>?_⟩
 ·walk_at "z"
  refine ZdH (by decide) (Zoy (by decide) (by decide)) ?_
  walk_at "z"
  refine ZQ Zek ?_
  rw[if_pos (by simpa using c)]
 rw[if_neg (by simpa using c)]
 walk_at "z"
 refine ZQ (Ze6 hL h0 h9) ?_
 walk_at "z"
 exact ZQ Zek rfl
noncomputable def Za5(x:Nat→Int): Nat→Int:=cn 0 x
theorem ZvL(x:Nat→Int): cn (T.int 0) (fun i=>T.int (x i))=fun i=>T.int (Za5 x i):=by
 funext i;cases i <;> rfl
noncomputable def Zci(ns:List Int)(k:Int)(n:Nat)(x:Nat→Int)(i j:Nat): Option Int:=if j=i then some 0 else(Zc2 ns (k+i*(n+1:Nat)+j)).map fun c=>Za5 x i-Za5 x j+c
noncomputable def Zfs(ns:List Int)(k:Int)(n:Nat)(x:Nat→Int)(t:Nat): Int×Int:=Zd3 ns (k+(n+1:Nat)*(n+1:Nat)+t) (x t)
theorem ZrU(ns:List Int)(k:Int)(n:Nat)(x:Nat→Int)(i:Nat): Zci ns k n x i i=some 0:=by simp[Zci]
theorem Ztu(ns:List Int)(k:Int)(n:Nat)(x:Nat→Int)(i:Nat): (fun j=>if j=i then T.int 0 else oT ((Zc2 ns (k+i*(n+1:Nat)+j)).map fun c=>Za5 x i-Za5 x j+c))=fun j=>oT (Zci ns k n x i j):=by
 funext j
 unfold Zci
 split <;> rfl
theorem Zus{k:Int}(hL:Lay ns)(h0:0≤k)(h9:k≤1000)(hn:n≤9): Zhl [scr ns,.int k,ZiB n x]=some (Z2 n (Zci ns k n x) (Zfs ns k n x)):=by
 apply Pk.eq
 unfold Zhl ZkF ZiB
 have hq:((n+1:Nat):Int)*((n+1:Nat):Int)≤10*10:=Int.mul_le_mul (by omega) (by omega) (by omega) (by decide)
 have hq0:(0:Int)≤((n+1:Nat):Int)*((n+1:Nat):Int):=Int.mul_nonneg (by omega) (by omega)
 walk_at "z"
 rw[ZvL]
 refine Zb8 (n:=n+1) (a:=fun i=>.int i) (P:=fun i σ=>σ 0=some (scr ns)∧σ 1=some (.int k)∧σ 2=some (.lst (tab n fun i=>.int (x i)))∧σ 3=some (.lst (tab (n+1) fun i=>.int (Za5 x i)))∧σ 4=some (.int (n+1:Nat))∧σ 5=some (.lst (tab i fun i=>Zan (n+1) (Zci ns k n x i)))) ?_ ⟨rfl,rfl,rfl,rfl,rfl,rfl⟩ ?_ ?_
 ·walk_at "z"
  rfl
 ·rintro i σ hi ⟨e0,e1,e2,e3,e4,e5⟩
  walk_at "z"
  refine Zb8 (n:=n+1) (a:=fun i=>.int i) (P:=fun j σ=>σ 0=some (scr ns)∧σ 1=some (.int k)∧σ 2=some (.lst (tab n fun i=>.int (x i)))∧σ 3=some (.lst (tab (n+1) fun i=>.int (Za5 x i)))∧σ 4=some (.int (n+1:Nat))∧σ 5=some (.lst (tab i fun i=>Zan (n+1) (Zci ns k n x i)))∧σ 6=some (.int i)∧σ 7=some (.lst (tab j fun j=>oT ((Zc2 ns (k+i*(n+1:Nat)+j)).map fun c=>Za5 x i-Za5 x j+c)))) ?_ ⟨?_,?_,?_,?_,?_,?_,?_,?_⟩ ?_ ?_
  ·walk_at "z"
   rfl
  all_goals first | walk_at "r" | skip
  ·rintro j σ hj ⟨e0,e1,e2,e3,e4,e5,e6,e7⟩
   have hb1:(0:Int)≤i*((n+1:Nat):Int):=Int.mul_nonneg (by omega) (by omega)
   have hb2:(i:Int)*((n+1:Nat):Int)≤10*10:=Int.mul_le_mul (by omega) (by omega) (by omega) (by decide)
   walk_at "z"
   refine ZdB (by omega) (by omega) ?_
   walk_at "z"
   refine ZQ (Zts hL (by omega) (by omega)) ?_
   have key:∀w,w=oT ((Zc2 ns (k+i*(n+1:Nat)+j)).map fun c=>Za5 x i-Za5 x j+c)→tab j (fun j=>oT ((Zc2 ns (k+i*(n+1:Nat)+j)).map fun c=>Za5 x i-Za5 x j+c))++[w]=tab (j+1) fun j=>oT ((Zc2 ns (k+i*(n+1:Nat)+j)).map fun c=>Za5 x i-Za5 x j+c):=fun w e=>by
    rw[e];exact Zgb
   cases hs:Zc2 ns (k + ↑i * ↑(n+1) + ↑j)with
   | none=>
    simp only[Zb6,ZaG]
    walk_at "z"
    rw[key _ (by rw[hs];rfl)]
    refine⟨?_,?_,?_,?_,?_,?_,?_,?_⟩ <;> walk_at "r"
   | some c=>
    simp only[Zb6,ZaG]
    walk_at "z"
    rw[key _ (by rw[hs];rfl)]
    refine⟨?_,?_,?_,?_,?_,?_,?_,?_⟩ <;> walk_at "r"
  ·rintro σ ⟨e0,e1,e2,e3,e4,e5,e6,e7⟩
   walk_at "z"
   rw[Ztu,show tab i (fun i=>Zan (n+1) (Zci ns k n x i))++[T.lst (tab (n+1) fun j=>oT (Zci ns k n x i j))]=tab (i+1) fun i=>Zan (n+1) (Zci ns k n x i)from Zgb (f:=fun i=>Zan (n+1) (Zci ns k n x i))]
   refine⟨?_,?_,?_,?_,?_,?_⟩ <;> walk_at "r"
 ·rintro σ ⟨e0,e1,e2,e3,e4,e5⟩
  walk_at "z"
  refine Zc0 (n:=n) (a:=fun i=>.int i) (b:=fun t=>ZW (Zfs ns k n x t)) (by omega) ?_ (fun t ht=>?_) ?_
  ·walk_at "z"
   refine Zp9 n (by omega) (by omega) rfl
  ·walk_at "z"
   refine ZdB (by omega) (by omega) ?_
   walk_at "z"
   exact ZQ (Zur hL (by omega) (by omega)) ⟨ZhM,rfl⟩
  walk_at "z"
  rfl
def ZbC(n:Nat)(G:Nat→Nat→Option Int)(R:Nat→Int×Int)(x:Nat→Int): Prop:=(∀i j,i<n+1→j<n+1→∀b,G i j=some b→Za5 x i-Za5 x j≤b)∧∀t,t<n→Zal (R t) (x t)
def Zws(n:Nat)(G:Nat→Nat→Option Int)(R:Nat→Int×Int): Prop:=(∀i,i<n+1→G i i=some 0)∧∀t,t<n→RestOk (R t)
theorem Zsy(ns:List Int)(k:Int)(n:Nat)(x:Nat→Int): Zws n (Zci ns k n x) (Zfs ns k n x):=⟨fun i _=>ZrU ns k n x i,fun t _=>Ztt ns _ _⟩
theorem Zsz(hn:n<10000)(e:Pk (g σ) fun t=>t=Zab n G)(h:Q (Zab n G)): Pk (ZaC (ZbF g) (Zag j) Zak (Zq Zce (Zd (Za j) Zm)) σ) Q:=by
 refine Zc0 (n:=n) (a:=fun i=>Zan n (G i)) (b:=fun i=>Zan n (G i)) hn ?_ (fun i hi=>?_) h
 ·refine Zl5 (e.mono ?_)
  rintro _ rfl
  exact Sq.lst rfl
 ·unfold Zan
  walk_at "z"
  rfl
theorem Zut(hn:n≤100): ZcV [Z2 n G R]=some (Z2 n G R):=by
 apply Pk.eq
 unfold ZcV Zhn Z2 ZaR
 walk_at "z"
 refine Zsz (n:=n+1) (G:=G) (by omega) ?_ ?_
 ·walk_at "z"
  rfl
 walk_at "z"
 rfl
theorem ZsA: ZcV [.none]=some .none:=by
 apply Pk.eq
 unfold ZcV Zhn
 walk_at "z"
 rfl
def leO(a b:Option Int): Prop:=∀y,b=some y→∃x,a=some x∧x≤y
theorem Zfc: leO a none:=fun _ e=>by cases e
theorem leO_some{x:Int}: leO (some x) (some y)↔x≤y:=⟨fun h=>by obtain⟨z,e,q⟩:=h y rfl;cases e;exact q,fun h z e=>by cases e;exact⟨x,rfl,h⟩⟩
theorem Zml: ¬leO none (some y):=fun h=>by obtain⟨z,e,_⟩:=h y rfl;cases e
theorem Zq8{b:Option Int}: ZfK [oT a,oT b]=some (.bool (dec (leO a b))):=by
 apply Pk.eq
 unfold ZfK Zj1
 cases b with
 | none=>
  simp only[Zb6]
  walk_at "z"
  rw[Zbv Zfc]
 | some y=>
  cases a with
  | none=>
   simp only[Zb6,ZaG]
   walk_at "z"
   rw[Zch Zml]
  | some x=>
   simp only[ZaG]
   walk_at "z"
   rw[Zf1 leO_some,Zhj]
def RIn(p q:Int×Int): Prop:=if q.1=0 then p=q else p.1 % q.1=0∧(p.2-q.2) % q.1=0
theorem Zuu(h:0<q.1∧0≤q.2∧q.2<q.1)(x:Int): x.fmod q.1=q.2↔(x-q.2) % q.1=0:=by
 rw[Int.fmod_eq_emod_of_nonneg _ (by omega)]
 constructor
 ·intro e
  rw[←e,Int.sub_emod,Int.emod_emod,Int.sub_self]
  simp
 ·intro e
  have:x % q.1=q.2 % q.1:=Int.emod_eq_emod_iff_emod_sub_eq_zero.mpr e
  rw[this,Int.emod_eq_of_lt h.2.1 h.2.2]
theorem Zuv(h:RestOk q)(x:Int): (if q.1=0 then x=q.2 else x.fmod q.1=q.2)↔Zal q x:=by
 unfold Zal
 rcases h with h | h
 ·rw[if_pos h];simp[h]
 ·rw[if_neg (by omega),Zuu h]
  have h1:¬q.1=0:=by omega
  simp only[h1,false_implies,true_and,h.1,true_implies]
  rfl
theorem ZfO{x:Int}(h:RestOk q): ZdT [ZW q,.int x]=some (.bool (dec (Zal q x))):=by
 apply Pk.eq
 unfold ZdT ZkI ZW
 rw[←Zf1 (Zuv h x)]
 by_cases c:q.1=0
 ·walk_at "z"
  rw[if_pos c,Zhj]
 ·walk_at "z"
  rw[if_neg c,Zhj]
theorem Zqv(h:RestOk q): ZgV [ZW p,ZW q]=some (.bool (dec (RIn p q))):=by
 apply Pk.eq
 unfold ZgV Zjg
 have hp:ZW p=.tup [.int p.1,.int p.2]:=rfl
 have hq:ZW q=.tup [.int q.1,.int q.2]:=rfl
 by_cases c:q.1=0
 ·rw[hp,hq]
  walk_at "z"
  rw[←hp,←hq]
  refine Zfn (Zia (n:=0)) (Zia (n:=0)) ?_
  rw[Zf1 (show ZW p=ZW q↔RIn p q by unfold RIn;rw[if_pos c,Zuj])]
 ·have hq0:0<q.1:=by rcases h with h | h <;> omega
  rw[hp,hq]
  walk_at "z"
  refine⟨fun e=>?_,fun e=>?_⟩
  ·rw[←hq]
   refine ZQ (ZfO h) ?_
   congr 1
   refine Zf1 ?_
   unfold RIn Zal
   rw[if_neg c]
   simp only[decide_eq_true_eq]at e
   rw[Int.fmod_eq_emod_of_nonneg _ (by omega)]at e
   simp[c,e,hq0]
   rfl
  ·rw[e]
   simp only[decide_eq_false_iff_not]at e
   rw[Int.fmod_eq_emod_of_nonneg _ (by omega)]at e
   rw[Zch]
   unfold RIn
   rw[if_neg c]
   exact fun q=>e q.1
def ZmH(n:Nat)(G:Nat→Nat→Option Int)(R:Nat→Int×Int)(G':Nat→Nat→Option Int)(R':Nat→Int×Int): Prop:=(∀i,i<n+1→∀j,j<n+1→leO (G i j) (G' i j))∧∀t,t<n→RIn (R t) (R' t)
def Eu(m:Nat)(a b:Int): Prop:=0≤a∧0≤b∧∃k:Nat,a*b<2 ^ k∧m=2*k+if a<b then 1 else 0
theorem Eu.step{m:Nat}{a:Int}(h:Eu m a b)(hb:b≠0): ∃m',m'<m∧Eu m' b (a % b):=by
 obtain⟨h0,h1,k,h2,h3⟩:=h
 have hb':0<b:=by omega
 have r0:=Int.emod_nonneg a hb
 have r1:=Int.emod_lt_of_pos a hb'
 by_cases q:a<b
 ·rw[if_pos q]at h3
  have e:a % b=a:=Int.emod_eq_of_lt h0 q
  rw[e]
  exact⟨2*k,by omega,h1,h0,k,by rw[Int.mul_comm];exact h2,by rw[if_neg (by omega)];omega⟩
 ·rw[if_neg q]at h3
  have hd:=Int.emod_add_mul_ediv a b
  have hq:1≤a / b:=Int.le_ediv_of_mul_le hb' (by omega)
  have hm:b*1≤b*(a / b):=Int.mul_le_mul_of_nonneg_left hq h1
  have h2r:2*(a % b)<a:=by omega
  have hp:b*(2*(a % b))<b*a:=Int.mul_lt_mul_of_pos_left h2r hb'
  have hk:k≠0:=by
   rintro rfl
   have:0<a*b:=Int.mul_pos (by omega) hb'
   simp at h2
   omega
  obtain⟨k',rfl⟩:∃k',k=k'+1:=⟨k-1,by omega⟩
  refine⟨2*k',by omega,h1,r0,k',?_,by rw[if_neg (by omega)];omega⟩
  have e1:b*(2*(a % b))=2*(b*(a % b)):=by rw[←Int.mul_assoc,Int.mul_comm b 2,Int.mul_assoc]
  have e2:a*b=b*a:=Int.mul_comm _ _
  rw[Int.pow_succ]at h2
  omega
theorem ZhO{a:Int}(ha:0≤a)(hb:0≤b)(ha2:a<2 ^ 200000)(hb2:b<2 ^ 200000): ∃m,m<1000000∧Eu m a b:=by
 refine⟨_,?_,ha,hb,400000,?_,rfl⟩
 ·split <;> omega
 ·have h1:a*b≤a*2 ^ 200000:=Int.mul_le_mul_of_nonneg_left (by omega) ha
  have h2:a*2 ^ 200000<2 ^ 200000*2 ^ 200000:=Int.mul_lt_mul_of_pos_right ha2 (Int.pow_pos (by decide))
  have h3:(2:Int) ^ 200000*2 ^ 200000=2 ^ 400000:=by rw[←Int.pow_add]
  omega
theorem Zge{a:Int}(hb:0<b): Int.gcd b (a % b)=Int.gcd a b:=by
 rw[Int.gcd_comm a b,Int.emod_def,Int.gcd_sub_mul_left_right]
theorem Zpu{a:Int}: Int.gcd (ZaZ a) (ZaZ b)=Int.gcd a b:=by
 unfold ZaZ Int.gcd
 split <;> split <;> simp
theorem Zh1{a:Int}(h:a.natAbs<2 ^ k): ZaZ a<2 ^ k:=by
 have:((a.natAbs:Nat):Int)<2 ^ k:=by exact_mod_cast h
 unfold ZaZ
 split <;> omega
theorem Zhx{a:Int}(ha:a.natAbs<2 ^ 200000)(hb:b.natAbs<2 ^ 200000): Zel [.int a,.int b]=some (.int (Int.gcd a b)):=by
 apply Pk.eq
 unfold Zel Zli
 walk_at "z"
 obtain⟨m,hm,eu⟩:=ZhO (Zdh a) (Zdh b) (Zh1 ha) (Zh1 hb)
 refine Ze9 (fun m σ=>∃c d:Int,σ 0=some (.int c)∧σ 1=some (.int d)∧Eu m c d∧Int.gcd c d=Int.gcd a b) _ _ ?_ 1000000 (m:=m) ⟨ZaZ a,ZaZ b,by walk_at "r",by walk_at "r",eu,Zpu⟩ hm
 rintro m σ ⟨c,d,e0,e1,eu,eg⟩
 walk_at "z"
 refine⟨fun h=>?_,fun h=>?_⟩
 ·have hd:d≠0:=by simpa using h
  have hd0:0≤d:=eu.2.1
  walk_at "z"
  rw[Int.fmod_eq_emod_of_nonneg _ hd0]
  obtain⟨m',h1,h2⟩:=eu.step hd
  exact⟨m',h1,d,c % d,by walk_at "r",by walk_at "r",h2,by rw[Zge (by omega)];exact eg⟩
 ·have hd:d=0:=by simpa using h
  subst hd
  walk_at "z"
  rw[←eg,Int.gcd_zero_right]
  have:=eu.1
  congr 1
  omega
theorem Zgm(ns:List Int)(k:Int): (ZbT ns k).natAbs<2 ^ 134:=by
 have h:=ZpV ns k
 have h2:=Zh7
 have:(2:Nat) ^ 134=21778071482940061661655974875633165533184:=by decide
 omega
theorem Zbq{a:Nat}(h:a<2 ^ i)(hij:i≤j): a<2 ^ j:=Nat.lt_of_lt_of_le h (Nat.pow_le_pow_right (by decide) hij)
def SmG(k n:Nat)(G:Nat→Nat→Option Int): Prop:=∀i j,i<n+1→j<n+1→∀b,G i j=some b→b.natAbs<2 ^ k
def SmR(k n:Nat)(R:Nat→Int×Int): Prop:=∀t,t<n→(R t).1.natAbs<2 ^ k∧(R t).2.natAbs<2 ^ k
theorem Zg5(h0:0≤m)(hm:m.natAbs<2 ^ k)(hr:r.natAbs<2 ^ k): (Zap m r).1.natAbs<2 ^ k∧(Zap m r).2.natAbs<2 ^ k:=by
 unfold Zap
 split
 ·exact⟨Nat.two_pow_pos k,hr⟩
 ·have h1:=Int.fmod_nonneg_of_pos r (show 0<m by omega)
  have h2:=Int.fmod_lt_of_pos r (show 0<m by omega)
  exact⟨hm,by show(r.fmod m).natAbs<_;omega⟩
theorem ZlY(a:Int): (ZaZ a).natAbs=a.natAbs:=by unfold ZaZ;split <;> omega
theorem Zrv{k x:Int}(hx:x.natAbs<2 ^ 134): (Zd3 ns k x).1.natAbs<2 ^ 134∧(Zd3 ns k x).2.natAbs<2 ^ 134:=by
 have h:=ZoX ns k
 have h2:=Zgm ns k
 have e:(2:Nat) ^ 134=21778071482940061661655974875633165533184:=by decide
 unfold Zd3
 split
 ·exact⟨by show(1:Nat)<_;omega,by show(0:Nat)<_;omega⟩
 ·split
  ·exact⟨by show(0:Nat)<_;omega,hx⟩
  ·split
   ·exact Zg5 (by omega) (by omega) hx
   ·exact Zg5 (Zdh _) (by rw[ZlY];exact h2) hx
theorem Zof(hx:∀i,i<n→(x i).natAbs<2 ^ k)(i:Nat)(hi:i<n+1): (Za5 x i).natAbs<2 ^ k:=by
 cases i with
 | zero=>exact Nat.two_pow_pos k
 | succ i=>exact hx i (by omega)
theorem Ztv{k:Int}(hx:∀i,i<n→(x i).natAbs<2 ^ 134): SmG 136 n (Zci ns k n x):=by
 intro i j hi hj b h
 have e:(2:Nat) ^ 134=21778071482940061661655974875633165533184:=by decide
 have e2:(2:Nat) ^ 136=4*21778071482940061661655974875633165533184:=by decide
 have h40:=Zh7
 have h1:=Zof hx i hi
 have h2:=Zof hx j hj
 unfold Zci at h
 split at h
 ·cases h;exact Nat.two_pow_pos _
 ·obtain⟨c,h3,h4⟩:=Zz1.mp h
  have:=Ztr ns _ h3
  subst h4
  omega
theorem ZoY{k:Int}(hx:∀i,i<n→(x i).natAbs<2 ^ 134): SmR 134 n (Zfs ns k n x):=fun t ht=>Zrv (hx t ht)
theorem ZsB{g:PG}{a:Nat→T}(e:β→T)(P:Nat→β→Prop)(hn:n<10000)(hg:Pl (g σ) fun ts=>ts=tab n a)(hf:∀i,i<n→Pk (f (Z8 σ j (a i))) fun t=>∃y,t=e y∧P i y)(d:β)(h:∀y:Nat→β,(∀i,i<n→P i (y i))→Q (.lst (tab n fun i=>e (y i)))): Pk (ZaC g (Zag j) Zak f σ) Q:=by
 have hc:∃y:Nat→β,∀i,i<n→Pk (f (Z8 σ j (a i))) (fun t=>t=e (y i))∧P i (y i):=by
  have hx:∀i,∃y:β,i<n→Pk (f (Z8 σ j (a i))) (fun t=>t=e y)∧P i y:=fun i=>by
   by_cases q:i<n
   ·obtain⟨t,e1,y,e2,p⟩:=hf i q
    exact⟨y,fun _=>⟨⟨t,e1,e2⟩,p⟩⟩
   ·exact⟨d,fun h=>absurd h q⟩
  exact⟨fun i=>Classical.choose (hx i),fun i=>Classical.choose_spec (hx i)⟩
 obtain⟨y,hy⟩:=hc
 exact Zc0 hn hg (fun i hi=>(hy i hi).1) (h y fun i hi=>(hy i hi).2)
theorem Zhy(hn:n<10000)(e:Pk (g σ) fun t=>t=Zab n G)(h:Q (Zab n G)): Pk (ZaC (ZbF g) (Zag j) Zak (pFl (Zq Zce (Zd (Za j) Zm))) σ) Q:=by
 refine Zc0 (n:=n) (a:=fun i=>Zan n (G i)) (b:=fun i=>Zan n (G i)) hn ?_ (fun i hi=>?_) h
 ·refine Zl5 (e.mono ?_)
  rintro _ rfl
  exact Sq.lst rfl
 ·unfold Zan
  walk_at "z"
  rfl
noncomputable def ZcT(G:Nat→Nat→Option Int)(i j:Nat)(v:Option Int): Nat→Nat→Option Int:=fun a b=>if a=i∧b=j then v else G a b
theorem Zev: T.lst (tab n fun a=>T.lst (tab n fun b=>if a=i∧b=j then oT v else oT (G a b)))=Zab n (ZcT G i j v):=by
 unfold Zab Zan ZcT
 congr 2
 funext a
 congr 2
 funext b
 split <;> rfl
theorem Zmm: ZcT G i j v i j=v:=by simp[ZcT]
theorem Zh2{a b:Nat}(h:¬(a=i∧b=j)): ZcT G i j v a b=G a b:=by simp[ZcT,h]
theorem ZcK: leO a a:=fun y e=>⟨y,e,Int.le_refl y⟩
theorem ZcJ{b c:Option Int}(h:leO a b)(k:leO b c): leO a c:=fun y e=>by
 obtain⟨x,e1,l1⟩:=k y e
 obtain⟨w,e2,l2⟩:=h x e1
 exact⟨w,e2,by omega⟩
theorem Zij{k:Int}(h0:0≤k)(h1:k<n): ∃i:Nat,k=i∧i<n:=⟨k.toNat,by omega,by omega⟩
theorem Zk7{a:Int}(ha:a.natAbs<2 ^ 200000)(hb:b.natAbs<2 ^ 200000): Ze2 [.int a,.int b]=some (.int (Int.gcd a b)):=by
 apply Pk.eq
 unfold Ze2 Zlk
 walk_at "z"
 obtain⟨m,hm,eu⟩:=ZhO (Zdh a) (Zdh b) (Zh1 ha) (Zh1 hb)
 refine Ze9 (fun m σ=>∃c d:Int,σ 2=some (.int c)∧σ 3=some (.int d)∧Eu m c d∧Int.gcd c d=Int.gcd a b) _ _ ?_ 1000000 (m:=m) ⟨ZaZ a,ZaZ b,by walk_at "r",by walk_at "r",eu,Zpu⟩ hm
 rintro m σ ⟨c,d,e0,e1,eu,eg⟩
 walk_at "z"
 refine⟨fun h=>?_,fun h=>?_⟩
 ·have hd:d≠0:=by simpa using h
  have hd0:0≤d:=eu.2.1
  walk_at "z"
  rw[Int.fmod_eq_emod_of_nonneg _ hd0]
  obtain⟨m',h1,h2⟩:=eu.step hd
  exact⟨m',h1,d,c % d,by walk_at "r",by walk_at "r",h2,by rw[Zge (by omega)];exact eg⟩
 ·have hd:d=0:=by simpa using h
  subst hd
  walk_at "z"
  rw[←eg,Int.gcd_zero_right]
  have:=eu.1
  congr 1
  omega
def Bd(k:Nat)(x:Int): Prop:=x.natAbs<2 ^ k
theorem Bd.mono{x:Int}(h:Bd i x)(hij:i≤j): Bd j x:=Zbq h hij
theorem Zb5{x:Int}(h:Bd i x)(k:Bd j y)(hi:i≤1000000)(hj:j≤1000000): mulOk x y=true:=ZoM (Nat.le_trans (PyProof.Rows.intBits_le h) (Nat.le_trans hi (by decide))) (Nat.le_trans (PyProof.Rows.intBits_le k) (Nat.le_trans hj (by decide)))
theorem Bd.mul{x:Int}(h:Bd i x)(k:Bd j y): Bd (i+j) (x*y):=by
 unfold Bd at *
 rw[Int.natAbs_mul,Nat.pow_add]
 exact Nat.mul_lt_mul'' h k
theorem Bd.add{x:Int}(h:Bd i x)(k:Bd i y): Bd (i+1) (x+y):=by
 unfold Bd at *
 rw[Nat.pow_succ]
 omega
theorem Bd.sub{x:Int}(h:Bd i x)(k:Bd i y): Bd (i+1) (x-y):=by
 unfold Bd at *
 rw[Nat.pow_succ]
 omega
theorem Zew{x:Int}(h:Bd i y)(hi:i≤9000): Builtin.divisionGoesByPylong x y=false:=by
 refine PyProof.noPylong_of_log2 ?_
 by_cases h0:y.natAbs=0
 ·rw[h0];decide +kernel
 ·exact Nat.lt_of_lt_of_le ((Nat.log2_lt h0).mpr h) hi
theorem ZcQ{x:Int}(h:Bd i y)(h0:0≤x)(h1:x≤y): Bd i x:=by unfold Bd at *;omega
theorem ZgM(h:1≤i): Bd i 1:=Zbq (i:=1) (by decide) h
theorem Zd8: Bd i 0:=Nat.two_pow_pos i
theorem ZrV{a:Int}(hb:0<b)(kb:Bd k b)(hk:k≤8000)(ha:0≤a)(hg:Int.gcd a b=1): Pk (ZhE [.int a,.int b]) fun t=>∃x:Int,t=.int x∧0≤x∧x<b∧∃q,a*x=1+b*q:=by
 unfold ZhE Zlo
 walk_at "z"
 rw[Int.fmod_eq_emod_of_nonneg _ (by omega)]
 have r0:=Int.emod_nonneg a (show b≠0 by omega)
 have r1:=Int.emod_lt_of_pos a hb
 have hlt:∀x:Int,0≤x→x≤b→x<2 ^ 200000:=fun x h0 h1=>by
  have h2:b.natAbs<2 ^ 200000:=Zbq kb (by omega)
  have h3:((b.natAbs:Nat):Int)<2 ^ 200000:=by exact_mod_cast h2
  omega
 obtain⟨m,hm,eu⟩:=ZhO r0 (show 0≤b by omega) (hlt _ r0 (by omega)) (hlt b (by omega) (by omega))
 have hg0:Int.gcd (a % b) b=1:=by
  rw[Int.gcd_comm,Zge hb];exact hg
 refine Ze9 (fun m σ=>∃l r s t:Int,σ 1=some (.int b)∧σ 2=some (.int l)∧σ 3=some (.int r)∧σ 4=some (.int s)∧σ 5=some (.int t)∧Eu m l r∧Int.gcd l r=1∧l≤b∧r≤b∧(∃q,s*a=l+b*q)∧(∃q,t*a=r+b*q)∧(s.natAbs:Int)*r+(t.natAbs:Int)*l≤b∧(1≤l∨t=0)) _ _ ?_ 1000000 (m:=m) ⟨a % b,b,1,0,by walk_at "r",by walk_at "r",by walk_at "r",by walk_at "r",by walk_at "r",eu,hg0,by omega,by omega,⟨a / b,?_⟩,⟨-1,by omega⟩,by simp,.inr rfl⟩ hm
 ·rintro m σ ⟨l,r,s,t,e1,e2,e3,e4,e5,eu,gl,lb,rb,⟨q1,h1⟩,⟨q2,h2⟩,hb1,hl⟩
  walk_at "z"
  refine⟨fun h=>?_,fun h=>?_⟩
  ·have hr:r≠0:=by simpa using h
   have hr0:0≤r:=eu.2.1
   have hl0:0≤l:=eu.1
   have hrp:0<r:=by omega
   have kr:Bd k r:=ZcQ kb hr0 rb
   have kl:Bd k l:=ZcQ kb hl0 lb
   have hdiv0:0≤l / r:=Int.ediv_nonneg hl0 hr0
   have hdiv1:l / r≤l:=Int.ediv_le_self _ hl0
   have ks:(s.natAbs:Int)≤b:=by
    have:(s.natAbs:Int)*1≤(s.natAbs:Int)*r:=Int.mul_le_mul_of_nonneg_left (by omega) (by omega)
    have:0≤(t.natAbs:Int)*l:=Int.mul_nonneg (by omega) hl0
    omega
   have kt:(t.natAbs:Int)≤b:=by
    rcases hl with hl | hl
    ·have:(t.natAbs:Int)*1≤(t.natAbs:Int)*l:=Int.mul_le_mul_of_nonneg_left (by omega) (by omega)
     have:0≤(s.natAbs:Int)*r:=Int.mul_nonneg (by omega) hr0
     omega
    ·rw[hl];simp;omega
   have kt':Bd k t:=by unfold Bd at *;omega
   have kd:Bd k (l / r):=ZcQ kl hdiv0 hdiv1
   walk_at "z"
   refine ZdH hr (Zew kr (by omega)) ?_
   rw[Int.fdiv_eq_ediv_of_nonneg _ hr0]
   walk_at "z"
   refine ZbK (Zb5 kd kr (by omega) (by omega)) ?_
   walk_at "z"
   refine ZbK (Zb5 kd kt' (by omega) (by omega)) ?_
   walk_at "z"
   have hover:l-l / r*r=l % r:=by
    have:=Int.emod_add_mul_ediv l r
    rw[Int.mul_comm r (l / r)]at this
    omega
   rw[hover]
   obtain⟨m',hm1,hm2⟩:=eu.step hr
   have o0:=Int.emod_nonneg l hr
   have o1:=Int.emod_lt_of_pos l hrp
   refine⟨m',hm1,r,l % r,t,s-l / r*t,by walk_at "r",by walk_at "r",by walk_at "r",by walk_at "r",by walk_at "r",hm2,by rw[Zge hrp];exact gl,rb,by omega,⟨q2,h2⟩,⟨q1-l / r*q2,?_⟩,?_,.inl (by omega)⟩
   ·rw[Int.sub_mul,h1,Int.mul_assoc,h2,Int.mul_add,Int.mul_sub,←hover]
    have e1:b*(l / r*q2)=l / r*(b*q2):=by rw[←Int.mul_assoc,Int.mul_comm b,Int.mul_assoc]
    rw[e1]
    omega
   ·have ht:((s-l / r*t).natAbs:Int)≤(s.natAbs:Int)+l / r*(t.natAbs:Int):=by
     have h3:(s-l / r*t).natAbs≤s.natAbs+(l / r*t).natAbs:=by omega
     have h4:(l / r*t).natAbs=(l / r).natAbs*t.natAbs:=Int.natAbs_mul ..
     have h5:(((l / r).natAbs*t.natAbs:Nat):Int)=l / r*(t.natAbs:Int):=by
      rw[Int.natCast_mul,Int.natAbs_of_nonneg hdiv0]
     rw[h4]at h3
     omega
    have h6:((s-l / r*t).natAbs:Int)*r≤((s.natAbs:Int)+l / r*(t.natAbs:Int))*r:=Int.mul_le_mul_of_nonneg_right ht hr0
    have h7:((s.natAbs:Int)+l / r*(t.natAbs:Int))*r=(s.natAbs:Int)*r+(t.natAbs:Int)*(l / r*r):=by
     rw[Int.add_mul,Int.mul_comm (l / r) (t.natAbs:Int),Int.mul_assoc]
    have h8:(t.natAbs:Int)*(l % r)+(t.natAbs:Int)*(l / r*r)=(t.natAbs:Int)*l:=by
     rw[←Int.mul_add,←hover]
     congr 1
     omega
    omega
  ·have hr:r=0:=by simpa using h
   subst hr
   rw[Int.gcd_zero_right]at gl
   have hl1:l=1:=by have:=eu.1;omega
   subst hl1
   walk_at "z"
   rw[Int.fmod_eq_emod_of_nonneg _ (by omega)]
   refine⟨s % b,rfl,Int.emod_nonneg _ (by omega),Int.emod_lt_of_pos _ hb,q1-s / b*a,?_⟩
   have h3:=Int.emod_add_mul_ediv s b
   have h4:s % b=s-b*(s / b):=by omega
   rw[h4,Int.mul_sub,Int.mul_comm a s,h1,Int.mul_sub]
   have e1:a*(b*(s / b))=b*(s / b*a):=by rw[Int.mul_comm a,Int.mul_assoc]
   rw[e1]
   omega
 ·have h3:=Int.emod_add_mul_ediv a b
  rw[Int.one_mul]
  omega
theorem Zg6(h:0≤m): Zet [.int m,.int r]=some (ZW (Zap m r)):=by
 apply Pk.eq
 unfold Zet ZmD Zap
 by_cases c:m=0
 ·walk_at "z"
  rw[if_pos c];rfl
 ·walk_at "z"
  rw[if_neg c];rfl
theorem Zba(h:0≤q.1)(x:Int): Zal q x↔q.1 ∣ x-q.2:=by
 unfold Zal
 by_cases c:q.1=0
 ·rw[c]
  simp
  omega
 ·have:0<q.1:=by omega
  simp only[c,false_implies,true_and,this,true_implies]
  exact(Int.dvd_iff_emod_eq_zero).symm
theorem ZsC(h:0≤m): 0≤(Zap m r).1:=by unfold Zap;split <;> simp[h]
theorem Zdc(h:0≤m)(x:Int): Zal (Zap m r) x↔m ∣ x-r:=by
 rw[Zba (ZsC h)]
 unfold Zap
 split
 ·rename_i c;subst c;rfl
 ·show m ∣ x-r.fmod m↔_
  rw[Int.fmod_eq_emod_of_nonneg _ h]
  have h1:x-r % m=(x-r)+m*(r / m):=by have:=Int.emod_add_mul_ediv r m;omega
  rw[h1]
  constructor
  ·intro q
   have:=Int.dvd_sub q (Int.dvd_mul_right m (r / m))
   rwa [Int.add_sub_cancel]at this
  ·intro q
   exact Int.dvd_add q (Int.dvd_mul_right m (r / m))
theorem RestOk.nn(h:RestOk q): 0≤q.1:=by rcases h with h | h <;> omega
theorem RestOk.self(h:RestOk q): Zal q q.2:=by rw[Zba h.nn];simp
theorem Zhh(hp:RestOk p)(hq:RestOk q)(h:∀x,Zal p x↔Zal q x): p=q:=by
 have e1:∀x,p.1 ∣ x-p.2↔q.1 ∣ x-q.2:=fun x=>by rw[←Zba hp.nn,←Zba hq.nn];exact h x
 have a1:q.1 ∣ p.2-q.2:=(e1 p.2).mp (by simp)
 have a2:q.1 ∣ p.2+p.1-q.2:=(e1 (p.2+p.1)).mp (by rw[show p.2+p.1-p.2=p.1 by omega];exact Int.dvd_refl _)
 have b1:p.1 ∣ q.2-p.2:=(e1 q.2).mpr (by simp)
 have b2:p.1 ∣ q.2+q.1-p.2:=(e1 (q.2+q.1)).mpr (by rw[show q.2+q.1-q.2=q.1 by omega];exact Int.dvd_refl _)
 have c1:q.1 ∣ p.1:=by have:=Int.dvd_sub a2 a1;rwa [show p.2+p.1-q.2-(p.2-q.2)=p.1 by omega]at this
 have c2:p.1 ∣ q.1:=by have:=Int.dvd_sub b2 b1;rwa [show q.2+q.1-p.2-(q.2-p.2)=q.1 by omega]at this
 have em:p.1=q.1:=Int.dvd_antisymm hp.nn hq.nn c2 c1
 have er:p.2=q.2:=by
  rcases hp with hp | hp
  ·rw[hp]at em
   rw[←em]at a1
   have:=Int.zero_dvd.mp a1
   omega
  ·rcases hq with hq | hq
   ·omega
   ·rw[←em]at a1 hq
    obtain⟨k,hk⟩:=a1
    have:k=0:=by
     rcases Int.lt_trichotomy k 0 with h | h | h
     ·have:p.1*k≤p.1*(-1):=Int.mul_le_mul_of_nonneg_left (by omega) (by omega)
      omega
     ·exact h
     ·have:p.1*1≤p.1*k:=Int.mul_le_mul_of_nonneg_left (by omega) (by omega)
      omega
    subst this
    simp at hk
    omega
 exact Prod.ext em er
def RBd(k:Nat)(q:Int×Int): Prop:=Bd k q.1∧Bd k q.2
theorem Zf6(h0:0≤m)(hm:Bd k m)(hr:Bd k r): RBd k (Zap m r):=Zg5 h0 hm hr
noncomputable def Zbm(p q:Int×Int): Int×Int:=Zap (Int.gcd p.1 q.1) (p.2+q.2)
theorem ZhP(p q:Int×Int): RestOk (Zbm p q):=Zca (by omega) _
theorem ZjR(hk:k≤200000)(hp:Bd k p.1)(hq:Bd k q.1): ZeR [ZW p,ZW q]=some (ZW (Zbm p q)):=by
 apply Pk.eq
 unfold ZeR Zj3 ZW Zbm
 walk_at "z"
 refine ZQ (Zk7 (Zbq hp hk) (Zbq hq hk)) ?_
 walk_at "z"
 exact ZQ (Zg6 (by omega)) rfl
noncomputable def Zcq(p:Int×Int)(k:Int): Int×Int:=Zap (p.1*ZaZ k) (p.2*k)
theorem Zjx{c:Int}(hk:k≤200000)(hp0:0≤p.1)(hp:RBd k p)(hc:Bd k c): ZeP [ZW p,.int c]=some (ZW (Zcq p c)):=by
 apply Pk.eq
 unfold ZeP ZjE ZW Zcq
 have ha:Bd k (ZaZ c):=by unfold Bd at *;rw[ZlY];exact hc
 walk_at "z"
 refine ZbK (Zb5 hp.1 ha (by omega) (by omega)) ?_
 walk_at "z"
 refine ZbK (Zb5 hp.2 hc (by omega) (by omega)) ?_
 walk_at "z"
 exact ZQ (Zg6 (Int.mul_nonneg hp0 (Zdh c))) rfl
noncomputable def Zdl(p:Int×Int)(top:Int): Option Int:=if p.1=0 then(if p.2≤top then some p.2 else none)else some (top-(top-p.2) % p.1)
theorem ZqN(hp:0≤p.1): Zg1 [ZW p,.int top]=some (oT (Zdl p top)):=by
 apply Pk.eq
 unfold Zg1 ZjI ZW Zdl
 by_cases c:p.1=0
 ·rw[if_pos c]
  by_cases d:p.2≤top
  ·walk_at "z"
   rw[if_pos d];rfl
  ·walk_at "z"
   rw[if_neg d];rfl
 ·rw[if_neg c]
  walk_at "z"
  rw[Int.fmod_eq_emod_of_nonneg _ hp]
  rfl
noncomputable def oR: Option (Int×Int)→T
 | none=>.none
 | some q=>ZW q
def Met(p q:Int×Int)(o:Option (Int×Int)): Prop:=match o with
 | none=>∀x,¬(Zal p x∧Zal q x)
 | some r=>RestOk r∧(∀x,Zal r x↔Zal p x∧Zal q x)
theorem Zog{a b:Option (Int×Int)}(ha:Met p q a)(hb:Met p q b): a=b:=by
 cases a with
 | none=>
  cases b with
  | none=>rfl
  | some r=>exact absurd ((hb.2 r.2).mp hb.1.self) (ha r.2)
 | some s=>
  cases b with
  | none=>exact absurd ((ha.2 s.2).mp ha.1.self) (hb s.2)
  | some r=>rw[Zhh ha.1 hb.1 fun x=>(ha.2 x).trans (hb.2 x).symm]
theorem Zks(hk:k≤8000)(op:RestOk p)(oq:RestOk q)(bp:RBd k p)(bq:RBd k q): Pk (ZfR [ZW p,ZW q]) fun t=>∃o,t=oR o∧Met p q o∧∀r,o=some r→(r=p∨r=q∨(p.1≠0∧q.1≠0∧r.1=Int.lcm p.1 q.1)):=by
 unfold ZfR ZkK
 have ep:ZW p=.tup [.int p.1,.int p.2]:=rfl
 have eq:ZW q=.tup [.int q.1,.int q.2]:=rfl
 have np:=op.nn
 have nq:=oq.nn
 by_cases c1:p.1=0
 ·rw[ep]
  walk_at "z"
  refine ZQ (ZfO oq) ?_
  walk_at "z"
  have hone:∀x,Zal p x↔x=p.2:=fun x=>by rw[Zba np,c1,Int.zero_dvd];omega
  refine⟨fun e=>?_,fun e=>?_⟩
  ·walk_at "z"
   refine⟨some p,rfl,⟨op,fun x=>⟨fun h=>⟨h,?_⟩,fun h=>h.1⟩⟩,fun r e=>by cases e;exact .inl rfl⟩
   rw[(hone x).mp h];exact dec_iff.mp e
  ·walk_at "z"
   refine⟨none,rfl,fun x h=>?_,by simp⟩
   have:=(hone x).mp h.1
   subst this
   have h2:=Zbv h.2
   rw[h2]at e
   cases e
 by_cases c2:q.1=0
 ·have hone:∀x,Zal q x↔x=q.2:=fun x=>by rw[Zba nq,c2,Int.zero_dvd];omega
  rw[ep,eq]
  walk_at "z"
  rw[←ep]
  refine ZQ (ZfO op) ?_
  walk_at "z"
  refine⟨fun e=>?_,fun e=>?_⟩
  ·walk_at "z"
   refine⟨some q,rfl,⟨oq,fun x=>⟨fun h=>⟨?_,h⟩,fun h=>h.2⟩⟩,fun r e=>by cases e;exact .inr (.inl rfl)⟩
   rw[(hone x).mp h];exact dec_iff.mp e
  ·walk_at "z"
   refine⟨none,rfl,fun x h=>?_,by simp⟩
   have:=(hone x).mp h.2
   subst this
   have h2:=Zbv h.1
   rw[h2]at e
   cases e
 ·have pp:0<p.1:=by omega
  have pq:0<q.1:=by omega
  obtain⟨g,hg⟩:∃g:Nat,Int.gcd p.1 q.1=g:=⟨_,rfl⟩
  have hg0:0<(g:Int):=by
   have:Int.gcd p.1 q.1≠0:=fun h=>c1 (Int.gcd_eq_zero_iff.mp h).1
   omega
  have gp:(g:Int) ∣ p.1:=by rw[←hg];exact Int.gcd_dvd_left ..
  have gq:(g:Int) ∣ q.1:=by rw[←hg];exact Int.gcd_dvd_right ..
  obtain⟨a,ea⟩:=gp
  obtain⟨b,eb⟩:=gq
  have ha:0<a:=by
   rcases Int.lt_trichotomy a 0 with h | h | h
   ·have:=Int.mul_neg_of_pos_of_neg hg0 h;omega
   ·subst h;simp at ea;omega
   ·exact h
  have hb:0<b:=by
   rcases Int.lt_trichotomy b 0 with h | h | h
   ·have:=Int.mul_neg_of_pos_of_neg hg0 h;omega
   ·subst h;simp at eb;omega
   ·exact h
  have da:p.1 / g=a:=by rw[ea];exact Int.mul_ediv_cancel_left _ (by omega)
  have db:q.1 / g=b:=by rw[eb];exact Int.mul_ediv_cancel_left _ (by omega)
  have kg:Bd k (g:Int):=ZcQ bp.1 (by omega) (by
   rw[ea]
   have:(g:Int)*1≤g*a:=Int.mul_le_mul_of_nonneg_left (by omega) (by omega)
   omega)
  have kb:Bd k b:=ZcQ bq.1 (by omega) (by
   rw[eb]
   have:1*b≤g*b:=Int.mul_le_mul_of_nonneg_right (by omega) (by omega)
   omega)
  have cop:Int.gcd a b=1:=by
   have h1:=Int.gcd_mul_left (g:Int) a b
   rw[←ea,←eb,hg,Int.natAbs_natCast]at h1
   have h2:g*1=g*Int.gcd a b:=by omega
   exact(Nat.eq_of_mul_eq_mul_left (by omega) h2).symm
  rw[ep,eq]
  walk_at "z"
  refine ZQ (Zk7 (Zbq bp.1 (by omega)) (Zbq bq.1 (by omega))) ?_
  rw[hg]
  walk_at "z"
  rw[Int.fmod_eq_emod_of_nonneg _ (by omega)]
  by_cases c3:(q.2-p.2) % (g:Int)=0
  ·obtain⟨d,ed⟩:=Int.dvd_of_emod_eq_zero c3
   have dd:(q.2-p.2) / g=d:=by rw[ed];exact Int.mul_ediv_cancel_left _ (by omega)
   have kd:Bd (k+1) d:=by
    have h1:Bd (k+1) (q.2-p.2):=Bd.sub bq.2 bp.2
    unfold Bd at *
    rw[ed,Int.natAbs_mul]at h1
    have:1*d.natAbs≤(g:Int).natAbs*d.natAbs:=Nat.mul_le_mul_right _ (by omega)
    omega
   walk_at "z"
   refine ZdH (by omega) (Zew kg (by omega)) ?_
   rw[Int.fdiv_eq_ediv_of_nonneg _ (by omega),db]
   walk_at "z"
   refine ZdH (by omega) (Zew kg (by omega)) ?_
   rw[Int.fdiv_eq_ediv_of_nonneg _ (by omega),dd]
   walk_at "z"
   refine ZdH (by omega) (Zew kg (by omega)) ?_
   rw[Int.fdiv_eq_ediv_of_nonneg _ (by omega),da]
   walk_at "z"
   refine(ZrV hb kb hk (by omega) cop).mono ?_
   rintro _ ⟨y,rfl,y0,y1,z,hz⟩
   have ky:Bd k y:=ZcQ kb y0 (by omega)
   walk_at "z"
   refine ZbK (Zb5 kd ky (by omega) (by omega)) ?_
   walk_at "z"
   refine ZbK (Zb5 bp.1 kb (by omega) (by omega)) ?_
   walk_at "z"
   refine ZbK (Zb5 bp.1 (Bd.mul kd ky) (by omega) (by omega)) ?_
   walk_at "z"
   have hL:(p.1*b).natAbs=Int.lcm p.1 q.1:=by
    have h1:=Int.gcd_mul_lcm p.1 q.1
    rw[hg]at h1
    have h2:p.1.natAbs*q.1.natAbs=g*(p.1*b).natAbs:=by
     rw[Int.natAbs_mul]
     conv=>lhs;rw[show q.1.natAbs=g*b.natAbs by rw[eb,Int.natAbs_mul,Int.natAbs_natCast]]
     rw[←Nat.mul_assoc,Nat.mul_comm p.1.natAbs g,Nat.mul_assoc]
    have h3:g*Int.lcm p.1 q.1=g*(p.1*b).natAbs:=by omega
    exact(Nat.eq_of_mul_eq_mul_left (by omega) h3).symm
   have hpb:0<p.1*b:=Int.mul_pos pp hb
   refine ZQ (Zg6 (by omega)) ⟨some _,rfl,⟨Zca (by omega) _,fun x=>?_⟩,fun r e=>?_⟩
   ·rw[Zdc (by omega),Zba np,Zba nq]
    have hx0:p.1*(d*y)=(q.2-p.2)+q.1*(d*z):=by
     rw[ed,ea,eb]
     have:(g:Int)*a*(d*y)=g*d*(a*y):=by
      rw[Int.mul_assoc,Int.mul_assoc,Int.mul_left_comm a d y]
     rw[this,hz,Int.mul_add,Int.mul_one]
     congr 1
     rw[Int.mul_assoc,Int.mul_assoc,Int.mul_left_comm d b z]
    constructor
    ·intro h
     have h1:p.1 ∣ x-(p.2+p.1*(d*y)):=Int.dvd_trans (Int.dvd_mul_right _ _) h
     have h2:q.1 ∣ x-(p.2+p.1*(d*y)):=Int.dvd_trans ⟨a,by rw[ea,eb];rw[Int.mul_assoc,Int.mul_assoc,Int.mul_comm a b]⟩ h
     refine⟨?_,?_⟩
     ·have:=Int.dvd_add h1 (Int.dvd_mul_right p.1 (d*y))
      rwa [show x-(p.2+p.1*(d*y))+p.1*(d*y)=x-p.2 by omega]at this
     ·have:=Int.dvd_add h2 (Int.dvd_mul_right q.1 (d*z))
      rwa [show x-(p.2+p.1*(d*y))+q.1*(d*z)=x-q.2 by omega]at this
    ·rintro⟨h1,h2⟩
     have h3:p.1 ∣ x-(p.2+p.1*(d*y)):=by
      have:=Int.dvd_sub h1 (Int.dvd_mul_right p.1 (d*y))
      rwa [show x-p.2-p.1*(d*y)=x-(p.2+p.1*(d*y))by omega]at this
     have h4:q.1 ∣ x-(p.2+p.1*(d*y)):=by
      have:=Int.dvd_sub h2 (Int.dvd_mul_right q.1 (d*z))
      rwa [show x-q.2-q.1*(d*z)=x-(p.2+p.1*(d*y))by omega]at this
     have h5:=Int.lcm_dvd (Int.dvd_natAbs.mpr h3) (Int.dvd_natAbs.mpr h4)
     rw[←hL]at h5
     have h6:(((p.1*b).natAbs:Nat):Int) ∣ (((x-(p.2+p.1*(d*y))).natAbs:Nat):Int):=Int.natCast_dvd_natCast.mpr h5
     exact Int.natAbs_dvd.mp (Int.dvd_natAbs.mp h6)
   ·cases e
    refine .inr (.inr ⟨c1,c2,?_⟩)
    unfold Zap
    rw[if_neg (by omega)]
    show p.1*b=_
    rw[←hL]
    omega
  ·walk_at "z"
   refine⟨none,rfl,fun x h=>c3 ?_,by simp⟩
   rw[Zba np,Zba nq]at h
   have h1:(g:Int) ∣ x-p.2:=Int.dvd_trans ⟨a,ea⟩ h.1
   have h2:(g:Int) ∣ x-q.2:=Int.dvd_trans ⟨b,eb⟩ h.2
   have h3:=Int.dvd_sub h1 h2
   rw[show x-p.2-(x-q.2)=q.2-p.2 by omega]at h3
   exact Int.emod_eq_zero_of_dvd h3
theorem Zik{a:Int}(ha:Bd k a)(hb:Bd k b): Bd k ((Int.gcd a b:Nat):Int):=by
 unfold Bd at *
 rw[Int.natAbs_natCast]
 by_cases z:a=0
 ·rw[z,Int.gcd_zero_left];exact hb
 ·exact Nat.lt_of_le_of_lt (Nat.gcd_le_left _ (by omega)) ha
noncomputable def Zcn(a b:Option Int): Option Int:=if dec (leO a b)then a else b
noncomputable def Zam: Option Int→Option Int→Option Int
 | some a,some b=>some (a+b)
 | _,_=>none
theorem addO_some{b:Option Int}{c:Int}: Zam a b=some c↔∃x y,a=some x∧b=some y∧x+y=c:=by
 cases a <;> cases b <;> simp[Zam]
theorem leO_total{b:Option Int}(h:¬leO a b): leO b a:=by
 cases a with
 | none=>exact Zfc
 | some x=>
  cases b with
  | none=>exact absurd Zfc h
  | some y=>rw[leO_some]at h ⊢;omega
theorem ZmI{b:Option Int}: leO (Zcn a b) a:=by
 unfold Zcn
 split
 ·exact ZcK
 ·rename_i h;exact leO_total fun q=>h (Zbv q)
theorem ZpW{b:Option Int}: leO (Zcn a b) b:=by
 unfold Zcn
 split
 ·rename_i h;exact dec_iff.mp h
 ·exact ZcK
theorem Zgn(a b:Option Int): Zcn a b=a∨Zcn a b=b:=by
 unfold Zcn;split <;> simp
theorem Zq9{b:Option Int}(h:leO a b)(k:leO b a): a=b:=by
 cases a with
 | none=>
  cases b with
  | none=>rfl
  | some y=>exact absurd h Zml
 | some x=>
  cases b with
  | none=>exact absurd k Zml
  | some y=>rw[leO_some]at h k;rw[show x=y by omega]
theorem Zpv{b:Option Int}(h:leO a b): Zcn a b=a:=by unfold Zcn;rw[Zbv h];rfl
theorem Ze7{b c d:Option Int}(h:leO a c)(k:leO b d): leO (Zam a b) (Zam c d):=by
 intro y e
 obtain⟨p,q,rfl,rfl,rfl⟩:=addO_some.mp e
 obtain⟨p',rfl,l1⟩:=h p rfl
 obtain⟨q',rfl,l2⟩:=k q rfl
 exact⟨p'+q',rfl,by omega⟩
theorem ZvM: Zam a (some 0)=a:=by cases a <;> simp[Zam]
theorem ZpX: Zam (some 0) a=a:=by cases a <;> simp[Zam]
theorem ZfW{b c:Option Int}: Zam (Zam a b) c=Zam a (Zam b c):=by cases a <;> cases b <;> cases c <;> simp[Zam,Int.add_assoc]
theorem ZnV{b:Option Int}: Zdw [oT a,oT b]=some (oT (Zam a b)):=by
 apply Pk.eq
 unfold Zdw ZkM
 cases a with
 | none=>
  rw[Zb6]
  walk_at "z"
  rfl
 | some x=>
  cases b with
  | none=>
   rw[Zb6,ZaG]
   walk_at "z"
   rfl
  | some y=>
   rw[ZaG,ZaG]
   walk_at "z"
   rfl
theorem ZsD{b:Option Int}: Zgc [oT a,oT b]=some (oT (Zcn a b)):=by
 apply Pk.eq
 unfold Zgc ZlR Zcn
 walk_at "z"
 refine ZQ Zq8 ?_
 walk_at "z"
 refine⟨fun e=>?_,fun e=>?_⟩
 ·walk_at "z"
  rw[e];rfl
 ·walk_at "z"
  rw[e];rfl
noncomputable def ZbG(G:Nat→Nat→Option Int)(m:Nat): Nat→Nat→Option Int:=fun i j=>Zcn (G i j) (Zam (G i m) (G m j))
theorem Zqd{a b:Nat→Option Int}{c:Option Int}(hn:n<10000): ZgO [Zan n a,oT c,Zan n b]=some (Zan n fun j=>Zcn (a j) (Zam c (b j))):=by
 apply Pk.eq
 unfold ZgO ZiH Zan
 walk_at "z"
 refine ZlN (n:=n) (a:=fun j=>oT (a j)) (b:=fun j=>oT (b j)) (c:=fun j=>oT (Zcn (a j) (Zam c (b j)))) hn ?_ (fun j hj=>?_) ?_
 ·walk_at "z"
  rfl
 ·walk_at "z"
  refine ZQ ZnV ?_
  walk_at "z"
  exact ZQ ZsD ⟨Zmb,rfl⟩
 rfl
theorem Zra{m:Nat}(hn:n<10000)(hm:m<n): Zha [Zab n G,.int m]=some (Zab n (ZbG G m)):=by
 apply Pk.eq
 unfold Zha Zj7 Zab
 walk_at "z"
 refine Zc0 (n:=n) (a:=fun i=>Zan n (G i)) (b:=fun i=>Zan n (ZbG G m i)) hn ?_ (fun i hi=>?_) ?_
 ·walk_at "z"
  rfl
 ·have h:Zan n (G i)=.lst (tab n fun j=>oT (G i j)):=rfl
  rw[h]
  walk_at "z"
  rw[←h]
  exact ZQ (Zqd hn) rfl
 rfl
def Neg(n:Nat)(G:Nat→Nat→Option Int): Prop:=∃i,i<n∧∃b,G i i=some b∧b<0
theorem Ztw(hn:n≤1000)(hd:∀i,i<n→∃b,G i i=some b): ZgR [Zab n G]=some (.bool (dec (Neg n G))):=by
 apply Pk.eq
 unfold ZgR ZiY Zab Zan
 walk_at "z"
 refine Zc0 (n:=n) (a:=fun i=>.int i) (b:=fun i=>.bool (dec (∃b,G i i=some b∧b<0))) (by omega) ?_ (fun i hi=>?_) ?_
 ·walk_at "z"
  rfl
 ·walk_at "z"
  obtain⟨b,e⟩:=hd i hi
  rw[e,ZaG]
  walk_at "z"
  rw[Zhj]
  congr 1
  refine Zf1 ⟨fun h=>⟨b,rfl,h⟩,?_⟩
  rintro⟨c,e,h⟩
  cases e
  exact h
 walk_at "z"
 rfl
noncomputable def clG(G:Nat→Nat→Option Int): Nat→Nat→Nat→Option Int
 | 0=>G
 | m+1=>ZbG (clG G m) m
theorem ZoZ{m:Nat}(h:∃b,G i i=some b): ∃b,ZbG G m i i=some b:=by
 obtain⟨b,e⟩:=h
 have:=ZmI (a:=G i i) (b:=Zam (G i m) (G m i))
 rw[e]at this
 obtain⟨c,e2,_⟩:=this b rfl
 exact⟨c,by unfold ZbG;rw[e];exact e2⟩
theorem Zmn{n:Nat}{G:Nat→Nat→Option Int}(hd:∀i,i<n→∃b,G i i=some b): ∀m i,i<n→∃b,clG G m i i=some b
 | 0=>hd
 | m+1=>fun i hi=>ZoZ (Zmn hd m i hi)
theorem ZsE(h0:0<n)(hn:n≤1000)(hd:∀i,i<n→∃b,G i i=some b): Pk (Zgd [Zab n G]) fun t=>(t=Zab n (clG G n)∧∀m,m<n→¬Neg n (clG G (m+1)))∨(t=.none∧∃m,m<n∧Neg n (clG G (m+1))):=by
 unfold Zgd ZlT
 have hg:Zab n G=.lst (tab n fun i=>Zan n (G i)):=rfl
 walk_at "z"
 refine Zup (n:=n) (a:=fun i=>.int i) h0 ?_ (P:=fun i σ=>σ 1=some (Zab n (clG G i))∧∀m,m<i→¬Neg n (clG G (m+1))) ⟨rfl,by omega⟩ ?_ ?_
 ·walk_at "z"
  rw[hg]
  walk_at "z"
  rfl
 ·rintro i σ hi ⟨e1,e2⟩
  walk_at "z"
  refine ZQ (Zra (by omega) hi) ?_
  walk_at "z"
  refine ZQ (Ztw hn fun a ha=>ZoZ (Zmn hd i a ha)) ?_
  walk_at "z"
  refine⟨fun e=>?_,fun e=>?_⟩
  ·walk_at "z"
   exact .inr ⟨rfl,i,hi,dec_iff.mp e⟩
  ·walk_at "z"
   refine⟨by walk_at "r",fun m hm=>?_⟩
   by_cases q:m=i
   ·subst q
    intro h
    have h2:dec (Neg n (ZbG (clG G m) m))=true:=Zbv h
    rw[h2]at e
    cases e
   ·exact e2 m (by omega)
 ·rintro σ ⟨e1,e2⟩
  walk_at "z"
  exact .inl ⟨rfl,e2⟩
theorem ZgC{G:Nat→Nat→Option Int}: ∀m i j,leO (clG G m i j) (G i j)
 | 0=>fun _ _=>ZcK
 | m+1=>fun i j=>ZcJ ZmI (ZgC m i j)
theorem Zer(hd:∀i,i<n→G i i=some 0){m:Nat}(hn:∀k,k<m→¬Neg n (clG G (k+1))): ∀i,i<n→clG G m i i=some 0:=by
 intro i hi
 obtain⟨b,e⟩:=Zmn (fun i hi=>⟨0,hd i hi⟩) m i hi
 have h:=ZgC m i i (G:=G)
 rw[hd i hi,e]at h
 have h1:=leO_some.mp h
 have h2:¬b<0:=fun q=>by
  cases m with
  | zero=>have:=hd i hi;rw[show clG G 0 i i=G i i from rfl,this]at e;cases e;omega
  | succ m=>exact hn m (by omega) ⟨i,hi,b,e,q⟩
 rw[e,show b=0 by omega]
theorem ZmJ{n:Nat}{G:Nat→Nat→Option Int}(hd:∀i,i<n→G i i=some 0): ∀m,m≤n→(∀k,k<m→¬Neg n (clG G (k+1)))→∀k,k<m→∀i j,i<n→j<n→leO (clG G m i j) (Zam (clG G m i k) (clG G m k j))
 | 0,_,_,k,hk=>by omega
 | m+1,hm,hn,k,hk=>by
  intro i j hi hj
  have z:=Zer hd (fun k hk=>hn k (by omega):∀k,k<m→_)
  have ih:=ZmJ hd m (by omega) (fun k hk=>hn k (by omega))
  generalize hD:clG G m=D at z ih
  have hs:clG G (m+1)=ZbG D m:=by rw[←hD];rfl
  rw[hs]
  have zm:=z m (by omega)
  have cm:∀a,ZbG D m a m=D a m:=fun a=>by unfold ZbG;rw[zm,ZvM];exact Zpv ZcK
  have rm:∀b,ZbG D m m b=D m b:=fun b=>by unfold ZbG;rw[zm,ZpX];exact Zpv ZcK
  by_cases q:k=m
  ·subst q
   rw[cm,rm]
   exact ZpW
  ·have hk':k<m:=by omega
   have t1:=ih k hk' i j hi hj
   have t2:=ih k hk' i m hi (by omega)
   have t3:=ih k hk' m j (by omega) hj
   have t4:=ih k hk' m m (by omega) (by omega)
   rw[zm]at t4
   have dn:leO (ZbG D m i j) (Zam (D i m) (D m j)):=ZpW
   have d0:leO (ZbG D m i j) (D i j):=ZmI
   rcases Zgn (D i k) (Zam (D i m) (D m k))with e1 | e1 <;> rcases Zgn (D k j) (Zam (D k m) (D m j))with e2 | e2
   ·rw[show ZbG D m i k=_ from e1,show ZbG D m k j=_ from e2]
    exact ZcJ d0 t1
   ·rw[show ZbG D m i k=_ from e1,show ZbG D m k j=_ from e2,←ZfW]
    exact ZcJ dn (Ze7 t2 ZcK)
   ·rw[show ZbG D m i k=_ from e1,show ZbG D m k j=_ from e2,ZfW]
    exact ZcJ dn (Ze7 ZcK t3)
   ·rw[show ZbG D m i k=_ from e1,show ZbG D m k j=_ from e2,ZfW,←ZfW (a:=D m k)]
    refine ZcJ dn (Ze7 ZcK ?_)
    have:=Ze7 t4 (ZcK (a:=D m j))
    rwa [ZpX]at this
def ZgD(n:Nat)(G:Nat→Nat→Option Int)(y:Nat→Int): Prop:=∀i j,i<n→j<n→∀b,G i j=some b→y i-y j≤b
theorem ZlZ{n:Nat}{G:Nat→Nat→Option Int}{y:Nat→Int}(h:ZgD n G y): ∀m,m≤n→ZgD n (clG G m) y
 | 0,_=>h
 | m+1,hm=>by
  have ih:=ZlZ h m (by omega)
  intro i j hi hj b e
  rcases Zgn (clG G m i j) (Zam (clG G m i m) (clG G m m j))with e1 | e1
  ·rw[show clG G (m+1) i j=_ from e1]at e;exact ih i j hi hj b e
  ·rw[show clG G (m+1) i j=_ from e1]at e
   obtain⟨p,q,h1,h2,h3⟩:=addO_some.mp e
   have:=ih i m hi (by omega) p h1
   have:=ih m j (by omega) hj q h2
   omega
theorem ZsF{y:Nat→Int}(h:ZgD n G y): ¬Neg n G:=by
 rintro⟨i,hi,b,e,hb⟩
 have:=h i i hi hi b e
 omega
theorem Zoh(h:ZbC n G R x): ZgD (n+1) G (Za5 x):=fun i j hi hj b e=>h.1 i j hi hj b e
theorem ZlB{k:Int}: ZeS [.int k]=some (.bool true):=by
 apply Pk.eq
 unfold ZeS Zj9
 walk_at "z"
 rfl
theorem Zuw(hn:n≤1000)(hd:∀i,i<n→G i i=some 0): Zhp [Zab n G,.int n]=some (.bool true):=by
 apply Pk.eq
 unfold Zhp ZkP Zab Zan
 walk_at "z"
 refine Zb8 (n:=n) (a:=fun i=>.int i) (P:=fun i σ=>σ 0=some (Zab n G)∧σ 1=some (.int n)) ?_ ⟨rfl,rfl⟩ ?_ ?_
 ·walk_at "z"
  rfl
 ·rintro i σ hi ⟨e0,e1⟩
  unfold Zab Zan at e0
  walk_at "z"
  refine Zb8 (n:=n) (a:=fun j=>oT (G i j)) (P:=fun j σ=>σ 0=some (Zab n G)∧σ 1=some (.int n)∧σ 2=some (.int i)) ?_ ⟨by walk_at "r",by walk_at "r",by walk_at "r"⟩ ?_ ?_
  ·walk_at "z"
   rfl
  ·rintro j σ hj ⟨f0,f1,f2⟩
   cases G i j with
   | none=>
    rw[Zb6]
    walk_at "z"
    exact⟨by walk_at "r",by walk_at "r",by walk_at "r"⟩
   | some b=>
    rw[ZaG]
    walk_at "z"
    refine ZQ ZlB ?_
    walk_at "z"
    exact⟨by walk_at "r",by walk_at "r",by walk_at "r"⟩
  ·rintro σ ⟨f0,f1,f2⟩
   unfold Zab Zan at f0
   walk_at "z"
   rw[hd i hi,ZaG]
   walk_at "z"
   exact⟨by walk_at "r",by walk_at "r"⟩
 ·rintro σ ⟨e0,e1⟩
  walk_at "z"
  rfl
section
variable {Q:T→Prop}
theorem Zoz{p:PE}(h:Pk (p σ) fun t=>∃ts,t=.lst ts∧Q (.lst (ts.drop k))): Pk (Zc4 p k σ) Q:=by
 obtain⟨_,e,ts,rfl,q⟩:=h
 exact⟨_,by simp only[Zc4,e,Option.bind_some],q⟩
end
noncomputable abbrev Sp:=Option Int×Option Int
theorem Zpw{x:Int}(h:Bd k x): Bd k (ZaZ x):=by unfold ZaZ;unfold Bd at *;split <;> omega
noncomputable def ZvN(s:Sp)(k:Int): Sp:=if k=0 then(some 0,some 0)else if k<0 then(s.2.map fun x=>x*k,s.1.map fun x=>x*k)else(s.1.map fun x=>x*k,s.2.map fun x=>x*k)
noncomputable def Zwh(s u:Sp): Sp:=(Zam s.1 u.1,Zam s.2 u.2)
noncomputable def Zwt(c:Nat→Int)(S:Nat→Sp): Nat→Sp
 | 0=>(some (c 0),some (c 0))
 | j+1=>Zwh (Zwt c S j) (ZvN (S j) (c (j+1)))
theorem Ztx{f:Nat→T}: (tab (n+1) f).drop 1=tab n fun i=>f (i+1):=by
 apply List.ext_getElem
 ·simp[tab]
 ·intro i h1 h2
  simp[tab]
noncomputable def Zaw(c:Nat→Int)(R:Nat→Int×Int): Nat→Int×Int
 | 0=>(0,c 0)
 | j+1=>Zbm (Zaw c R j) (Zcq (R j) (c (j+1)))
noncomputable def Zbp(c:Nat→Int)(R:Nat→Int×Int): Nat→Int
 | 0=>0
 | j+1=>Int.gcd (Zbp c R j) (c (j+1)*(R j).1)
noncomputable def ZbU(c:Nat→Int)(R:Nat→Int×Int): Nat→Int
 | 0=>c 0
 | j+1=>ZbU c R j+c (j+1)*(R j).2
theorem Zes(c:Nat→Int)(R:Nat→Int×Int): ∀j,0≤Zbp c R j
 | 0=>by show(0:Int)≤0;decide
 | j+1=>by show(0:Int)≤((Int.gcd _ _:Nat):Int);omega
theorem Zh3{c:Nat→Int}{R:Nat→Int×Int}{n i:Nat}(bc:∀j,j<n+1→Bd i (c j))(bR:∀j,j<n→RBd i (R j)): ∀j,j≤n→Bd (i+i) (Zbp c R j)
 | 0,_=>Zd8
 | j+1,h=>Zik (Zh3 bc bR j (by omega)) ((bc (j+1) (by omega)).mul (bR j (by omega)).1)
theorem Zpx{c:Nat→Int}{R:Nat→Int×Int}{n i:Nat}(bc:∀j,j<n+1→Bd i (c j))(bR:∀j,j<n→RBd i (R j)): ∀j,j≤n→Bd (i+i+j) (ZbU c R j)
 | 0,_=>(bc 0 (by omega)).mono (by omega)
 | j+1,h=>(Zpx bc bR j (by omega)).add (((bc (j+1) (by omega)).mul (bR j (by omega)).2).mono (by omega))
theorem ZnE{a:Int}(h:0≤m)(hd:m ∣ a-b): Zap m a=Zap m b:=by
 refine Zhh (Zca h _) (Zca h _) fun x=>?_
 rw[Zdc h,Zdc h]
 constructor
 ·intro q
  have:=Int.dvd_add q hd
  rwa [show x-a+(a-b)=x-b by omega]at this
 ·intro q
  have:=Int.dvd_sub q hd
  rwa [show x-b-(a-b)=x-a by omega]at this
theorem Zhz(h:0≤m): m ∣ (Zap m r).2-r:=by
 have:=(Zdc (r:=r) h (Zap m r).2).mp (Zca h r).self
 exact this
theorem Zdy: (Zap m r).1=m:=by
 unfold Zap
 split
 ·rename_i h;exact h.symm
 ·rfl
theorem ZdC{c:Nat→Int}{R:Nat→Int×Int}{n:Nat}(ok:∀j,j<n→RestOk (R j)): ∀j,j≤n→Zaw c R j=Zap (Zbp c R j) (ZbU c R j)
 | 0,_=>rfl
 | j+1,h=>by
  have ih:=ZdC (c:=c) ok j (by omega)
  have h0:=Zes c R j
  have hr:=(ok j (by omega)).nn
  show Zbm (Zaw c R j) (Zcq (R j) (c (j+1)))=_
  rw[ih]
  unfold Zbm Zcq
  rw[Zdy,Zdy]
  have hab:0≤(R j).1*ZaZ (c (j+1)):=Int.mul_nonneg hr (Zdh _)
  have eg:((Int.gcd (Zbp c R j) ((R j).1*ZaZ (c (j+1))):Nat):Int)=Zbp c R (j+1):=by
   show _=((Int.gcd (Zbp c R j) (c (j+1)*(R j).1):Nat):Int)
   congr 1
   unfold Int.gcd
   rw[Int.natAbs_mul,Int.natAbs_mul,ZlY,Nat.mul_comm]
  rw[eg]
  have h1:Zbp c R (j+1) ∣ Zbp c R j:=Int.gcd_dvd_left ..
  have h2:Zbp c R (j+1) ∣ (R j).1*ZaZ (c (j+1)):=by rw[←eg];exact Int.gcd_dvd_right ..
  refine ZnE (Zes _ _ _) ?_
  have a1:=Int.dvd_trans h1 (Zhz (r:=ZbU c R j) h0)
  have a2:=Int.dvd_trans h2 (Zhz (r:=(R j).2*c (j+1)) hab)
  have:=Int.dvd_add a1 a2
  rw[show ZbU c R (j+1)=ZbU c R j+c (j+1)*(R j).2 from rfl,Int.mul_comm (c (j+1))]
  generalize (Zap (Zbp c R j) (ZbU c R j)).2=u at *
  generalize (Zap ((R j).1*ZaZ (c (j+1))) ((R j).2*c (j+1))).2=v at *
  generalize (R j).2*c (j+1)=z at *
  rwa [show u-ZbU c R j+(v-z)=u+v-(ZbU c R j+z)by omega]at this
noncomputable def ZN(R:Nat→Int×Int): Nat→Int×Int:=cn (0,0) R
theorem ZmW(R:Nat→Int×Int): cn (T.tup [.int 0,.int 0]) (fun i=>ZW (R i))=fun i=>ZW (ZN R i):=by
 funext i;cases i <;> rfl
theorem Znm(hn:n<9000): ZeN [ZaR n R]=some (ZaR (n+1) (ZN R)):=by
 apply Pk.eq
 unfold ZeN Zjk ZaR
 walk_at "z"
 rw[ZmW]
def RB(M:Int)(k:Nat)(q:Int×Int): Prop:=RestOk q∧(q.1=0∨q.1 ∣ M)∧Bd k q.2
theorem RB.mono(h:RB M i q)(hij:i≤j): RB M j q:=⟨h.1,h.2.1,h.2.2.mono hij⟩
theorem RB.bd(hM:0<M)(bM:Bd k M)(h:RB M k q): RBd k q:=by
 refine⟨?_,h.2.2⟩
 rcases h.2.1 with e | e
 ·rw[e];exact Zd8
 ·exact ZcQ bM h.1.nn (Int.le_of_dvd hM e)
theorem ZcY(h:∀t,t<n→RB M k (R t)): ∀i,i<n+1→RB M k (ZN R i)
 | 0,_=>⟨.inl rfl,.inl rfl,Zd8⟩
 | i+1,hi=>h i (by omega)
def ZcA(n:Nat)(G:Nat→Nat→Option Int)(R:Nat→Int×Int)(i:Nat)(m:Nat)(x:Int): Prop:=Zal (ZN R i) x∧∀j,j<m→∀a b,G i j=some a→G j i=some b→a+b=0→Zal (ZN R j) (x-a)
def ZcO(n:Nat)(G:Nat→Nat→Option Int)(R:Nat→Int×Int)(M:Int)(k:Nat)(i m:Nat)(o:Option (Int×Int)): Prop:=match o with
 | none=>∀x,¬ZcA n G R i m x
 | some q=>RB M k q∧∀x,Zal q x↔ZcA n G R i m x
theorem ZnW(h:RestOk q)(a x:Int): Zal (Zbm q (0,a)) x↔Zal q (x-a):=by
 unfold Zbm
 rw[Zdc (by omega),Zba h.nn]
 simp only[Int.gcd_zero_right]
 rw[Int.natAbs_of_nonneg h.nn,show x-(q.2+a)=x-a-q.2 by omega]
theorem Zql(hn:n≤100)(hi:i<n+1)(hk:k≤7000)(hM:0<M)(bM:Bd k M)(bG:∀a b c,a<n+1→b<n+1→G a b=some c→Bd k c)(hR:∀t,t<n→RB M k (R t)): Pk (Zea [Zab (n+1) G,ZaR (n+1) (ZN R),.int i]) fun t=>∃o,t=oR o∧ZcO n G R M (k+1) i (n+1) o:=by
 unfold Zea Zi2
 have hF:=ZcY hR
 have bM1:Bd (k+1) M:=bM.mono (by omega)
 have hr:ZaR (n+1) (ZN R)=.lst (tab (n+1) fun i=>ZW (ZN R i)):=rfl
 rw[hr]
 walk_at "z"
 refine Zl7 (n:=n+1) (a:=fun j=>.int j) (c:=fun j=>ZW (ZN R j)) (P:=fun m σ=>∃o,σ 0=some (Zab (n+1) G)∧σ 1=some (.lst (tab (n+1) fun i=>ZW (ZN R i)))∧σ 2=some (.int i)∧σ 3=some (oR o)∧ZcO n G R M (k+1) i m o) ?_ ⟨some (ZN R i),by walk_at "r",by walk_at "r",by walk_at "r",by walk_at "r",(hF i hi).mono (by omega),fun x=>⟨fun h=>⟨h,by omega⟩,fun h=>h.1⟩⟩ ?_ ?_
 ·walk_at "z"
  rfl
 ·rintro j σ hj ⟨o,e0,e1,e2,e3,ho⟩
  unfold Zab Zan at e0
  cases o with
  | none=>
   have e3':σ 3=some .none:=e3
   clear e3
   walk_at "z"
   refine⟨none,by walk_at "r",by walk_at "r",by walk_at "r",by walk_at "r",fun x h=>ho x ⟨h.1,fun j' hj'=>h.2 j' (by omega)⟩⟩
  | some q=>
   have e3':σ 3=some (.tup [.int q.1,.int q.2]):=e3
   clear e3
   walk_at "z"
   refine ZQ ZnV ?_
   walk_at "z"
   refine Zfn (ZmU (n:=0)) (.int (n:=0)) ?_
   walk_at "z"
   have stay:(∀a b,G i j=some a→G j i=some b→¬a+b=0)→ZcO n G R M (k+1) i (j+1) (some q):=fun h=>⟨ho.1,fun x=>(ho.2 x).trans ⟨fun hx=>⟨hx.1,fun j' hj' a b ha hb hab=>by
     by_cases q':j'=j
     ·subst q';exact absurd hab (h a b ha hb)
     ·exact hx.2 j' (by omega) a b ha hb hab⟩,fun hx=>⟨hx.1,fun j' hj'=>hx.2 j' (by omega)⟩⟩⟩
   refine⟨fun e=>?_,fun e=>?_⟩
   ·have e':=dec_iff.mp e
    rw[←ZaG,ZpR]at e'
    obtain⟨a,b,ha,hb,hab⟩:=addO_some.mp e'
    walk_at "z"
    rw[ha,ZaG]
    have hj2:=hF j hj
    have ba:=bG i j a hi hj ha
    refine ZQ (ZjR (p:=ZN R j) (q:=(0,a)) (k:=k) (by omega) (hj2.bd hM bM).1 Zd8) ?_
    have hpl:RB M (k+1) (Zbm (ZN R j) (0,a)):=by
     refine⟨ZhP _ _,?_,?_⟩
     ·unfold Zbm Zap
      simp only[Int.gcd_zero_right]
      rw[Int.natAbs_of_nonneg hj2.1.nn]
      split
      ·exact .inl rfl
      ·exact hj2.2.1
     ·have hm:=(hj2.bd hM bM).1
      refine(Zf6 (k:=k+1) (by omega) ?_ (Bd.add hj2.2.2 ba)).2
      simp only[Int.gcd_zero_right]
      rw[Int.natAbs_of_nonneg hj2.1.nn]
      exact hm.mono (by omega)
    walk_at "z"
    refine(Zks (p:=q) (q:=Zbm (ZN R j) (0,a)) (k:=k+1) (by omega) ho.1.1 hpl.1 (ho.1.bd hM bM1) (hpl.bd hM bM1)).mono ?_
    rintro _ ⟨o',rfl,mt,wh⟩
    refine⟨o',by walk_at "r",by walk_at "r",by walk_at "r",by walk_at "r",?_⟩
    have hset:∀x,(Zal q x∧Zal (Zbm (ZN R j) (0,a)) x)↔ZcA n G R i (j+1) x:=fun x=>by
     rw[ho.2 x,ZnW hj2.1]
     constructor
     ·rintro⟨h1,h2⟩
      refine⟨h1.1,fun j' hj' c d hc hd hcd=>?_⟩
      by_cases q':j'=j
      ·subst q';rw[ha]at hc;cases hc;exact h2
      ·exact h1.2 j' (by omega) c d hc hd hcd
     ·intro h
      exact⟨⟨h.1,fun j' hj'=>h.2 j' (by omega)⟩,h.2 j (by omega) a b ha hb hab⟩
    cases o' with
    | none=>exact fun x hx=>mt x ((hset x).mpr hx)
    | some r=>
     refine⟨⟨mt.1,?_,?_⟩,fun x=>(mt.2 x).trans (hset x)⟩
     ·rcases wh r rfl with h | h | ⟨h1,h2,h3⟩
      ·rw[h];exact ho.1.2.1
      ·rw[h];exact hpl.2.1
      ·right
       rw[h3]
       exact Int.coe_lcm_dvd (ho.1.2.1.resolve_left h1) (hpl.2.1.resolve_left h2)
     ·rcases wh r rfl with h | h | ⟨h1,h2,h3⟩
      ·rw[h];exact ho.1.2.2
      ·rw[h];exact hpl.2.2
      ·rcases mt.1 with z | z
       ·have:(Int.lcm q.1 (Zbm (ZN R j) (0,a)).1)≠0:=Int.lcm_ne_zero h1 h2
        omega
       ·have hd:r.1 ∣ M:=by
         rw[h3]
         exact Int.coe_lcm_dvd (ho.1.2.1.resolve_left h1) (hpl.2.1.resolve_left h2)
        exact ZcQ bM1 z.2.1 (by have:=Int.le_of_dvd hM hd;omega)
   ·walk_at "z"
    refine⟨some q,by walk_at "r",by walk_at "r",by walk_at "r",by walk_at "r",stay fun a b ha hb hab=>?_⟩
    have:dec (oT (Zam (G i j) (G j i))=.int 0)=true:=Zbv (by rw[ha,hb];simp[Zam,oT,hab])
    rw[this]at e
    cases e
 ·rintro σ ⟨o,e0,e1,e2,e3,ho⟩
  walk_at "z"
  exact⟨o,rfl,ho⟩
theorem ZpY: Zcm 1 1 1=some []:=by
 unfold Zcm
 rw[if_pos (by decide +kernel)]
 rfl
theorem Ziu: Pln 1 (oR o):=by
 cases o with
 | none=>exact .none
 | some q=>exact Zia
theorem oR_none: oR o=.none↔o=none:=by cases o <;> simp[oR,ZW]
def Hand(n:Nat)(G:Nat→Nat→Option Int)(R R':Nat→Int×Int)(M:Int)(k:Nat): Prop:=∀t,t<n→RB M k (R' t)∧∀x,Zal (R' t) x↔ZcA n G R (t+1) (n+1) x
theorem Zqw(hn:n≤100)(hk:k≤7000)(hM:0<M)(bM:Bd k M)(bG:∀a b c,a<n+1→b<n+1→G a b=some c→Bd k c)(hR:∀t,t<n→RB M k (R t)): Pk (Zds [Z2 n G R]) fun t=>(∃R',t=Z2 n G R'∧Hand n G R R' M (k+1))∨(t=.none∧∃i,i<n∧∀x,¬ZcA n G R (i+1) (n+1) x):=by
 unfold Zds ZfF
 have ht:Z2 n G R=.tup [Zab (n+1) G,ZaR n R]:=rfl
 rw[ht]
 walk_at "z"
 refine ZQ (Znm (by omega)) ?_
 have hr:ZaR (n+1) (ZN R)=.lst (tab (n+1) fun i=>ZW (ZN R i)):=rfl
 walk_at "z"
 refine ZsB oR (fun t o=>ZcO n G R M (k+1) (t+1) (n+1) o) (n:=n) (a:=fun i=>.int (i+1)) (by omega) ?_ (fun t ht=>?_) none (fun y hy=>?_)
 ·by_cases h0:n=0
  ·subst h0
   exact⟨[],Zgi (a:=1) (b:=1) rfl ZpY,rfl⟩
  ·rw[hr]
   walk_at "z"
   refine Rn.two 1 n (by decide) (by omega) (by omega) (by omega) ?_
   refine Zbg fun i _=>?_
   congr 1
   omega
 ·walk_at "z"
  refine(Zql (i:=t+1) hn (by omega) hk hM bM bG hR).mono ?_
  rintro _ ⟨o,rfl,ho⟩
  exact⟨o,rfl,ho⟩
 ·walk_at "z"
  refine ZgB (.none (n:=0)) (ZdY (n:=1) fun i _=>Ziu) ?_
  by_cases hc:∃i,i<n∧y i=none
  ·obtain⟨i,hi,ei⟩:=hc
   rw[Zbv (show T.none∈tab n fun i=>oR (y i)from List.mem_of_getElem? (i:=i) (by rw[Zbt hi,ei];rfl))]
   walk_at "z"
   refine .inr ⟨rfl,i,hi,?_⟩
   have:=hy i hi
   rw[ei]at this
   exact this
  ·rw[Zch (show ¬T.none∈tab n fun i=>oR (y i)from fun h=>by
    obtain⟨i,hi,e⟩:=Zdg h
    exact hc ⟨i,hi,oR_none.mp e.symm⟩)]
   walk_at "z"
   have hs:∀i,i<n→y i=some ((y i).getD (1,0)):=fun i hi=>by
    cases e:y i with
    | none=>exact absurd ⟨i,hi,e⟩ hc
    | some q=>rfl
   refine .inl ⟨fun i=>(y i).getD (1,0),?_,fun t ht=>?_⟩
   ·unfold Z2 ZaR
    congr 4
    refine Zbg fun i hi=>?_
    conv=>lhs;rw[hs i hi]
    rfl
   ·have:=hy t ht
    rw[hs t ht]at this
    exact this
theorem Zm3: Zds [.none]=some .none:=by
 apply Pk.eq
 unfold Zds ZfF
 walk_at "z"
 rfl
noncomputable def Zbn(R:Nat→Int×Int)(i j:Nat): Int×Int:=Zbm (ZN R i) (Zcq (ZN R j) (-1))
noncomputable def ZbH(b:Option Int)(q:Int×Int): Option Int:=match b with
 | some b=>Zdl q b
 | none=>if q.1=0 then some q.2 else none
noncomputable def Zay(G:Nat→Nat→Option Int)(R:Nat→Int×Int): Nat→Nat→Option Int:=fun i j=>ZbH (G i j) (Zbn R i j)
def Zdi(n:Nat)(G:Nat→Nat→Option Int)(R:Nat→Int×Int): Prop:=∃i j,i<n+1∧j<n+1∧∃b,G i j=some b∧Zay G R i j=none
theorem Zqe{b:Option Int}(hq:0≤q.1): ZgP [oT b,ZW q]=some (oT (ZbH b q)):=by
 apply Pk.eq
 unfold ZgP ZiM ZbH
 cases b with
 | none=>
  have ep:ZW q=.tup [.int q.1,.int q.2]:=rfl
  rw[Zb6,ep]
  by_cases c:q.1=0
  ·walk_at "z"
   simp[c,oT]
  ·walk_at "z"
   simp[c,oT]
 | some b=>
  rw[ZaG]
  walk_at "z"
  exact ZQ (ZqN hq) rfl
theorem Zqx{b:Nat→Option Int}(hn:n≤100)(hi:i<n+1)(hk:k≤7000)(hM:0<M)(bM:Bd k M)(hR:∀t,t<n→RB M k (R t)): Pk (ZgW [Zan (n+1) b,ZW (ZN R i),ZaR (n+1) (ZN R)]) fun t=>(t=Zan (n+1) (fun j=>ZbH (b j) (Zbn R i j))∧∀j,j<n+1→∀c,b j=some c→ZbH (b j) (Zbn R i j)≠none)∨(t=.none∧∃j,j<n+1∧∃c,b j=some c∧ZbH (b j) (Zbn R i j)=none):=by
 unfold ZgW Zjo
 have hF:=ZcY hR
 have hb:Zan (n+1) b=.lst (tab (n+1) fun j=>oT (b j)):=rfl
 have hr:ZaR (n+1) (ZN R)=.lst (tab (n+1) fun i=>ZW (ZN R i)):=rfl
 rw[hb,hr]
 walk_at "z"
 refine Zl7 (n:=n+1) (a:=fun j=>oT (b j)) (c:=fun j=>ZW (ZN R j)) (P:=fun m σ=>σ 1=some (ZW (ZN R i))∧σ 3=some (.lst (tab m fun j=>oT (ZbH (b j) (Zbn R i j))))∧∀j,j<m→∀c,b j=some c→ZbH (b j) (Zbn R i j)≠none) ?_ ⟨by walk_at "r",by walk_at "r",by omega⟩ ?_ ?_
 ·walk_at "z"
  rfl
 ·rintro j σ hj ⟨e1,e3,st⟩
  have h1:=hF i hi
  have h2:=hF j hj
  have b1:=h1.bd hM bM
  have b2:=h2.bd hM bM
  have bt:Bd (k+1) (Zcq (ZN R j) (-1)).1:=by
   refine(Zf6 (k:=k+1) (Int.mul_nonneg h2.1.nn (Zdh _)) ?_ ?_).1
   ·have:=Bd.mul b2.1 (show Bd 1 (ZaZ (-1))by unfold Bd;decide);exact this
   ·have:=Bd.mul b2.2 (show Bd 1 (-1)by unfold Bd;decide);exact this
  walk_at "z"
  refine ZQ (Zjx (p:=ZN R j) (c:=-1) (k:=k+1) (by omega) h2.1.nn ⟨b2.1.mono (by omega),b2.2.mono (by omega)⟩ (show Bd (k+1) (-1)from(show Bd 1 (-1)by unfold Bd;decide).mono (by omega))) ?_
  walk_at "z"
  refine ZQ (ZjR (k:=k+1) (by omega) (b1.1.mono (by omega)) bt) ?_
  walk_at "z"
  refine ZQ (Zqe (ZhP _ _).nn) ?_
  have hd:Zbm (ZN R i) (Zcq (ZN R j) (-1))=Zbn R i j:=rfl
  rw[hd]
  walk_at "z"
  have app:∀w,w=oT (ZbH (b j) (Zbn R i j))→tab j (fun j=>oT (ZbH (b j) (Zbn R i j)))++[w]=tab (j+1) fun j=>oT (ZbH (b j) (Zbn R i j)):=fun w e=>by rw[e];exact Zgb
  cases hl:ZbH (b j) (Zbn R i j)with
  | none=>
   rw[Zb6]
   walk_at "z"
   cases hbj:b j with
   | none=>
    rw[Zb6]
    walk_at "z"
    rw[app _ (by rw[hl];rfl)]
    refine⟨by walk_at "r",by walk_at "r",fun j' hj' c hc=>?_⟩
    by_cases q:j'=j
    ·subst q;rw[hbj]at hc;cases hc
    ·exact st j' (by omega) c hc
   | some c=>
    rw[ZaG]
    walk_at "z"
    exact .inr ⟨rfl,j,hj,c,hbj,hl⟩
  | some v=>
   rw[ZaG]
   walk_at "z"
   rw[app _ (by rw[hl];rfl)]
   refine⟨by walk_at "r",by walk_at "r",fun j' hj' c hc=>?_⟩
   by_cases q:j'=j
   ·subst q;rw[hl];simp
   ·exact st j' (by omega) c hc
 ·rintro σ ⟨e1,e3,st⟩
  walk_at "z"
  exact .inl ⟨rfl,st⟩
noncomputable def ZfA(n:Nat): Option (Nat→Option Int)→T
 | none=>.none
 | some b=>Zan n b
theorem Zux{o:Option (Nat→Option Int)}: Pln 1 (ZfA n o):=by
 cases o with
 | none=>exact .none
 | some q=>exact Zpk
theorem ZrW{g:PG}{a b:Nat→T}(e:β→T)(P:Nat→β→Prop)(hn:n<10000)(hg:Pl (g σ) fun ts=>ts=tab n fun i=>.tup [a i,b i])(hf:∀i,i<n→Pk (f (Z8 (Z8 σ j (a i)) k (b i))) fun t=>∃y,t=e y∧P i y)(d:β)(h:∀y:Nat→β,(∀i,i<n→P i (y i))→Q (.lst (tab n fun i=>e (y i)))): Pk (ZaC g (ZcF j k) Zak f σ) Q:=by
 have hc:∃y:Nat→β,∀i,i<n→Pk (f (Z8 (Z8 σ j (a i)) k (b i))) (fun t=>t=e (y i))∧P i (y i):=by
  have hx:∀i,∃y:β,i<n→Pk (f (Z8 (Z8 σ j (a i)) k (b i))) (fun t=>t=e y)∧P i y:=fun i=>by
   by_cases q:i<n
   ·obtain⟨t,e1,y,e2,p⟩:=hf i q
    exact⟨y,fun _=>⟨⟨t,e1,e2⟩,p⟩⟩
   ·exact⟨d,fun h=>absurd h q⟩
  exact⟨fun i=>Classical.choose (hx i),fun i=>Classical.choose_spec (hx i)⟩
 obtain⟨y,hy⟩:=hc
 exact ZlN hn hg (fun i hi=>(hy i hi).1) (h y fun i hi=>(hy i hi).2)
theorem oRow_none{o:Option (Nat→Option Int)}: ZfA n o=.none↔o=none:=by cases o <;> simp[ZfA,Zan]
theorem ZrX(hn:n≤100)(hk:k≤7000)(hM:0<M)(bM:Bd k M)(hR:∀t,t<n→RB M k (R t)): Pk (Ze3 [Z2 n G R]) fun t=>(t=Z2 n (Zay G R) R∧¬Zdi n G R)∨(t=.none∧Zdi n G R):=by
 unfold Ze3 ZhF
 have ht:Z2 n G R=.tup [.lst (tab (n+1) fun i=>Zan (n+1) (G i)),ZaR n R]:=rfl
 rw[ht]
 walk_at "z"
 refine ZQ (Znm (by omega)) ?_
 have hr:ZaR (n+1) (ZN R)=.lst (tab (n+1) fun i=>ZW (ZN R i)):=rfl
 walk_at "z"
 refine ZrW (ZfA (n+1)) (fun i o=>match o with
  | none=>∃j,j<n+1∧∃c,G i j=some c∧Zay G R i j=none
  | some b=>b=Zay G R i∧∀j,j<n+1→∀c,G i j=some c→Zay G R i j≠none) (n:=n+1) (a:=fun i=>Zan (n+1) (G i)) (b:=fun i=>ZW (ZN R i)) (by omega) ?_ (fun i hi=>?_) none (fun y hy=>?_)
 ·rw[hr]
  walk_at "z"
  rfl
 ·walk_at "z"
  refine(Zqx hn hi hk hM bM hR).mono ?_
  rintro t (⟨rfl,h⟩ | ⟨rfl,h⟩)
  ·exact⟨some (Zay G R i),rfl,rfl,h⟩
  ·exact⟨none,rfl,h⟩
 ·walk_at "z"
  refine ZgB (.none (n:=0)) (ZdY (n:=1) fun i _=>Zux) ?_
  by_cases hc:∃i,i<n+1∧y i=none
  ·obtain⟨i,hi,ei⟩:=hc
   rw[Zbv (show T.none∈tab (n+1) fun i=>ZfA (n+1) (y i)from List.mem_of_getElem? (i:=i) (by rw[Zbt hi,ei];rfl))]
   walk_at "z"
   have:=hy i hi
   rw[ei]at this
   obtain⟨j,hj,c,h1,h2⟩:=this
   exact .inr ⟨rfl,i,j,hi,hj,c,h1,h2⟩
  ·rw[Zch (show ¬T.none∈tab (n+1) fun i=>ZfA (n+1) (y i)from fun h=>by
    obtain⟨i,hi,e⟩:=Zdg h
    exact hc ⟨i,hi,oRow_none.mp e.symm⟩)]
   walk_at "z"
   have hs:∀i,i<n+1→y i=some (Zay G R i)∧∀j,j<n+1→∀c,G i j=some c→Zay G R i j≠none:=fun i hi=>by
    have:=hy i hi
    cases e:y i with
    | none=>exact absurd ⟨i,hi,e⟩ hc
    | some b=>rw[e]at this;exact⟨by rw[this.1],this.2⟩
   refine .inl ⟨?_,?_⟩
   ·unfold Z2 Zab
    congr 3
    refine Zbg fun i hi=>?_
    rw[(hs i hi).1]
    rfl
   ·rintro⟨i,j,hi,hj,c,h1,h2⟩
    exact(hs i hi).2 j hj c h1 h2
theorem Zrb: Ze3 [.none]=some .none:=by
 apply Pk.eq
 unfold Ze3 ZhF
 walk_at "z"
 rfl
theorem ZsG: Zd0 [.none]=some .none:=by
 apply Pk.eq
 unfold Zd0 Zig
 walk_at "z"
 rfl
def Zb4(n:Nat)(G:Nat→Nat→Option Int): Prop:=∃m,m<n∧Neg n (clG G (m+1))
theorem Zuy(hn:n≤100)(hd:∀i,i<n+1→G i i=some 0): Pk (Zd0 [Z2 n G R]) fun t=>(t=Z2 n (clG G (n+1)) R∧¬Zb4 (n+1) G)∨(t=.none∧Zb4 (n+1) G):=by
 unfold Zd0 Zig
 have ht:Z2 n G R=.tup [Zab (n+1) G,ZaR n R]:=rfl
 rw[ht]
 walk_at "z"
 refine(ZsE (n:=n+1) (by omega) (by omega) fun i hi=>⟨0,hd i hi⟩).mono ?_
 rintro t (⟨rfl,h⟩ | ⟨rfl,h⟩)
 ·have hg:Zab (n+1) (clG G (n+1))=.lst (tab (n+1) fun i=>Zan (n+1) (clG G (n+1) i)):=rfl
  rw[hg]
  walk_at "z"
  exact .inl ⟨rfl,fun⟨m,hm,q⟩=>h m hm q⟩
 ·walk_at "z"
  exact .inr ⟨rfl,h⟩
def BdG(n k:Nat)(G:Nat→Nat→Option Int): Prop:=∀a b c,a<n→b<n→G a b=some c→Bd k c
theorem Zd4{n k:Nat}{G:Nat→Nat→Option Int}(h:BdG n k G): ∀m,m≤n→BdG n (k+m) (clG G m)
 | 0,_=>h
 | m+1,hm=>fun a b c ha hb e=>by
  have ih:=Zd4 h m (by omega)
  rcases Zgn (clG G m a b) (Zam (clG G m a m) (clG G m m b))with e1 | e1
  ·rw[show clG G (m+1) a b=_ from e1]at e
   exact(ih a b c ha hb e).mono (by omega)
  ·rw[show clG G (m+1) a b=_ from e1]at e
   obtain⟨p,q,h1,h2,rfl⟩:=addO_some.mp e
   exact Bd.add (ih a m p ha (by omega) h1) (ih m b q (by omega) hb h2)
theorem Zoi(h:RestOk q): Zcq q (-1)=Zap q.1 (-q.2):=by
 unfold Zcq
 rw[show ZaZ (-1)=1 from rfl,Int.mul_one,Int.mul_neg,Int.mul_one]
theorem Zk8: (Zap m r).1=m:=by
 unfold Zap;split
 ·rename_i c;exact c.symm
 ·rfl
theorem Zgf(hi:RestOk (ZN R i))(hj:RestOk (ZN R j))(x:Int): Zal (Zbn R i j) x↔((Int.gcd (ZN R i).1 (ZN R j).1:Nat):Int) ∣ x-((ZN R i).2-(ZN R j).2):=by
 unfold Zbn Zbm
 rw[Zdc (by omega),Zoi hj,Zk8]
 have hr:=Zdc hj.nn (r:=-(ZN R j).2) (Zap (ZN R j).1 (-(ZN R j).2)).2
 have hs:=(hr.mp (Zca hj.nn _).self)
 generalize (Zap (ZN R j).1 (-(ZN R j).2)).2=s at *
 have hg:((Int.gcd (ZN R i).1 (ZN R j).1:Nat):Int) ∣ s - -(ZN R j).2:=Int.dvd_trans (Int.gcd_dvd_right ..) hs
 constructor
 ·intro h
  have:=Int.dvd_add h hg
  rwa [show x-((ZN R i).2+s)+(s - -(ZN R j).2)=x-((ZN R i).2-(ZN R j).2)by omega]at this
 ·intro h
  have:=Int.dvd_sub h hg
  rwa [show x-((ZN R i).2-(ZN R j).2)-(s - -(ZN R j).2)=x-((ZN R i).2+s)by omega]at this
theorem ZlC{c:Int}(h0:RestOk q)(h:Zdl q b=some c): c≤b∧Zal q c∧(q.1=0∨b-c<q.1):=by
 unfold Zdl at h
 split at h
 ·rename_i z
  split at h
  ·cases h
   exact⟨by assumption,h0.self,.inl z⟩
  ·cases h
 ·rename_i z
  cases h
  have hp:0<q.1:=by have:=h0.nn;omega
  have h1:=Int.emod_nonneg (b-q.2) z
  have h2:=Int.emod_lt_of_pos (b-q.2) hp
  refine⟨by omega,?_,.inr (by omega)⟩
  rw[Zba h0.nn]
  have h3:=Int.emod_add_mul_ediv (b-q.2) q.1
  exact⟨(b-q.2) / q.1,by omega⟩
theorem Zk9{x:Int}(h0:RestOk q)(hx:Zal q x)(hb:x≤b): ∃c,Zdl q b=some c∧x≤c:=by
 unfold Zdl
 rw[Zba h0.nn]at hx
 split
 ·rename_i z
  rw[z,Int.zero_dvd]at hx
  rw[if_pos (by omega)]
  exact⟨_,rfl,by omega⟩
 ·rename_i z
  have hp:0<q.1:=by have:=h0.nn;omega
  refine⟨_,rfl,?_⟩
  obtain⟨t,ht⟩:=hx
  have h3:=Int.emod_add_mul_ediv (b-q.2) q.1
  have h2:=Int.emod_lt_of_pos (b-q.2) hp
  have h4:t≤(b-q.2) / q.1:=Int.le_ediv_of_mul_le hp (by rw[Int.mul_comm];omega)
  have h5:q.1*t≤q.1*((b-q.2) / q.1):=Int.mul_le_mul_of_nonneg_left h4 (by omega)
  omega
theorem ZdD(R:Nat→Int×Int)(i j:Nat): RestOk (Zbn R i j):=ZhP _ _
theorem Zuz(h:∀b,G i j=some b→Zay G R i j≠none): leO (Zay G R i j) (G i j):=by
 intro b e
 have hn:=h b e
 unfold Zay at hn ⊢
 rw[e]at hn ⊢
 cases hc:ZbH (some b) (Zbn R i j)with
 | none=>exact absurd hc hn
 | some c=>exact⟨c,rfl,(ZlC (ZdD R i j) hc).1⟩
theorem ZmK(hM:0<M)(bM:Bd k M)(hG:BdG (n+1) k G)(hR:∀t,t<n→RB M k (R t)): BdG (n+1) (k+1) (Zay G R):=by
 intro i j c hi hj e
 have h1:=ZcY hR i hi
 have h2:=ZcY hR j hj
 have hd1:(Zbn R i j).1=((Int.gcd (ZN R i).1 (ZN R j).1:Nat):Int):=by
  unfold Zbn Zbm
  rw[Zk8,Zoi h2.1,Zk8]
 have hb1:=(h1.bd hM bM).1
 have hb2:=(h2.bd hM bM).1
 have hm:Bd k (Zbn R i j).1:=by
  rw[hd1]
  by_cases z:(ZN R i).1=0
  ·rw[z,Int.gcd_zero_left]
   unfold Bd at *
   simpa using hb2
  ·have:=Int.gcd_le_natAbs_left (b:=(ZN R j).1) z
   unfold Bd at *
   simp only[Int.natAbs_natCast]
   omega
 unfold Zay ZbH at e
 cases hg:G i j with
 | some b=>
  rw[hg]at e
  obtain⟨u1,u2,u3⟩:=ZlC (ZdD R i j) e
  have hbb:=hG i j b hi hj hg
  rcases u3 with z | z
  ·have hx:=(Zgf h1.1 h2.1 c).mp u2
   rw[hd1]at z
   rw[z,Int.zero_dvd]at hx
   have:c=(ZN R i).2-(ZN R j).2:=by omega
   rw[this]
   exact Bd.sub h1.2.2 h2.2.2
  ·unfold Bd at *
   rw[Nat.pow_succ]
   omega
 | none=>
  rw[hg]at e
  simp only at e
  split at e
  ·rename_i z
   cases e
   have hx:=(Zgf h1.1 h2.1 (Zbn R i j).2).mp (ZdD R i j).self
   rw[hd1]at z
   rw[z,Int.zero_dvd]at hx
   have:(Zbn R i j).2=(ZN R i).2-(ZN R j).2:=by omega
   rw[this]
   exact Bd.sub h1.2.2 h2.2.2
  ·cases e
def Zfd(n:Nat)(C:Nat→Nat→Option Int)(R:Nat→Int×Int): Prop:=∃i,i<n∧∀x,¬ZcA n C R (i+1) (n+1) x
theorem Zpy{ts:List T}(h:Pk (Z7 1 Zih ts) fun t=>Zgk t=true∧Q t): Pk (Zeu ts) Q:=by
 obtain⟨t,e,o,q⟩:=h
 exact⟨t,by simp only[Zeu,e,Option.bind_some,o,if_true],q⟩
theorem ZuA: Zgk (Z2 n G R)=true:=Zoq fun _ _=>ZhM
theorem Zpz(hn:n≤100)(hk:k+n+1≤7000)(hM:0<M)(bM:Bd k M)(hd:∀i,i<n+1→G i i=some 0)(bG:BdG (n+1) k G)(hR:∀t,t<n→RB M k (R t)): Pk (Zeu [Z2 n G R]) fun t=>(∃R',t=Z2 n (clG G (n+1)) R'∧¬Zb4 (n+1) G∧Hand n (clG G (n+1)) R R' M (k+n+2))∨(t=.none∧(Zb4 (n+1) G∨(¬Zb4 (n+1) G∧Zfd n (clG G (n+1)) R))):=by
 refine Zpy ?_
 unfold Zih
 walk_at "z"
 refine(Zuy hn hd).mono ?_
 rintro t (⟨rfl,h⟩ | ⟨rfl,h⟩)
 ·walk_at "z"
  refine(Zqw (k:=k+n+1) hn hk hM (bM.mono (by omega)) (Zd4 bG (n+1) (by omega)) (fun t ht=>(hR t ht).mono (by omega))).mono ?_
  rintro t (⟨R',rfl,h2⟩ | ⟨rfl,h2⟩)
  ·exact⟨ZuA,.inl ⟨R',rfl,h,h2⟩⟩
  ·exact⟨rfl,.inr ⟨rfl,.inr ⟨h,h2⟩⟩⟩
 ·walk_at "z"
  exact ZQ Zm3 ⟨rfl,.inr ⟨rfl,.inl h⟩⟩
theorem ZoA: Zeu [.none]=some .none:=by
 apply Pk.eq
 refine Zpy ?_
 unfold Zih
 walk_at "z"
 refine ZQ ZsG ?_
 walk_at "z"
 exact ZQ Zm3 ⟨rfl,rfl⟩
theorem ZhQ(hR:∀i,i<n+1→RestOk (ZN R i))(hd:∀i,i<n+1→G i i=some 0): ∀i,i<n+1→Zay G R i i=some 0:=by
 intro i hi
 unfold Zay ZbH
 rw[hd i hi]
 have h0:Zal (Zbn R i i) 0:=(Zgf (hR i hi) (hR i hi) 0).mpr (by simp)
 obtain⟨c,e,hc⟩:=Zk9 (ZdD R i i) h0 (Int.le_refl 0)
 have:=(ZlC (ZdD R i i) e).1
 show Zdl (Zbn R i i) 0=some 0
 rw[e,show c=0 by omega]
structure Sharp(n:Nat)(G:Nat→Nat→Option Int)(R:Nat→Int×Int)(G2:Nat→Nat→Option Int)(R2:Nat→Int×Int)(M:Int)(k:Nat): Prop where
 go:∃R1,¬Zb4 (n+1) G∧Hand n (clG G (n+1)) R R1 M k∧¬Zdi n (clG G (n+1)) R1∧¬Zb4 (n+1) (Zay (clG G (n+1)) R1)∧G2=clG (Zay (clG G (n+1)) R1) (n+1)∧Hand n G2 R1 R2 M k
def Ze8(n:Nat)(G:Nat→Nat→Option Int)(R:Nat→Int×Int)(M:Int)(k:Nat): Prop:=Zb4 (n+1) G∨(¬Zb4 (n+1) G∧Zfd n (clG G (n+1)) R)∨∃R1,¬Zb4 (n+1) G∧Hand n (clG G (n+1)) R R1 M k∧(Zdi n (clG G (n+1)) R1∨(¬Zdi n (clG G (n+1)) R1∧(Zb4 (n+1) (Zay (clG G (n+1)) R1)∨(¬Zb4 (n+1) (Zay (clG G (n+1)) R1)∧Zfd n (clG (Zay (clG G (n+1)) R1) (n+1)) R1))))
theorem Hand.mono(h:Hand n G R R' M i)(hij:i≤j): Hand n G R R' M j:=fun t ht=>⟨(h t ht).1.mono hij,(h t ht).2⟩
theorem Zty(hn:n≤100)(hk:k+2*n+4≤7000)(hM:0<M)(bM:Bd k M)(hd:∀i,i<n+1→G i i=some 0)(bG:BdG (n+1) k G)(hR:∀t,t<n→RB M k (R t)): Pk (ZdX [Z2 n G R]) fun t=>(∃G2 R2,t=Z2 n G2 R2∧Sharp n G R G2 R2 M (k+2*n+5))∨(t=.none∧Ze8 n G R M (k+n+2)):=by
 unfold ZdX Zmg
 walk_at "z"
 refine(Zpz hn (by omega) hM bM hd bG hR).mono ?_
 rintro t (⟨R1,rfl,nr,h1⟩ | ⟨rfl,h⟩)
 ·have hR1:∀t,t<n→RB M (k+n+2) (R1 t):=fun t ht=>(h1 t ht).1
  have hF1:=ZcY hR1
  have z1:=Zer hd (m:=n+1) fun m hm q=>nr ⟨m,hm,q⟩
  walk_at "z"
  refine(ZrX hn (by omega) hM (bM.mono (by omega)) hR1).mono ?_
  rintro t (⟨rfl,nl⟩ | ⟨rfl,fl⟩)
  ·walk_at "z"
   have bG1:BdG (n+1) (k+n+3) (Zay (clG G (n+1)) R1):=ZmK hM (bM.mono (by omega)) (fun a b c ha hb e=>(Zd4 bG (n+1) (by omega) a b c ha hb e).mono (by omega)) hR1
   refine(Zpz (k:=k+n+3) hn (by omega) hM (bM.mono (by omega)) (ZhQ (fun i hi=>(hF1 i hi).1) z1) bG1 (fun t ht=>(hR1 t ht).mono (by omega))).mono ?_
   rintro t (⟨R2,rfl,nr2,h2⟩ | ⟨rfl,h2⟩)
   ·exact .inl ⟨_,R2,rfl,⟨R1,nr,h1.mono (by omega),nl,nr2,rfl,h2.mono (by omega)⟩⟩
   ·exact .inr ⟨rfl,.inr (.inr ⟨R1,nr,h1,.inr ⟨nl,h2⟩⟩)⟩
  ·walk_at "z"
   exact ZQ ZoA (.inr ⟨rfl,.inr (.inr ⟨R1,nr,h1,.inl fl⟩)⟩)
 ·walk_at "z"
  refine ZQ Zrb ?_
  walk_at "z"
  refine ZQ ZoA (.inr ⟨rfl,?_⟩)
  rcases h with h | h
  ·exact .inl h
  ·exact .inr (.inl h)
theorem ZfX(h:ZbC n G R x): ZbC n (clG G (n+1)) R x:=⟨fun i j hi hj b e=>ZlZ (Zoh h) (n+1) (by omega) i j hi hj b e,h.2⟩
theorem ZnX(h:ZbC n G R x): ¬Zb4 (n+1) G:=fun⟨m,hm,q⟩=>ZsF (ZlZ (Zoh h) (m+1) (by omega)) q
theorem ZlD(h:ZbC n G R x): ∀i,i<n+1→Zal (ZN R i) (Za5 x i)
 | 0,_=>⟨fun _=>rfl,fun q=>absurd q (show ¬(0:Int)<0 by decide)⟩
 | i+1,hi=>h.2 i (by omega)
theorem ZoB(h:ZbC n G R x)(ht:t<n): ZcA n G R (t+1) (n+1) (x t):=by
 refine⟨h.2 t ht,fun j hj a b ha hb hab=>?_⟩
 have h1:=h.1 (t+1) j (by omega) hj a ha
 have h2:=h.1 j (t+1) hj (by omega) b hb
 have h3:Za5 x (t+1)=x t:=rfl
 rw[h3]at h1 h2
 rw[show x t-a=Za5 x j by omega]
 exact ZlD h j hj
theorem Zkt(h:ZbC n G R x)(q:Hand n G R R' M k): ZbC n G R' x:=⟨h.1,fun t ht=>((q t ht).2 _).mpr (ZoB h ht)⟩
theorem Zo0(hR:∀i,i<n+1→RestOk (ZN R i))(h:ZbC n G R x)(hi:i<n+1)(hj:j<n+1): Zal (Zbn R i j) (Za5 x i-Za5 x j):=by
 rw[Zgf (hR i hi) (hR j hj)]
 have h1:=(Zba (hR i hi).nn _).mp (ZlD h i hi)
 have h2:=(Zba (hR j hj).nn _).mp (ZlD h j hj)
 have h3:=Int.dvd_sub (Int.dvd_trans (Int.gcd_dvd_left (b:=(ZN R j).1) ..) h1) (Int.dvd_trans (Int.gcd_dvd_right (a:=(ZN R i).1) ..) h2)
 rwa [show Za5 x i-(ZN R i).2-(Za5 x j-(ZN R j).2)=Za5 x i-Za5 x j-((ZN R i).2-(ZN R j).2)by omega]at h3
theorem ZrY(hR:∀i,i<n+1→RestOk (ZN R i))(h:ZbC n G R x): ¬Zdi n G R:=by
 rintro⟨i,j,hi,hj,b,e,hn⟩
 obtain⟨c,e2,_⟩:=Zk9 (ZdD R i j) (Zo0 hR h hi hj) (h.1 i j hi hj b e)
 unfold Zay ZbH at hn
 rw[e]at hn
 simp only at hn
 rw[e2]at hn
 cases hn
theorem Zo1(hR:∀i,i<n+1→RestOk (ZN R i))(h:ZbC n G R x): ZbC n (Zay G R) R x:=by
 refine⟨fun i j hi hj b e=>?_,h.2⟩
 have hd:=Zo0 hR h hi hj
 unfold Zay ZbH at e
 cases hg:G i j with
 | some c=>
  rw[hg]at e
  simp only at e
  obtain⟨d,e2,hle⟩:=Zk9 (ZdD R i j) hd (h.1 i j hi hj c hg)
  rw[e2]at e
  cases e
  exact hle
 | none=>
  rw[hg]at e
  simp only at e
  split at e
  ·rename_i z
   cases e
   rw[Zba (ZdD R i j).nn,z,Int.zero_dvd]at hd
   omega
  ·cases e
theorem ZrZ(h:ZbC n G R x)(s:Sharp n G R G2 R2 M k): ZbC n G2 R2 x:=by
 obtain⟨R1,h1,h2,h3,h4,rfl,h6⟩:=s.go
 have l1:=Zkt (ZfX h) h2
 have hF:=ZcY fun t ht=>(h2 t ht).1
 exact Zkt (ZfX (Zo1 (fun i hi=>(hF i hi).1) l1)) h6
theorem Zrw(h:ZbC n G R x): ¬Ze8 n G R M k:=by
 have hf:∀{G:Nat→Nat→Option Int} {R:Nat→Int×Int},ZbC n G R x→¬Zfd n G R:=fun h ⟨i,hi,q⟩=>q _ (ZoB h hi)
 rintro(q | ⟨_,q⟩ | ⟨R1,_,h2,q⟩)
 ·exact ZnX h q
 ·exact hf (ZfX h) q
 ·have l1:=Zkt (ZfX h) h2
  have hF:=ZcY fun t ht=>(h2 t ht).1
  have l2:=Zo1 (fun i hi=>(hF i hi).1) l1
  rcases q with q | ⟨_,q | ⟨_,q⟩⟩
  ·exact ZrY (fun i hi=>(hF i hi).1) l1 q
  ·exact ZnX l2 q
  ·exact hf (ZfX l2) q
theorem Zoj(hk:k≤8000)(op:RestOk p)(oq:RestOk q)(bp:RBd k p)(bq:RBd k q): Pk (Zf4 [ZW p,ZW q]) fun t=>∃o,t=oR o∧Met p q o:=by
 unfold Zf4 Zlu
 have ep:ZW p=.tup [.int p.1,.int p.2]:=rfl
 have eq:ZW q=.tup [.int q.1,.int q.2]:=rfl
 have np:=op.nn
 have nq:=oq.nn
 rw[ep,eq]
 walk_at "z"
 have hlt:∀x:Int,0≤x→Bd k x→x<2 ^ 200000:=fun x h0 h1=>by
  have h2:x.natAbs<2 ^ 200000:=Zbq h1 (by omega)
  have h3:((x.natAbs:Nat):Int)<2 ^ 200000:=by exact_mod_cast h2
  omega
 obtain⟨m,hm,eu⟩:=ZhO np nq (hlt _ np bp.1) (hlt _ nq bq.1)
 refine Ze9 (fun m σ=>∃l r s t:Int,σ 0=some (.tup [.int p.1,.int p.2])∧σ 1=some (.tup [.int q.1,.int q.2])∧σ 2=some (.int l)∧σ 3=some (.int r)∧σ 4=some (.int s)∧σ 5=some (.int t)∧Eu m l r∧Int.gcd l r=Int.gcd p.1 q.1∧Bd k l∧Bd k r∧(∃z,s*p.1=l+q.1*z)∧(∃z,t*p.1=r+q.1*z)∧Bd (k+1) s∧Bd (k+1) t∧(s.natAbs:Int)*r+(t.natAbs:Int)*l≤q.1∧(1≤l∨t=0)) _ _ ?_ 1000000 (m:=m) ⟨p.1,q.1,1,0,by walk_at "r",by walk_at "r",by walk_at "r",by walk_at "r",by walk_at "r",by walk_at "r",eu,rfl,bp.1,bq.1,⟨0,by omega⟩,⟨-1,by omega⟩,ZgM (by omega),Zd8,by simp,.inr rfl⟩ hm
 rintro m σ ⟨l,r,s,t,e0,e1,e2,e3,e4,e5,eu,gl,kl,kr,⟨z1,h1⟩,⟨z2,h2⟩,ks,kt,hb1,hl⟩
 walk_at "z"
 refine⟨fun h=>?_,fun h=>?_⟩
 ·have hr:r≠0:=by simpa using h
  have hr0:0≤r:=eu.2.1
  have hl0:0≤l:=eu.1
  have hrp:0<r:=by omega
  have hdiv0:0≤l / r:=Int.ediv_nonneg hl0 hr0
  have hdiv1:l / r≤l:=Int.ediv_le_self _ hl0
  have kd:Bd k (l / r):=ZcQ kl hdiv0 hdiv1
  walk_at "z"
  refine ZdH hr (Zew kr (by omega)) ?_
  rw[Int.fdiv_eq_ediv_of_nonneg _ hr0]
  walk_at "z"
  refine ZbK (Zb5 kd kr (by omega) (by omega)) ?_
  walk_at "z"
  refine ZbK (Zb5 kd kt (by omega) (by omega)) ?_
  walk_at "z"
  have hover:l-l / r*r=l % r:=by
   have:=Int.emod_add_mul_ediv l r
   rw[Int.mul_comm r (l / r)]at this
   omega
  rw[hover]
  obtain⟨m',hm1,hm2⟩:=eu.step hr
  have o0:=Int.emod_nonneg l hr
  have o1:=Int.emod_lt_of_pos l hrp
  have ht:((s-l / r*t).natAbs:Int)≤(s.natAbs:Int)+l / r*(t.natAbs:Int):=by
   have h3:(s-l / r*t).natAbs≤s.natAbs+(l / r*t).natAbs:=by omega
   have h4:(l / r*t).natAbs=(l / r).natAbs*t.natAbs:=Int.natAbs_mul ..
   have h5:(((l / r).natAbs*t.natAbs:Nat):Int)=l / r*(t.natAbs:Int):=by
    rw[Int.natCast_mul,Int.natAbs_of_nonneg hdiv0]
   rw[h4]at h3
   omega
  have h6:((s-l / r*t).natAbs:Int)*r≤((s.natAbs:Int)+l / r*(t.natAbs:Int))*r:=Int.mul_le_mul_of_nonneg_right ht hr0
  have h7:((s.natAbs:Int)+l / r*(t.natAbs:Int))*r=(s.natAbs:Int)*r+(t.natAbs:Int)*(l / r*r):=by
   rw[Int.add_mul,Int.mul_comm (l / r) (t.natAbs:Int),Int.mul_assoc]
  have h8:(t.natAbs:Int)*(l % r)+(t.natAbs:Int)*(l / r*r)=(t.natAbs:Int)*l:=by
   rw[←Int.mul_add,←hover]
   congr 1
   omega
  have h9:(t.natAbs:Int)*(l % r)+((s-l / r*t).natAbs:Int)*r≤q.1:=by omega
  have hpos:0≤(t.natAbs:Int)*(l % r):=Int.mul_nonneg (by omega) o0
  have kn:Bd (k+1) (s-l / r*t):=by
   have h10:((s-l / r*t).natAbs:Int)*1≤((s-l / r*t).natAbs:Int)*r:=Int.mul_le_mul_of_nonneg_left (by omega) (by omega)
   have h11:((s-l / r*t).natAbs:Int)≤q.1:=by omega
   have h12:=bq.1
   unfold Bd at *
   rw[Nat.pow_succ]
   omega
  refine⟨m',hm1,r,l % r,t,s-l / r*t,by walk_at "r",by walk_at "r",by walk_at "r",by walk_at "r",by walk_at "r",by walk_at "r",hm2,by rw[Zge hrp];exact gl,kr,ZcQ kr o0 (by omega),⟨z2,h2⟩,⟨z1-l / r*z2,?_⟩,kt,kn,h9,.inl (by omega)⟩
  rw[Int.sub_mul,h1,Int.mul_assoc,h2,Int.mul_add,Int.mul_sub,←hover]
  have e1:q.1*(l / r*z2)=l / r*(q.1*z2):=by rw[←Int.mul_assoc,Int.mul_comm q.1,Int.mul_assoc]
  rw[e1]
  omega
 ·have hr:r=0:=by simpa using h
  subst hr
  rw[Int.gcd_zero_right]at gl
  have hl0:=eu.1
  have hlg:l=(Int.gcd p.1 q.1:Nat):=by omega
  walk_at "z"
  by_cases c:l=0
  ·have hz:p.1=0∧q.1=0:=Int.gcd_eq_zero_iff.mp (by omega)
   have hp1:∀x,Zal p x↔x=p.2:=fun x=>by rw[Zba np,hz.1,Int.zero_dvd];omega
   have hq1:∀x,Zal q x↔x=q.2:=fun x=>by rw[Zba nq,hz.2,Int.zero_dvd];omega
   walk_at "z"
   by_cases d:q.2-p.2=0
   ·walk_at "z"
    refine⟨some p,rfl,op,fun x=>?_⟩
    rw[hp1,hq1]
    omega
   ·walk_at "z"
    refine⟨none,rfl,fun x hx=>?_⟩
    rw[hp1,hq1]at hx
    omega
  ·have hlp:0<l:=by omega
   obtain⟨a,ea⟩:l ∣ p.1:=by rw[hlg];exact Int.gcd_dvd_left ..
   obtain⟨b,eb⟩:l ∣ q.1:=by rw[hlg];exact Int.gcd_dvd_right ..
   walk_at "z"
   rw[Int.fmod_eq_emod_of_nonneg _ (by omega)]
   by_cases c3:(q.2-p.2) % l=0
   ·obtain⟨d,ed⟩:=Int.dvd_of_emod_eq_zero c3
    have da:p.1 / l=a:=by rw[ea];exact Int.mul_ediv_cancel_left _ (by omega)
    have dd:(q.2-p.2) / l=d:=by rw[ed];exact Int.mul_ediv_cancel_left _ (by omega)
    have ha0:0≤a:=by rw[←da];exact Int.ediv_nonneg np (by omega)
    have ka:Bd k a:=ZcQ bp.1 ha0 (by rw[←da];exact Int.ediv_le_self _ np)
    have kdd:Bd (k+1) d:=by
     have h1:Bd (k+1) (q.2-p.2):=Bd.sub bq.2 bp.2
     unfold Bd at *
     rw[ed,Int.natAbs_mul]at h1
     have:1*d.natAbs≤l.natAbs*d.natAbs:=Nat.mul_le_mul_right _ (by omega)
     omega
    walk_at "z"
    refine ZdH (by omega) (Zew kl (by omega)) ?_
    rw[Int.fdiv_eq_ediv_of_nonneg _ (by omega),da]
    walk_at "z"
    refine ZbK (Zb5 ka bq.1 (by omega) (by omega)) ?_
    walk_at "z"
    refine ZbK (Zb5 bp.1 ks (by omega) (by omega)) ?_
    walk_at "z"
    refine ZdH (by omega) (Zew kl (by omega)) ?_
    rw[Int.fdiv_eq_ediv_of_nonneg _ (by omega),dd]
    walk_at "z"
    refine ZbK (Zb5 (Bd.mul bp.1 ks) kdd (by omega) (by omega)) ?_
    walk_at "z"
    have hm0:0≤a*q.1:=Int.mul_nonneg ha0 nq
    refine ZQ Zek ⟨some _,rfl,Zca hm0 _,fun x=>?_⟩
    rw[Zdc hm0,Zba np,Zba nq]
    have hx0:p.1*s*d=(q.2-p.2)+q.1*(z1*d):=by
     rw[Int.mul_comm p.1 s,h1,Int.add_mul,ed,Int.mul_assoc]
    have hpm:p.1 ∣ a*q.1:=⟨b,by rw[ea,eb];rw[Int.mul_left_comm,Int.mul_assoc]⟩
    have hqm:q.1 ∣ a*q.1:=Int.dvd_mul_left _ _
    constructor
    ·intro hx
     have g1:=Int.dvd_trans hpm hx
     have g2:=Int.dvd_trans hqm hx
     refine⟨?_,?_⟩
     ·have:=Int.dvd_add g1 (show p.1 ∣ p.1*s*d from⟨s*d,by rw[Int.mul_assoc]⟩)
      rwa [show x-(p.2+p.1*s*d)+p.1*s*d=x-p.2 by omega]at this
     ·have:=Int.dvd_add g2 (Int.dvd_mul_right q.1 (z1*d))
      rwa [show x-(p.2+p.1*s*d)+q.1*(z1*d)=x-q.2 by omega]at this
    ·rintro⟨g1,g2⟩
     have g3:p.1 ∣ x-(p.2+p.1*s*d):=by
      have:=Int.dvd_sub g1 (show p.1 ∣ p.1*s*d from⟨s*d,by rw[Int.mul_assoc]⟩)
      rwa [show x-p.2-p.1*s*d=x-(p.2+p.1*s*d)by omega]at this
     have g4:q.1 ∣ x-(p.2+p.1*s*d):=by
      have:=Int.dvd_sub g2 (Int.dvd_mul_right q.1 (z1*d))
      rwa [show x-q.2-q.1*(z1*d)=x-(p.2+p.1*s*d)by omega]at this
     have g5:=Int.coe_lcm_dvd g3 g4
     have g6:(a*q.1).natAbs=Int.lcm p.1 q.1:=by
      have k1:=Int.gcd_mul_lcm p.1 q.1
      have k2:(l.natAbs)*(a*q.1).natAbs=p.1.natAbs*q.1.natAbs:=by
       rw[Int.natAbs_mul,←Nat.mul_assoc]
       congr 1
       rw[←Int.natAbs_mul,←ea]
      have k3:Int.gcd p.1 q.1=l.natAbs:=by omega
      rw[k3]at k1
      exact Nat.eq_of_mul_eq_mul_left (show 0<l.natAbs by omega) (by omega)
     rw[←g6]at g5
     exact Int.natAbs_dvd.mp g5
   ·walk_at "z"
    refine⟨none,rfl,fun x hx=>c3 ?_⟩
    rw[Zba np,Zba nq]at hx
    have g1:l ∣ x-p.2:=Int.dvd_trans ⟨a,ea⟩ hx.1
    have g2:l ∣ x-q.2:=Int.dvd_trans ⟨b,eb⟩ hx.2
    have g3:=Int.dvd_sub g1 g2
    rw[show x-p.2-(x-q.2)=q.2-p.2 by omega]at g3
    exact Int.emod_eq_zero_of_dvd g3
theorem ZpZ(hk:k≤8000)(op:RestOk p)(oq:RestOk q)(bp:RBd k p)(bq:RBd k q)(h:Met p q o): ∀r,o=some r→(r=p∨r=q∨(p.1≠0∧q.1≠0∧r.1=Int.lcm p.1 q.1)):=by
 obtain⟨t,_,o',rfl,h',wh⟩:=Zks hk op oq bp bq
 rw[Zog h h']
 exact wh
theorem ZsH(q:Int×Int)(h:0≤q.1)(a:Int): Zap q.1 (q.2+a)=Zbm q (0,a):=by
 unfold Zbm
 simp only[Int.gcd_zero_right]
 rw[Int.natAbs_of_nonneg h]
theorem ZlE(ho:ZcO n G R M k i j o)(h:∀a b x,G i j=some a→G j i=some b→a+b=0→ZcA n G R i j x→Zal (ZN R j) (x-a)): ZcO n G R M k i (j+1) o:=by
 have hs:∀x,ZcA n G R i j x↔ZcA n G R i (j+1) x:=fun x=>⟨fun hx=>⟨hx.1,fun j' hj' a b ha hb hab=>by
     by_cases q':j'=j
     ·subst q';exact h a b x ha hb hab hx
     ·exact hx.2 j' (by omega) a b ha hb hab⟩,fun hx=>⟨hx.1,fun j' hj'=>hx.2 j' (by omega)⟩⟩
 cases o with
 | none=>exact fun x hx=>ho x ((hs x).mpr hx)
 | some q=>exact⟨ho.1,fun x=>(ho.2 x).trans (hs x)⟩
theorem ZpA{a:Int}(hM:0<M)(bM:Bd k M)(h:RB M k q)(ba:Bd k a): RB M (k+1) (Zbm q (0,a)):=by
 refine⟨ZhP _ _,?_,?_⟩
 ·unfold Zbm Zap
  simp only[Int.gcd_zero_right]
  rw[Int.natAbs_of_nonneg h.1.nn]
  split
  ·exact .inl rfl
  ·exact h.2.1
 ·have hm:=(h.bd hM bM).1
  refine(Zf6 (k:=k+1) (by omega) ?_ (Bd.add h.2.2 ba)).2
  simp only[Int.gcd_zero_right]
  rw[Int.natAbs_of_nonneg h.1.nn]
  exact hm.mono (by omega)
theorem ZsI{o':Option (Int×Int)}{a:Int}(hk:k≤7000)(hM:0<M)(bM:Bd k M)(ha:G i j=some a)(hb:G j i=some b)(hab:a+b=0)(ba:Bd k a)(hj2:RB M k (ZN R j))(ho:ZcO n G R M (k+1) i j (some q))(mt:Met q (Zbm (ZN R j) (0,a)) o'): ZcO n G R M (k+1) i (j+1) o':=by
 have bM1:Bd (k+1) M:=bM.mono (by omega)
 have hpl:=ZpA hM bM hj2 ba
 have wh:=ZpZ (k:=k+1) (by omega) ho.1.1 hpl.1 (ho.1.bd hM bM1) (hpl.bd hM bM1) mt
 have hset:∀x,(Zal q x∧Zal (Zbm (ZN R j) (0,a)) x)↔ZcA n G R i (j+1) x:=fun x=>by
  rw[ho.2 x,ZnW hj2.1]
  constructor
  ·rintro⟨h1,h2⟩
   refine⟨h1.1,fun j' hj' c d hc hd hcd=>?_⟩
   by_cases q':j'=j
   ·subst q';rw[ha]at hc;cases hc;exact h2
   ·exact h1.2 j' (by omega) c d hc hd hcd
  ·intro h
   exact⟨⟨h.1,fun j' hj'=>h.2 j' (by omega)⟩,h.2 j (by omega) a b ha hb hab⟩
 cases o' with
 | none=>exact fun x hx=>mt x ((hset x).mpr hx)
 | some r=>
  refine⟨⟨mt.1,?_,?_⟩,fun x=>(mt.2 x).trans (hset x)⟩
  ·rcases wh r rfl with h | h | ⟨h1,h2,h3⟩
   ·rw[h];exact ho.1.2.1
   ·rw[h];exact hpl.2.1
   ·right
    rw[h3]
    exact Int.coe_lcm_dvd (ho.1.2.1.resolve_left h1) (hpl.2.1.resolve_left h2)
  ·rcases wh r rfl with h | h | ⟨h1,h2,h3⟩
   ·rw[h];exact ho.1.2.2
   ·rw[h];exact hpl.2.2
   ·rcases mt.1 with z | z
    ·have:(Int.lcm q.1 (Zbm (ZN R j) (0,a)).1)≠0:=Int.lcm_ne_zero h1 h2
     omega
    ·have hd:r.1 ∣ M:=by
      rw[h3]
      exact Int.coe_lcm_dvd (ho.1.2.1.resolve_left h1) (hpl.2.1.resolve_left h2)
     exact ZcQ bM1 z.2.1 (by have:=Int.le_of_dvd hM hd;omega)
theorem ZuB{p:PE}(h:Pk (p σ) fun t=>∃ts,t=.lst ts∧Q (.lst (ts.drop k))): Pk (Zc4 p k σ) Q:=by
 obtain⟨t,e,ts,rfl,q⟩:=h
 exact⟨_,by simp only[Zc4,e,Option.bind_some],q⟩
theorem ZsJ{f:Nat→T}: (tab (n+1) f).drop 1=tab n fun i=>f (i+1):=by
 apply List.ext_getElem?
 intro i
 rw[List.getElem?_drop]
 by_cases h:i<n
 ·rw[Zbt h,Nat.add_comm 1 i,Zbt (by omega)]
 ·rw[List.getElem?_eq_none (by rw[Zat];omega),List.getElem?_eq_none (by rw[Zat];omega)]
theorem Znv(hn:n≤100)(hk:k≤7000)(hM:0<M)(bM:Bd k M)(bG:∀a b c,a<n+1→b<n+1→G a b=some c→Bd k c)(hR:∀t,t<n→RB M k (R t)): Pk (ZfI [Zab (n+1) G,ZaR n R]) fun t=>(∃R',t=ZaR n R'∧Hand n G R R' M (k+1))∨(t=.none∧Zfd n G R):=by
 unfold ZfI ZjK
 have hF:=ZcY hR
 have bM1:Bd (k+1) M:=bM.mono (by omega)
 have hr:ZaR n R=.lst (tab n fun i=>ZW (R i)):=rfl
 rw[hr]
 walk_at "z"
 rw[ZmW]
 walk_at "z"
 refine Zb8 (n:=n) (a:=fun i=>.int ((i+1:Nat):Int)) (P:=fun m σ=>∃F:Nat→Option (Int×Int),σ 0=some (Zab (n+1) G)∧σ 2=some (.lst (tab (n+1) fun i=>ZW (ZN R i)))∧σ 3=some (.lst (tab (n+1) fun i=>oR (F i)))∧F 0=some (0,0)∧(∀a,a<m→ZcO n G R M (k+1) (a+1) (n+1) (F (a+1)))∧∀a,m≤a→a<n→F (a+1)=some (R a)) ?_ ⟨fun i=>some (ZN R i),by walk_at "r",by walk_at "r",by walk_at "r",rfl,by omega,fun _ _ _=>rfl⟩ ?_ ?_
 ·by_cases h0:n=0
  ·subst h0
   exact⟨[],Zgi (a:=1) (b:=1) rfl ZpY,rfl⟩
  ·walk_at "z"
   refine Rn.two 1 n (by decide) (by omega) (by omega) (by omega) ?_
   refine Zbg fun i _=>?_
   congr 1
   omega
 ·rintro i σ hi ⟨F,e0,e2,e3,z0,h1,h2⟩
  have hself:(fun a=>oR (F a))=fun a=>oR (if a=i+1 then F (i+1)else F a):=funext fun a=>by split <;> simp_all
  rw[hself]at e3
  refine Zb8 (n:=n+1) (a:=fun j=>.int j) (P:=fun j σ=>∃o,σ 0=some (Zab (n+1) G)∧σ 2=some (.lst (tab (n+1) fun i=>ZW (ZN R i)))∧σ 3=some (.lst (tab (n+1) fun a=>oR (if a=i+1 then o else F a)))∧σ 4=some (.int ((i+1:Nat):Int))∧ZcO n G R M (k+1) (i+1) j o) ?_ ⟨F (i+1),by walk_at "r",by walk_at "r",by walk_at "r",by walk_at "r",?_⟩ ?_ ?_
  ·walk_at "z"
   rfl
  ·rw[h2 i (by omega) hi]
   exact⟨(hF (i+1) (by omega)).mono (by omega),fun x=>⟨fun h=>⟨h,by omega⟩,fun h=>h.1⟩⟩
  ·rintro j σ hj ⟨o,f0,f2,f3,f4,ho⟩
   unfold Zab Zan at f0
   walk_at "z"
   have fin:∀σ':TL,σ' 0=σ 0→σ' 2=σ 2→σ' 3=σ 3→σ' 4=σ 4→ZcO n G R M (k+1) (i+1) (j+1) o→∃o,σ' 0=some (Zab (n+1) G)∧σ' 2=some (.lst (tab (n+1) fun i=>ZW (ZN R i)))∧σ' 3=some (.lst (tab (n+1) fun a=>oR (if a=i+1 then o else F a)))∧σ' 4=some (.int ((i+1:Nat):Int))∧ZcO n G R M (k+1) (i+1) (j+1) o:=fun σ' g0 g2 g3 g4 h=>⟨o,g0.trans f0,g2.trans f2,g3.trans f3,g4.trans f4,h⟩
   refine⟨fun c=>?_,fun c=>⟨fun h=>(nomatch h),fun _=>?_⟩⟩
   ·have cne:i+1≠j:=fun q=>of_decide_eq_true c (by omega)
    cases hg:G (i+1) j with
    | none=>
     rw[Zb6]
     walk_at "z"
     exact fin _ rfl rfl rfl rfl (ZlE ho fun a b x ha=>by rw[hg]at ha;cases ha)
    | some a=>
     rw[ZaG]
     walk_at "z"
     refine Zfn (ZmU (n:=0)) (.int (n:=0)) ?_
     walk_at "z"
     refine⟨fun e=>?_,fun e=>?_⟩
     ·have e':=dec_iff.mp e
      rw[←ZaG,ZpR]at e'
      cases o with
      | none=>
       walk_at "z"
       rw[if_pos rfl,show oR none=T.none from rfl]
       walk_at "z"
       exact fin _ rfl rfl rfl rfl fun x hx=>ho x ⟨hx.1,fun j' hj'=>hx.2 j' (by omega)⟩
      | some q=>
       walk_at "z"
       rw[if_pos rfl,show oR (some q)=T.tup [.int q.1,.int q.2]from rfl]
       walk_at "z"
       rw[if_pos rfl]
       have hj2:=hF j hj
       have ba:=bG (i+1) j a (by omega) hj hg
       have hpl:=ZpA hM bM hj2 ba
       have eq:ZW (ZN R j)=.tup [.int (ZN R j).1,.int (ZN R j).2]:=rfl
       rw[eq]
       walk_at "z"
       rw[eq]
       walk_at "z"
       refine ZQ Zek ?_
       rw[ZsH _ hj2.1.nn]
       walk_at "z"
       refine(Zoj (p:=q) (q:=Zbm (ZN R j) (0,a)) (k:=k+1) (by omega) ho.1.1 hpl.1 (ho.1.bd hM bM1) (hpl.bd hM bM1)).mono ?_
       rintro _ ⟨o',rfl,mt⟩
       refine⟨by cases o' <;> rfl,?_⟩
       walk_at "z"
       refine⟨o',by walk_at "r",by walk_at "r",?_,by walk_at "r",ZsI hk hM bM hg e' (by omega) ba hj2 ho mt⟩
       refine(show _=_ from ZcW).trans ?_
       congr 2
       refine Zbg fun a _=>?_
       split <;> rfl
     ·walk_at "z"
      refine fin _ rfl rfl rfl rfl (ZlE ho fun a' b x ha hb hab hx=>?_)
      rw[hg]at ha
      cases ha
      have:dec (oT (G j (i+1))=.int (-a))=true:=Zbv (by rw[hb,ZaG];congr 1;omega)
      rw[this]at e
      cases e
   ·walk_at "z"
    refine fin _ rfl rfl rfl rfl (ZlE ho fun a b x ha hb hab hx=>?_)
    have cj:i+1=j:=by
     have:=of_decide_eq_false c
     omega
    subst cj
    rw[ha]at hb
    cases hb
    rw[show x-a=x by omega]
    exact hx.1
  ·rintro σ ⟨o,f0,f2,f3,f4,ho⟩
   refine⟨fun a=>if a=i+1 then o else F a,f0,f2,f3,by simp[z0],fun a ha=>?_,fun a ha hb=>?_⟩
   ·by_cases q:a=i
    ·subst q;simpa using ho
    ·simpa [q]using h1 a (by omega)
   ·simpa [show a≠i by omega]using h2 a (by omega) hb
 ·rintro σ ⟨F,e0,e2,e3,z0,h1,-⟩
  walk_at "z"
  refine ZgB (.none (n:=0)) (ZdY (n:=1) fun i _=>Ziu) ?_
  by_cases hc:∃i,i<n∧F (i+1)=none
  ·obtain⟨i,hi,ei⟩:=hc
   rw[Zbv (show T.none∈tab (n+1) fun i=>oR (F i)from List.mem_of_getElem? (i:=i+1) (by rw[Zbt (by omega),ei];rfl))]
   walk_at "z"
   refine .inr ⟨rfl,i,hi,?_⟩
   have:=h1 i hi
   rw[ei]at this
   exact this
  ·rw[Zch (show ¬T.none∈tab (n+1) fun i=>oR (F i)from fun h=>by
    obtain⟨i,hi,e⟩:=Zdg h
    have e':=oR_none.mp e.symm
    cases i with
    | zero=>rw[z0]at e';cases e'
    | succ i=>exact hc ⟨i,by omega,e'⟩)]
   walk_at "z"
   refine ZuB ?_
   walk_at "z"
   refine⟨_,rfl,?_⟩
   rw[ZsJ]
   have hs:∀i,i<n→F (i+1)=some ((F (i+1)).getD (1,0)):=fun i hi=>by
    cases e:F (i+1)with
    | none=>exact absurd ⟨i,hi,e⟩ hc
    | some q=>rfl
   refine .inl ⟨fun i=>(F (i+1)).getD (1,0),?_,fun t ht=>?_⟩
   ·unfold ZaR
    congr 1
    refine Zbg fun i hi=>?_
    conv=>lhs;rw[hs i hi]
    rfl
   ·have:=h1 t ht
    rw[hs t ht]at this
    exact this
theorem ZuC(hi:RestOk (ZN R i))(hj:RestOk (ZN R j)): Zbn R i j=Zap (Int.gcd (ZN R i).1 (ZN R j).1:Nat) ((ZN R i).2-(ZN R j).2):=
 Zhh (ZdD R i j) (Zca (by omega) _) fun x=>(Zgf hi hj x).trans (Zdc (by omega) x).symm
theorem ZuD(hi:RestOk (ZN R i))(hj:RestOk (ZN R j)): Zay G R i j=if((Int.gcd (ZN R i).1 (ZN R j).1:Nat):Int)=0 then(match G i j with | none=>some ((ZN R i).2-(ZN R j).2) | some b=>if(ZN R i).2-(ZN R j).2≤b then some ((ZN R i).2-(ZN R j).2)else none)else(match G i j with | none=>none | some b=>some (b-(b-((ZN R i).2-(ZN R j).2)) % (Int.gcd (ZN R i).1 (ZN R j).1:Nat))):=by
 unfold Zay
 rw[ZuC hi hj]
 generalize ((Int.gcd (ZN R i).1 (ZN R j).1:Nat):Int)=m at *
 generalize (ZN R i).2-(ZN R j).2=r
 unfold Zap
 by_cases c:m=0
 ·rw[if_pos c,if_pos c]
  cases G i j with
  | none=>simp[ZbH]
  | some b=>simp[ZbH,Zdl]
 ·rw[if_neg c,if_neg c]
  cases G i j with
  | none=>simp[ZbH,c]
  | some b=>
   have:(b-r.fmod m) % m=(b-r) % m:=by
    have h1:m ∣ (b-r.fmod m)-(b-r):=by
     have:=Int.mul_fdiv_add_fmod r m
     exact⟨r.fdiv m,by omega⟩
    exact Int.emod_eq_emod_iff_emod_sub_eq_zero.mpr (Int.emod_eq_zero_of_dvd h1)
   simp[ZbH,Zdl,c,this]
def Zft(n:Nat)(G:Nat→Nat→Option Int)(R:Nat→Int×Int)(F:Nat→Nat→Option Int)(i j:Nat): Prop:=∀a b,a<n+1→b<n+1→((a<i∨(a=i∧b<j))→F a b=Zay G R a b∧∀c,G a b=some c→Zay G R a b≠none)∧(¬(a<i∨(a=i∧b<j))→F a b=G a b)
theorem Zok(h:Zft n G R F i j)(e:G i j=Zay G R i j): Zft n G R F i (j+1):=fun a b ha hb=>by
 obtain⟨h1,h2⟩:=h a b ha hb
 refine⟨fun q=>?_,fun q=>h2 (by omega)⟩
 by_cases q':a=i∧b=j
 ·obtain⟨rfl,rfl⟩:=q'
  rw[h2 (by omega)]
  exact⟨e,fun c hc=>by rw[←e,hc];simp⟩
 ·exact h1 (by omega)
theorem ZlF{v:Int}(h:Zft n G R F i j)(e:Zay G R i j=some v): Zft n G R (ZcT F i j (some v)) i (j+1):=fun a b ha hb=>by
 obtain⟨h1,h2⟩:=h a b ha hb
 by_cases q':a=i∧b=j
 ·obtain⟨rfl,rfl⟩:=q'
  rw[Zmm]
  exact⟨fun _=>⟨e.symm,fun c _=>by rw[e];simp⟩,fun q=>by omega⟩
 ·rw[Zh2 q']
  exact⟨fun q=>h1 (by omega),fun q=>h2 (by omega)⟩
theorem Zqy(hn:n≤100)(hk:k≤7000)(hM:0<M)(bM:Bd k M)(hR:∀t,t<n→RB M k (R t))(hd:∀i,i<n+1→G i i=some 0): Pk (ZgX [Zab (n+1) G,ZaR n R]) fun t=>(t=Zab (n+1) (Zay G R)∧¬Zdi n G R)∨(t=.none∧Zdi n G R):=by
 unfold ZgX Zjr
 have hF:=ZcY hR
 have hlz:=ZhQ (fun i hi=>(hF i hi).1) hd
 have hr:ZaR n R=.lst (tab n fun i=>ZW (R i)):=rfl
 rw[hr]
 walk_at "z"
 rw[ZmW]
 refine Zhy (n:=n+1) (G:=G) (by omega) ?_ ?_
 ·walk_at "z"
  rfl
 walk_at "z"
 refine Zb8 (n:=n+1) (a:=fun i=>.int i) (P:=fun i σ=>∃F,σ 0=some (Zab (n+1) G)∧σ 2=some (.lst (tab (n+1) fun i=>ZW (ZN R i)))∧σ 3=some (Zab (n+1) F)∧Zft n G R F i 0) ?_ ⟨G,by walk_at "r",by walk_at "r",by walk_at "r",fun a b _ _=>⟨fun q=>by omega,fun _=>rfl⟩⟩ ?_ ?_
 ·walk_at "z"
  rfl
 ·rintro i σ hi ⟨F,e0,e2,e3,lt⟩
  refine Zb8 (n:=n+1) (a:=fun i=>.int i) (P:=fun j σ=>∃F,σ 0=some (Zab (n+1) G)∧σ 2=some (.lst (tab (n+1) fun i=>ZW (ZN R i)))∧σ 3=some (Zab (n+1) F)∧σ 4=some (.int i)∧Zft n G R F i j) ?_ ⟨F,by walk_at "r",by walk_at "r",by walk_at "r",by walk_at "r",lt⟩ ?_ ?_
  ·walk_at "z"
   rfl
  ·rintro j σ hj ⟨F,e0,e2,e3,e4,lt⟩
   have hi1:=hF i hi
   have hj1:=hF j hj
   have lw:=ZuD (G:=G) hi1.1 hj1.1
   have f0:σ 0=some (.lst (tab (n+1) fun i=>.lst (tab (n+1) fun j=>oT (G i j)))):=e0
   have f3:σ 3=some (.lst (tab (n+1) fun i=>.lst (tab (n+1) fun j=>oT (F i j)))):=e3
   have eqi:ZW (ZN R i)=.tup [.int (ZN R i).1,.int (ZN R i).2]:=rfl
   have eqj:ZW (ZN R j)=.tup [.int (ZN R j).1,.int (ZN R j).2]:=rfl
   clear e0 e3
   walk_at "z"
   rw[eqi]
   walk_at "z"
   rw[eqj]
   walk_at "z"
   refine ZQ (Zhx (Zbq (hi1.bd hM bM).1 (by omega)) (Zbq (hj1.bd hM bM).1 (by omega))) ?_
   walk_at "z"
   rw[eqi]
   walk_at "z"
   rw[eqj]
   walk_at "z"
   have hm0:(0:Int)≤((Int.gcd (ZN R i).1 (ZN R j).1:Nat):Int):=by omega
   generalize ((Int.gcd (ZN R i).1 (ZN R j).1:Nat):Int)=m at *
   generalize (ZN R i).2-(ZN R j).2=r at *
   refine⟨fun c=>?_,fun c=>⟨fun h=>(nomatch h),fun _=>?_⟩⟩
   ·have cne:(i:Int)≠j:=of_decide_eq_true c
    by_cases cm:m=0
    ·rw[if_pos cm]at lw
     walk_at "z"
     cases hg:G i j with
     | none=>
      rw[hg]at lw
      rw[Zb6]
      walk_at "z"
      rw[←ZaG (c:=r),Zev]
      exact⟨_,by walk_at "r",by walk_at "r",by walk_at "r",by walk_at "r",ZlF lt lw⟩
     | some b=>
      rw[hg]at lw
      rw[ZaG]
      walk_at "z"
      by_cases cb:b<r
      ·walk_at "z"
       refine .inr ⟨rfl,i,j,hi,hj,b,hg,?_⟩
       rw[lw]
       exact if_neg (by omega)
      ·walk_at "z"
       rw[←ZaG (c:=r),Zev]
       exact⟨_,by walk_at "r",by walk_at "r",by walk_at "r",by walk_at "r",ZlF lt (by rw[lw];exact if_pos (by omega))⟩
    ·rw[if_neg cm]at lw
     walk_at "z"
     cases hg:G i j with
     | none=>
      rw[hg]at lw
      rw[Zb6]
      walk_at "z"
      exact⟨F,by walk_at "r",by walk_at "r",by walk_at "r",by walk_at "r",Zok lt (by rw[hg,lw])⟩
     | some b=>
      rw[hg]at lw
      rw[ZaG]
      walk_at "z"
      rw[Int.fmod_eq_emod_of_nonneg _ hm0]
      walk_at "z"
      rw[←ZaG (c:=b-(b-r) % m),Zev]
      exact⟨_,by walk_at "r",by walk_at "r",by walk_at "r",by walk_at "r",ZlF lt lw⟩
   ·have ceq:i=j:=by
     have:=of_decide_eq_false c
     omega
    walk_at "z"
    subst ceq
    exact⟨F,by walk_at "r",by walk_at "r",by walk_at "r",by walk_at "r",Zok lt (by rw[hd _ hi,hlz _ hi])⟩
  ·rintro σ ⟨F,e0,e2,e3,e4,lt⟩
   exact⟨F,e0,e2,e3,fun a b ha hb=>⟨fun q=>(lt a b ha hb).1 (by omega),fun q=>(lt a b ha hb).2 (by omega)⟩⟩
 ·rintro σ ⟨F,e0,e2,e3,lt⟩
  walk_at "z"
  refine .inl ⟨?_,?_⟩
  ·unfold Zab Zan
   congr 1
   refine Zbg fun a ha=>?_
   congr 1
   refine Zbg fun b hb=>?_
   rw[((lt a b ha hb).1 (by omega)).1]
  ·rintro⟨a,b,ha,hb,c,hc,e⟩
   exact((lt a b ha hb).1 (by omega)).2 c hc e
noncomputable def ZbQ(G:Nat→Nat→Option Int): Nat→List Nat→Nat→Option Int
 | i,[],j=>G i j
 | i,k::l,j=>Zam (G i k) (ZbQ G k l j)
theorem ZcL(G:Nat→Nat→Option Int): ∀(i:Nat) (l1:List Nat) (k:Nat) (l2:List Nat) (j:Nat),ZbQ G i (l1++k::l2) j=Zam (ZbQ G i l1 k) (ZbQ G k l2 j)
 | i,[],k,l2,j=>rfl
 | i,a::l1,k,l2,j=>by
  show Zam (G i a) (ZbQ G a (l1++k::l2) j)=Zam (Zam (G i a) (ZbQ G a l1 k)) (ZbQ G k l2 j)
  rw[ZcL G a l1 k l2 j,ZfW]
theorem Zo2{n:Nat}{G C:Nat→Nat→Option Int}(hle:∀i j,i<n→j<n→leO (C i j) (G i j))(tri:∀k i j,k<n→i<n→j<n→leO (C i j) (Zam (C i k) (C k j))): ∀(l:List Nat) (i j:Nat),(∀a∈l,a<n)→i<n→j<n→leO (C i j) (ZbQ G i l j)
 | [],i,j,_,hi,hj=>hle i j hi hj
 | k::l,i,j,hl,hi,hj=>by
  have hk:=hl k Zz5
  exact ZcJ (tri k i j hk hi hj) (Ze7 (hle i k hi hk) (Zo2 hle tri l k j (fun a m=>hl a (Zz2 _ m)) hk hj))
theorem Zgv{n:Nat}{G:Nat→Nat→Option Int}: ∀(m:Nat),m≤n→∀i j c,clG G m i j=some c→∃l:List Nat,(∀a∈l,a<n)∧ZbQ G i l j=some c
 | 0,_,i,j,c,h=>⟨[],by simp,h⟩
 | m+1,hm,i,j,c,h=>by
  rcases Zgn (clG G m i j) (Zam (clG G m i m) (clG G m m j))with e | e
  ·rw[show clG G (m+1) i j=_ from e]at h
   exact Zgv (n:=n) m (by omega) i j c h
  ·rw[show clG G (m+1) i j=_ from e]at h
   obtain⟨p,q,h1,h2,h3⟩:=addO_some.mp h
   obtain⟨l1,a1,b1⟩:=Zgv (n:=n) m (by omega) i m p h1
   obtain⟨l2,a2,b2⟩:=Zgv (n:=n) m (by omega) m j q h2
   refine⟨l1++m::l2,fun a ha=>?_,by rw[ZcL,b1,b2];simp[Zam,h3]⟩
   rcases Zz8.mp ha with ha | ha
   ·exact a1 a ha
   ·rcases Zz7.mp ha with rfl | ha
    ·omega
    ·exact a2 a ha
theorem ZlG: ∀(n:Nat) (l:List Nat),l.Nodup→(∀a∈l,a<n)→l.length≤n
 | 0,l,_,h=>by
  cases l with
  | nil=>simp
  | cons a l=>exact absurd (h a Zz5) (by omega)
 | n+1,l,hn,h=>by
  have h1:=ZlG n (l.erase n) (hn.erase n) fun a ha=>by
   have ha':=List.mem_of_mem_erase ha
   have:=h a ha'
   have hne:a≠n:=fun q=>by
    subst q
    exact(List.Nodup.not_mem_erase hn) ha
   omega
  have h2:=List.length_erase_of_mem (a:=n) (l:=l)
  by_cases q:n∈l
  ·have:=h2 q;have:0<l.length:=List.length_pos_of_mem q;omega
  ·rw[List.erase_of_not_mem q]at h1;omega
theorem ZlH: ∀(l:List Nat),¬l.Nodup→∃k l1 l2 l3,l=l1++k::(l2++k::l3)
 | [],h=>absurd List.nodup_nil h
 | a::l,h=>by
  by_cases q:a∈l
  ·obtain⟨l2,l3,e⟩:=List.append_of_mem q
   exact⟨a,[],l2,l3,by rw[e];rfl⟩
  ·have:¬l.Nodup:=fun n=>h (List.nodup_cons.mpr ⟨q,n⟩)
   obtain⟨k,l1,l2,l3,e⟩:=ZlH l this
   exact⟨k,a::l1,l2,l3,by rw[e];rfl⟩
theorem ZuE(pos:∀k l s,k<n→(∀a∈l,a<n)→ZbQ G k l k=some s→0≤s)(hi:i<n)(hj:j<n): ∀(L:Nat) (l:List Nat) (s:Int),l.length=L→(∀a∈l,a<n)→ZbQ G i l j=some s→∃l' s',l'.length+1≤n∧(∀a∈l',a<n)∧ZbQ G i l' j=some s'∧s'≤s:=by
 intro L
 induction L using Nat.strongRecOn with
 | _ L ih=>
  intro l s hL hl h
  by_cases q:i∈l
  ·obtain⟨l1,l2,e⟩:=List.append_of_mem q
   subst e
   rw[ZcL]at h
   obtain⟨p,r,h1,h2,h3⟩:=addO_some.mp h
   have hp:=pos i l1 p hi (fun a ha=>hl a (Zz4 _ ha)) h1
   obtain⟨l',s',k1,k2,k3,k4⟩:=ih l2.length (by rw[←hL];simp;omega) l2 r rfl (fun a ha=>hl a (Zz3 _ (Zz2 _ ha))) h2
   exact⟨l',s',k1,k2,k3,by omega⟩
  ·by_cases nd:l.Nodup
   ·have:=ZlG n (i::l) (List.nodup_cons.mpr ⟨q,nd⟩) (fun a ha=>by
     rcases Zz7.mp ha with rfl | ha
     ·exact hi
     ·exact hl a ha)
    exact⟨l,s,by simpa using this,hl,h,by omega⟩
   ·obtain⟨k,l1,l2,l3,e⟩:=ZlH l nd
    subst e
    rw[ZcL]at h
    obtain⟨p,r,h1,h2,h3⟩:=addO_some.mp h
    rw[ZcL]at h2
    obtain⟨p2,r2,h4,h5,h6⟩:=addO_some.mp h2
    have hk:k<n:=hl k (by simp)
    have hp:=pos k l2 p2 hk (fun a ha=>hl a (by simp[ha])) h4
    have h7:ZbQ G i (l1++k::l3) j=some (p+r2):=by rw[ZcL,h1,h5];rfl
    obtain⟨l',s',k1,k2,k3,k4⟩:=ih (l1++k::l3).length (by rw[←hL];simp;omega) (l1++k::l3) (p+r2) rfl (fun a ha=>hl a (by simp at ha ⊢;rcases ha with h | h | h <;> simp[h])) h7
    exact⟨l',s',k1,k2,k3,by omega⟩
theorem Zr0: ∀(L:Nat) (i:Nat) (l:List Nat) (s:Int),l.length=L→i<n→(∀a∈l,a<n)→ZbQ G i l i=some s→s<0→∃i' l' s',l'.length+1≤n∧i'<n∧(∀a∈l',a<n)∧ZbQ G i' l' i'=some s'∧s'<0:=by
 intro L
 induction L using Nat.strongRecOn with
 | _ L ih=>
  intro i l s hL hi hl h hs
  by_cases q:i∈l
  ·obtain⟨l1,l2,e⟩:=List.append_of_mem q
   subst e
   rw[ZcL]at h
   obtain⟨p,r,h1,h2,h3⟩:=addO_some.mp h
   by_cases hp:p<0
   ·exact ih l1.length (by rw[←hL];simp) i l1 p rfl hi (fun a ha=>hl a (Zz4 _ ha)) h1 hp
   ·exact ih l2.length (by rw[←hL];simp;omega) i l2 r rfl hi (fun a ha=>hl a (Zz3 _ (Zz2 _ ha))) h2 (by omega)
  ·by_cases nd:l.Nodup
   ·have:=ZlG n (i::l) (List.nodup_cons.mpr ⟨q,nd⟩) (fun a ha=>by
     rcases Zz7.mp ha with rfl | ha
     ·exact hi
     ·exact hl a ha)
    exact⟨i,l,s,by simpa using this,hi,hl,h,hs⟩
   ·obtain⟨k,l1,l2,l3,e⟩:=ZlH l nd
    subst e
    rw[ZcL]at h
    obtain⟨p,r,h1,h2,h3⟩:=addO_some.mp h
    rw[ZcL]at h2
    obtain⟨p2,r2,h4,h5,h6⟩:=addO_some.mp h2
    have hk:k<n:=hl k (by simp)
    by_cases hp:p2<0
    ·exact ih l2.length (by rw[←hL];simp;omega) k l2 p2 rfl hk (fun a ha=>hl a (by simp[ha])) h4 hp
    ·have h7:ZbQ G i (l1++k::l3) i=some (p+r2):=by rw[ZcL,h1,h5];rfl
     exact ih (l1++k::l3).length (by rw[←hL];simp;omega) i (l1++k::l3) (p+r2) rfl hi (fun a ha=>hl a (by simp at ha ⊢;rcases ha with h | h | h <;> simp[h])) h7 (by omega)
def ZeK(n r:Nat)(G D:Nat→Nat→Option Int): Prop:=(∀i j,i<n→j<n→∀c,D i j=some c→∃l:List Nat,(∀a∈l,a<n)∧ZbQ G i l j=some c)∧∀(l:List Nat) i j,l.length+1≤r→(∀a∈l,a<n)→i<n→j<n→leO (D i j) (ZbQ G i l j)
theorem Ztz: ZeK n 1 G G:=⟨fun i j _ _ c h=>⟨[],by simp,h⟩,fun l i j h _ _ _=>by
 have:l=[]:=List.length_eq_zero_iff.mp (by omega)
 subst this
 exact ZcK⟩
def Zqb(n:Nat)(D D':Nat→Nat→Option Int): Prop:=∀i j,i<n→j<n→leO (D' i j) (D i j)∧(∀k,k<n→leO (D' i j) (Zam (D i k) (D k j)))∧(D' i j=D i j∨∃k,k<n∧D' i j=Zam (D i k) (D k j))
theorem Zr1{r:Nat}{D':Nat→Nat→Option Int}(h:ZeK n r G D)(t:Zqb n D D'): ZeK n (2*r) G D':=by
 refine⟨fun i j hi hj c e=>?_,fun l i j hl ha hi hj=>?_⟩
 ·obtain⟨_,_,e1 | ⟨k,hk,e1⟩⟩:=t i j hi hj
  ·rw[e1]at e;exact h.1 i j hi hj c e
  ·rw[e1]at e
   obtain⟨p,q,h1,h2,h3⟩:=addO_some.mp e
   obtain⟨l1,a1,b1⟩:=h.1 i k hi hk p h1
   obtain⟨l2,a2,b2⟩:=h.1 k j hk hj q h2
   refine⟨l1++k::l2,fun a ha=>?_,by rw[ZcL,b1,b2];simp[Zam,h3]⟩
   rcases Zz8.mp ha with ha | ha
   ·exact a1 a ha
   ·rcases Zz7.mp ha with rfl | ha
    ·exact hk
    ·exact a2 a ha
 ·obtain⟨t1,t2,_⟩:=t i j hi hj
  by_cases q:l.length+1≤r
  ·exact ZcJ t1 (h.2 l i j q ha hi hj)
  ·have hr:1≤r:=by omega
   have hlt:r-1<l.length:=by omega
   obtain⟨k,l1,l2,e,hl1⟩:∃k l1 l2,l=l1++k::l2∧l1.length=r-1:=⟨l[r-1],l.take (r-1),l.drop r,by
    have e1:=(List.take_append_drop (r-1) l).symm
    rw[List.drop_eq_getElem_cons hlt,show r-1+1=r by omega]at e1
    exact e1,by simp;omega⟩
   subst e
   have hk:k<n:=ha k (by simp)
   rw[ZcL]
   refine ZcJ (t2 k hk) (Ze7 (h.2 l1 i k (by omega) (fun a m=>ha a (Zz4 _ m)) hi hk) (h.2 l2 k j ?_ (fun a m=>ha a (Zz3 _ (Zz2 _ m))) hk hj))
   simp at hl
   omega
theorem Zr2{r:Nat}(hd:∀i,i<n→G i i=some 0)(hr:n≤r)(b:ZeK n r G D)(nn:∀m,m<n→¬Neg n (clG G (m+1))): ∀i j,i<n→j<n→D i j=clG G n i j:=by
 intro i j hi hj
 have low:=Zo2 (n:=n) (G:=G) (C:=clG G n) (fun i j _ _=>ZgC n i j) (fun k i j hk hi hj=>ZmJ hd n (by omega) nn k hk i j hi hj)
 have zero:=Zer hd (m:=n) nn
 have pos:∀k l s,k<n→(∀a∈l,a<n)→ZbQ G k l k=some s→0≤s:=fun k l s hk hl e=>by
  have:=low l k k hl hk hk
  rw[zero k hk,e]at this
  exact leO_some.mp this
 refine Zq9 ?_ ?_
 ·intro c e
  obtain⟨l,h1,h2⟩:=Zgv n (Zz10 n) i j c e
  obtain⟨l',s',k1,k2,k3,k4⟩:=ZuE pos hi hj _ l c rfl h1 h2
  have:=b.2 l' i j (by omega) k2 hi hj
  rw[k3]at this
  obtain⟨x,e1,e2⟩:=this s' rfl
  exact⟨x,e1,by omega⟩
 ·intro c e
  obtain⟨l,h1,h2⟩:=b.1 i j hi hj c e
  have:=low l i j h1 hi hj
  rw[h2]at this
  exact this c rfl
theorem ZsK{r m:Nat}(hr:n≤r)(b:ZeK n r G D)(hm:m<n)(ng:Neg n (clG G (m+1))): Neg n D:=by
 obtain⟨i,hi,c,e,hc⟩:=ng
 obtain⟨l,h1,h2⟩:=Zgv (n:=n) (m+1) (by omega) i i c e
 obtain⟨i',l',s',k1,k2,k3,k4,k5⟩:=Zr0 _ i l c rfl hi h1 h2 hc
 have:=b.2 l' i' i' (by omega) k3 k2 k2
 rw[k4]at this
 obtain⟨x,e1,e2⟩:=this s' rfl
 exact⟨i',k2,x,e1,by omega⟩
def Zdp(n:Nat)(D F:Nat→Nat→Option Int)(done:Nat→Nat→Nat→Prop): Prop:=∀a b,a<n→b<n→leO (F a b) (D a b)∧(F a b=D a b∨∃k,k<n∧F a b=Zam (D a k) (D k b))∧∀k,k<n→done a b k→leO (F a b) (Zam (D a k) (D k b))
theorem ZlI(h:Zdp n D F done)(hd:∀a b c,c<n→done' a b c→done a b c∨(a=i∧b=j∧c=k))(hl:leO (F i j) (Zam (D i k) (D k j))): Zdp n D F done':=fun a b ha hb=>by
 obtain⟨h1,h2,h3⟩:=h a b ha hb
 refine⟨h1,h2,fun c hc q=>?_⟩
 rcases hd a b c hc q with q | ⟨rfl,rfl,rfl⟩
 ·exact h3 c hc q
 ·exact hl
theorem ZtA(h:Zdp n D F done)(hi:i<n)(hj:j<n)(hk:k<n)(hd:∀a b c,c<n→done' a b c→done a b c∨(a=i∧b=j∧c=k))(hl:leO (Zam (D i k) (D k j)) (F i j)): Zdp n D (ZcT F i j (Zam (D i k) (D k j))) done':=fun a b ha hb=>by
 by_cases q:a=i∧b=j
 ·obtain⟨rfl,rfl⟩:=q
  obtain⟨h1,h2,h3⟩:=h a b ha hb
  rw[Zmm]
  refine⟨ZcJ hl h1,.inr ⟨k,hk,rfl⟩,fun c hc q=>?_⟩
  rcases hd a b c hc q with q | ⟨_,_,rfl⟩
  ·exact ZcJ hl (h3 c hc q)
  ·exact ZcK
 ·rw[Zh2 q]
  obtain⟨h1,h2,h3⟩:=h a b ha hb
  refine⟨h1,h2,fun c hc q'=>?_⟩
  rcases hd a b c hc q' with q' | ⟨rfl,rfl,_⟩
  ·exact h3 c hc q'
  ·exact absurd ⟨rfl,rfl⟩ q
theorem Zf7(h:Zdp n D F done)(hd:∀a b c,a<n→b<n→c<n→done' a b c→done a b c): Zdp n D F done':=fun a b ha hb=>by
 obtain⟨h1,h2,h3⟩:=h a b ha hb
 exact⟨h1,h2,fun c hc q=>h3 c hc (hd a b c ha hb hc q)⟩
theorem Zr3(h:Zdp n D F fun _ _ _=>True): Zqb n D F:=fun a b ha hb=>by
 obtain⟨h1,h2,h3⟩:=h a b ha hb
 exact⟨h1,fun k hk=>h3 k hk trivial,h2⟩
theorem ZqO(h0:0<n)(hn:n≤100)(hd:∀i,i<n→G i i=some 0): Pk (ZeL [Zab n G]) fun t=>∃r D,n≤r∧ZeK n r G D∧((t=Zab n D∧¬Neg n D)∨(t=.none∧Neg n D)):=by
 unfold ZeL ZiD
 have hg:Zab n G=.lst (tab n fun i=>Zan n (G i)):=rfl
 walk_at "z"
 rw[hg]
 walk_at "z"
 refine Zhy (n:=n) (G:=G) (by omega) ?_ ?_
 ·walk_at "z"
  rfl
 walk_at "z"
 refine Ze9 (fun m σ=>∃(r:Nat) (D:Nat→Nat→Option Int),σ 1=some (.int n)∧σ 2=some (Zab n D)∧σ 3=some (.int r)∧ZeK n r G D∧1≤r∧r≤2*n∧m=2*n-r) _ _ ?_ 1000000 (m:=2*n-1) ⟨1,G,by walk_at "r",by walk_at "r",by walk_at "r",Ztz,by omega,by omega,rfl⟩ (by omega)
 rintro m σ ⟨r,D,e1,e2,e3,bs,r1,r2,rfl⟩
 have hdD:∀i,i<n→∃b,D i i=some b:=fun i hi=>by
  have:=bs.2 [] i i (by simpa using r1) (by simp) hi hi
  rw[show ZbQ G i [] i=some 0 from hd i hi]at this
  obtain⟨x,e,_⟩:=this 0 rfl
  exact⟨x,e⟩
 walk_at "z"
 refine⟨fun c=>?_,fun c=>?_⟩
 ·have hrn:r<n:=by simpa using c
  walk_at "z"
  refine Zhy (n:=n) (G:=D) (by omega) ?_ ?_
  ·walk_at "z"
   rfl
  walk_at "z"
  refine Zb8 (n:=n) (a:=fun i=>.int i) (P:=fun i σ=>∃F,σ 1=some (.int n)∧σ 2=some (Zab n F)∧σ 3=some (.int r)∧σ 4=some (Zab n D)∧Zdp n D F fun a _ _=>a<i) ?_ ⟨D,by walk_at "r",by walk_at "r",by walk_at "r",by walk_at "r",fun a b _ _=>⟨ZcK,.inl rfl,fun k _ q=>by omega⟩⟩ ?_ ?_
  ·walk_at "z"
   rfl
  ·rintro i σ hi ⟨F0,f1,f2,f3,f4,pt⟩
   refine Zb8 (n:=n) (a:=fun i=>.int i) (P:=fun j σ=>∃F,σ 1=some (.int n)∧σ 2=some (Zab n F)∧σ 3=some (.int r)∧σ 4=some (Zab n D)∧σ 5=some (.int i)∧Zdp n D F fun a b _=>a<i∨(a=i∧b<j)) ?_ ⟨F0,by walk_at "r",by walk_at "r",by walk_at "r",by walk_at "r",by walk_at "r",Zf7 pt fun a b c _ _ _ q=>by omega⟩ ?_ ?_
   ·walk_at "z"
    rfl
   ·rintro j σ hj ⟨F1,f1,f2,f3,f4,f5,pt⟩
    refine Zb8 (n:=n) (a:=fun i=>.int i) (P:=fun k σ=>∃F,σ 1=some (.int n)∧σ 2=some (Zab n F)∧σ 3=some (.int r)∧σ 4=some (Zab n D)∧σ 5=some (.int i)∧σ 6=some (.int j)∧Zdp n D F fun a b c=>a<i∨(a=i∧(b<j∨(b=j∧c<k)))) ?_ ⟨F1,by walk_at "r",by walk_at "r",by walk_at "r",by walk_at "r",by walk_at "r",by walk_at "r",Zf7 pt fun a b c _ _ _ q=>by omega⟩ ?_ ?_
    ·walk_at "z"
     rfl
    ·rintro k σ hk ⟨F,f1,f2,f3,f4,f5,f6,pt⟩
     have hdn:∀a b c,c<n→(a<i∨(a=i∧(b<j∨(b=j∧c<k+1))))→(a<i∨(a=i∧(b<j∨(b=j∧c<k))))∨(a=i∧b=j∧c=k):=fun a b c _ q=>by omega
     have f2':=f2
     unfold Zab Zan at f2 f4
     walk_at "z"
     cases hik:D i k with
     | none=>
      rw[Zb6]
      walk_at "z"
      exact⟨F,by walk_at "r",by walk_at "r",by walk_at "r",by walk_at "r",by walk_at "r",by walk_at "r",ZlI pt hdn (by rw[hik];exact Zfc)⟩
     | some p=>
      rw[ZaG]
      walk_at "z"
      cases hkj:D k j with
      | none=>
       rw[Zb6]
       walk_at "z"
       exact⟨F,by walk_at "r",by walk_at "r",by walk_at "r",by walk_at "r",by walk_at "r",by walk_at "r",ZlI pt hdn (by rw[hik,hkj];exact Zfc)⟩
      | some q=>
       rw[ZaG]
       walk_at "z"
       rw[hik,hkj,ZaG,ZaG]
       have hs:Zam (D i k) (D k j)=some (p+q):=by rw[hik,hkj];rfl
       have hset:=ZtA pt hi hj hk hdn
       have hkeep:=ZlI pt hdn
       rw[hs]at hset hkeep
       clear f2'
       walk_at "z"
       cases hij:F i j with
       | none=>
        rw[Zb6]
        walk_at "z"
        rw[←ZaG (c:=p+q),Zev]
        exact⟨_,by walk_at "r",by walk_at "r",by walk_at "r",by walk_at "r",by walk_at "r",by walk_at "r",hset (by rw[hij];exact Zfc)⟩
       | some g=>
        rw[ZaG]
        walk_at "z"
        rw[hij,ZaG]
        walk_at "z"
        by_cases hlt:p+q<g
        ·walk_at "z"
         rw[←ZaG (c:=p+q),Zev]
         exact⟨_,by walk_at "r",by walk_at "r",by walk_at "r",by walk_at "r",by walk_at "r",by walk_at "r",hset (by rw[hij];exact leO_some.mpr (by omega))⟩
        ·walk_at "z"
         exact⟨F,by walk_at "r",by walk_at "r",by walk_at "r",by walk_at "r",by walk_at "r",by walk_at "r",hkeep (by rw[hij];exact leO_some.mpr (by omega))⟩
    ·rintro σ ⟨F,f1,f2,f3,f4,f5,f6,pt⟩
     exact⟨F,f1,f2,f3,f4,f5,Zf7 pt fun a b c _ _ hc q=>by omega⟩
   ·rintro σ ⟨F,f1,f2,f3,f4,f5,pt⟩
    exact⟨F,f1,f2,f3,f4,Zf7 pt fun a b c _ hb _ q=>by omega⟩
  ·rintro σ ⟨F,f1,f2,f3,f4,pt⟩
   walk_at "z"
   refine Zpt (by decide) (by decide) ?_
   walk_at "z"
   exact⟨2*n-2*r,by omega,2*r,F,by walk_at "r",by walk_at "r",by rw[show((2*r:Nat):Int)=2*(r:Int)by omega];walk_at "r",Zr1 bs (Zr3 (Zf7 pt fun a b c ha _ _ _=>ha)),by omega,by omega,rfl⟩
 ·have hrn:n≤r:=by simp at c;omega
  refine Zfm ?_
  refine Zb8 (n:=n) (a:=fun i=>.int i) (P:=fun i σ=>σ 2=some (Zab n D)∧∀a,a<i→∀b,D a a=some b→0≤b) ?_ ⟨e2,by omega⟩ ?_ ?_
  ·walk_at "z"
   rfl
  ·rintro i σ hi ⟨f2,f3⟩
   unfold Zab Zan at f2
   obtain⟨b,eb⟩:=hdD i hi
   walk_at "z"
   rw[eb,ZaG]
   walk_at "z"
   by_cases hb:b<0
   ·walk_at "z"
    exact⟨r,D,hrn,bs,.inr ⟨rfl,i,hi,b,eb,hb⟩⟩
   ·walk_at "z"
    refine⟨by walk_at "r",fun a ha c hc=>?_⟩
    by_cases q:a=i
    ·subst q;rw[eb]at hc;cases hc;omega
    ·exact f3 a (by omega) c hc
  ·rintro σ ⟨f2,f3⟩
   walk_at "z"
   refine⟨r,D,hrn,bs,.inl ⟨rfl,?_⟩⟩
   rintro⟨i,hi,b,eb,hb⟩
   have:=f3 i hi b eb
   omega
theorem ZpB(hn:n≤99)(hd:∀i,i<n+1→G i i=some 0): Pk (ZeL [Zab (n+1) G]) fun t=>(t=Zab (n+1) (clG G (n+1))∧¬Zb4 (n+1) G)∨(t=.none∧Zb4 (n+1) G):=by
 refine(ZqO (by omega) (by omega) hd).mono ?_
 rintro t ⟨r,D,hr,bs,h⟩
 by_cases hc:Zb4 (n+1) G
 ·obtain⟨m,hm,ng⟩:=hc
  have ng2:=ZsK hr bs hm ng
  rcases h with⟨_,h⟩ | ⟨h,_⟩
  ·exact absurd ng2 h
  ·exact .inr ⟨h,m,hm,ng⟩
 ·have nn:∀m,m<n+1→¬Neg (n+1) (clG G (m+1)):=fun m hm q=>hc ⟨m,hm,q⟩
  have same:=Zr2 hd hr bs nn
  have hz:=Zer hd nn
  rcases h with⟨h,_⟩ | ⟨_,i,hi,b,e,hb⟩
  ·refine .inl ⟨?_,hc⟩
   rw[h]
   unfold Zab Zan
   congr 1
   refine Zbg fun i hi=>?_
   congr 1
   refine Zbg fun j hj=>?_
   rw[same i j hi hj]
  ·rw[same i i hi hi,hz i hi]at e
   cases e
   omega
theorem Zrc(hn:n≤99)(hk:k+2*n+4≤7000)(hM:0<M)(bM:Bd k M)(hd:∀i,i<n+1→G i i=some 0)(bG:BdG (n+1) k G)(hR:∀t,t<n→RB M k (R t)): Pk (Zee [Z2 n G R]) fun t=>(∃G2 R2,t=Z2 n G2 R2∧Sharp n G R G2 R2 M (k+2*n+5))∨(t=.none∧Ze8 n G R M (k+n+2)):=by
 unfold Zee Zke
 have ht:Z2 n G R=.tup [Zab (n+1) G,ZaR n R]:=rfl
 have hg:∀G,Zab (n+1) G=.lst (tab (n+1) fun i=>Zan (n+1) (G i)):=fun _=>rfl
 have hr:∀R,ZaR n R=.lst (tab n fun i=>ZW (R i)):=fun _=>rfl
 rw[ht]
 walk_at "z"
 refine(ZpB hn hd).mono ?_
 rintro t (⟨rfl,nr⟩ | ⟨rfl,h⟩)
 ·rw[hg (clG G (n+1))]
  walk_at "z"
  rw[←hg (clG G (n+1))]
  refine(Znv (k:=k+n+1) (by omega) (by omega) hM (bM.mono (by omega)) (Zd4 bG (n+1) (by omega)) (fun t ht=>(hR t ht).mono (by omega))).mono ?_
  rintro t (⟨R1,rfl,h1⟩ | ⟨rfl,h⟩)
  ·have hR1:∀t,t<n→RB M (k+n+2) (R1 t):=fun t ht=>(h1 t ht).1
   have hF1:=ZcY hR1
   have z1:=Zer hd (m:=n+1) fun m hm q=>nr ⟨m,hm,q⟩
   rw[hr R1]
   walk_at "z"
   rw[←hr R1]
   refine(Zqy (k:=k+n+2) (by omega) (by omega) hM (bM.mono (by omega)) hR1 z1).mono ?_
   rintro t (⟨rfl,nl⟩ | ⟨rfl,fl⟩)
   ·have bG1:BdG (n+1) (k+n+3) (Zay (clG G (n+1)) R1):=ZmK hM (bM.mono (by omega)) (fun a b c ha hb e=>(Zd4 bG (n+1) (by omega) a b c ha hb e).mono (by omega)) hR1
    have z2:=ZhQ (fun i hi=>(hF1 i hi).1) z1
    rw[hg (Zay (clG G (n+1)) R1)]
    walk_at "z"
    rw[←hg (Zay (clG G (n+1)) R1)]
    refine(ZpB hn z2).mono ?_
    rintro t (⟨rfl,nr2⟩ | ⟨rfl,h2⟩)
    ·rw[hg (clG (Zay (clG G (n+1)) R1) (n+1))]
     walk_at "z"
     rw[←hg (clG (Zay (clG G (n+1)) R1) (n+1))]
     refine(Znv (k:=k+n+3+n+1) (by omega) (by omega) hM (bM.mono (by omega)) (fun a b c ha hb e=>Zd4 bG1 (n+1) (by omega) a b c ha hb e) (fun t ht=>(hR1 t ht).mono (by omega))).mono ?_
     rintro t (⟨R2,rfl,h2⟩ | ⟨rfl,h2⟩)
     ·rw[hr R2]
      walk_at "z"
      exact .inl ⟨_,R2,rfl,⟨R1,nr,h1.mono (by omega),nl,nr2,rfl,h2.mono (by omega)⟩⟩
     ·walk_at "z"
      exact .inr ⟨rfl,.inr (.inr ⟨R1,nr,h1,.inr ⟨nl,.inr ⟨nr2,h2⟩⟩⟩)⟩
    ·walk_at "z"
     exact .inr ⟨rfl,.inr (.inr ⟨R1,nr,h1,.inr ⟨nl,.inl h2⟩⟩)⟩
   ·walk_at "z"
    exact .inr ⟨rfl,.inr (.inr ⟨R1,nr,h1,.inl fl⟩)⟩
  ·walk_at "z"
   exact .inr ⟨rfl,.inr (.inl ⟨nr,h⟩)⟩
 ·walk_at "z"
  exact .inr ⟨rfl,.inl h⟩
def SameG(n:Nat)(A B:Nat→Nat→Option Int): Prop:=∀i j,i<n→j<n→A i j=B i j
theorem Zh4{n:Nat}{A B:Nat→Nat→Option Int}(h:SameG n A B): ∀m,m≤n→SameG n (clG A m) (clG B m)
 | 0,_=>h
 | m+1,hm=>fun i j hi hj=>by
  have ih:=Zh4 h m (by omega)
  show Zcn (clG A m i j) (Zam (clG A m i m) (clG A m m j))=Zcn (clG B m i j) (Zam (clG B m i m) (clG B m m j))
  rw[ih i j hi hj,ih i m hi (by omega),ih m j (by omega) hj]
theorem ZsL(h:SameG n A B)(r:Zb4 n A): Zb4 n B:=by
 obtain⟨m,hm,i,hi,b,e,hb⟩:=r
 exact⟨m,hm,i,hi,b,by rw[←Zh4 h (m+1) (by omega) i i hi hi];exact e,hb⟩
def SameR(n:Nat)(R S:Nat→Int×Int): Prop:=∀t,t<n→R t=S t
theorem ZhJ(h:SameR n R S): ∀i,i<n+1→ZN R i=ZN S i
 | 0,_=>rfl
 | i+1,hi=>h i (by omega)
theorem Zl0(h:SameG (n+1) A B)(hr:SameR n R S): SameG (n+1) (Zay A R) (Zay B S):=fun i j hi hj=>by
 unfold Zay Zbn
 rw[h i j hi hj,ZhJ hr i hi,ZhJ hr j hj]
theorem Zrd(h:SameG (n+1) A B)(hr:SameR n R S)(q:Zdi n A R): Zdi n B S:=by
 obtain⟨i,j,hi,hj,b,e,l⟩:=q
 exact⟨i,j,hi,hj,b,by rw[←h i j hi hj];exact e,by rw[←Zl0 h hr i j hi hj];exact l⟩
theorem ZjS(h:SameG (n+1) A B)(hr:SameR n R S)(hi:i<n+1){x:Int}(q:ZcA n A R i (n+1) x): ZcA n B S i (n+1) x:=by
 refine⟨by rw[←ZhJ hr i hi];exact q.1,fun j hj a b ha hb hab=>?_⟩
 rw[←ZhJ hr j hj]
 exact q.2 j hj a b (by rw[h i j hi hj];exact ha) (by rw[h j i hj hi];exact hb) hab
theorem SameG.symm(h:SameG n A B): SameG n B A:=fun i j hi hj=>(h i j hi hj).symm
theorem SameR.symm{A B:Nat→Int×Int}(h:SameR n A B): SameR n B A:=fun i hi=>(h i hi).symm
theorem ZlJ{S':Nat→Int×Int}(h:SameG (n+1) A B)(hr:SameR n R S)(a:Hand n A R R' M k)(b:Hand n B S S' M' k'): SameR n R' S':=fun t ht=>
 Zhh (a t ht).1.1 (b t ht).1.1 fun x=>((a t ht).2 x).trans (Iff.trans ⟨ZjS h hr (by omega),ZjS h.symm hr.symm (by omega)⟩ ((b t ht).2 x).symm)
theorem ZoC(h:SameG (n+1) A B)(hr:SameR n R S)(a:Hand n A R R' M k): ¬Zfd n B S:=by
 rintro⟨i,hi,q⟩
 exact q _ (ZjS h hr (by omega) (((a i hi).2 _).mp (a i hi).1.1.self))
theorem ZeY: SameG n A A:=fun _ _ _ _=>rfl
theorem Zla{A:Nat→Int×Int}: SameR n A A:=fun _ _=>rfl
theorem ZsM(h:SameG (n+1) A B)(hr:SameR n R S): Z2 n A R=Z2 n B S:=by
 unfold Z2 Zab ZaR Zan
 have e1:(tab (n+1) fun i=>T.lst (tab (n+1) fun j=>oT (A i j)))=tab (n+1) fun i=>T.lst (tab (n+1) fun j=>oT (B i j)):=Zbg fun i hi=>by
  congr 1
  exact Zbg fun j hj=>by rw[h i j hi hj]
 have e2:(tab n fun i=>ZW (R i))=tab n fun i=>ZW (S i):=Zbg fun i hi=>by rw[hr i hi]
 rw[e1,e2]
theorem Zr4{G2':Nat→Nat→Option Int}{R2':Nat→Int×Int}(a:Sharp n G R G2 R2 M k)(b:Sharp n G R G2' R2' M' k'): Z2 n G2 R2=Z2 n G2' R2':=by
 obtain⟨R1,a1,a2,a3,a4,rfl,a6⟩:=a.go
 obtain⟨S1,b1,b2,b3,b4,rfl,b6⟩:=b.go
 have r1:=ZlJ ZeY Zla a2 b2
 have g2:=Zh4 (Zl0 (A:=clG G (n+1)) ZeY r1) (n+1) (by omega)
 exact ZsM g2 (ZlJ g2 r1 a6 b6)
theorem ZoD(a:Sharp n G R G2 R2 M k)(b:Ze8 n G R M' k'): False:=by
 obtain⟨R1,a1,a2,a3,a4,rfl,a6⟩:=a.go
 rcases b with b | ⟨_,b⟩ | ⟨S1,b1,b2,b⟩
 ·exact a1 b
 ·exact ZoC ZeY Zla a2 b
 ·have r1:=ZlJ ZeY Zla a2 b2
  have g1:=Zl0 (A:=clG G (n+1)) ZeY r1
  rcases b with b | ⟨_,b | ⟨_,b⟩⟩
  ·exact a3 (Zrd ZeY r1.symm b)
  ·exact a4 (ZsL g1.symm b)
  ·exact ZoC (Zh4 g1 (n+1) (by omega)) r1 a6 b
theorem Zr5{t u:T}(h:(∃G2 R2,t=Z2 n G2 R2∧Sharp n G R G2 R2 M (k+2*n+5))∨(t=.none∧Ze8 n G R M (k+n+2)))(h':(∃G2 R2,u=Z2 n G2 R2∧Sharp n G R G2 R2 M (k+2*n+5))∨(u=.none∧Ze8 n G R M (k+n+2))): t=u:=by
 rcases h with⟨A,B,rfl,h⟩ | ⟨rfl,h⟩
 ·rcases h' with⟨C,D,rfl,h'⟩ | ⟨rfl,h'⟩
  ·exact Zr4 h h'
  ·exact absurd h' fun q=>ZoD h q
 ·rcases h' with⟨C,D,rfl,h'⟩ | ⟨rfl,h'⟩
  ·exact absurd h fun q=>ZoD h' q
  ·rfl
theorem Zr6(hn:n≤100)(hd:∀i,i<n+1→G i i=some 0)(ok:∀t,t<n→RestOk (R t)): Zhc [Z2 n G R,.int n]=some (.bool true):=by
 apply Pk.eq
 unfold Zhc Zkh Z2 ZaR
 walk_at "z"
 rw[show(n:Int)+1=((n+1:Nat):Int)by omega]
 refine ZQ (Zuw (by omega) hd) ?_
 walk_at "z"
 refine Zb8 (n:=n) (a:=fun i=>ZW (R i)) (P:=fun _ _=>True) ?_ trivial ?_ ?_
 ·walk_at "z"
  rfl
 ·rintro t σ ht _
  have ho:=ok t ht
  unfold ZW
  walk_at "z"
  refine ZQ ZlB ?_
  walk_at "z"
  refine ZQ ZlB ?_
  walk_at "z"
  have h0:=ho.nn
  walk_at "z"
  rcases ho with h | h
  ·walk_at "z"
   trivial
  ·walk_at "z"
   trivial
 ·rintro σ _
  walk_at "z"
  rfl
theorem Zr7(hd:∀i,i<n+1→G i i=some 0)(s:Sharp n G R G2 R2 M k): (∀i,i<n+1→G2 i i=some 0)∧∀k,k<n+1→∀i j,i<n+1→j<n+1→leO (G2 i j) (Zam (G2 i k) (G2 k j)):=by
 obtain⟨R1,h1,h2,h3,h4,rfl,h6⟩:=s.go
 have hF:=ZcY fun t ht=>(h2 t ht).1
 have z1:=Zer hd (m:=n+1) fun m hm q=>h1 ⟨m,hm,q⟩
 have z2:=ZhQ (fun i hi=>(hF i hi).1) z1
 exact⟨Zer z2 fun m hm q=>h4 ⟨m,hm,q⟩,ZmJ z2 (n+1) (by omega) fun m hm q=>h4 ⟨m,hm,q⟩⟩
noncomputable def Zd5(R:Nat→Int×Int): Nat→Int
 | 0=>1
 | t+1=>Zd5 R t*(if(R t).1=0 then 1 else(R t).1)
theorem ZoE{n:Nat}{R:Nat→Int×Int}(h:∀t,t<n→RestOk (R t)): ∀m,m≤n→0<Zd5 R m
 | 0,_=>by show(0:Int)<1;decide
 | m+1,hm=>by
  have ih:=ZoE h m (by omega)
  have:=(h m (by omega)).nn
  unfold Zd5
  refine Int.mul_pos ih ?_
  split
  ·decide
  ·omega
theorem ZoF{R:Nat→Int×Int}: ∀m t,t<m→(R t).1=0∨(R t).1 ∣ Zd5 R m
 | m+1,t,ht=>by
  by_cases z:(R t).1=0
  ·exact .inl z
  ·right
   unfold Zd5
   by_cases q:t=m
   ·subst q
    rw[if_neg z]
    exact Int.dvd_mul_left _ _
   ·exact Int.dvd_trans ((ZoF m t (by omega)).resolve_left z) (Int.dvd_mul_right _ _)
theorem Zo3{n k:Nat}{R:Nat→Int×Int}(hk:1≤k)(h:∀t,t<n→Bd k (R t).1): ∀m,m≤n→Bd (k*m+1) (Zd5 R m)
 | 0,_=>by rw[Nat.mul_zero];exact ZgM (by omega)
 | m+1,hm=>by
  have ih:=Zo3 hk h m (by omega)
  unfold Zd5
  have h2:Bd k (if(R m).1=0 then 1 else(R m).1):=by
   split
   ·exact ZgM hk
   ·exact h m (by omega)
  have:=Bd.mul ih h2
  rw[Nat.mul_succ]
  exact this.mono (by omega)
theorem ZsN{k:Int}{B:Nat}(hL:Lay ns)(h0:0≤k)(h9:k≤1000)(hn:n≤9)(hB2:134≤B)(hR:∀t,t<n→RestOk (R t))(sR:SmR B n R)(sG:SmG B n G): Pk (Zg0 [scr ns,.int k,Z2 n G R]) fun t=>∃G' R',t=Z2 n G' R'∧(∀i,i<n+1→G' i i=G i i)∧(∀t,t<n→RestOk (R' t))∧SmG (B+1) n G'∧SmR (B+1) n R':=by
 unfold Zg0 ZjC
 have ht:Z2 n G R=.tup [.lst (tab (n+1) fun i=>Zan (n+1) (G i)),.lst (tab n fun i=>ZW (R i))]:=rfl
 have e134:(2:Nat) ^ 134=21778071482940061661655974875633165533184:=by decide
 have hpB:(2:Nat) ^ 134≤2 ^ B:=Nat.pow_le_pow_right (by decide) hB2
 have hpB1:(2:Nat) ^ (B+1)=2 ^ B*2:=Nat.pow_succ ..
 have sG1:SmG (B+1) n G:=fun i j hi hj b h=>Zbq (sG i j hi hj b h) (by omega)
 have sR1:SmR (B+1) n R:=fun t ht=>⟨Zbq (sR t ht).1 (by omega),Zbq (sR t ht).2 (by omega)⟩
 rw[ht]
 walk_at "z"
 refine Zhy (n:=n+1) (G:=G) (by omega) ?_ ?_
 ·walk_at "z"
  rfl
 unfold Zab Zan
 walk_at "z"
 obtain⟨p0,p1⟩:=ZbV ns k (show(0:Int)<((n+1:Nat):Int)by omega)
 obtain⟨i,ei,hi⟩:=Zij p0 p1
 obtain⟨p2,p3⟩:=ZbV ns (k+1) (show(0:Int)<((n+1:Nat):Int)by omega)
 obtain⟨j,ej,hj⟩:=Zij p2 p3
 obtain⟨w0,w1⟩:=ZbV ns (k+2) (show(0:Int)<5 by decide)
 obtain⟨u0,u1⟩:=ZbV ns (k+3) (show(0:Int)<4 by decide)
 obtain⟨u2,u3⟩:=ZbV ns (k+3) (show(0:Int)<3 by decide)
 refine ZQ (ZbR h0 (by omega) (by omega)) ?_
 rw[ei]
 walk_at "z"
 refine ZQ (ZbR (by omega) (by omega) (by omega)) ?_
 rw[ej]
 walk_at "z"
 refine ZQ (ZbR (by omega) (by omega) (by omega)) ?_
 walk_at "z"
 generalize Zbd ns (k+2) 5=w at w0 w1
 by_cases hw:w<3∧i≠j
 ·have hij:(i:Int)≠(j:Int):=by omega
  have hw3:=hw.1
  have fin:∀v,(∀b,v=some b→b.natAbs<2 ^ (B+1))→(∀a,a<n+1→ZcT G i j v a a=G a a)∧SmG (B+1) n (ZcT G i j v):=fun v hv=>by
   refine⟨fun a ha=>by rw[Zh2 (by omega)],fun a b ha hb c hc=>?_⟩
   by_cases q:a=i∧b=j
   ·obtain⟨rfl,rfl⟩:=q;rw[Zmm]at hc;exact hv c hc
   ·rw[Zh2 q]at hc;exact sG1 a b ha hb c hc
  cases hg:G i j with
  | none=>
   walk_at "z"
   rw[hg,Zb6]
   walk_at "z"
   refine ZQ (Ze6 hL (by omega) (by omega)) ?_
   walk_at "z"
   rw[←ZaG (c:=ZbT ns (k+3)),Zev]
   walk_at "z"
   have:=Zgm ns (k+3)
   obtain⟨f1,f2⟩:=fin (some (ZbT ns (k+3))) (fun b e=>by cases e;omega)
   exact⟨ZcT G i j (some (ZbT ns (k+3))),R,rfl,f1,hR,f2,sR1⟩
  | some g=>
   walk_at "z"
   rw[hg,ZaG]
   walk_at "z"
   rw[hg,ZaG]
   walk_at "z"
   refine ZQ (ZbR (by omega) (by omega) (by omega)) ?_
   walk_at "z"
   rw[←ZaG (c:=g-1-Zbd ns (k+3) 4),Zev]
   walk_at "z"
   have:=sG i j (by omega) (by omega) g hg
   obtain⟨f1,f2⟩:=fin (some (g-1-Zbd ns (k+3) 4)) (fun b e=>by cases e;omega)
   exact⟨ZcT G i j _,R,rfl,f1,hR,f2,sR1⟩
 ·have hcase:(¬w<3)∨(w<3∧(i:Int)=(j:Int)):=by
   by_cases q:w<3
   ·exact .inr ⟨q,by
     have:i=j:=Classical.byContradiction fun h=>hw ⟨q,h⟩
     rw[this]⟩
   ·exact .inl q
  clear hw
  rcases hcase with hw | ⟨hw,hij⟩
  all_goals
   by_cases hn0:n=0
   ·subst hn0
    walk_at "z"
    exact⟨G,R,rfl,fun _ _=>rfl,hR,sG1,sR1⟩
   ·have hnp:(0:Int)<(n:Int):=by omega
    walk_at "z"
    obtain⟨q0,q1⟩:=ZbV ns k hnp
    obtain⟨t,et,ht⟩:=Zij q0 q1
    refine ZQ (ZbR h0 (by omega) hnp) ?_
    rw[et]
    walk_at "z"
    have hp:ZW (R t)=.tup [.int (R t).1,.int (R t).2]:=rfl
    rw[hp]
    walk_at "z"
    obtain⟨m0,m1⟩:0≤w.fmod 2∧w.fmod 2<2:=⟨Int.fmod_nonneg_of_pos _ (by decide),Int.fmod_lt_of_pos _ (by decide)⟩
    refine ZdB (by omega) (by omega) ?_
    walk_at "z"
    refine ZQ (ZbR (by omega) (by omega) (by omega)) ?_
    walk_at "z"
    refine ZQ Zek ?_
    walk_at "z"
    have hRt:=hR t ht
    have hm0:0≤(R t).1:=by rcases hRt with h | h <;> omega
    have sRt:=sR t ht
    obtain⟨c,hc,hc1⟩:∃c,(R t).1*(1+w.fmod 2)=c∧0≤c∧c≤(R t).1*2:=⟨_,rfl,Int.mul_nonneg hm0 (by omega),Int.mul_le_mul_of_nonneg_left (by omega) hm0⟩
    rw[hc]
    generalize hpp:Zap c ((R t).2+Zbd ns (k+3) 3)=pp
    have p1:RestOk pp:=by rw[←hpp];exact Zca hc1.1 _
    have p2:pp.1.natAbs<2 ^ (B+1)∧pp.2.natAbs<2 ^ (B+1):=by rw[←hpp];exact Zg5 hc1.1 (by omega) (by omega)
    refine⟨G,fun s=>if s=t then pp else R s,?_,fun _ _=>rfl,fun s hs=>?_,sG1,fun s hs=>?_⟩
    ·unfold Z2 Zab Zan ZaR
     congr 5
     funext s
     show(if s=t then ZW pp else ZW (R s))=ZW (if s=t then pp else R s)
     split <;> rfl
    ·show RestOk (if s=t then pp else R s)
     split
     ·exact p1
     ·exact hR s hs
    ·show(if s=t then pp else R s).1.natAbs<_∧(if s=t then pp else R s).2.natAbs<_
     split
     ·exact p2
     ·exact sR1 s hs
theorem ZqP: Zdx [.none,.none]=some (.bool true):=by
 apply Pk.eq
 unfold Zdx Zhr
 walk_at "z"
 rfl
theorem ZqQ(hn:n≤100)(hd:∀i,i<n+1→G i i=some 0)(ok:∀t,t<n→RestOk (R t)): Zdx [Z2 n G R,Z2 n G R]=some (.bool true):=by
 apply Pk.eq
 unfold Zdx Zhr
 have ht:Z2 n G R=.tup [Zab (n+1) G,.lst (tab n fun i=>ZW (R i))]:=rfl
 rw[ht]
 walk_at "z"
 rw[←ht]
 refine ZQ (Zr6 hn hd ok) ?_
 walk_at "z"
 refine Zfn ZlP ZlP ?_
 rw[Zbv rfl]
theorem Zwu: ∃g,ZcG (Zfx 0 (.int 7)) [0,0] (Z2 n G R)=some (.tup [g,ZaR n R]):=by
 refine⟨.lst ((tab (n+1) fun i=>T.lst (tab (n+1) fun j=>oT (G i j))).set 0 (.lst ((tab (n+1) fun j=>oT (G 0 j)).set 0 (.int 7)))),?_⟩
 unfold Z2 Zab Zan
 simp only[ZcG,List.length_cons,List.length_nil,Zat,Zd2 (show(0:Int)≤0 by decide) (show(0:Int)<((0+1+1:Nat):Int)by decide),Zd2 (show(0:Int)≤0 by decide) (show(0:Int)<((n+1:Nat):Int)by omega),Option.bind_some,Int.toNat_zero,List.getElem?_cons_zero,Zbt (show 0<n+1 by omega),Zfx]
 rw[if_pos ⟨by omega,by omega⟩]
 rfl
theorem Zwv{g w:T}(hn:n≤100): ∃u,ZcG (Zfw w) [1] (.tup [g,ZaR n R])=some u:=by
 refine⟨.tup [g,.lst ((tab n fun i=>ZW (R i))++[w])],?_⟩
 unfold ZaR
 simp only[ZcG,List.length_cons,List.length_nil,Zd2 (show(0:Int)≤1 by decide) (show(1:Int)<((0+1+1:Nat):Int)by decide),Option.bind_some,Zfw,Zat,show(1:Int).toNat=1 from rfl,List.getElem?_cons_succ,List.getElem?_cons_zero]
 rw[if_pos (by rw[Zbh];omega)]
 rfl
theorem ZuF{x:Nat}{P:T→Prop}(e:σ x=some (Z2 n G R))(h:∀g,N (Z8 σ x (.tup [g,ZaR n R]))): Psk (ZaY x [] (Zj 7) (Zbs (Zbs Zas (Zj 0)) (Zj 0)) (Zj 0) σ) P N:=by
 obtain⟨g,hg⟩:=Zwu (n:=n) (G:=G) (R:=R)
 refine⟨none,_,?_,by simp,fun _=>h g⟩
 simp only[ZaY,Zas,Zbs,Zj,Option.bind_some,e,List.nil_append,List.cons_append,hg,Option.map_some,Zf2]
theorem ZuG{x:Nat}{P:T→Prop}{g:T}{w:T}(hn:n≤100)(ef:f σ=some w)(e:σ x=some (.tup [g,ZaR n R]))(h:∀u,N (Z8 σ x u)): Psk (ZcI x [] (Zbs Zas (Zj 1)) f σ) P N:=by
 obtain⟨u,hu⟩:=Zwv (n:=n) (g:=g) (w:=w) (R:=R) hn
 refine⟨none,_,?_,by simp,fun _=>h u⟩
 simp only[ZcI,Zas,Zbs,Zj,Option.bind_some,e,ef,List.nil_append,hu,Option.map_some,Zf2]
inductive Dp: Nat→T→Prop where
 | none {n:Nat}:Dp n .none
 | int {n:Nat} {i:Int}:Dp n (.int i)
 | tup {n:Nat} {ts:List T}:(∀t∈ts,Dp n t)→ts.length≤10000→Dp (n+1) (.tup ts)
 | lst {n:Nat} {ts:List T}:(∀t∈ts,Dp n t)→ts.length≤10000→Dp (n+1) (.lst ts)
theorem Dp.mono{t:T}(h:Dp n t): ∀{m:Nat},n≤m→Dp m t:=by
 induction h with
 | none=>intro m _;exact .none
 | int=>intro m _;exact .int
 | tup hs hl ih=>
  intro m hm
  cases m with
  | zero=>omega
  | succ m=>exact .tup (fun t a=>ih t a (by omega)) hl
 | lst hs hl ih=>
  intro m hm
  cases m with
  | zero=>omega
  | succ m=>exact .lst (fun t a=>ih t a (by omega)) hl
theorem ZpC{F:List T→Option T}{ts:List T}(hg:ZbF g σ=some ts)(hl:ts.length≤10000)(h:∀t∈ts,F [t]=some t)(q:Q (.lst ts)): Pk (ZaC (ZbF g) (Zag j) Zak (Zq F (Zd (Za j) Zm)) σ) Q:=by
 refine⟨.lst ts,?_,q⟩
 have:=Zop (σ:=σ) (j:=j) (f:=Zq F (Zd (Za j) Zm)) (h:=fun t=>t) (ts:=ts) fun t m=>by
  simp only[Zq,Zd,Za,Zm,ZcW,Option.bind_some,Option.map_some]
  exact h t m
 simp only[ZaC,hg,Option.bind_some,this]
 rw[if_pos (by rw[Zbh];omega)]
 simp
theorem ZtB{t:T}(h:Dp n t): Zeo (n+1) [t]=some t:=by
 induction h with
 | none=>rfl
 | int=>rfl
 | @tup n ts hs hl ih=>
  apply Pk.eq
  show Pk (Z7 1 (Zfi (Zeo (n+1))) [.tup ts]) _
  unfold Zfi
  walk_at "z"
  refine ZpC (ts:=ts) rfl hl ih ?_
  walk_at "z"
  rfl
 | @lst n ts hs hl ih=>
  apply Pk.eq
  show Pk (Z7 1 (Zfi (Zeo (n+1))) [.lst ts]) _
  unfold Zfi
  walk_at "z"
  exact ZpC (ts:=ts) rfl hl ih rfl
theorem ZtC{t:T}(h:Dp 8 t): Zfj [t]=some t:=ZtB h
theorem Zwi: Dp n (oT a):=by cases a;exact .none;exact .int
theorem ZuH(hn:n≤100): Dp 3 (Z2 n G R):=by
 refine .tup (fun t m=>?_) (by simp)
 simp at m
 rcases m with rfl | rfl
 ·refine .lst (fun t m=>?_) (by rw[Zat];omega)
  obtain⟨i,hi,rfl⟩:=Zdg m
  refine .lst (fun t m=>?_) (by rw[Zat];omega)
  obtain⟨j,hj,rfl⟩:=Zdg m
  exact Zwi
 ·refine .lst (fun t m=>?_) (by rw[Zat];omega)
  obtain⟨i,hi,rfl⟩:=Zdg m
  refine .tup (fun t m=>?_) (by simp)
  simp at m
  rcases m with rfl | rfl <;> exact .int
section
variable {σ:TL} {Q:T→Prop}
theorem ZuI{a b:List T}(hl:a.length+b.length≤10000)(h:Q (.lst (a++b))): Pk (Zae (.lst a) (.lst b)) Q:=by
 refine⟨_,?_,h⟩
 simp only[Zae]
 rw[if_pos (by rw[Zbh,List.length_append];omega)]
theorem ZuJ{a:T}(hn:n≤1000)(h:Q (.lst (tab n fun _=>a))): Pk (ZaE (.lst [a]) (.int n)) Q:=by
 have e:∀n,ZgJ [a] n=tab n fun _=>a:=fun n=>by
  induction n with
  | zero=>rfl
  | succ n ih=>show ZgJ [a] n++[a]=_;rw[ih];exact Zgb (f:=fun _=>a)
 refine⟨_,?_,h⟩
 simp only[ZaE,List.length_cons,List.length_nil,Int.toNat_natCast,e]
 rw[if_pos ⟨by rw[Zbh];omega,by omega,by omega⟩]
end
theorem ZdA{a b:PS}{R:T→Prop}(M:TL→Prop)(h1:Psk (a σ) R M)(h2:∀σ,M σ→Psk (b σ) R N): Psk (Zs a b σ) R N:=by
 obtain⟨o,s,e,p,q⟩:=h1
 exact Zfm ⟨o,s,e,p,fun h=>h2 s (q h)⟩
theorem ZuK{a:Nat}(h:a≤4): Zcm a a 1=some []:=by
 have:a=0∨a=1∨a=2∨a=3∨a=4:=by omega
 obtain rfl | rfl | rfl | rfl | rfl:=this <;> (unfold Zcm;rw[if_pos (by decide +kernel)];rfl)
theorem Zo4{g:PEs}{a m:Nat}{L:List T→Prop}(ha:a≤4)(hm:m≤100)(e:g σ=some [.int a,.int (a+m)])(h:L (tab m fun i=>.int ((a+i:Nat):Int))): Pl (ZaB g σ) L:=by
 cases m with
 | zero=>
  have e2:Zcm (a:Int) ((a:Int)+((0:Nat):Int)) 1=some []:=by simpa using ZuK ha
  exact⟨[],Zgi e e2,h⟩
 | succ m=>
  refine⟨_,Zgi e (by have:=Zpi (a:=a) (n:=m+1) (by omega) (by omega);simpa using this),?_⟩
  rw[show(tab (m+1) fun i=>T.int ((a:Int)+i))=tab (m+1) fun i=>.int ((a+i:Nat):Int)from Zbg fun i _=>by congr 1]
  exact h
noncomputable def Zad(n:Nat)(c:Nat→Int): T:=.lst (tab (n+1) fun i=>.int (c i))
theorem ZnF{b:Nat}{k:Int}(hn:n≤1000)(hb:b≤100000)(bc:∀i,i<n+1→Bd b (c i))(bk:Bd b k): Zdb [Zad n c,.int k]=some (Zad n fun i=>c i*k):=by
 apply Pk.eq
 unfold Zdb Zkj Zad
 walk_at "z"
 refine Zc0 (n:=n+1) (a:=fun i=>.int (c i)) (b:=fun i=>.int (c i*k)) (by omega) ?_ (fun i hi=>?_) rfl
 ·walk_at "z"
  rfl
 ·walk_at "z"
  exact ZbK (Zb5 (bc i hi) bk (by omega) (by omega)) rfl
theorem ZuL(ks:List Int): Pln 1 (.lst (ks.map T.int)):=.lst fun t m=>by
 obtain⟨k,_,rfl⟩:=Zz11.mp m
 exact .int
theorem tab_map{α:Type}{f:Nat→α}{g:α→β}: (tab n f).map g=tab n fun i=>g (f i):=by simp[tab]
def GB(b n:Nat)(G:Nat→Nat→Option Int): Prop:=∀i j,i<n+1→j<n+1→∀y,G i j=some y→Bd b y
noncomputable def Zaz(c:Nat→Int)(x:Nat→Int): Nat→Int
 | 0=>c 0
 | j+1=>Zaz c x j+c (j+1)*x j
theorem ZpD{c x:Nat→Int}: ∀n,c 0+(tab n fun i=>c (i+1)*x i).sum=Zaz c x n
 | 0=>by simp[tab,Zaz]
 | n+1=>by
  rw[←Zgb (n:=n) (f:=fun i=>c (i+1)*x i),List.sum_append]
  have:=ZpD (c:=c) (x:=x) n
  simp only[List.sum_cons,List.sum_nil,Zaz]
  omega
theorem ZtD{b:Nat}(hn:n≤60)(hb:b≤100000)(bc:∀i,i<n+1→Bd b (c i))(bx:∀i,i<n→Bd b (x i)): Zhd [Zad n c,ZiB n x]=some (.int (Zaz c x n)):=by
 apply Pk.eq
 unfold Zhd Zkm Zad ZiB
 have h0:0<n+1:=by omega
 walk_at "z"
 refine Zc0 (n:=n) (a:=fun i=>.int i) (b:=fun i=>.int (c (i+1)*x i)) (by omega) ?_ (fun i hi=>?_) ?_
 ·walk_at "z"
  rfl
 ·walk_at "z"
  rw[show((i:Int)+1).toNat=i+1 by omega]
  exact ZbK (Zb5 (bc (i+1) (by omega)) (bx i hi) (by omega) (by omega)) rfl
 walk_at "z"
 refine⟨.int (tab n fun i=>c (i+1)*x i).sum,by simp only[ZiA,Zs8,Option.map_some],?_⟩
 walk_at "z"
 rw[show(Int.toNat 0)=0 from rfl,ZpD]
def SumB(n:Nat)(c:Nat→Int)(K:Int): Prop:=Bd 140 (c 0)∧∀i,1≤i→i<n+1→-K≤c i∧c i≤K
theorem SumB.bd(h:SumB n c K)(hK:K≤4000000000): ∀i,i<n+1→Bd 140 (c i):=fun i hi=>by
 by_cases q:i=0
 ·subst q;exact h.1
 ·have:=h.2 i (by omega) hi
  exact Zbq (i:=33) (by omega) (by decide)
theorem SumB.mono(h:SumB n c K)(hK:K≤K'): SumB n c K':=⟨h.1,fun i h1 h2=>by have:=h.2 i h1 h2;omega⟩
theorem Zh5{x:Nat}{v k:Int}(e:σ x=some (.lst (tab (n+1) fun i=>.int (c i))))(h0:1≤k)(h1:k<(n+1:Nat))(bc:SumB n c K)(hK:K≤K')(v0:-K'≤v)(v1:v≤K')(h:∀c',SumB n c' K'→N (Z8 σ x (.lst (tab (n+1) fun i=>.int (c' i))))): PutP σ x (.int v) (.int k) N:=by
 refine ZhC (n:=n+1) (f:=fun i=>.int (c i)) e (by omega) h1 ?_
 have:=h (fun i=>if i=k.toNat then v else c i) ⟨by show Bd 140 (if 0=k.toNat then v else c 0);rw[if_neg (by omega)];exact bc.1,fun i hi1 hi2=>by
  by_cases q:i=k.toNat
  ·simp only[q,if_true];exact⟨v0,v1⟩
  ·simp only[q,if_false];have:=bc.2 i hi1 hi2;omega⟩
 rw[show(tab (n+1) fun i=>if i=k.toNat then T.int v else T.int (c i))=tab (n+1) fun i=>T.int (if i=k.toNat then v else c i)from Zbg fun i _=>by split <;> rfl]
 exact this
noncomputable def unC(i:Nat): Nat→Int:=fun k=>if 0<i∧k=i then 1 else 0
theorem Zr8(hn:n≤900): Zem [.int i,.int n]=some (Zad n (unC i)):=by
 apply Pk.eq
 unfold Zem Zlz Zad
 walk_at "z"
 refine Zc0 (n:=n+1) (a:=fun k=>.int (k:Nat)) (b:=fun k=>.int (unC i k)) (by omega) ?_ (fun k hk=>?_) rfl
 ·walk_at "z"
  exact Zp9 (n+1) (by omega) (by omega) rfl
 ·walk_at "z"
  by_cases h:0<i
  ·refine⟨fun _=>?_,fun c=>absurd c (by simp;omega)⟩
   walk_at "z"
   by_cases q:k=i
   ·refine⟨fun _=>?_,fun c=>absurd c (by simp[q])⟩
    walk_at "z"
    show _=T.int (unC i k)
    unfold unC
    rw[if_pos ⟨h,q⟩]
   ·refine⟨fun c=>absurd c (by simp;omega),fun _=>?_⟩
    walk_at "z"
    show _=T.int (unC i k)
    unfold unC
    rw[if_neg (fun c=>q c.2)]
  ·refine⟨fun c=>absurd c (by simp;omega),fun _=>⟨fun c=>absurd c (by decide),fun _=>?_⟩⟩
   walk_at "z"
   show _=T.int (unC i k)
   unfold unC
   rw[if_neg (fun c=>h c.1)]
theorem Zrx{d:Nat→Int}(hn:n≤900): Zhv [Zad n c,Zad n d]=some (Zad n fun k=>c k+d k):=by
 apply Pk.eq
 unfold Zhv ZkZ Zad
 walk_at "z"
 refine ZlN (n:=n+1) (a:=fun i=>.int (c i)) (b:=fun i=>.int (d i)) (c:=fun i=>.int (c i+d i)) (by omega) ?_ (fun i hi=>?_) rfl
 ·walk_at "z"
  rfl
 ·walk_at "z"
  rfl
theorem Zry{b:Nat}{d:Nat→Int}(hn:n≤900)(hb1:1≤b)(hb:b≤100000)(bd:∀i,i<n+1→Bd b (d i)): ZeX [Zad n c,Zad n d]=some (Zad n fun k=>c k-d k):=by
 apply Pk.eq
 unfold ZeX Zk1
 walk_at "z"
 refine ZQ (ZnF (by omega) hb bd (show Bd b (-1)by unfold Bd;have:=ZgM hb1;unfold Bd at this;simpa using this)) ?_
 walk_at "z"
 refine ZQ (Zrx hn) ?_
 walk_at "z"
 have:(fun k=>c k+d k * -1)=fun k=>c k-d k:=by funext k;omega
 rw[this]
theorem Zwj: unC 0=fun _=>0:=by funext k;unfold unC;rw[if_neg (by omega)]
theorem ZpE{c d x:Nat→Int}: ∀n,Zaz (fun k=>c k-d k) x n=Zaz c x n-Zaz d x n
 | 0=>rfl
 | n+1=>by
  simp only[Zaz,ZpE n,Int.sub_mul]
  omega
theorem Zo5{x:Nat→Int}: ∀n,Zaz (fun _=>0) x n=0
 | 0=>rfl
 | n+1=>by simp only[Zaz,Zo5 n,Int.zero_mul];omega
theorem ZpF{c:Nat→Int}{R:Nat→Int×Int}{x:Nat→Int}{n:Nat}(ok:∀t,t<n→RestOk (R t))(h:∀t,t<n→Zal (R t) (x t)): ∀j,j≤n→Zbp c R j ∣ Zaz c x j-ZbU c R j
 | 0,_=>by show(0:Int) ∣ c 0-c 0;rw[Int.sub_self];exact Int.dvd_zero _
 | j+1,hj=>by
  have h1:Zbp c R (j+1) ∣ Zbp c R j:=Int.gcd_dvd_left ..
  have h2:Zbp c R (j+1) ∣ c (j+1)*(R j).1:=Int.gcd_dvd_right ..
  obtain⟨z,hz⟩:=(Zba (ok j (by omega)).nn (x j)).mp (h j (by omega))
  have h3:=Int.dvd_add (Int.dvd_trans h1 (ZpF ok h j (by omega))) (Int.dvd_trans h2 (Int.dvd_mul_right _ z))
  rw[show Zaz c x (j+1)=Zaz c x j+c (j+1)*x j from rfl,show ZbU c R (j+1)=ZbU c R j+c (j+1)*(R j).2 from rfl,show x j=(R j).2+(R j).1*z by omega,Int.mul_add,←Int.mul_assoc]
  generalize c (j+1)*(R j).1*z=u at *
  generalize c (j+1)*(R j).2=v at *
  rwa [show Zaz c x j+(v+u)-(ZbU c R j+v)=Zaz c x j-ZbU c R j+u by omega]
theorem ZoG{kk:Int}{w at_ lo:Int}(hk0:0≤kk)(hk9:kk≤1000)(hm:0<m)(hn:n≤9)(hK:K≤K')(hlo:-K'≤-lo)(hhi:m-1-lo≤K')(e0:σ 0=some (scr ns))(e1:σ 1=some (.int kk))(e2:σ 2=some (.int n))(e4:σ 4=some (.int w))(e5:σ 5=some (.int (1+at_)))(e3:σ 3=some (.lst (tab (n+1) fun i=>.int (c i))))(bc:SumB n c K)(h:∀σ' c',σ' 0=some (scr ns)→σ' 1=some (.int kk)→σ' 2=some (.int n)→σ' 4=some (.int w)→σ' 5=some (.int (1+at_))→σ' 3=some (.lst (tab (n+1) fun i=>.int (c' i)))→SumB n c' K'→N σ')(pm plo:PE)(epm:∀σ,pm σ=some (.int m))(eplo:∀σ,plo σ=some (.int lo)): Psk (ZaN (ZaB (Zd (Za 2) Zm)) (Zag 7) (ZaY 3 [] (Zh Za6 (Zq Zbf (Zd (Za 0) (Zd (Zh Zae (Zh Zae (Za 1) (Zj 1)) (Za 7)) (Zd pm Zm)))) plo) Zas (Zh Zae (Za 7) (Zj 1))) σ) Q N:=by
 refine Zb8 (n:=n) (a:=fun i=>.int i) (P:=fun _ σ'=>σ' 0=some (scr ns)∧σ' 1=some (.int kk)∧σ' 2=some (.int n)∧σ' 4=some (.int w)∧σ' 5=some (.int (1+at_))∧∃c',σ' 3=some (.lst (tab (n+1) fun i=>.int (c' i)))∧SumB n c' K') ?_ ⟨e0,e1,e2,e4,e5,c,e3,bc.mono hK⟩ ?_ ?_
 ·walk_at "z"
  rfl
 ·rintro i σ' hi ⟨f0,f1,f2,f4,f5,c',f3,bc'⟩
  obtain⟨k0,k1⟩:=ZbV ns (kk+1+(i:Int)) hm
  walk_at "z"
  refine⟨_,epm _,?_⟩
  walk_at "z"
  refine ZQ (ZbR (by omega) (by omega) hm) ?_
  refine⟨_,eplo _,?_⟩
  walk_at "z"
  refine Zh5 (n:=n) (c:=c') (K:=K') (K':=K') (by walk_at "r") (by omega) (by omega) bc' (Int.le_refl _) (by omega) (by omega) fun c2 bc2=>?_
  exact⟨by walk_at "r",by walk_at "r",by walk_at "r",by walk_at "r",by walk_at "r",c2,ZcW,bc2⟩
 ·rintro σ' ⟨f0,f1,f2,f4,f5,c',f3,bc'⟩
  exact h σ' c' f0 f1 f2 f4 f5 f3 bc'
theorem Zwk{kk:Int}(hk0:0≤kk)(hk9:kk≤1000)(hL:Lay ns)(hn:n≤9): Pk (ZhH [scr ns,.int kk,.int n]) fun t=>∃c,t=Zad n c∧SumB n c 1000000000:=by
 unfold ZhH Zlx
 have bn:Bd 140 (ZbT ns kk):=Zbq (Zgm ns kk) (by decide)
 obtain⟨p0,p1⟩:=ZbV ns kk (show(0:Int)<6 by decide)
 refine ZpO rfl ?_
 refine ZdA (fun σ'=>σ' 0=some (scr ns)∧σ' 1=some (.int kk)∧σ' 2=some (.int n)∧∃c,σ' 3=some (.lst (tab (n+1) fun i=>.int (c i)))∧SumB n c 0) ?_ ?_
 ·walk_at "z"
  refine ZQ (Ze6 hL (by omega) (by omega)) ?_
  walk_at "z"
  refine ZuJ (by omega) ?_
  refine Zph (by omega) ?_
  rw[show cn (T.int (ZbT ns kk)) (fun _=>T.int 0)=fun i=>T.int (cn (ZbT ns kk) (fun _=>0) i)from by funext i;cases i <;> rfl]
  refine⟨Zn5 fun _ _=>rfl,?_⟩
  refine⟨rfl,rfl,rfl,_,ZcW,bn,fun i h1 h2=>?_⟩
  cases i with
  | zero=>omega
  | succ i=>exact⟨Int.le_refl 0,Int.le_refl 0⟩
 rintro σ1 ⟨e0,e1,e2,c,e3,bc⟩
 walk_at "z"
 refine ZQ (ZbR (by omega) (by omega) (by decide)) ?_
 by_cases hz:Zbd ns kk 6=0∨n=0
 ·rcases hz with hz | hz
  ·walk_at "z"
   exact⟨c,rfl,bc.mono (by decide)⟩
  ·by_cases q:Zbd ns kk 6=0
   ·walk_at "z"
    exact⟨c,rfl,bc.mono (by decide)⟩
   ·have:(n:Int)=0:=by omega
    walk_at "z"
    exact⟨c,rfl,bc.mono (by decide)⟩
 have hz1:Zbd ns kk 6≠0:=fun q=>hz (.inl q)
 have hn0:(n:Int)≠0:=fun q=>hz (.inr (by omega))
 obtain⟨a0,a1⟩:=ZbV ns (kk+1) (show(0:Int)<n by omega)
 walk_at "z"
 refine ZQ (ZbR (by omega) (by omega) (by omega)) ?_
 refine Zmz ?_
 generalize Zbd ns kk 6=w at *
 generalize Zbd ns (kk+1) n=at_ at *
 let M:Int→TL→Prop:=fun K σ'=>σ' 0=some (scr ns)∧σ' 1=some (.int kk)∧σ' 2=some (.int n)∧σ' 4=some (.int w)∧σ' 5=some (.int (1+at_))∧∃c,σ' 3=some (.lst (tab (n+1) fun i=>.int (c i)))∧SumB n c K
 refine ZdA (M 6) ?_ ?_
 ·walk_at "z"
  refine⟨fun q=>?_,fun q=>?_⟩
  ·obtain⟨k0,k1⟩:=ZbV ns (kk+2) (show(0:Int)<13 by decide)
   walk_at "z"
   refine ZQ (ZbR (by omega) (by omega) (by decide)) ?_
   walk_at "z"
   refine Zh5 (n:=n) (c:=c) (K:=0) (K':=6) (by walk_at "r") (by omega) (by omega) bc (by decide) (by omega) (by omega) fun c' bc'=>?_
   exact⟨by walk_at "r",by walk_at "r",by walk_at "r",by walk_at "r",by walk_at "r",c',ZcW,bc'⟩
  ·walk_at "z"
   exact⟨by walk_at "r",by walk_at "r",by walk_at "r",by walk_at "r",by walk_at "r",c,by walk_at "r",bc.mono (by decide)⟩
 clear bc e3 c
 rintro σ2 ⟨f0,f1,f2,f4,f5,c1,f3,bc1⟩
 refine ZdA (M 7) ?_ ?_
 ·have go:Psk ((Zs (ZM 6 (Zh Zae (Zj 1) (Zq Zbf (Zd (Za 0) (Zd (Zh Zae (Za 1) (Zj 2)) (Zd (Za 2) Zm)))))) (Zs (ZaY 3 [] (Zj 1) Zas (Za 5)) (ZaY 3 [] (Zh Za6 (Zh Zw (Za 3) (Za 6)) (Zj 1)) Zas (Za 6)))) σ2) (fun t=>∃c,t=Zad n c∧SumB n c 1000000000) (M 7):=by
   obtain⟨k0,k1⟩:=ZbV ns (kk+2) (show(0:Int)<n by omega)
   walk_at "z"
   refine ZQ (ZbR (by omega) (by omega) (by omega)) ?_
   generalize Zbd ns (kk+2) n=to_ at *
   walk_at "z"
   refine Zh5 (n:=n) (c:=c1) (K:=6) (K':=6) (by walk_at "r") (by omega) (by omega) bc1 (by decide) (by decide) (by decide) fun c' bc'=>?_
   have hto:=bc'.2 (1+to_).toNat (by omega) (by omega)
   walk_at "z"
   refine Zh5 (n:=n) (c:=c') (K:=6) (K':=7) (by walk_at "r") (by omega) (by omega) bc' (by decide) (by omega) (by omega) fun c2 bc2=>?_
   exact⟨by walk_at "r",by walk_at "r",by walk_at "r",by walk_at "r",by walk_at "r",c2,ZcW,bc2⟩
  have no:M 7 σ2:=⟨f0,f1,f2,f4,f5,c1,f3,bc1.mono (by decide)⟩
  by_cases q2:w=2
  ·refine Zmy ?_
   refine⟨true,?_,fun _=>go,fun e=>by cases e⟩
   simp[bOr,ZF,Zh,Za,f4,Zj,qEq,ZhY,ZbJ,q2]
  ·by_cases q3:w=3
   ·refine Zmy ?_
    refine⟨true,?_,fun _=>go,fun e=>by cases e⟩
    simp[bOr,ZF,Zh,Za,f4,Zj,qEq,ZhY,ZbJ,q3]
   ·walk_at "z"
    exact no
 clear bc1 f3 c1
 clear f0 f1 f2 f4 f5
 rintro σ3 ⟨f0,f1,f2,f4,f5,c1,f3,bc1⟩
 refine ZdA (M 7) ?_ ?_
 ·walk_at "z"
  refine⟨fun q=>?_,fun q=>?_⟩
  ·exact ZoG hk0 hk9 (m:=7) (lo:=3) (K:=7) (K':=7) (by decide) hn (by decide) (by decide) (by decide) f0 f1 f2 f4 f5 f3 bc1 (fun σ' c' g0 g1 g2 g4 g5 g3 bc'=>⟨g0,g1,g2,g4,g5,c',g3,bc'⟩) _ _ (fun _=>rfl) (fun _=>rfl)
  ·walk_at "z"
   exact⟨f0,f1,f2,f4,f5,c1,f3,bc1⟩
 clear bc1 f3 c1
 clear f0 f1 f2 f4 f5
 rintro σ4 ⟨f0,f1,f2,f4,f5,c1,f3,bc1⟩
 refine ZdA (M 1000000000) ?_ ?_
 ·walk_at "z"
  refine⟨fun q=>?_,fun q=>?_⟩
  ·exact ZoG hk0 hk9 (m:=2000000001) (lo:=1000000000) (K:=7) (K':=1000000000) (by decide) hn (by decide) (by decide) (by decide) f0 f1 f2 f4 f5 f3 bc1 (fun σ' c' g0 g1 g2 g4 g5 g3 bc'=>⟨g0,g1,g2,g4,g5,c',g3,bc'⟩) _ _ (fun _=>rfl) (fun _=>rfl)
  ·walk_at "z"
   exact⟨f0,f1,f2,f4,f5,c1,f3,bc1.mono (by decide)⟩
 rintro σ5 ⟨g0,g1,g2,g4,g5,c2,g3,bc2⟩
 walk_at "z"
 exact⟨c2,rfl,bc2⟩
theorem Zp0{a:Nat}(h:1≤a): unC a a=1:=by unfold unC;rw[if_pos ⟨by omega,rfl⟩]
theorem ZmL{a:Nat}(h:k≠a): unC a k=0:=by unfold unC;rw[if_neg (fun q=>h q.2)]
theorem ZvO(hp:RestOk p)(hq:RestOk q)(h:∀x,Zal p x→Zal q x): RIn p q:=by
 have e:∀x,p.1 ∣ x-p.2→q.1 ∣ x-q.2:=fun x hx=>(Zba hq.nn x).mp (h x ((Zba hp.nn x).mpr hx))
 have a1:q.1 ∣ p.2-q.2:=e p.2 (by simp)
 have a2:q.1 ∣ p.2+p.1-q.2:=e (p.2+p.1) (by rw[show p.2+p.1-p.2=p.1 by omega];exact Int.dvd_refl _)
 have c1:q.1 ∣ p.1:=by have:=Int.dvd_sub a2 a1;rwa [show p.2+p.1-q.2-(p.2-q.2)=p.1 by omega]at this
 unfold RIn
 split
 ·rename_i z
  rw[z,Int.zero_dvd]at a1 c1
  exact Prod.ext (by rw[c1,z]) (by omega)
 ·exact⟨Int.emod_eq_zero_of_dvd c1,Int.emod_eq_zero_of_dvd a1⟩
theorem Zre(hR:∀t,t<n→RestOk (R t))(s:Sharp n G R G2 R2 M k): ZmH n G2 R2 G R:=by
 obtain⟨R1,h1,h2,h3,h4,rfl,h6⟩:=s.go
 refine⟨fun i hi j hj=>?_,fun t ht=>?_⟩
 ·refine ZcJ (ZgC (n+1) i j) (ZcJ (Zuz fun b e q=>h3 ⟨i,j,hi,hj,b,e,q⟩) (ZgC (n+1) i j))
 ·refine ZvO (h6 t ht).1.1 (hR t ht) fun x hx=>?_
  have a:=((h6 t ht).2 x).mp hx
  have b:=((h2 t ht).2 x).mp a.1
  exact b.1
theorem Zp1{a:Nat}{x:Nat→Int}(h1:1≤a): ∀n,Zaz (unC a) x n=if a≤n then x (a-1)else 0
 | 0=>by rw[if_neg (by omega)];exact ZmL (by omega)
 | n+1=>by
  show Zaz (unC a) x n+unC a (n+1)*x n=_
  rw[Zp1 h1 n]
  by_cases q:n+1=a
  ·subst q
   rw[Zp0 h1,if_neg (by omega),if_pos (by omega),Nat.add_sub_cancel];omega
  ·rw[ZmL q,Int.zero_mul]
   by_cases g:a≤n
   ·rw[if_pos g,if_pos (by omega)];omega
   ·rw[if_neg g,if_neg (by omega)];rfl
def DueOk(m:Nat)(D:T): Prop:=D=.none∨∃G R,D=Z2 m G R∧(∀i,i<m+1→G i i=some 0)∧∀t,t<m→RestOk (R t)
theorem DueOk.same{m:Nat}{D:T}(hm:m≤100)(h:DueOk m D): Zdx [D,D]=some (.bool true):=by
 rcases h with rfl | ⟨G,R,rfl,hd,ok⟩
 ·exact ZqP
 ·exact ZqQ hm hd ok
theorem Zr9{K:Nat}(hM:0<M)(bM:Bd K M)(bG:BdG (n+1) k G)(hk:k+n+1≤K)(s:Sharp n G R G2 R2 M K): BdG (n+1) (K+n+2) G2∧∀t,t<n→RBd K (R2 t):=by
 obtain⟨R1,_,h1,_,_,rfl,h2⟩:=s.go
 refine⟨?_,fun t ht=>(h2 t ht).1.bd hM bM⟩
 have b1:BdG (n+1) K (clG G (n+1)):=fun a b c ha hb e=>(Zd4 bG (n+1) (Zz10 _) a b c ha hb e).mono (by omega)
 have b2:=ZmK hM bM b1 fun t ht=>(h1 t ht).1
 exact fun a b c ha hb e=>(Zd4 b2 (n+1) (Zz10 _) a b c ha hb e).mono (by omega)
theorem ZuM: (oR o).flat=true:=by cases o <;> rfl
theorem ZvP{N:Nat}{ρ:Nat→Option (Int×Int)}: (tab N fun t=>if t=k then oR o else oR (ρ t))=tab N fun t=>oR (if t=k then o else ρ t):=Zbg fun t _=>by
 by_cases c:t=k
 ·rw[if_pos c,if_pos c]
 ·rw[if_neg c,if_neg c]
theorem Zp2: unC i k=0∨unC i k=1:=by unfold unC;split;exact .inr rfl;exact .inl rfl
noncomputable def gT(N:Nat)(Γ:Nat→Nat→Option Int): T:=.lst (tab N fun a=>.lst (tab N fun b=>oT (Γ a b)))
theorem ZuN: ∀i,i<n+1→Zaz (unC i) x n=Za5 x i
 | 0,_=>by rw[Zwj,Zo5];rfl
 | i+1,hi=>by rw[Zp1 (by omega),if_pos (by omega)];rfl
theorem ZoH{u x:Nat→Int}{k:Int}: ∀n,Zaz (fun a=>u a*k) x n=Zaz u x n*k
 | 0=>rfl
 | n+1=>by
  show Zaz (fun a=>u a*k) x n+u (n+1)*k*x n=(Zaz u x n+u (n+1)*x n)*k
  rw[ZoH n,Int.add_mul,Int.mul_assoc,Int.mul_comm k,←Int.mul_assoc]
theorem Zp3{n b:Nat}{c x:Nat→Int}(bc:∀i,i<n+1→Bd b (c i))(bx:∀i,i<n→Bd b (x i)): ∀j,j≤n→Bd (b+b+j) (Zaz c x j)
 | 0,_=>(bc 0 (by omega)).mono (by omega)
 | j+1,hj=>by
  have h1:=Zp3 bc bx j (by omega)
  have h2:=((bc (j+1) (by omega)).mul (bx j (by omega))).mono (show b+b≤b+b+j by omega)
  exact h1.add h2
noncomputable def Zc8(c:Nat→Int)(top:Int): Nat→Int:=fun k=>if k=0 then c 0-top else c k
theorem ZvQ{b:Nat}(bc:∀i,i<n+1→Bd b (c i))(bt:Bd b top): ∀i,i<n+1→Bd (b+1) (Zc8 c top i):=fun i hi=>by
 unfold Zc8
 split
 ·exact(bc 0 (by omega)).sub bt
 ·exact(bc i hi).mono (by omega)
theorem su: PyData.strOk (Str.ofString "under")=true:=by decide +kernel
theorem ZsO{a b:T}: ZdI [.none,a,b]=some .none:=by
 apply Pk.eq
 unfold ZdI Zii
 walk_at "z"
 rfl
def Tm(n K:Nat)(M:Int)(P:(Nat→Int)→Prop)(I:(Nat→Nat→Option Int)→(Nat→Int×Int)→Prop)(D:T): Prop:=(D=.none∧∀x,¬P x)∨∃G R,D=Z2 n G R∧(∀i,i<n+1→G i i=some 0)∧(∀t,t<n→RB M K (R t))∧GB K n G∧(∀x,P x→ZbC n G R x)∧I G R
theorem ZuO(hn:n≤20)(hk:k+2*n+4≤7000)(hM:0<M)(bM:Bd k M)(hd:∀i,i<n+1→G i i=some 0)(bG:GB k n G)(hR:∀t,t<n→RB M k (R t)): ∃D,ZdX [Z2 n G R]=some D∧Zee [Z2 n G R]=some D∧Tm n (k+3*n+7) M (ZbC n G R) (fun G2 R2=>ZmH n G2 R2 G R) D:=by
 have bG2:BdG (n+1) k G:=fun a b c ha hb e=>bG a b ha hb c e
 obtain⟨D,et,hD⟩:=Zty (k:=k) (by omega) (by omega) hM bM hd bG2 hR
 obtain⟨u,eu,hu⟩:=Zrc (k:=k) (by omega) (by omega) hM bM hd bG2 hR
 have:=Zr5 hD hu
 subst this
 refine⟨D,et,eu,?_⟩
 rcases hD with⟨G2,R2,rfl,s⟩ | ⟨rfl,f⟩
 ·obtain⟨z1,z2⟩:=Zr9 hM (bM.mono (by omega)) bG2 (by omega) s
  obtain⟨_,_,_,_,_,_,h6⟩:=s.go
  exact .inr ⟨G2,R2,rfl,(Zr7 hd s).1,fun t ht=>(h6 t ht).1.mono (by omega),fun i j hi hj b e=>(z1 i j b hi hj e).mono (by omega),fun x li=>ZrZ li s,Zre (fun t ht=>(hR t ht).1) s⟩
 ·exact .inl ⟨rfl,fun x li=>absurd f (Zrw li)⟩
theorem ZjT(hn:n≤100)(hi:1≤i)(hi2:i≤9000)(bc:∀j,j<n+1→Bd i (c j))(bR:∀j,j<n→RBd i (R j))(ok:∀j,j<n→RestOk (R j)): Zej [Zad n c,.lst (tab n fun j=>ZW (R j))]=some (ZW (Zaw c R n)):=by
 apply Pk.eq
 unfold Zej ZkR Zad
 walk_at "z"
 refine Zl7 (n:=n) (a:=fun j=>.int (c (j+1))) (c:=fun j=>ZW (R j)) (P:=fun j σ=>σ 2=some (ZW (Zaw c R j))) ?_ rfl ?_ ?_
 ·refine ZpQ ?_
  refine Zoz ?_
  walk_at "z"
  refine⟨_,rfl,?_⟩
  rw[Ztx]
  walk_at "z"
  rfl
 ·rintro j σ hj e2
  have hr:=(ok j hj).nn
  have bt:Bd (i+i) (Zcq (R j) (c (j+1))).1:=by
   unfold Zcq
   rw[Zdy]
   exact(bR j hj).1.mul (Zpw (bc (j+1) (by omega)))
  have bv:Bd (i+i) (Zaw c R j).1:=by
   rw[ZdC ok j (by omega),Zdy]
   exact Zh3 bc bR j (by omega)
  walk_at "z"
  refine ZQ (Zjx (k:=i) (by omega) hr (bR j hj) (bc (j+1) (by omega))) ?_
  walk_at "z"
  refine ZQ (ZjR (k:=i+i) (by omega) bv bt) ?_
  walk_at "z"
  exact ZcW
 ·rintro σ e2
  walk_at "z"
  rfl
theorem ZiE{b:Nat}(hn:n≤100)(hb:b≤9000)(bc:∀j,j<n+1→Bd b (c j))(bR:∀j,j<n→RBd b (R j))(ok:∀j,j<n→RestOk (R j)): Zeb [Zad n c,.lst (tab n fun j=>ZW (R j))]=some (ZW (Zaw c R n)):=by
 apply Pk.eq
 unfold Zeb Zi6 Zad
 rw[ZdC ok n (Zz10 n)]
 walk_at "z"
 refine Zb8 (n:=n) (a:=fun i=>.int i) (P:=fun j σ=>σ 0=some (.lst (tab (n+1) fun i=>.int (c i)))∧σ 1=some (.lst (tab n fun j=>ZW (R j)))∧σ 2=some (.int (Zbp c R j))∧σ 3=some (.int (ZbU c R j))) ?_ ⟨by walk_at "r",by walk_at "r",by walk_at "r",by walk_at "r"⟩ ?_ ?_
 ·walk_at "z"
  rfl
 ·rintro j σ hj ⟨e0,e1,e2,e3⟩
  have bj:=bR j hj
  have cj:=bc (j+1) (by omega)
  have h1:j+1<n+1:=by omega
  have e1':Z8 (Z8 (Z8 σ 4 (.int (j:Nat))) 2 (.int (Zbp c R (j+1)))) 3 (.int (ZbU c R (j+1))) 1=some (.lst (tab n fun j=>ZW (R j))):=e1
  unfold ZW at e1
  have e':((j:Int)+1).toNat=j+1:=by omega
  walk_at "z"
  rw[e']
  refine ZbK (Zb5 cj bj.1 (by omega) (by omega)) ?_
  walk_at "z"
  refine ZQ (Zhx ((Zh3 bc bR j (by omega)).mono (by omega)) ((cj.mul bj.1).mono (by omega))) ?_
  walk_at "z"
  rw[e']
  refine ZbK (Zb5 cj bj.2 (by omega) (by omega)) ?_
  walk_at "z"
  exact⟨by walk_at "r",e1',by walk_at "r",by walk_at "r"⟩
 ·rintro σ ⟨e0,e1,e2,e3⟩
  walk_at "z"
  exact ZQ Zek rfl
noncomputable def ZaA(c:Nat→Int)(i:Nat): Nat→Int:=fun k=>c k-unC i k*c i
theorem ZvR{b:Nat}(bc:∀i,i<n+1→Bd b (c i))(i:Nat)(hi:i<n+1): ∀k,k<n+1→Bd (b+1) (ZaA c i k):=fun k hk=>by
 have h1:=bc k hk
 have h2:=bc i hi
 have h3:Bd b (unC i k*c i):=by
  rcases Zp2 (i:=i) (k:=k)with e | e <;> rw[e]
  ·rw[Int.zero_mul];exact Zd8
  ·rw[Int.one_mul];exact h2
 exact h1.sub h3
noncomputable def Zdq(p:Int×Int)(d:Int): Int×Int:=Zap (Int.gcd p.1 d) p.2
theorem Zm4(hk:k≤200000)(hp:Bd k p.1)(hd:Bd k d): ZfB [ZW p,.int d]=some (ZW (Zdq p d)):=by
 apply Pk.eq
 unfold ZfB ZiR ZW Zdq
 walk_at "z"
 refine ZQ (Zk7 (Zbq hp hk) (Zbq hd hk)) ?_
 walk_at "z"
 exact ZQ (Zg6 (by omega)) rfl
noncomputable def Zc9(n:Nat)(R:Nat→Int×Int)(c:Nat→Int)(d:Int)(i:Nat): Int×Int:=Zap (Int.gcd (Zaw (ZaA c i) R n).1 d) (-(c i)*(Zaw (ZaA c i) R n).2)
theorem ZvS(ok:∀t,t<n→RestOk (R t))(h1:c i=1∨c i = -1): Zdq (Zcq (Zaw (ZaA c i) R n) (-(c i))) d=Zc9 n R c d i:=by
 have hr:RestOk (Zaw (ZaA c i) R n):=by rw[ZdC ok n (Zz10 n)];exact Zca (Zes _ _ _) _
 generalize hp:Zaw (ZaA c i) R n=p at *
 unfold Zdq Zc9 Zcq
 rw[hp,Zdy]
 have ha:ZaZ (-(c i))=1:=by rcases h1 with e | e <;> rw[e] <;> rfl
 rw[ha,Int.mul_one]
 refine ZnE (by omega) ?_
 have h2:((Int.gcd p.1 d:Nat):Int) ∣ p.1:=Int.gcd_dvd_left ..
 have:=Int.dvd_trans h2 (Zhz (m:=p.1) (r:=p.2 * -(c i)) hr.nn)
 rwa [Int.mul_comm (-(c i))]
theorem ZmM: RestOk (Zc9 n R c d i):=Zca (by omega) _
def Zcz(n:Nat)(R:Nat→Int×Int)(c:Nat→Int)(d:Int)(t:Nat)(o:Option (Int×Int)): Prop:=if c (t+1)=1∨c (t+1) = -1 then Met (R t) (Zc9 n R c d (t+1)) o else o=some (R t)
theorem Zh6{m:Nat}(ok:∀t,t<n→RestOk (R t))(bm:∀t,t<n→Bd m (R t).1)(bR:∀t,t<n→RBd k (R t))(bc:∀i,i<n+1→Bd k (c i)): RBd (k+k+n) (Zaw c R n):=by
 rw[ZdC ok n (Zz10 n)]
 exact Zf6 (Zes _ _ _) ((Zh3 bc bR n (Zz10 n)).mono (by omega)) (Zpx bc bR n (Zz10 n))
theorem ZmN(ok:∀t,t<n→RestOk (R t))(bR:∀t,t<n→RBd k (R t))(bc:∀j,j<n+1→Bd k (ZaA c i j))(bd:Bd k d)(h1:c i=1∨c i = -1): RBd (k+k+n) (Zc9 n R c d i):=by
 have h:=Zh6 (m:=k) ok (fun t ht=>(bR t ht).1) bR bc
 generalize hp:Zaw (ZaA c i) R n=p at *
 unfold Zc9
 rw[hp]
 refine Zf6 (by omega) (Zik h.1 (bd.mono (by omega))) ?_
 rcases h1 with e | e <;> rw[e]
 ·have:=h.2;unfold Bd at *;omega
 ·have:=h.2;unfold Bd at *;omega
theorem Zqz(hn:n≤60)(hk1:1≤k)(hk:k+k+n≤8000)(ht:t<n)(ok:∀t,t<n→RestOk (R t))(bR:∀t,t<n→RBd k (R t))(bc:∀j,j<n+1→Bd k (c j))(bo:∀j,j<n+1→Bd k (ZaA c (t+1) j))(bd:Bd k d): Pk (ZfG [.lst (tab n fun j=>ZW (R j)),Zad n c,.int d,.int ((t+1:Nat):Int)]) fun u=>∃o,u=oR o∧Zcz n R c d t o:=by
 unfold ZfG Zjw
 have hs:Zad n c=.lst (tab (n+1) fun k=>.int (c k)):=rfl
 have h1:t+1<n+1:=by omega
 have e1:(((t+1:Nat):Int)).toNat=t+1:=by omega
 have e2:(((t+1:Nat):Int)-1).toNat=t:=by omega
 have ab:ZaZ (c (t+1))=1↔(c (t+1)=1∨c (t+1) = -1):=by unfold ZaZ;split <;> omega
 have bu:∀j,j<n+1→Bd k (unC (t+1) j):=fun j _=>by
  rcases Zp2 (i:=t+1) (k:=j)with e | e <;> rw[e]
  ·exact Zd8
  ·exact ZgM hk1
 rw[hs]
 walk_at "z"
 rw[←hs]
 rw[e2]
 by_cases q:c (t+1)=1∨c (t+1) = -1
 ·have qa:=ab.mpr q
  have bp:=Zh6 (m:=k) ok (fun t ht=>(bR t ht).1) bR bo
  have op:RestOk (Zaw (ZaA c (t+1)) R n):=by rw[ZdC ok n (Zz10 n)];exact Zca (Zes _ _ _) _
  have bs:=ZmN ok bR bo bd q
  have bk:=bc (t+1) h1
  have be:=ZvS (d:=d) ok q
  walk_at "z"
  refine ZQ (Zr8 (i:=t+1) (n:=n) (by omega)) ?_
  walk_at "z"
  refine ZQ (ZnF (b:=k) (by omega) (by omega) bu bk) ?_
  walk_at "z"
  refine ZQ (Zry (b:=k+k) (by omega) (by omega) (by omega) (fun j hj=>(bu j hj).mul bk)) ?_
  rw[show(fun k=>c k-unC (t+1) k*c (t+1))=ZaA c (t+1)from rfl]
  walk_at "z"
  refine ZQ (ZjT (i:=k) (by omega) hk1 (by omega) bo bR ok) ?_
  walk_at "z"
  refine ZQ (Zjx (k:=k+k+n) (by omega) op.nn bp (show Bd (k+k+n) (-(c (t+1)))by have:=bk.mono (show k≤k+k+n by omega);unfold Bd at *;omega)) ?_
  walk_at "z"
  refine ZQ (Zm4 (k:=k+k+n+k) (by omega) (by unfold Zcq;rw[Zdy];exact bp.1.mul (Zpw (show Bd k (-(c (t+1)))by unfold Bd at *;omega))) (bd.mono (by omega))) ?_
  rw[be]
  walk_at "z"
  refine(Zks (k:=k+k+n) hk (ok t ht) ZmM ⟨(bR t ht).1.mono (by omega),(bR t ht).2.mono (by omega)⟩ bs).mono ?_
  rintro _ ⟨o,rfl,hm,_⟩
  exact⟨o,rfl,by unfold Zcz;rw[if_pos q];exact hm⟩
 ·have qa:¬ZaZ (c (t+1))=1:=fun h=>q (ab.mp h)
  walk_at "z"
  exact⟨some (R t),rfl,by unfold Zcz;rw[if_neg q]⟩
theorem Zrf(hn:n≤60)(hk1:1≤k)(hk:k+k+n≤8000)(ok:∀t,t<n→RestOk (R t))(bR:∀t,t<n→RBd k (R t))(bc:∀j,j<n+1→Bd k (c j))(bo:∀t,t<n→∀j,j<n+1→Bd k (ZaA c (t+1) j))(bd:Bd k d): ∃o:Nat→Option (Int×Int),(∀t,t<n→Zcz n R c d t (o t))∧((∃t,t<n∧o t=none)→ZdS [Z2 n G R,Zad n c,.int d]=some .none)∧∀R' D,(∀t,t<n→o t=some (R' t))→ZdX [Z2 n G R']=some D→ZdS [Z2 n G R,Zad n c,.int d]=some D:=by
 have ex:∀t,∃o,t<n→ZfG [.lst (tab n fun j=>ZW (R j)),Zad n c,.int d,.int ((t+1:Nat):Int)]=some (oR o)∧Zcz n R c d t o:=fun t=>by
  by_cases ht:t<n
  ·obtain⟨u,e,o,rfl,h⟩:=Zqz hn hk1 hk ht ok bR bc (bo t ht) bd
   exact⟨o,fun _=>⟨e,h⟩⟩
  ·exact⟨none,fun h=>absurd h ht⟩
 obtain⟨o,ho⟩:=Classical.axiomOfChoice ex
 refine⟨o,fun t ht=>(ho t ht).2,?_⟩
 have ht:Z2 n G R=.tup [Zab (n+1) G,.lst (tab n fun i=>ZW (R i))]:=rfl
 have hs:Zad n c=.lst (tab (n+1) fun k=>.int (c k)):=rfl
 have key:∀{D:T},((∃t,t<n∧o t=none)∧D=.none∨(¬(∃t,t<n∧o t=none))∧ZdX [.tup [Zab (n+1) G,.lst (tab n fun t=>oR (o t))]]=some D)→ZdS [Z2 n G R,Zad n c,.int d]=some D:=fun {D} hD=>by
  apply Pk.eq
  unfold ZdS Zko
  rw[ht,hs]
  walk_at "z"
  rw[←hs]
  refine Zc0 (n:=n) (a:=fun i=>.int ((1+i:Nat):Int)) (b:=fun t=>oR (o t)) (by omega) ?_ (fun t ht'=>?_) ?_
  ·refine Zo4 (a:=1) (m:=n) (by omega) (by omega) ?_ rfl
   simp only[Zd,Zj,Zm,Za,Zq,hs,Zax,Zat,Option.bind_some]
   show some [T.int 1,T.int (((tab (n+1) fun k=>T.int (c k)).length:Nat):Int)]=_
   rw[Zat]
   congr 3
   congr 1
   omega
  ·rw[Nat.add_comm 1 t]
   walk_at "z"
   exact ZQ (ho t ht').1 rfl
  walk_at "z"
  refine ZgB (.none (n:=0)) (ZdY (n:=1) fun i _=>Ziu) ?_
  rcases hD with⟨⟨t,h1,h2⟩,rfl⟩ | ⟨hc,hD⟩
  ·rw[Zbv (show T.none∈tab n fun i=>oR (o i)from List.mem_of_getElem? (i:=t) (by rw[Zbt h1,h2];rfl))]
   walk_at "z"
   rfl
  ·rw[Zch (show ¬T.none∈tab n fun i=>oR (o i)from fun h=>by
    obtain⟨i,hi,e⟩:=Zdg h
    exact hc ⟨i,hi,oR_none.mp e.symm⟩)]
   walk_at "z"
   exact ZQ hD rfl
 refine⟨fun h=>key (.inl ⟨h,rfl⟩),fun R' D h hD=>key (.inr ⟨fun⟨t,h1,h2⟩=>(by rw[h t h1]at h2;cases h2),?_⟩)⟩
 have e:T.tup [Zab (n+1) G,.lst (tab n fun t=>oR (o t))]=Z2 n G R':=by
  show T.tup [Zab (n+1) G,.lst (tab n fun t=>oR (o t))]=.tup [Zab (n+1) G,.lst (tab n fun i=>ZW (R' i))]
  rw[Zbg fun i hi=>(show oR (o i)=ZW (R' i)by rw[h i hi];rfl)]
 rw[e]
 exact hD
theorem Zo6{c:Nat→Int}{R:Nat→Int×Int}{n i m:Nat}(bc:∀j,j<n+1→Bd i (c j))(bm:∀j,j<n→Bd m (R j).1): ∀j,j≤n→Bd (i+m) (Zbp c R j)
 | 0,_=>Zd8
 | j+1,h=>Zik (Zo6 bc bm j (by omega)) ((bc (j+1) (by omega)).mul (bm j (by omega)))
theorem Zp4{a:Int}(ha:Bd i a)(hb:Bd j b): Bd (i+j) ((Int.lcm a b:Nat):Int):=by
 unfold Bd at *
 by_cases h:a=0∨b=0
 ·rcases h with e | e <;> subst e
  ·rw[Int.lcm_zero_left];exact Nat.pow_pos (by decide)
  ·rw[Int.lcm_zero_right];exact Nat.pow_pos (by decide)
 ·have:Int.lcm a b≤a.natAbs*b.natAbs:=Nat.le_of_dvd (Nat.mul_pos (by omega) (by omega)) (Nat.lcm_dvd_mul _ _)
  rw[Int.natAbs_natCast,Nat.pow_add]
  exact Nat.lt_of_le_of_lt this (Nat.mul_lt_mul'' ha hb)
theorem ZuP{b m:Nat}(ok:∀t,t<n→RestOk (R t))(bm:∀t,t<n→Bd m (R t).1)(bo:∀j,j<n+1→Bd b (ZaA c (t+1) j))(bd:Bd (b+m) d): Bd (b+m) (Zc9 n R c d (t+1)).1:=by
 unfold Zc9
 rw[Zdy,ZdC ok n (Zz10 n),Zdy]
 exact Zik (Zo6 bo bm n (Zz10 n)) bd
theorem ZuQ{b m:Nat}{r:Int×Int}(hk:k+k+n≤8000)(ht:t<n)(ok:∀t,t<n→RestOk (R t))(bm:∀t,t<n→Bd m (R t).1)(bR:∀t,t<n→RBd k (R t))(bo:∀j,j<n+1→Bd b (ZaA c (t+1) j))(hbk:b+m≤k)(bd:Bd (b+m) d)(h:Zcz n R c d t (some r)): RestOk r∧Bd (b+m+m) r.1∧Bd (k+k+n) r.2:=by
 have g1:Bd (k+k+n) (R t).2:=(bR t ht).2.mono (by omega)
 unfold Zcz at h
 split at h
 ·rename_i q
  have bs:=ZmN ok bR (fun j hj=>(bo j hj).mono (by omega)) (bd.mono (by omega)) q
  have hm:=ZuP ok bm bo bd
  have wh:=ZpZ (k:=k+k+n) hk (ok t ht) ZmM ⟨(bR t ht).1.mono (by omega),g1⟩ bs h r rfl
  refine⟨h.1,?_,?_⟩
  ·rcases wh with rfl | rfl | ⟨_,_,e⟩
   ·exact(bm t ht).mono (by omega)
   ·exact hm.mono (by omega)
   ·rw[e]
    exact(Zp4 (bm t ht) hm).mono (by omega)
  ·rcases wh with rfl | rfl | ⟨z1,z2,e⟩
   ·exact g1
   ·exact bs.2
   ·have b1:Bd (k+k+n) r.1:=by rw[e];exact(Zp4 (bm t ht) hm).mono (by omega)
    have n0:r.1≠0:=by rw[e];intro h;exact(Int.lcm_ne_zero z1 z2) (by omega)
    rcases h.1 with q | ⟨_,q2,q3⟩
    ·exact absurd q n0
    ·unfold Bd at *;omega
 ·cases h
  exact⟨ok t ht,(bm t ht).mono (by omega),g1⟩
def Tf(n:Nat)(P:(Nat→Int)→Prop)(I:(Nat→Nat→Option Int)→(Nat→Int×Int)→Prop)(D:T): Prop:=(D=.none∧∀x,¬P x)∨∃G R,D=Z2 n G R∧(∀i,i<n+1→G i i=some 0)∧(∀t,t<n→RestOk (R t))∧(∀x,P x→ZbC n G R x)∧I G R
theorem Tm.tf{K:Nat}{P:(Nat→Int)→Prop}{I:(Nat→Nat→Option Int)→(Nat→Int×Int)→Prop}{D:T}(h:Tm n K M P I D): Tf n P I D:=by
 rcases h with h | ⟨G,R,rfl,h1,h2,h3,h4,h5⟩
 ·exact .inl h
 ·exact .inr ⟨G,R,rfl,h1,fun t ht=>(h2 t ht).1,h4,h5⟩
theorem Tf.due{P:(Nat→Int)→Prop}{I:(Nat→Nat→Option Int)→(Nat→Int×Int)→Prop}{D:T}(h:Tf n P I D): DueOk n D:=by
 rcases h with⟨rfl,_⟩ | ⟨G,R,rfl,h1,h2,h3,h4⟩
 ·exact .inl rfl
 ·exact .inr ⟨G,R,rfl,h1,h2⟩
theorem ZuR(ht:t<n)(ok:∀t,t<n→RestOk (R t))(hx:∀t,t<n→Zal (R t) (x t))(hd:d ∣ Zaz c x n)(q:c (t+1)=1∨c (t+1) = -1): Zal (Zc9 n R c d (t+1)) (x t):=by
 unfold Zc9
 refine(Zdc (by omega) _).mpr ?_
 have hv:Zaz (ZaA c (t+1)) x n=Zaz c x n-x t*c (t+1):=by
  rw[show ZaA c (t+1)=fun k=>c k-(fun a=>unC (t+1) a*c (t+1)) k from rfl,ZpE,ZoH,ZuN (t+1) (by omega)]
  rfl
 have h1:=ZpF (c:=ZaA c (t+1)) ok hx n (Zz10 n)
 rw[ZdC ok n (Zz10 n),Zdy]
 have h2:=Zhz (m:=Zbp (ZaA c (t+1)) R n) (r:=ZbU (ZaA c (t+1)) R n) (Zes _ _ _)
 have g1:((Int.gcd (Zbp (ZaA c (t+1)) R n) d:Nat):Int) ∣ Zbp (ZaA c (t+1)) R n:=Int.gcd_dvd_left ..
 have g2:((Int.gcd (Zbp (ZaA c (t+1)) R n) d:Nat):Int) ∣ d:=Int.gcd_dvd_right ..
 have h3:=Int.dvd_trans g1 (Int.dvd_sub h1 h2)
 have h4:=Int.dvd_trans g2 hd
 rw[hv]at h3
 generalize ((Int.gcd (Zbp (ZaA c (t+1)) R n) d:Nat):Int)=g at *
 generalize (Zap (Zbp (ZaA c (t+1)) R n) (ZbU (ZaA c (t+1)) R n)).2=s at *
 generalize ZbU (ZaA c (t+1)) R n=r at *
 have h5:=Int.dvd_sub h4 h3
 rcases q with e | e <;> rw[e]at h5 ⊢
 ·rwa [show Zaz c x n-(Zaz c x n-x t*1-r-(s-r))=x t - -1*s by omega]at h5
 ·have:=(Int.dvd_neg).mpr h5
  rwa [show -(Zaz c x n-(Zaz c x n-x t * -1-r-(s-r)))=x t - -(-1)*s by omega]at this
theorem Zo7(ht:t<n)(ok:∀t,t<n→RestOk (R t))(hx:∀t,t<n→Zal (R t) (x t))(hd:d ∣ Zaz c x n)(h:Zcz n R c d t o): ∃r,o=some r∧Zal r (x t):=by
 unfold Zcz at h
 split at h
 ·rename_i q
  have hb:=ZuR ht ok hx hd q
  cases o with
  | none=>exact absurd ⟨hx t ht,hb⟩ (h (x t))
  | some r=>exact⟨r,rfl,(h.2 (x t)).mpr ⟨hx t ht,hb⟩⟩
 ·exact⟨R t,h,hx t ht⟩
theorem ZsP(h:RestOk q): Zal q 0↔q.2=0:=by
 rw[Zba h.nn]
 constructor
 ·intro d
  rcases h with z | ⟨z1,z2,z3⟩
  ·rw[z]at d
   have:=Int.zero_dvd.mp d
   omega
  ·refine Classical.byContradiction fun q=>?_
   have:=Int.le_of_dvd (by omega) ((Int.dvd_neg).mpr d)
   omega
 ·intro e
  rw[e]
  exact Int.dvd_zero _
theorem ZuS{b:Nat}(bc:∀i,i<n+1→Bd b (c i)): ∀t,t<n→∀j,j<n+1→Bd (b+1) (ZaA c (t+1) j):=fun t ht=>ZvR bc (t+1) (by omega)
theorem ZqR{k:Int}(hn:n≤60)(h:1≤i)(hi:i<n+1): ZdO [Zad n c,.int i,.int k]=some (Zad n fun a=>c a+unC i a*k):=by
 apply Pk.eq
 unfold ZdO ZgU Zad
 walk_at "z"
 show T.lst _=T.lst _
 congr 1
 refine Zbg fun a _=>?_
 show _=T.int (c a+unC i a*k)
 by_cases q:a=i
 ·rw[if_pos q,q,Zp0 (by omega),Int.one_mul]
 ·rw[if_neg q,ZmL q,Int.zero_mul,Int.add_zero]
theorem ZqS{o:Nat→Option (Int×Int)}(hn:n≤60)(hk1:1≤k)(hk:k+k+n≤8000)(ok:∀t,t<n→RestOk (R t))(bR:∀t,t<n→RBd k (R t))(bc:∀j,j<n+1→Bd k (c j))(bo:∀t,t<n→∀j,j<n+1→Bd k (ZaA c (t+1) j))(bd:Bd k d)(ho:∀t,t<n→Zcz n R c d t (o t)): ((∃t,t<n∧o t=none)→ZdP [Z2 n G R,Zad n c,.int d]=some .none)∧∀R' D,(∀t,t<n→o t=some (R' t))→Zee [Z2 n G R']=some D→ZdP [Z2 n G R,Zad n c,.int d]=some D:=by
 have ht:Z2 n G R=.tup [Zab (n+1) G,.lst (tab n fun i=>ZW (R i))]:=rfl
 have hs:Zad n c=.lst (tab (n+1) fun k=>.int (c k)):=rfl
 have key:∀{D:T},((∃t,t<n∧o t=none)∧D=.none∨(¬(∃t,t<n∧o t=none))∧Zee [.tup [Zab (n+1) G,.lst (tab n fun t=>oR (o t))]]=some D)→ZdP [Z2 n G R,Zad n c,.int d]=some D:=fun {D} hD=>by
  apply Pk.eq
  unfold ZdP Zja
  let ρ:Nat→Nat→Option (Int×Int):=fun m t=>if t<m then o t else some (R t)
  have hw:∀{t:Nat} {Q:T→Prop},t<n→Q (Zad n (ZaA c (t+1)))→Pk (ZdO [Zad n c,.int ((t+1:Nat):Int),.int (-(c (t+1)))]) Q:=fun {t Q} h q=>ZQ (ZqR (by omega) (by omega) (by omega)) (by rw[show(fun a=>c a+unC (t+1) a * -(c (t+1)))=ZaA c (t+1)by funext a;unfold ZaA;rw[Int.mul_neg];omega];exact q)
  rw[ht,hs]
  walk_at "z"
  refine Zb8 (n:=n) (a:=fun i=>.int ((1+i:Nat):Int)) (P:=fun m σ=>σ 0=some (.tup [Zab (n+1) G,.lst (tab n fun i=>ZW (R i))])∧σ 1=some (.lst (tab (n+1) fun k=>.int (c k)))∧σ 2=some (.int d)∧σ 3=some (.lst (tab n fun t=>oR (ρ m t)))) ?_ ⟨by walk_at "r",by walk_at "r",by walk_at "r",?_⟩ ?_ ?_
  ·refine Zo4 (a:=1) (m:=n) (by omega) (by omega) ?_ rfl
   show some [T.int 1,T.int (((tab (n+1) fun k=>T.int (c k)).length:Nat):Int)]=_
   rw[Zat]
   congr 3
   congr 1
   omega
  ·walk_at "z"
   rfl
  ·rintro t σ ht' ⟨e0,e1,e2,e3⟩
   have h1:t+1<n+1:=by omega
   have i1:(((t+1:Nat):Int)).toNat=t+1:=by omega
   have i2:(((t+1:Nat):Int)-1).toNat=t:=by omega
   have hr:ρ t t=some (R t):=by show(if t<t then _ else _)=_;rw[if_neg (by omega)]
   have hne:∀a,a≠t→ρ (t+1) a=ρ t a:=fun a ha=>by
    show(if a<t+1 then _ else _)=(if a<t then _ else _)
    by_cases q:a<t
    ·rw[if_pos q,if_pos (by omega)]
    ·rw[if_neg q,if_neg (by omega)]
   have hat:ρ (t+1) t=o t:=by show(if t<t+1 then _ else _)=_;rw[if_pos (by omega)]
   have hb:=ho t ht'
   rw[Nat.add_comm 1 t]
   by_cases q:c (t+1)=1∨c (t+1) = -1
   ·unfold Zcz at hb
    rw[if_pos q]at hb
    have bp:=Zh6 (m:=k) ok (fun t ht=>(bR t ht).1) bR (bo t ht')
    have op:RestOk (Zaw (ZaA c (t+1)) R n):=by rw[ZdC ok n (Zz10 n)];exact Zca (Zes _ _ _) _
    have bs:=ZmN ok bR (bo t ht') bd q
    have bn:Bd (k+k+n) (-(c (t+1))):=by have:=(bc (t+1) h1).mono (show k≤k+k+n by omega);unfold Bd at *;omega
    have em:ZW (Zc9 n R c d (t+1))=ZW (Zap (Int.gcd (Zaw (ZaA c (t+1)) R n).1 d) (-(c (t+1))*(Zaw (ZaA c (t+1)) R n).2)):=rfl
    have q':c (t+1)=1∨(¬c (t+1)=1∧c (t+1) = -1):=by omega
    have ep:ZW (Zaw (ZaA c (t+1)) R n)=.tup [.int (Zaw (ZaA c (t+1)) R n).1,.int (Zaw (ZaA c (t+1)) R n).2]:=rfl
    rcases q' with q1 | ⟨q1,q2⟩
    all_goals
     walk_at "z"
     refine hw ht' ?_
     walk_at "z"
     refine ZQ (ZiE (b:=k) (by omega) (by omega) (bo t ht') bR ok) ?_
     rw[ep]
     walk_at "z"
     refine ZQ (Zhx (bp.1.mono (by omega)) (bd.mono (by omega))) ?_
     walk_at "z"
     refine ZbK (Zb5 bn bp.2 (by omega) (by omega)) ?_
     walk_at "z"
     refine ZQ Zek ?_
     rw[←em]
     walk_at "z"
     rw[i2,hr]
     refine(Zoj (k:=k+k+n) hk (ok t ht') ZmM ⟨(bR t ht').1.mono (by omega),(bR t ht').2.mono (by omega)⟩ bs).mono ?_
     rintro _ ⟨o',rfl,hm⟩
     refine⟨ZuM,?_⟩
     walk_at "z"
     refine ZhC (n:=n) (f:=fun a=>oR (ρ t a)) (by walk_at "r") (by omega) (by omega) ?_
     rw[i2,ZvP,Zog hm hb]
     refine⟨by walk_at "r",by walk_at "r",by walk_at "r",?_⟩
     rw[show(tab n fun a=>oR (ρ (t+1) a))=tab n fun a=>oR (if a=t then o t else ρ t a)from Zbg fun a _=>by
      by_cases z:a=t
      ·rw[z,hat,if_pos rfl]
      ·rw[hne a z,if_neg z]]
     walk_at "r"
   ·have q1:¬c (t+1)=1:=fun h=>q (.inl h)
    have q2:¬c (t+1) = -1:=fun h=>q (.inr h)
    unfold Zcz at hb
    rw[if_neg q]at hb
    walk_at "z"
    refine⟨by walk_at "r",by walk_at "r",by walk_at "r",?_⟩
    rw[show(tab n fun a=>oR (ρ (t+1) a))=tab n fun a=>oR (ρ t a)from Zbg fun a _=>by
     by_cases z:a=t
     ·rw[z,hat,hr,hb]
     ·rw[hne a z]]
    walk_at "r"
  ·rintro σ ⟨e0,e1,e2,e3⟩
   rw[show(tab n fun a=>oR (ρ n a))=tab n fun a=>oR (o a)from Zbg fun a ha=>by show oR (if a<n then _ else _)=_;rw[if_pos ha]]at e3
   walk_at "z"
   refine ZgB (.none (n:=0)) (ZdY (n:=1) fun i _=>Ziu) ?_
   rcases hD with⟨⟨t,h1,h2⟩,rfl⟩ | ⟨hc,hD⟩
   ·rw[Zbv (show T.none∈tab n fun i=>oR (o i)from List.mem_of_getElem? (i:=t) (by rw[Zbt h1,h2];rfl))]
    walk_at "z"
    rfl
   ·rw[Zch (show ¬T.none∈tab n fun i=>oR (o i)from fun h=>by
     obtain⟨i,hi,e⟩:=Zdg h
     exact hc ⟨i,hi,oR_none.mp e.symm⟩)]
    walk_at "z"
    exact ZQ hD rfl
 refine⟨fun h=>key (.inl ⟨h,rfl⟩),fun R' D h hD=>key (.inr ⟨fun⟨t,h1,h2⟩=>(by rw[h t h1]at h2;cases h2),?_⟩)⟩
 have e:T.tup [Zab (n+1) G,.lst (tab n fun t=>oR (o t))]=Z2 n G R':=by
  show T.tup [Zab (n+1) G,.lst (tab n fun t=>oR (o t))]=.tup [Zab (n+1) G,.lst (tab n fun i=>ZW (R' i))]
  rw[Zbg fun i hi=>(show oR (o i)=ZW (R' i)by rw[h i hi];rfl)]
 rw[e]
 exact hD
theorem ZsQ{b m K:Nat}(hn:n≤20)(hk1:1≤k)(hk:k+k+n≤K)(hbk:b+m≤k)(hb1:1≤b)(hK:(b+m+m)*n+1≤K)(hK2:K+2*n+4≤7000)(hd0:∀i,i<n+1→G i i=some 0)(bG:GB K n G)(ok:∀t,t<n→RestOk (R t))(bm:∀t,t<n→Bd m (R t).1)(bR:∀t,t<n→RBd k (R t))(bc:∀j,j<n+1→Bd k (c j))(bo:∀t,t<n→∀j,j<n+1→Bd b (ZaA c (t+1) j))(bd:Bd (b+m) d): ∃D,ZdS [Z2 n G R,Zad n c,.int d]=some D∧ZdP [Z2 n G R,Zad n c,.int d]=some D∧Tf n (fun x=>ZbC n G R x∧d ∣ Zaz c x n) (fun G2 R2=>∃R',(∀t,t<n→RestOk (R' t))∧(∀t,t<n→Zcz n R c d t (some (R' t)))∧ZmH n G2 R2 G R') D:=by
 have bo2:∀t,t<n→∀j,j<n+1→Bd k (ZaA c (t+1) j):=fun t ht j hj=>(bo t ht j hj).mono (by omega)
 obtain⟨o,ho,a1,a2⟩:=Zrf (G:=G) (c:=c) (d:=d) (by omega) hk1 (by omega) ok bR bc bo2 (bd.mono (by omega))
 obtain⟨l1,l2⟩:=ZqS (G:=G) (c:=c) (d:=d) (by omega) hk1 (by omega) ok bR bc bo2 (bd.mono (by omega)) ho
 by_cases hc:∃t,t<n∧o t=none
 ·refine⟨.none,a1 hc,l1 hc,.inl ⟨rfl,fun x h=>?_⟩⟩
  obtain⟨t,h1,h2⟩:=hc
  obtain⟨r,e,_⟩:=Zo7 h1 ok h.1.2 h.2 (ho t h1)
  rw[h2]at e
  cases e
 ·have hs:∀t,t<n→o t=some ((o t).getD (1,0)):=fun t ht=>by
   cases e:o t with
   | none=>exact absurd ⟨t,ht,e⟩ hc
   | some q=>rfl
  generalize hR':(fun t=>(o t).getD (1,0))=R'
  have hs2:∀t,t<n→o t=some (R' t):=fun t ht=>by rw[←hR'];exact hs t ht
  have hB:∀t,t<n→Zcz n R c d t (some (R' t)):=fun t ht=>by rw[←hs2 t ht];exact ho t ht
  have hr:=fun t (ht:t<n)=>ZuQ (k:=k) (by omega) ht ok bm bR (bo t ht) hbk bd (hB t ht)
  have bM:Bd K (Zd5 R' n):=(Zo3 (k:=b+m+m) (by omega) (fun t ht=>(hr t ht).2.1) n (Zz10 n)).mono (by omega)
  obtain⟨D,e1,e2,hD⟩:=ZuO (k:=K) (R:=R') hn hK2 (ZoE (fun t ht=>(hr t ht).1) n (Zz10 n)) bM hd0 bG (fun t ht=>⟨(hr t ht).1,ZoF n t ht,(hr t ht).2.2.mono (by omega)⟩)
  refine⟨D,a2 R' D hs2 e1,l2 R' D hs2 e2,?_⟩
  have lies:∀x,ZbC n G R x∧d ∣ Zaz c x n→ZbC n G R' x:=fun x h=>⟨h.1.1,fun t ht=>by
   obtain⟨r,e,q⟩:=Zo7 ht ok h.1.2 h.2 (hB t ht)
   cases e
   exact q⟩
  rcases hD.tf with⟨rfl,no⟩ | ⟨G2,R2,rfl,h1,h2,h3,h4⟩
  ·exact .inl ⟨rfl,fun x h=>no x (lies x h)⟩
  ·exact .inr ⟨G2,R2,rfl,h1,h2,fun x h=>h3 x (lies x h),R',fun t ht=>(hr t ht).1,hB,h4⟩
theorem ZuT: Pln 1 (Zad n c):=by
 have:=ZuL (tab (n+1) c)
 rw[tab_map]at this
 exact this
theorem ZuU: [T.int (c 0-top)]++(tab (n+1) fun i=>T.int (c i)).drop 1=tab (n+1) fun i=>T.int (Zc8 c top i):=by
 apply List.ext_getElem
 ·simp[tab]
 ·intro i h1 h2
  cases i with
  | zero=>simp[tab,Zc8]
  | succ i=>simp[tab,Zc8]
theorem ZmO: RestOk (Zdq p d):=Zca (by omega) _
theorem Zrz(hn:n≤60): ZdO [Zad n c,.int 0,.int 1]=some (Zad n (Zc8 c (-1))):=by
 apply Pk.eq
 unfold ZdO ZgU Zad
 walk_at "z"
 refine ZhC (n:=n+1) (f:=fun k=>.int (c k)) (by walk_at "r") (by omega) (by omega) ?_
 rw[show Int.toNat 0=0 from rfl]
 walk_at "z"
 show T.lst _=T.lst _
 congr 1
 refine Zbg fun k _=>?_
 unfold Zc8
 by_cases z:k=0
 ·subst z;simp only[if_true];congr 1
 ·simp only[z,if_false]
theorem Zwl(hd:0<d): Zal (Zdq p d) 0↔p.2.fmod (Int.gcd p.1 d)=0:=by
 rw[ZsP ZmO]
 unfold Zdq Zap
 have:((Int.gcd p.1 d:Nat):Int)≠0:=by
  intro e
  have:=Int.gcd_eq_zero_iff.mp (by omega:Int.gcd p.1 d=0)
  omega
 rw[if_neg this]
theorem Zrg{D:T}(hd:0<d)(bd:Bd 1000 d)(bp:Bd 2000 (Zaw c R n).1)(hs:Zeb [Zad n c,.lst (tab n fun i=>ZW (R i))]=some (ZW (Zaw c R n)))(h:(Zal (Zdq (Zaw c R n) d) 0∧ZdP [Z2 n G R,Zad n c,.int d]=some D)∨(¬Zal (Zdq (Zaw c R n) d) 0∧D=.none)): ZcU (k+1) [Z2 n G R,Zad n c,.int d,.bool true]=some D:=by
 have ht:Z2 n G R=.tup [Zab (n+1) G,.lst (tab n fun i=>ZW (R i))]:=rfl
 have hg:∀{Q:T→Prop},Q (.lst (tab n fun i=>ZW (R i)))→Pk (Zw (Z2 n G R) (.int 1)) Q:=fun h=>⟨_,by rw[ht];rfl,h⟩
 have hne:∀{Q:T→Prop},Q (.bool false)→Pk (qIs (Z2 n G R) .none) Q:=fun h=>⟨_,by rw[ht];rfl,h⟩
 have hz:((Int.gcd (Zaw c R n).1 d:Nat):Int)≠0:=by
  intro e
  have:=Int.gcd_eq_zero_iff.mp (by omega:Int.gcd (Zaw c R n).1 d=0)
  omega
 have hgc:=Zhx (show(Zaw c R n).1.natAbs<2 ^ 200000 from bp.mono (by decide)) (show d.natAbs<2 ^ 200000 from bd.mono (by decide))
 rw[Zwl hd]at h
 apply Pk.eq
 unfold ZcU ZfV
 clear ht
 generalize Z2 n G R=T0 at *
 generalize Zaw c R n=p at *
 have ep:ZW p=.tup [.int p.1,.int p.2]:=rfl
 rw[ep]at hs
 walk_at "z"
 refine hne ?_
 walk_at "z"
 refine hg ?_
 walk_at "z"
 refine ZQ hs ?_
 walk_at "z"
 refine ZQ hgc ?_
 rcases h with⟨h1,h2⟩ | ⟨h1,h2⟩
 ·walk_at "z"
  exact ZQ h2 rfl
 ·walk_at "z"
  exact h2.symm
theorem Zrh{D:T}(hn:n≤60)(hd:0<d)(hs:Zeb [Zad n c,.lst (tab n fun i=>ZW (R i))]=some (ZW (Zaw c R n)))(h:(RIn (Zaw c R n) (d,0)∧D=.none)∨(¬RIn (Zaw c R n) (d,0)∧((d=2∧ZcU k [Z2 n G R,Zad n (Zc8 c (-1)),.int 2,.bool true]=some D)∨(d≠2∧D=Z2 n G R)))): ZcU (k+1) [Z2 n G R,Zad n c,.int d,.bool false]=some D:=by
 have ht:Z2 n G R=.tup [Zab (n+1) G,.lst (tab n fun i=>ZW (R i))]:=rfl
 have hg:∀{Q:T→Prop},Q (.lst (tab n fun i=>ZW (R i)))→Pk (Zw (Z2 n G R) (.int 1)) Q:=fun h=>⟨_,by rw[ht];rfl,h⟩
 have hne:∀{Q:T→Prop},Q (.bool false)→Pk (qIs (Z2 n G R) .none) Q:=fun h=>⟨_,by rw[ht];rfl,h⟩
 have hw:=Zrz (c:=c) hn
 have hz:d≠0:=by omega
 have hr:RIn (Zaw c R n) (d,0)↔(Zaw c R n).1.fmod d=0∧(Zaw c R n).2.fmod d=0:=by
  unfold RIn
  rw[if_neg (by show ¬d=0;omega),Int.fmod_eq_emod_of_nonneg _ (by omega),Int.fmod_eq_emod_of_nonneg _ (by omega)]
  show _∧((Zaw c R n).2-0) % d=0↔_
  rw[Int.sub_zero]
 rw[hr]at h
 apply Pk.eq
 unfold ZcU ZfV
 clear ht hr
 generalize Z2 n G R=T0 at *
 generalize Zaw c R n=p at *
 have ep:ZW p=.tup [.int p.1,.int p.2]:=rfl
 rw[ep]at hs
 walk_at "z"
 refine hne ?_
 walk_at "z"
 refine hg ?_
 walk_at "z"
 refine ZQ hs ?_
 rcases h with⟨⟨h1,h2⟩,h3⟩ | ⟨h1,h2⟩
 ·walk_at "z"
  exact h3.symm
 ·by_cases c1:p.1.fmod d=0
  ·have c2:¬p.2.fmod d=0:=fun q=>h1 ⟨c1,q⟩
   rcases h2 with⟨rfl,h2⟩ | ⟨h2,rfl⟩
   ·walk_at "z"
    refine ZQ hw ?_
    walk_at "z"
    exact ZQ h2 rfl
   ·walk_at "z"
    rfl
  ·rcases h2 with⟨rfl,h2⟩ | ⟨h2,rfl⟩
   ·walk_at "z"
    refine ZQ hw ?_
    walk_at "z"
    exact ZQ h2 rfl
   ·walk_at "z"
    rfl
theorem ZpG(hn:n≤4)(hd:∀i,i<n+1→G i i=some 0)(ok:∀t,t<n→RestOk (R t))(sG:SmG 137 n G)(sR:SmR 137 n R)(bc:∀i,i<n+1→Bd 301 (c i))(hd0:0<d)(bd:Bd 140 d): ∃D,Zeg [Z2 n G R,Zad n c,.int d]=some D∧DueOk n D∧∀k,ZcU (k+1) [Z2 n G R,Zad n c,.int d,.bool true]=some D:=by
 have bR:∀t,t<n→RBd 500 (R t):=fun t ht=>⟨(show Bd 137 _ from(sR t ht).1).mono (by decide),(show Bd 137 _ from(sR t ht).2).mono (by decide)⟩
 have bc5:∀i,i<n+1→Bd 500 (c i):=fun i hi=>(bc i hi).mono (by decide)
 have ht:Z2 n G R=.tup [Zab (n+1) G,.lst (tab n fun i=>ZW (R i))]:=rfl
 have hg:∀{Q:T→Prop},Q (.lst (tab n fun i=>ZW (R i)))→Pk (Zw (Z2 n G R) (.int 1)) Q:=fun h=>⟨_,by rw[ht];rfl,h⟩
 have bp:=Zh6 (m:=500) ok (fun t ht=>(bR t ht).1) bR bc5
 have hs:=ZjT (i:=500) (R:=R) (by omega) (by decide) (by decide) bc5 bR ok
 have hs2:=ZiE (b:=500) (R:=R) (by omega) (by decide) bc5 bR ok
 have hl:=Zm4 (p:=Zaw c R n) (d:=d) (k:=1100) (by decide) (bp.1.mono (by omega)) (bd.mono (by decide))
 have wy:=fun(k:Nat) (D:T)=>Zrg (k:=k) (G:=G) (D:=D) hd0 (bd.mono (by decide)) (bp.1.mono (by omega)) hs2
 by_cases hr:Zal (Zdq (Zaw c R n) d) 0
 ·obtain⟨D,a,b,t⟩:=ZsQ (k:=500) (b:=302) (m:=137) (K:=2400) (G:=G) (R:=R) (c:=c) (d:=d) (by omega) (by decide) (by omega) (by decide) (by decide) (by omega) (by omega) hd (fun i j hi hj y e=>(show Bd 137 y from sG i j hi hj y e).mono (by decide)) ok (fun t ht=>(sR t ht).1) bR bc5 (ZuS bc) (bd.mono (by decide))
  refine⟨D,?_,t.due,fun k=>wy k D (.inl ⟨hr,b⟩)⟩
  apply Pk.eq
  unfold Zeg Zhg
  clear t ht wy b
  generalize Z2 n G R=T0 at *
  walk_at "z"
  refine hg ?_
  walk_at "z"
  refine ZQ hs ?_
  walk_at "z"
  refine ZQ hl ?_
  walk_at "z"
  refine ZQ (ZfO ZmO) ?_
  rw[Zbv hr]
  walk_at "z"
  exact ZQ a rfl
 ·refine⟨.none,?_,.inl rfl,fun k=>wy k .none (.inr ⟨hr,rfl⟩)⟩
  clear wy
  apply Pk.eq
  unfold Zeg Zhg
  walk_at "z"
  refine hg ?_
  walk_at "z"
  refine ZQ hs ?_
  walk_at "z"
  refine ZQ hl ?_
  walk_at "z"
  refine ZQ (ZfO ZmO) ?_
  rw[Zch hr]
  walk_at "z"
  rfl
theorem Zwm(hd:0<d): RestOk (d,0):=.inr ⟨hd,Int.le_refl 0,hd⟩
theorem ZrA(hn:n≤4)(hd:∀i,i<n+1→G i i=some 0)(ok:∀t,t<n→RestOk (R t))(sG:SmG 137 n G)(sR:SmR 137 n R)(bc:∀i,i<n+1→Bd 300 (c i))(hd0:0<d)(bd:Bd 140 d): ∃D,Zd9 [Z2 n G R,Zad n c,.int d]=some D∧DueOk n D∧ZdV [Z2 n G R,Zad n c,.int d,.bool false]=some D:=by
 have bR:∀t,t<n→RBd 500 (R t):=fun t ht=>⟨(show Bd 137 _ from(sR t ht).1).mono (by decide),(show Bd 137 _ from(sR t ht).2).mono (by decide)⟩
 have bc5:∀i,i<n+1→Bd 500 (c i):=fun i hi=>(bc i hi).mono (by decide)
 have ht:Z2 n G R=.tup [Zab (n+1) G,.lst (tab n fun i=>ZW (R i))]:=rfl
 have hg:∀{Q:T→Prop},Q (.lst (tab n fun i=>ZW (R i)))→Pk (Zw (Z2 n G R) (.int 1)) Q:=fun h=>⟨_,by rw[ht];rfl,h⟩
 have hs:=ZjT (i:=500) (R:=R) (by omega) (by decide) (by decide) bc5 bR ok
 have hs2:=ZiE (b:=500) (R:=R) (by omega) (by decide) bc5 bR ok
 have wn:=fun(D:T)=>Zrh (k:=2) (G:=G) (D:=D) (by omega) hd0 hs2
 have hri:=Zqv (p:=Zaw c R n) (Zwm hd0)
 have ed:ZW (d,(0:Int))=.tup [.int d,.int 0]:=rfl
 rw[ed]at hri
 have hq0:∀{Q:T→Prop},Q (.int (c 0))→Pk (Zw (Zad n c) (.int 0)) Q:=fun h=>by
  unfold Zad
  walk_at "z"
  exact h
 by_cases hr:RIn (Zaw c R n) (d,0)
 ·refine⟨.none,?_,.inl rfl,wn .none (.inl ⟨hr,rfl⟩)⟩
  clear wn
  apply Pk.eq
  unfold Zd9 ZfC
  walk_at "z"
  refine hg ?_
  walk_at "z"
  refine ZQ hs ?_
  walk_at "z"
  refine ZQ hri ?_
  rw[Zbv hr]
  walk_at "z"
  rfl
 ·by_cases h2:d=2
  ·subst h2
   obtain⟨D,a,t,b⟩:=ZpG (c:=Zc8 c (-1)) hn hd ok sG sR (ZvQ bc ((show Bd 1 (-1)by unfold Bd;decide).mono (by decide))) (by decide) bd
   refine⟨D,?_,t,wn D (.inr ⟨hr,.inl ⟨rfl,b 1⟩⟩)⟩
   apply Pk.eq
   unfold Zd9 ZfC
   clear t ht wn b
   generalize Z2 n G R=T0 at *
   walk_at "z"
   refine hg ?_
   walk_at "z"
   refine ZQ hs ?_
   walk_at "z"
   refine ZQ hri ?_
   rw[Zch hr]
   walk_at "z"
   refine hq0 ?_
   walk_at "z"
   refine Zoz ?_
   walk_at "z"
   refine⟨_,rfl,?_⟩
   refine ZuI (by simp[tab];omega) ?_
   rw[show c 0+1=c 0 - -1 by omega,ZuU,show T.lst (tab (n+1) fun i=>T.int (Zc8 c (-1) i))=Zad n (Zc8 c (-1))from rfl]
   walk_at "z"
   exact ZQ a rfl
  ·refine⟨Z2 n G R,?_,.inr ⟨G,R,rfl,hd,ok⟩,wn _ (.inr ⟨hr,.inr ⟨h2,rfl⟩⟩)⟩
   have hf:Zfj [Z2 n G R]=some (Z2 n G R):=ZtC ((ZuH (by omega)).mono (by decide))
   apply Pk.eq
   unfold Zd9 ZfC
   clear ht wn
   generalize Z2 n G R=T0 at *
   walk_at "z"
   refine hg ?_
   walk_at "z"
   refine ZQ hs ?_
   walk_at "z"
   refine ZQ hri ?_
   rw[Zch hr]
   walk_at "z"
   exact ZQ hf rfl
theorem ss_: PyData.strOk (Str.ofString "same")=true:=by decide +kernel
theorem se_: PyData.strOk (Str.ofString "even")=true:=by decide +kernel
theorem Zp5{a b:Str}(h:a≠b): ¬(T.str a=T.str b):=fun q=>h (T.str.inj q)
noncomputable def evT(n:Nat)(c:Nat→Int)(d:Int): T:=.tup [.str (Str.ofString "even"),Zad n c,.int d]
theorem ZvT: ¬(T.str (Str.ofString "even")=T.str (Str.ofString "under")):=Zp5 (by decide +kernel)
theorem ZvU: ¬(T.str (Str.ofString "even")=T.str (Str.ofString "same")):=Zp5 (by decide +kernel)
theorem ZpH{D:T}{b:Bool}(h:(if b then Zeg [Z2 n G R,Zad n c,.int d]else Zd9 [Z2 n G R,Zad n c,.int d])=some D): ZdI [Z2 n G R,evT n c d,.bool b]=some D:=by
 apply Pk.eq
 unfold ZdI Zii
 have ht:Z2 n G R=.tup [Zab (n+1) G,.lst (tab n fun i=>ZW (R i))]:=rfl
 have hne:∀{Q:T→Prop},Q (.bool false)→Pk (qIs (Z2 n G R) .none) Q:=fun h=>⟨_,by rw[ht];rfl,h⟩
 unfold evT
 walk_at "z"
 refine hne ?_
 walk_at "z"
 refine Zfn (n:=1) (m:=1) (.str se_) (.str su) ?_
 rw[Zch ZvT]
 walk_at "z"
 refine Zfn (n:=1) (m:=1) (.str se_) (.str ss_) ?_
 rw[Zch ZvU]
 cases b with
 | true=>
  rw[if_pos rfl]at h
  walk_at "z"
  exact ZQ h rfl
 | false=>
  rw[if_neg (by decide)]at h
  walk_at "z"
  exact ZQ h rfl
section
variable {n:Nat} {G:Nat→Nat→Option Int} {R:Nat→Int×Int} {c:Nat→Int} (hn:n≤4) (hd:∀i,i<n+1→G i i=some 0) (ok:∀t,t<n→RestOk (R t)) (sG:SmG 137 n G) (sR:SmR 137 n R) (bc:∀i,i<n+1→Bd 300 (c i))
include hn hd ok sG sR bc
end
theorem ZqT{a b c:T}: ZdV [.none,a,b,c]=some .none:=by
 apply Pk.eq
 unfold ZdV ZcU ZfV
 walk_at "z"
 rfl
structure F46(n:Nat)(T0:T)(c:Nat→Int)(d:Int)(D:Bool→T): Prop where
 w:∀b,ZdI [T0,evT n c d,.bool b]=some (D b)
 e:∀b,DueOk n (D b)
 p:Pln 3 T0
 k:ZcV [T0]=some T0
 l:∀b,ZdV [T0,Zad n c,.int d,.bool b]=some (D b)
theorem ZtE(hn:n≤4)(bc:∀i,i<n+1→Bd 300 (c i))(hd0:0<d)(bd:Bd 140 d)(hT:T0=.none∨∃(G:Nat→Nat→Option Int) (R:Nat→Int×Int),T0=Z2 n G R∧(∀i,i<n+1→G i i=some 0)∧(∀t,t<n→RestOk (R t))∧SmG 137 n G∧SmR 137 n R): ∃D,F46 n T0 c d D:=by
 rcases hT with rfl | ⟨G,R,rfl,hd,ok,sG,sR⟩
 ·exact⟨fun _=>.none,fun _=>ZsO,fun _=>.inl rfl,.none,ZsA,fun _=>ZqT⟩
 ·obtain⟨D1,a1,b1,t1⟩:=ZpG hn hd ok sG sR (fun i hi=>(bc i hi).mono (by decide)) hd0 bd
  obtain⟨D2,a2,b2,t2⟩:=ZrA hn hd ok sG sR bc hd0 bd
  refine⟨fun b=>if b then D1 else D2,fun b=>?_,fun b=>?_,ZlP,Zut (by omega),fun b=>?_⟩
  ·cases b
   ·exact ZpH a2
   ·exact ZpH a1
  ·cases b
   ·exact b2
   ·exact b1
  ·cases b
   ·exact t2
   ·exact t1 2
theorem ZuV{D:Bool→T}{b:Bool}(hn:n≤20)(e3:σ 3=some T0)(e4:σ 4=some (Zad n c))(e5:σ 5=some (.int d))(e6:σ 6=some (evT n c d))(e8:σ 8=some T0)(e9:σ 9=some (.bool b))(F:F46 n T0 c d D)(hN:∀σ',σ' 3=some T0→σ' 4=some (Zad n c)→σ' 5=some (.int d)→σ' 6=some (evT n c d)→σ' 8=some T0→N σ'): Psk ((Zs (ZM 10 (Zq ZdI (Zd (Za 3) (Zd (Za 6) (Zd (Za 9) Zm))))) (Zs (ZU (bOr (ZF (Zh qNe (Zh Zw (Za 6) (Zj 1)) (Za 4))) (bOr (Zb3 (ZF (Zq Zdx (Zd (Za 10) (Zd (Zq ZdV (Zd (Zq ZcV (Zd (Za 8) Zm)) (Zd (Za 4) (Zd (Za 5) (Zd (Za 9) Zm))))) Zm))))) ZbY)) (ZE (Zbc false)) ZX) (Zs (ZU (ZF (Zh Zbr (Za 10) (Z0))) (Zs (ZaY 10 [] (Zj 7) (Zbs (Zbs Zas (Zj 0)) (Zj 0)) (Zj 0)) (ZcI 10 [] (Zbs Zas (Zj 1)) (ZaF (Zd (Zj 7) (Zd (Zj 7) Zm))))) ZX) (ZU (ZF (Zh qNe (Za 3) (Za 8))) (ZE (Zbc false)) ZX)))) σ) (fun t=>t=.bool true) N:=by
 obtain⟨w,dd,p,k,l⟩:=F
 have hs:=(dd b).same (by omega)
 have ps:Pln 1 (Zad n c):=ZuT
 have h51:∀{Q:T→Prop},Q (Zad n c)→Pk (Zw (evT n c d) (.int 1)) Q:=fun h=>⟨_,rfl,h⟩
 walk_at "z"
 refine ZQ (w b) ?_
 walk_at "z"
 refine h51 ?_
 walk_at "z"
 refine ZmA ps ps ?_
 rw[Zbv rfl]
 walk_at "z"
 refine ZQ k ?_
 walk_at "z"
 refine ZQ (l b) ?_
 walk_at "z"
 refine ZQ hs ?_
 walk_at "z"
 rcases dd b with z | ⟨G2,R2,z,_⟩
 ·rw[z]
  walk_at "z"
  refine ZmA p p ?_
  rw[Zbv rfl]
  walk_at "z"
  exact hN _ (by walk_at "r") (by walk_at "r") (by walk_at "r") (by walk_at "r") (by walk_at "r")
 ·rw[z]
  have hn2:∀{Q:T→Prop},Q (.bool true)→Pk (Zbr (Z2 n G2 R2) .none) Q:=fun h=>⟨_,rfl,h⟩
  refine hn2 ?_
  walk_at "z"
  refine ZuF (n:=n) (G:=G2) (R:=R2) (by walk_at "r") fun g=>?_
  refine ZuG (n:=n) (g:=g) (R:=R2) (w:=.tup [.int 7,.int 7]) (by omega) rfl (by walk_at "r") fun u=>?_
  walk_at "z"
  refine ZmA p p ?_
  rw[Zbv rfl]
  walk_at "z"
  exact hN _ (by walk_at "r") (by walk_at "r") (by walk_at "r") (by walk_at "r") (by walk_at "r")
theorem ZuW{D:Bool→T}(hn:n≤20)(e3:σ 3=some T0)(e4:σ 4=some (Zad n c))(e5:σ 5=some (.int d))(e6:σ 6=some (evT n c d))(F:F46 n T0 c d D): Psk ((Zs (ZM 8 (Zq ZcV (Zd (Za 3) Zm))) (Zs (ZaN (ZbF (ZbS (Zd (Zbc true) (Zd (Zbc false) Zm)))) (Zag 9) (Zs (ZM 10 (Zq ZdI (Zd (Za 3) (Zd (Za 6) (Zd (Za 9) Zm))))) (Zs (ZU (bOr (ZF (Zh qNe (Zh Zw (Za 6) (Zj 1)) (Za 4))) (bOr (Zb3 (ZF (Zq Zdx (Zd (Za 10) (Zd (Zq ZdV (Zd (Zq ZcV (Zd (Za 8) Zm)) (Zd (Za 4) (Zd (Za 5) (Zd (Za 9) Zm))))) Zm))))) ZbY)) (ZE (Zbc false)) ZX) (Zs (ZU (ZF (Zh Zbr (Za 10) (Z0))) (Zs (ZaY 10 [] (Zj 7) (Zbs (Zbs Zas (Zj 0)) (Zj 0)) (Zj 0)) (ZcI 10 [] (Zbs Zas (Zj 1)) (ZaF (Zd (Zj 7) (Zd (Zj 7) Zm))))) ZX) (ZU (ZF (Zh qNe (Za 3) (Za 8))) (ZE (Zbc false)) ZX))))) (ZE (Zbc true)))) σ) (fun t=>t=.bool true) N:=by
 have cp:=F.k
 walk_at "z"
 refine ZQ cp ?_
 refine Zfm ?_
 refine Zud (ts:=[.bool true,.bool false]) (P:=fun _ σ'=>σ' 3=some T0∧σ' 4=some (Zad n c)∧σ' 5=some (.int d)∧σ' 6=some (evT n c d)∧σ' 8=some T0) ?_ ⟨by walk_at "r",by walk_at "r",by walk_at "r",by walk_at "r",by walk_at "r"⟩ ?_ ?_
 ·walk_at "z"
  rfl
 ·rintro i t σ' ei ⟨f3,f4,f5,f6,f8⟩
  have:∃b,t=.bool b:=by
   match i,ei with
   | 0,ei=>cases ei;exact⟨_,rfl⟩
   | 1,ei=>cases ei;exact⟨_,rfl⟩
  obtain⟨b,rfl⟩:=this
  exact ZuV (b:=b) hn (by walk_at "r") (by walk_at "r") (by walk_at "r") (by walk_at "r") (by walk_at "r") (by walk_at "r") F fun σ'' g3 g4 g5 g6 g8=>⟨g3,g4,g5,g6,g8⟩
 ·rintro σ' ⟨f3,f4,f5,f6,f8⟩
  walk_at "z"
  rfl
theorem ZrB(hL:Lay ns): ZlX [scr ns]=some (.bool true):=by
 apply Pk.eq
 unfold ZlX ZlW
 obtain⟨p0,p1⟩:=ZbV ns 0 (show(0:Int)<9 by decide)
 obtain⟨w,ew,hw⟩:=Zij p0 (show Zbd ns 0 9<(9:Nat)by omega)
 walk_at "z"
 refine ZQ (ZbR (by decide) (by decide) (by decide)) ?_
 rw[ew]
 obtain⟨n,hn,hidx⟩:∃n:Nat,n≤4∧[T.int 0,.int 1,.int 2,.int 1,.int 2,.int 1,.int 2,.int 1,.int 3][w]?=some (.int n):=by
  match w,hw with
  | 0,_=>exact⟨0,by decide,rfl⟩
  | 1,_=>exact⟨1,by decide,rfl⟩
  | 2,_=>exact⟨2,by decide,rfl⟩
  | 3,_=>exact⟨1,by decide,rfl⟩
  | 4,_=>exact⟨2,by decide,rfl⟩
  | 5,_=>exact⟨1,by decide,rfl⟩
  | 6,_=>exact⟨2,by decide,rfl⟩
  | 7,_=>exact⟨1,by decide,rfl⟩
  | 8,_=>exact⟨3,by decide,rfl⟩
 refine ZhZ (t:=.int n) (by omega) (by rw[Int.toNat_natCast];exact hidx) ?_
 walk_at "z"
 refine Zc0 (n:=n) (a:=fun i=>.int i) (b:=fun i=>.int (ZbT ns (2+i))) (by omega) ?_ (fun t ht=>?_) ?_
 ·walk_at "z"
  rfl
 ·walk_at "z"
  exact ZQ (Ze6 hL (by omega) (by omega)) rfl
 generalize hx:(fun i:Nat=>ZbT ns (2+i))=x
 have sx:∀i,i<n→(x i).natAbs<2 ^ 134:=fun i _=>by rw[←hx];exact Zgm ns _
 rw[show(fun i:Nat=>T.int (ZbT ns (2+i)))=fun i=>T.int (x i)by rw[←hx]]
 walk_at "z"
 refine ZQ (Zus (x:=x) hL (by decide) (by decide) (by omega)) ?_
 have gd:=Zsy ns 14 n x
 have smG:SmG 136 n (Zci ns 14 n x):=Ztv sx
 have smR:SmR 136 n (Zfs ns 14 n x):=fun t ht=>⟨Zbq (ZoY (ns:=ns) (k:=14) sx t ht).1 (by decide),Zbq (ZoY (ns:=ns) (k:=14) sx t ht).2 (by decide)⟩
 generalize Zci ns 14 n x=G at *
 generalize Zfs ns 14 n x=R at *
 walk_at "z"
 refine(Zwk (n:=n) (kk:=8) (by decide) (by decide) hL (by omega)).mono ?_
 rintro _ ⟨c0,rfl,hc⟩
 have bc:=hc.bd (by decide)
 have bx:∀i,i<n→Bd 140 (x i):=fun i hi=>Zbq (sx i hi) (by decide)
 have hv:=ZtD (n:=n) (b:=140) (c:=c0) (x:=x) (by omega) (by decide) bc bx
 have bv:=(Zp3 bc bx n (Zz10 n)).mono (show 140+140+n≤285 by omega)
 refine ZdA (fun σ'=>σ' 0=some (scr ns)∧σ' 3=some (Z2 n G R)∧∃c,σ' 4=some (Zad n c)∧∀i,i<n+1→Bd 300 (c i)) ?_ ?_
 ·walk_at "z"
  refine ZQ (ZbR (by decide) (by decide) (by decide)) ?_
  walk_at "z"
  refine⟨fun q=>?_,fun q=>?_⟩
  ·have hs:Zad n c0=.lst (tab (n+1) fun k=>.int (c0 k)):=rfl
   rw[hs]at hv ⊢
   walk_at "z"
   refine ZQ hv ?_
   walk_at "z"
   refine ZQ (ZbR (by decide) (by decide) (by decide)) ?_
   walk_at "z"
   obtain⟨z0,z1⟩:=ZbV ns 6 (show(0:Int)<5 by decide)
   generalize Zbd ns 6 5=pp at *
   refine ZhC (n:=n+1) (f:=fun k=>.int (c0 k)) (by walk_at "r") (by omega) (by omega) ?_
   rw[show Int.toNat 0=0 from rfl]
   refine⟨by walk_at "r",by walk_at "r",fun k=>if k=0 then c0 0-Zaz c0 x n+pp-2 else c0 k,?_,fun i hi=>?_⟩
   ·rw[show(Zad n fun k=>if k=0 then c0 0-Zaz c0 x n+pp-2 else c0 k)=.lst (tab (n+1) fun k=>if k=0 then T.int (c0 0-Zaz c0 x n+pp-2)else .int (c0 k))from congrArg T.lst (Zbg fun k _=>by by_cases z:k=0 <;> simp only[z,if_true,if_false])]
    walk_at "r"
   ·show Bd 300 (if i=0 then _ else _)
    split
    ·have h1:Bd 286 (pp-2):=(show Bd 3 (pp-2)by unfold Bd;omega).mono (by decide)
     have h2:=((bc 0 (by omega)).mono (show 140≤285 by decide)).sub bv
     rw[show c0 0-Zaz c0 x n+pp-2=c0 0-Zaz c0 x n+(pp-2)by omega]
     exact(h2.add h1).mono (by decide)
    ·exact(bc i hi).mono (by decide)
  ·walk_at "z"
   exact⟨by walk_at "r",by walk_at "r",c0,by walk_at "r",fun i hi=>(bc i hi).mono (by decide)⟩
 rintro σ1 ⟨e0,e3,c,e4,bc'⟩
 obtain⟨s0,s1⟩:=ZbV ns 5 (show(0:Int)<6 by decide)
 have bn:=Zgm ns 5
 refine Zfm ?_
 refine Zmx ?_
 walk_at "z"
 refine ZQ (ZbR (by decide) (by decide) (by decide)) ?_
 refine Zmz ?_
 refine ZdA (fun σ'=>σ' 0=some (scr ns)∧σ' 3=some (Z2 n G R)∧σ' 4=some (Zad n c)∧∃d:Int,σ' 5=some (.int d)∧0<d∧Bd 140 d) ?_ ?_
 ·walk_at "z"
  refine ZQ (ZbR (by decide) (by decide) (by decide)) ?_
  walk_at "z"
  refine⟨fun q=>?_,fun q=>?_⟩
  ·walk_at "z"
   refine ZQ (Ze6 hL (by omega) (by omega)) ?_
   walk_at "z"
   refine⟨by walk_at "r",by walk_at "r",by walk_at "r",_,ZcW,?_,?_⟩
   ·split <;> omega
   ·have b2:Bd 134 (ZbT ns 5):=bn
    have b3:Bd 140 (ZbT ns 5):=b2.mono (by decide)
    repeat' split
    all_goals (unfold Bd at *;omega)
  ·walk_at "z"
   exact⟨by walk_at "r",by walk_at "r",by walk_at "r",_,by walk_at "r",by omega,(show Bd 3 _ by unfold Bd;omega).mono (by decide)⟩
 clear e0 e3 e4
 rintro σ2 ⟨e0,e3,e4,d,e5,hd0,bd⟩
 refine Zfm ?_
 refine Zmx ?_
 have hl:Pk (ZaF (Zd (Zfv (Str.ofString "even")) (Zd (Zq Zce (Zd (Za 4) Zm)) (Zd (Za 5) Zm))) σ2) fun t=>t=evT n c d:=by
  unfold Zad at e4
  walk_at "z"
  rfl
 refine hl.mono ?_
 rintro _ rfl
 walk_at "z"
 refine ZQ (ZbR (by decide) (by decide) (by decide)) ?_
 generalize Zbd ns 1 55=wy at *
 refine ZdA (fun σ'=>σ' 0=some (scr ns)∧σ' 4=some (Zad n c)∧σ' 5=some (.int d)∧σ' 6=some (evT n c d)∧σ' 7=some (.int wy)∧∃(G:Nat→Nat→Option Int) (R:Nat→Int×Int),σ' 3=some (Z2 n G R)∧(∀i,i<n+1→G i i=some 0)∧(∀t,t<n→RestOk (R t))∧SmG 137 n G∧SmR 137 n R) ?_ ?_
 ·walk_at "z"
  refine⟨fun q=>?_,fun q=>?_⟩
  ·walk_at "z"
   refine(ZsN (B:=136) hL (by decide) (by decide) (by omega) (by decide) gd.2 smR smG).mono ?_
   rintro _ ⟨G2,R2,rfl,d2,r2,g2,s2⟩
   exact⟨by walk_at "r",by walk_at "r",by walk_at "r",by walk_at "r",by walk_at "r",G2,R2,ZcW,fun i hi=>by rw[d2 i hi];exact gd.1 i hi,r2,g2,s2⟩
  ·walk_at "z"
   exact⟨by walk_at "r",by walk_at "r",by walk_at "r",by walk_at "r",by walk_at "r",G,R,by walk_at "r",gd.1,gd.2,fun a b ha hb c e=>Zbq (smG a b ha hb c e) (by decide),fun t ht=>⟨Zbq (smR t ht).1 (by decide),Zbq (smR t ht).2 (by decide)⟩⟩
 clear smG smR gd e0 e3 e4 e5
 rintro σ2 ⟨e0,e4,e5,e6,e7,G1,R1,e3,hd1,ok1,sG1,sR1⟩
 refine ZdA (fun σ'=>σ' 4=some (Zad n c)∧σ' 5=some (.int d)∧σ' 6=some (evT n c d)∧∃T0,σ' 3=some T0∧(T0=.none∨∃(G:Nat→Nat→Option Int) (R:Nat→Int×Int),T0=Z2 n G R∧(∀i,i<n+1→G i i=some 0)∧(∀t,t<n→RestOk (R t))∧SmG 137 n G∧SmR 137 n R)) ?_ ?_
 ·walk_at "z"
  refine⟨fun q=>?_,fun q=>?_⟩
  ·walk_at "z"
   exact⟨by walk_at "r",by walk_at "r",by walk_at "r",.none,ZcW,.inl rfl⟩
  ·walk_at "z"
   exact⟨e4,e5,e6,_,e3,.inr ⟨G1,R1,rfl,hd1,ok1,sG1,sR1⟩⟩
 rintro σ3 ⟨f4,f5,f6,T0,f3,hT⟩
 obtain⟨D,F⟩:=ZtE hn bc' hd0 bd hT
 exact ZuW (by omega) f3 f4 f5 f6 F
theorem Zri(hlen:ns.length≤63)(hL:PyData.layable0 (.list (ns.map .int))=true): ∃H',ZoU [.ref 0] [ns.map V.int]=some (.bool true,H'):=Zsq Ztq ns (ZrB hL)
end L
end
section
open PySem PySem.W PyProof.Rows
namespace PySem.W.Fast
def tw13698048360955963301:=0
def tw8005766506721756608:=0
def tw10667965978278278033:=0
def tw3520363519792060846:=0
def tw12048056826642495367:=0
def tw10609323587221475018:=0
def tw13436231055378572716:=0
def tw5055051069096525434:=0
def tw12533650973541477374:=0
def tw14048895322960730393:=0
def tw620696989502265018:=0
def tw6822529714786804032:=0
def tw2496939508604703423:=0
def tw4139555301753455120:=0
def tw16550838102048051623:=0
def tw15622835117965313283:=0
def tw3414106826494052011:=0
def tw1944925098504758534:=0
def tw3094701115853657799:=0
def tw16279701975793424917:=0
def tw15213048550514571353:=0
def tw1165732905965986049:=0
def tw17334881123488906936:=0
def tw6459200953577825518:=0
def tw1147522009701800784:=0
def tw12565002596728077416:=0
def tw8646929664414959583:=0
def tw1880258362356491002:=0
def tw14439765378166140033:=0
def tw13432873828021710899:=0
def tw12059592832596718669:=0
def tw10188337973796604112:=0
def tw5488966160659634681:=0
def tw12221415409051222339:=0
def tw13101539525013915119:=0
def tw3241244739717862871:=0
def tw6951939212644042833:=0
def tw4218939439129018664:=0
def tw5759927347364260171:=0
def tw1313047135445303594:=0
def tw11973505968982382900:=0
def tw10042499479572932358:=0
def tw8956766114514773954:=0
def tw13305670439411429421:=0
def tw7254989234349611870:=0
def tw931956834028986255:=0
def tw1157979631877120646:=0
def tw15740581520725410121:=0
def tw16406923672382228973:=0
def tw1611551182742943237:=0
def tw5764117369366255280:=0
def tw14987661418082201831:=0
def tw2754692670688779762:=0
def tw1901531775752417231:=0
def tw5266450434754204200:=0
def tw10069975712529536831:=0
def tw2337977823195543630:=0
def tw17698735102306075112:=0
def tw4227517698962585424:=0
def tw1647960591809683682:=0
def tw4185518321428705831:=0
def tw13991396874942911051:=0
def tw8667492640987031791:=0
def tw6905212232875527693:=0
def tw12674656310777702994:=0
def tw3934833063311361131:=0
def tw11469360237664420825:=0
def tw7950223703418521501:=0
def tw5847202018973711932:=0
def tw15261137711255440680:=0
def tw3665838584753200986:=0
def tw18182889222666715495:=0
def tw7894344252036594922:=0
def tw17338234738716814015:=0
def tw9161490523856799436:=0
def tw6429450841261186155:=0
def tw3133745999044795564:=0
def tw1061639710858884176:=0
def tw16424235260713140149:=0
def tw670427922429333600:=0
def tw3302770140995672700:=0
def tw16884622931589843948:=0
def tw11586196018267737339:=0
def tw10728712052571211117:=0
def tw8249347019533418915:=0
def tw3321576952164483024:=0
def tw1173414789623836638:=0
def tw3903891618737965568:=0
def tw7834740603555865465:=0
def tw7945405709010385892:=0
def tw12694112234171929671:=0
def tw5674458297940323589:=0
def tw16970792351503237766:=0
def tw1620389302784492585:=0
def tw3478894487363246031:=0
def tw10678327339628911315:=0
def tw1096354831752916523:=0
def tw9835382159548102362:=0
def tw1833547357909804662:=0
def tw12328853128172473661:=0
end PySem.W.Fast
set_option maxRecDepth 100000 in
set_option maxHeartbeats 8000000 in
open_top head for PySem.Challenge.rw_seer_k46_even_claims
end
section
open PySem PySem.W PySem.Calls PyProof.Rows PM
seal PM.J PM.Js PM.JT PM.JA PM.JF PM.JI PM.JI2 PM.JP PM.S1 PM.Ss PM.Sto PM.Rd PM.Nm PM.OpN PM.Op2 PM.Def
namespace L
noncomputable abbrev DD(w:World)(s₀:Shared)(mg mb:Str→Option Value)(f:Addr)(r:Nat)(F:List V→Hp→Option (V×Hp)): Prop:=Def PySem.Challenge.rw_seer_k46_even_claims.row.prog w (head.heap_39 w.params) head.view_39 (looseW head.view_39 []) (ExcName.means s₀.heap) mg mb f r F
section
variable {w:World} {s₀:Shared} {mg mb:Str→Option Value}
theorem ZnY: DD w s₀ mg mb 414 1 Zg7:=by
 unfold DD;k_fill
 refine Dof (names:=["_law_script","_law_k","_law_number_here"]) (g:=ZjV) ?_
 exact fun _ _ _ _ _ _ _ c _ _=>(Zv (ZO sL (ZJ (ZJ (ZJ vL vL Za2) jI Za2) jI Zai)) (Zv (Z1 (ZR (Zaq (nB c) (jc vL Zp) Za1) jI Zey) (Zy (ZO sL (ZJ vL (Zz vL (ZJ vL (Zaq (nB c) (jc vL Zp) Za1) ZaV)) Zai))) Z4) (Zy (ZH vL))))
theorem law_pick_d: DD w s₀ mg mb 421 2 Zby:=by
 unfold DD;k_fill
 refine Dof (names:=["_law_script","_law_k","_law_many"]) (g:=Zky) ?_
 exact fun _ _ _ _ _ _ _ c _ _=>(Zy (ZH (ZJ (ZJ (ZJ (cF c ZnY (jc vL (jc vL Zp))) jI Za2) jI ZaV) vL ZaV)))
theorem ZeQ: DD w s₀ mg mb 428 2 ZdR:=by
 unfold DD;k_fill
 refine Dof (names:=["_law_script","_law_k","_law_number_here","_law_reach"]) (g:=Zjy) ?_
 exact fun _ _ _ _ _ _ _ c _ _=>(Zv (ZO sL (cF c ZnY (jc vL (jc vL Zp)))) (Zv (ZO sL (Zz (J.list (jc jI (jc jI (jc (ZJ jI jI Zmp) (jc (ZJ jI jI Zmp) Zp))))) (ZJ (ZJ (ZJ vL jI Za2) jI ZaV) jI ZaV))) (Zy (ZH (ZJ (ZJ (ZJ vL (ZJ jI jI Zmp) Za2) (ZJ (ZJ jI vL Za2) jI Zai) ZaV) vL Zbi)))))
theorem ZrC: DD w s₀ mg mb 435 3 ZjY:=by
 unfold DD;k_fill
 refine Dof (names:=["_law_script","_law_k","_law_way"]) (g:=ZjX) ?_
 exact fun _ _ _ _ _ _ _ c _ _=>(Zv (ZO sL (cF c law_pick_d (jc vL (jc vL (jc jI Zp))))) (Zv (Z1 (ZR (ZJ vL jI ZaV) jI Zcr) (Zy (ZH jN)) Z4) (Zv (Z1 (ZR (ZJ vL jI ZaV) jI Zcr) (Zy (ZH jI)) Z4) (Zv (Z1 (ZR (ZJ vL jI ZaV) jI Zau) (Zy (ZH (ZJ vL jI Zdj))) Z4) (Zy (ZH (Zaq (nB c) (jc (cF c ZeQ (jc vL (jc vL Zp))) Zp) ZdE)))))))
theorem Zed: DD w s₀ mg mb 442 1 Zdr:=by
 unfold DD;k_fill
 refine Dof (names:=["_law_m","_law_r"]) (g:=Zjc) ?_
 exact fun _ _ _ _ _ _ _ c _ _=>(Zv (Z1 (ZR vL jI Zau) (Zy (ZH (J.tup (jc jI (jc vL Zp))))) Z4) (Zy (ZH (J.tup (jc vL (jc (ZJ vL vL ZaV) Zp))))))
theorem Zsa: DD w s₀ mg mb 449 3 ZkB:=by
 unfold DD;k_fill
 refine Dof (names:=["_law_script","_law_k","_law_number_here","_law_way"]) (g:=ZkA) ?_
 exact fun _ _ _ _ _ _ _ c _ _=>(Zv (ZO sL (cF c law_pick_d (jc vL (jc vL (jc jI Zp))))) (Zv (Z1 (ZR (ZJ vL jI ZaV) jI Zcr) (Zy (ZH (J.tup (jc jI (jc jI Zp))))) Z4) (Zv (Z1 (ZR (ZJ vL jI ZaV) jI Zau) (Zy (ZH (J.tup (jc jI (jc vL Zp))))) Z4) (Zv (Z1 (ZR (ZJ vL jI ZaV) jI Zau) (Zy (ZH (cF c Zed (jc (ZJ (ZJ vL jI Zdj) jI Zai) (jc vL Zp))))) Z4) (Zy (ZH (cF c Zed (jc (Zaq (nB c) (jc (cF c ZeQ (jc vL (jc vL Zp))) Zp) ZdE) (jc vL Zp)))))))))
theorem Zsb: DD w s₀ mg mb 454 4 ZkE:=by
 unfold DD;k_fill
 refine Dof (names:=["_law_script","_law_k","_law_boxes","_law_full","_law_size","_law_bounds","_law_i","_law_row","_law_j","_law_top"]) (g:=ZkD) ?_
 exact fun _ _ _ _ _ _ _ c _ _=>(Zv (ZO sL (ZJ (J.list (jc jI Zp)) vC Zai)) (Zv (ZO sC (Zaq (nB c) (jc vL Zp) Za1)) (Zv (ZO sL (J.list Zp)) (Zv (Zbz sL (JI.range (nB c) (jc vC Zp)) (Zv (ZO sL (J.list Zp)) (Zv (Zbz sL (JI.range (nB c) (jc vC Zp)) (Zv (ZO sL (cF c ZrC (jc vC (jc (ZJ (ZJ vC (ZJ vL vC Za2) Zai) vL Zai) Zp)))) (Zv (Z1 (ZR vL jN Zcb) (Zy (ZO sL (ZJ (ZJ (Zz vL vL) (Zz vL vL) Zbi) vL Zai))) Z4) (Zy (ZdF (J.append vL vL)))))) (Zv (S1.put jI vL vL) (Zy (ZdF (J.append vL vL))))))) (Zy (ZH (J.tup (jc vL (jc (by refine cO ?_ ?_ ?_;(exact(JI.range (nB c) (jc (ZJ vC jI Zbi) Zp)));(exact fun _ _=>(cF (Zcc c) Zsa (jc vD (jc (ZJ (ZJ vD (ZJ vD vD Za2) Zai) vO Zai) (jc (Zz vD vO) Zp)))));(exact fun _ _=>JF.nil)) Zp)))))))))
theorem ZsR: DD w s₀ mg mb 537 3 Zlw:=by
 unfold DD;k_fill
 refine Dof (names:=["_law_script","_law_k","_law_many","_law_one","_law_way","_law_at","_law_to","_law_i"]) (g:=Zlv) ?_
 exact fun _ _ _ _ _ _ _ c _ _=>(Zv (ZO sL (ZJ (J.list (jc (cF c ZeQ (jc vL (jc vL Zp))) Zp)) (ZJ (J.list (jc jI Zp)) vL Za2) Zai)) (Zv (ZO sL (cF c law_pick_d (jc vL (jc vL (jc jI Zp))))) (Zv (Z1 (Za7 (Za0 (ZR vL jI Zau) (Za0 (ZR vL jI Zau) Zcu))) (Zy (ZH vL)) Z4) (Zv (ZO sL (ZJ jI (cF c law_pick_d (jc vL (jc (ZJ vL jI Zai) (jc vL Zp)))) Zai)) (Zv (Z1 (ZR vL jI Zau) (Zy (S1.put (ZJ (cF c law_pick_d (jc vL (jc (ZJ vL jI Zai) (jc jI Zp)))) jI Zbi) vL vL)) Z4) (Zv (Z1 (Za7 (Za0 (ZR vL jI Zau) (Za0 (ZR vL jI Zau) Zcu))) (Zv (ZO sL (ZJ jI (cF c law_pick_d (jc vL (jc (ZJ vL jI Zai) (jc vL Zp)))) Zai)) (Zv (S1.put jI vL vL) (Zy (S1.put (ZJ (Zz vL vL) jI Zbi) vL vL)))) Z4) (Zv (Z1 (ZR vL jI Zau) (Zy (Zbz sL (JI.range (nB c) (jc vL Zp)) (Zy (S1.put (ZJ (cF c law_pick_d (jc vL (jc (ZJ (ZJ vL jI Zai) vL Zai) (jc jI Zp)))) jI Zbi) vL (ZJ vL jI Zai))))) Z4) (Zv (Z1 (ZR vL jI Zau) (Zy (Zbz sL (JI.range (nB c) (jc vL Zp)) (Zy (S1.put (ZJ (cF c law_pick_d (jc vL (jc (ZJ (ZJ vL jI Zai) vL Zai) (jc jI Zp)))) jI Zbi) vL (ZJ vL jI Zai))))) Z4) (Zy (ZH vL))))))))))
theorem Zol: DD w s₀ mg mb 459 1 Zhm:=by
 unfold DD;k_fill
 refine Dof (names:=["_law_told_here"]) (g:=ZkG) ?_
 exact fun _ _ _ _ _ _ _ c _ _=>(Zv (Z1 (ZR vL jN Zbj) (Zy (ZH jN)) Z4) (Zy (ZH (J.tup (jc (by refine cO ?_ ?_ ?_;(exact(JI.seq (Zz vL jI)));(exact fun _ _=>(ZcZ (nB (Zcc c)) (jc vO Zp) Zdd));(exact fun _ _=>JF.nil)) (jc (ZcZ (nB c) (jc (Zz vL jI) Zp) Zdd) Zp))))))
theorem Zrj: DD w s₀ mg mb 464 3 ZjB:=by
 unfold DD;k_fill
 refine Dof (names:=["_law_script","_law_k","_law_told_here","_law_bounds","_law_rests","_law_i","_law_j","_law_way","_law_t","_law_one"]) (g:=ZjA) ?_
 exact fun _ _ _ _ _ _ _ c _ _=>(Zv (by refine sO sL ?_ ?_ ?_;(exact(JI.seq (Zz vL jI)));(exact fun _ _=>(ZcZ (nB (Zcc c)) (jc vO Zp) Zdd));(exact fun _ _=>JF.nil)) (Zv (ZO sL (ZcZ (nB c) (jc (Zz vL jI) Zp) Zdd)) (Zv (ZO sL (cF c law_pick_d (jc vL (jc vL (jc (Zaq (nB c) (jc vL Zp) Za1) Zp))))) (Zv (ZO sL (cF c law_pick_d (jc vL (jc (ZJ vL jI Zai) (jc (Zaq (nB c) (jc vL Zp) Za1) Zp))))) (Zv (ZO sL (cF c law_pick_d (jc vL (jc (ZJ vL jI Zai) (jc jI Zp))))) (Zv (Z1 (Za7 (ZaS (ZR vL jI Zcr) (ZaS (ZR vL vL Zbu) (ZaS (ZR (Zz (Zz vL vL) vL) jN Zbj) Zct)))) (Zy (S1.put (cF c ZeQ (jc vL (jc (ZJ vL jI Zai) Zp))) (Zz vL vL) vL)) (Zy (Z1 (Za7 (ZaS (ZR vL jI Zcr) (ZaS (ZR vL vL Zbu) Zct))) (Zy (S1.put (ZJ (ZJ (Zz (Zz vL vL) vL) jI Zbi) (cF c law_pick_d (jc vL (jc (ZJ vL jI Zai) (jc jI Zp)))) Zbi) (Zz vL vL) vL)) (Zy (Z1 (ZR (Zaq (nB c) (jc vL Zp) Za1) jI Zey) (Zv (ZO sL (cF c law_pick_d (jc vL (jc vL (jc (Zaq (nB c) (jc vL Zp) Za1) Zp))))) (Zv (ZO sL (Zz vL vL)) (Zy (S1.put (cF c Zed (jc (ZJ (Zz vL jI) (ZJ jI (ZJ vL jI ZaV) Zai) Za2) (jc (ZJ (Zz vL jI) (cF c law_pick_d (jc vL (jc (ZJ vL jI Zai) (jc jI Zp)))) Zai) Zp))) vL vL)))) Z4))))) (Zy (ZH (J.tup (jc vL (jc vL Zp)))))))))))
theorem Zo8: ∀n:Nat,Def PySem.Challenge.rw_seer_k46_even_claims.row.prog w (head.heap_39 w.params) head.view_39 (looseW head.view_39 []) (ExcName.means s₀.heap) mg mb 19 (n) (Zfb n)
 | 0=>ZoS
 | n+1=>by
  have ih:=Zo8 n
  k_fill
  refine' Zmu (names:=["thing"]) (n:=1) (room:=n) (g:=Zmh (Zfb n)) (ho:=?ho) (hcd:=?hcd) (nd:=by decide) (hn:=by decide) (hbind:=?hb) (hkinds:=?hk) (hone:=?h1) (hco:=?z1) (hgen:=?z2) (hk:=?z3) (hbody:=?hbody)
  case ho=>k_is
  case z1=>rfl
  case z2=>rfl
  case z3=>rfl
  case hcd=>k_is
  case hb=>intro s xs hx;match xs,hx with | [x0],_=>exact BindsTo.of_eq rfl
  case hk=>decide
  case h1=>decide +kernel
  case hbody=>
   intro dp un gd L outer h₀ hu clr hd1 hu1
   exact(Zv (Z1 (Zbb (Zdz (nB clr) (nB clr) (.inr (.inr (.inl rfl))) vL)) (Zy (ZH (by refine cO ?_ ?_ ?_;(exact(JI.seq vL));(exact fun _ _=>(cF (Zcc clr) ih (jc vO Zp)));(exact fun _ _=>JF.nil)))) Z4) (Zv (Z1 (Zbb (Zdz (nB clr) (nB clr) (.inr (.inr (.inr rfl))) vL)) (Zy (ZH (ZcZ (nB clr) (jc (by refine cO ?_ ?_ ?_;(exact(JI.seq vL));(exact fun _ _=>(cF (Zcc clr) ih (jc vO Zp)));(exact fun _ _=>JF.nil)) Zp) Zsn))) Z4) (Zy (ZH vL))))
theorem Zmo: Def PySem.Challenge.rw_seer_k46_even_claims.row.prog w (head.heap_39 w.params) head.view_39 (looseW head.view_39 []) (ExcName.means s₀.heap) mg mb 19 9 Zgl:=Zo8 9
theorem Zsc: DD w s₀ mg mb 209 1 ZkY:=by
 unfold DD;k_fill
 refine Dof (names:=["one","other"]) (g:=ZkX) ?_
 exact fun _ _ _ _ _ _ _ c _ _=>(Zy (ZH (by refine cT ?_ ?_;(exact(JI2.zip (nB c) vL vL));(exact fun _ _=>(ZJ vO vO Zai)))))
theorem Zeh: DD w s₀ mg mb 214 1 Zdu:=by
 unfold DD;k_fill
 refine Dof (names:=["one","k"]) (g:=Zki) ?_
 exact fun _ _ _ _ _ _ _ c _ _=>(Zy (ZH (by refine cO ?_ ?_ ?_;(exact(JI.seq vL));(exact fun _ _=>(ZJ vO vD Za2));(exact fun _ _=>JF.nil))))
theorem Zlb: DD w s₀ mg mb 221 2 ZfU:=by
 unfold DD;k_fill
 refine Dof (names:=["one","other"]) (g:=Zk0) ?_
 exact fun _ _ _ _ _ _ _ c _ _=>(Zy (ZH (cF c Zsc (jc vL (jc (cF c Zeh (jc vL (jc (Zb2 jI ZbW) Zp))) Zp)))))
theorem ZnZ: DD w s₀ mg mb 93 1 Zg9:=by
 unfold DD;k_fill
 refine Dof (names:=["one","other"]) (g:=Zj0) ?_
 exact fun _ _ _ _ _ _ _ c _ _=>(Zy (ZH (Zwn (Zcw vL jN Zbj) (Zgw (Zcw vL jN Zcb) (Zcw vL vL ZmP)))))
theorem Zo9: DD w s₀ mg mb 100 2 ZhN:=by
 unfold DD;k_fill
 refine Dof (names:=["one","other"]) (g:=ZlQ) ?_
 exact fun _ _ _ _ _ _ _ c _ _=>(Zy (ZH (Zex (Zbb (cF c ZnZ (jc vL (jc vL Zp)))) vL vL)))
theorem Zlc: DD w s₀ mg mb 107 3 ZfS:=by
 unfold DD;k_fill
 refine Dof (names:=["bounds","i","j","bound"]) (g:=Zhs) ?_
 exact fun _ _ _ _ _ _ _ c _ _=>(Zy (S1.put (cF c Zo9 (jc (Zz (Zz vL vL) vL) (jc vL Zp))) (Zz vL vL) vL))
theorem ZhK: DD w s₀ mg mb 204 1 Ze4:=by
 unfold DD;k_fill
 refine Dof (names:=["i","n"]) (g:=Zly) ?_
 exact fun _ _ _ _ _ _ _ c _ _=>(Zy (ZH (by refine cO ?_ ?_ ?_;(exact(JI.range (nB c) (jc (ZJ vL jI Zai) Zp)));(exact fun _ _=>(Zex (Za7 (ZaS (ZR vD jI Zey) (ZaS (ZR vO vD Zau) Zct))) jI jI));(exact fun _ _=>JF.nil))))
theorem ZeZ: DD w s₀ mg mb 65 1 ZdU:=by
 unfold DD;k_fill
 refine Dof (names:=["one","other"]) (g:=ZkL) ?_
 exact fun _ _ _ _ _ _ _ c _ _=>(Zv (Z1 (Za7 (Za0 (ZR vL jN Zbj) (Za0 (ZR vL jN Zbj) Zcu))) (Zy (ZH jN)) Z4) (Zy (ZH (ZJ vL vL Zai))))
theorem Zqm: DD w s₀ mg mb 311 1 ZiO:=by
 unfold DD;k_fill
 refine Dof (names:=["one"]) (g:=ZiN) ?_
 exact fun _ _ _ _ _ _ _ c _ _=>(Zy (ZH (Zcw (Zaq (nB c) (jc (by refine cO ?_ ?_ ?_;(exact(JI.seq (Zgo vL jI)));(exact fun _ _=>vO);(exact fun _ _=>JF.one (ZR vO jI Zbu))) Zp) Zst) (J.list (jc (Zb2 jI ZbW) (jc jI Zp))) Zau)))
theorem ZqA: DD w s₀ mg mb 58 2 Zi0:=by
 unfold DD;k_fill
 refine Dof (names:=["one","other"]) (g:=ZiZ) ?_
 exact fun _ _ _ _ _ _ _ c _ _=>(Zy (ZH (J.tup (jc (cF c ZeZ (jc (Zz vL jI) (jc (Zz vL jI) Zp))) (jc (cF c ZeZ (jc (Zz vL jI) (jc (Zz vL jI) Zp))) Zp)))))
theorem Zhi: DD w s₀ mg mb 79 1 ZeT:=by
 unfold DD;k_fill
 refine Dof (names:=["end","k"]) (g:=Zkb) ?_
 exact fun _ _ _ _ _ _ _ c _ _=>(Zv (Z1 (ZR vL jN Zbj) (Zy (ZH jN)) Z4) (Zy (ZH (ZJ vL vL Za2))))
theorem Zqn: DD w s₀ mg mb 72 2 ZiJ:=by
 unfold DD;k_fill
 refine Dof (names:=["one","k","lo","hi"]) (g:=ZiI) ?_
 exact fun _ _ _ _ _ _ _ c _ _=>(Zv (Z1 (ZR vL jI Zau) (Zy (ZH (J.tup (jc jI (jc jI Zp))))) Z4) (Zv (ZO sL (cF c Zhi (jc (Zz vL jI) (jc vL Zp)))) (Zv (ZO sL (cF c Zhi (jc (Zz vL jI) (jc vL Zp)))) (Zv (Z1 (ZR vL jI Zcr) (Zy (ZH (J.tup (jc vL (jc vL Zp))))) Z4) (Zy (ZH (J.tup (jc vL (jc vL Zp)))))))))
theorem ZqU: DD w s₀ mg mb 228 3 Zji:=by
 unfold DD;k_fill
 refine Dof (names:=["one","stretches","whole","k","part"]) (g:=Zjh) ?_
 exact fun _ _ _ _ _ _ _ c _ _=>(Zv (ZO sL (J.tup (jc (Zz vL jI) (jc (Zz vL jI) Zp)))) (Zv (ZhR sL sL (JI2.zip (nB c) (Zgo vL jI) vL) (Zy (ZO sL (cF c ZqA (jc vL (jc (cF c Zqn (jc vL (jc vL Zp))) Zp)))))) (Zy (ZH vL))))
theorem ZqB: DD w s₀ mg mb 299 2 Zi4:=by
 unfold DD;k_fill
 refine Dof (names:=["told","bounds"]) (g:=Zi3) ?_
 exact fun _ _ _ _ _ _ _ c _ _=>(Zv (ZO sC (Zz vL jI)) (Zy (ZH (by refine cO ?_ ?_ ?_;(exact(JI.range (nB c) (jc jI (jc (Zaq (nB c) (jc vC Zp) Za1) Zp))));(exact fun _ _=>(J.tup (jc (cF (Zcc c) Zhi (jc (Zz (Zz vD jI) vO) (jc (Zb2 jI ZbW) Zp))) (jc (Zz (Zz vD vO) jI) Zp))));(exact fun _ _=>JF.nil)))))
theorem Zld: DD w s₀ mg mb 306 4 ZfT:=by
 unfold DD;k_fill
 refine Dof (names:=["told","one"]) (g:=ZkV) ?_
 exact fun _ _ _ _ _ _ _ c _ _=>(Zv (Z1 (Zbb (cF c Zqm (jc vL Zp))) (Zy (ZH (cF c ZeZ (jc (Zz (Zz (Zz vL jI) (J.index vL jI jI)) (J.index vL (Zb2 jI ZbW) jI)) (jc (Zz vL jI) Zp))))) Z4) (Zy (ZH (Zz (cF c ZqU (jc vL (jc (cF c ZqB (jc vL Zp)) Zp))) jI))))
theorem ZnG: DD w s₀ mg mb 346 5 Zg3:=by
 unfold DD;k_fill
 refine Dof (names:=["told","part","one","top"]) (g:=ZjL) ?_
 exact fun _ _ _ _ _ _ _ c _ _=>(Zy (ZH (cF c ZeZ (jc (cF c Zld (jc vL (jc (cF c Zlb (jc vL (jc vL Zp))) Zp))) (jc vL Zp)))))
theorem ZqV: DD w s₀ mg mb 332 6 Zjs:=by
 unfold DD;k_fill
 refine Dof (names:=["bounds","told","one","top","n","i","j","apart"]) (g:=ZgY) ?_
 exact fun _ _ _ _ _ _ _ c _ _=>(Zv (ZO sL (Zaq (nB c) (jc (Zz vL jI) Zp) Za1)) (Zy (Zbz sL (JI.range (nB c) (jc (ZJ vL jI Zai) Zp)) (Zy (Zbz sL (JI.range (nB c) (jc (ZJ vL jI Zai) Zp)) (Zv (ZO sL (cF c Zlb (jc (cF c ZhK (jc vL (jc vL Zp))) (jc (cF c ZhK (jc vL (jc vL Zp))) Zp)))) (Zy (ZdF (cF c Zlc (jc vL (jc vL (jc vL (jc (cF c ZnG (jc vL (jc vL (jc vL (jc vL Zp))))) Zp)))))))))))))
theorem ZnH: DD w s₀ mg mb 86 1 Zg4:=by
 unfold DD;k_fill
 refine Dof (names:=["end","k"]) (g:=ZjN) ?_
 exact fun _ _ _ _ _ _ _ c _ _=>(Zv (Z1 (ZR vL jN Zbj) (Zy (ZH jN)) Z4) (Zy (ZH (ZJ vL vL Zdj))))
theorem ZqW: DD w s₀ mg mb 339 6 Zjt:=by
 unfold DD;k_fill
 refine Dof (names:=["bounds","told","one","top","n","i","k","bound"]) (g:=ZgZ) ?_
 exact fun _ _ _ _ _ _ _ c _ _=>(Zv (ZO sL (Zaq (nB c) (jc (Zz vL jI) Zp) Za1)) (Zy (Zbz sL (JI.range (nB c) (jc jI (jc (ZJ vL jI Zai) Zp))) (Zv (ZO sL (Zz vL vL)) (Zv (ZO sL (cF c ZnG (jc vL (jc (cF c Zeh (jc (cF c ZhK (jc vL (jc vL Zp))) (jc vL Zp))) (jc vL (jc vL Zp)))))) (Zv (Z1 (ZR vL jI Zey) (Zy (ZdF (cF c Zlc (jc vL (jc vL (jc jI (jc (cF c ZnH (jc vL (jc vL Zp))) Zp))))))) Z4) (Zy (Z1 (ZR vL jI Zcr) (Zy (ZdF (cF c Zlc (jc vL (jc jI (jc vL (jc (cF c ZnH (jc vL (jc (Zb2 vL ZbW) Zp))) Zp))))))) Z4))))))))
theorem Znw: DD w s₀ mg mb 268 1 ZeM:=by
 unfold DD;k_fill
 refine Dof (names:=["rests"]) (g:=Zjj) ?_
 exact fun _ _ _ _ _ _ _ c _ _=>(Zy (ZH (ZJ (J.list (jc (J.tup (jc jI (jc jI Zp))) Zp)) vL Zai)))
theorem ZlK: DD w s₀ mg mb 136 1 Zf3:=by
 unfold DD;k_fill
 refine Dof (names:=["one","other","left","right","over"]) (g:=Zlj) ?_
 exact fun _ _ _ _ _ _ _ c _ _=>(Zv (ZO sL (Zaq (nB c) (jc vL Zp) ZdE)) (Zv (ZO sL (Zaq (nB c) (jc vL Zp) ZdE)) (Zv (Zf9 1000000 (ZR vL jI Zbu) (Zv (ZO sL (ZJ vL vL ZaV)) (Zv (ZO sL vL) (Zy (ZO sL vL))))) (Zy (ZH vL)))))
theorem Zil: DD w s₀ mg mb 150 1 Zfo:=by
 unfold DD;k_fill
 refine Dof (names:=["m","r"]) (g:=ZmC) ?_
 exact fun _ _ _ _ _ _ _ c _ _=>(Zv (Z1 (ZR vL jI Zcr) (Zy (Zwd)) Z4) (Zv (Z1 (ZR vL jI Zau) (Zy (ZH (J.tup (jc jI (jc vL Zp))))) Z4) (Zy (ZH (J.tup (jc vL (jc (ZJ vL vL ZaV) Zp)))))))
theorem ZsS: DD w s₀ mg mb 143 1 Zln:=by
 unfold DD;k_fill
 refine Dof (names:=["one","by","left","right","left_turns","right_turns","part","over","over_turns"]) (g:=Zlm) ?_
 exact fun _ _ _ _ _ _ _ c _ _=>(Zv (ZO sL (ZJ vL vL ZaV)) (Zv (ZO sL vL) (Zv (ZO sL jI) (Zv (ZO sL jI) (Zv (Zf9 1000000 (ZR vL jI Zbu) (Zv (ZO sL (ZJ vL vL Zdj)) (Zv (ZO sL (ZJ vL (ZJ vL vL Za2) Zbi)) (Zv (ZO sL (ZJ vL (ZJ vL vL Za2) Zbi)) (Zv (ZO sL vL) (Zv (ZO sL vL) (Zv (ZO sL vL) (Zy (ZO sL vL))))))))) (Zy (ZH (ZJ vL vL ZaV))))))))
theorem ZfY: DD w s₀ mg mb 157 1 Zei:=by
 unfold DD;k_fill
 refine Dof (names:=["one","number"]) (g:=ZkH) ?_
 exact fun _ _ _ _ _ _ _ c _ _=>(Zv (Z1 (ZR (Zz vL jI) jI Zau) (Zy (ZH (Zcw vL (Zz vL jI) Zau))) Z4) (Zy (ZH (Zcw (ZJ vL (Zz vL jI) ZaV) (Zz vL jI) Zau))))
theorem Zom: DD w s₀ mg mb 171 2 Zho:=by
 unfold DD;k_fill
 refine Dof (names:=["one","other","common","apart","width","turns"]) (g:=ZkJ) ?_
 exact fun _ _ _ _ _ _ _ c _ _=>(Zv (Z1 (ZR (Zz vL jI) jI Zau) (Zy (ZH (Zex (Zbb (cF c ZfY (jc vL (jc (Zz vL jI) Zp)))) vL jN))) Z4) (Zv (Z1 (ZR (Zz vL jI) jI Zau) (Zy (ZH (Zex (Zbb (cF c ZfY (jc vL (jc (Zz vL jI) Zp)))) vL jN))) Z4) (Zv (ZO sL (cF c ZlK (jc (Zz vL jI) (jc (Zz vL jI) Zp)))) (Zv (ZO sL (ZJ (Zz vL jI) (Zz vL jI) Zbi)) (Zv (Z1 (ZR (ZJ vL vL ZaV) jI Zbu) (Zy (ZH jN)) Z4) (Zv (ZO sL (ZJ (Zz vL jI) vL Zdj)) (Zv (ZO sL (ZJ (ZJ vL vL Zdj) (cF c ZsS (jc (ZJ (Zz vL jI) vL Zdj) (jc vL Zp))) Za2)) (Zy (ZH (cF c Zil (jc (ZJ (Zz vL jI) vL Za2) (jc (ZJ (Zz vL jI) (ZJ (Zz vL jI) vL Za2) Zai) Zp))))))))))))
theorem Zku: DD w s₀ mg mb 178 2 ZfL:=by
 unfold DD;k_fill
 refine Dof (names:=["one","other"]) (g:=Zj2) ?_
 exact fun _ _ _ _ _ _ _ c _ _=>(Zy (ZH (cF c Zil (jc (cF c ZlK (jc (Zz vL jI) (jc (Zz vL jI) Zp))) (jc (ZJ (Zz vL jI) (Zz vL jI) Zai) Zp)))))
theorem ZqC: DD w s₀ mg mb 275 3 ZfD:=by
 unfold DD;k_fill
 refine Dof (names:=["bounds","rests","i","met","j","other"]) (g:=Zi1) ?_
 exact fun _ _ _ _ _ _ _ c _ _=>(Zv (ZO sL (Zz vL vL)) (Zv (ZhR sL sL (Ztg (nB c) vL) (Zy (Z1 (Za7 (ZaS (ZR vL jN Zcb) (ZaS (ZR (cF c ZeZ (jc (Zz (Zz vL vL) vL) (jc (Zz (Zz vL vL) vL) Zp))) jI Zau) Zct))) (Zy (ZO sL (cF c Zom (jc vL (jc (cF c Zku (jc vL (jc (J.tup (jc jI (jc (Zz (Zz vL vL) vL) Zp))) Zp))) Zp))))) Z4))) (Zy (ZH vL))))
theorem ZqX: DD w s₀ mg mb 261 4 ZdQ:=by
 unfold DD;k_fill
 refine Dof (names:=["told","rests","met"]) (g:=ZfE) ?_
 exact fun _ _ _ _ _ _ _ c _ _=>(Zv (Z1 (ZR vC jN Zbj) (Zy (ZH jN)) Z4) (Zv (ZO sC (cF c Znw (jc (Zz vC jI) Zp))) (Zv (by refine sO sL ?_ ?_ ?_;(exact(JI.range (nB c) (jc jI (jc (Zaq (nB c) (jc vC Zp) Za1) Zp))));(exact fun _ _=>(cF (Zcc c) ZqC (jc (Zz vD jI) (jc vD (jc vO Zp)))));(exact fun _ _=>JF.nil)) (Zv (Z1 (ZR jN vL ZgA) (Zy (ZH jN)) Z4) (Zy (ZH (J.tup (jc (Zz vC jI) (jc vL Zp)))))))))
theorem Zqo: DD w s₀ mg mb 124 3 ZiG:=by
 unfold DD;k_fill
 refine Dof (names:=["row","there","further"]) (g:=ZiF) ?_
 exact fun _ _ _ _ _ _ _ c _ _=>(Zy (ZH (by refine cT ?_ ?_;(exact(JI2.zip (nB c) vL vL));(exact fun _ _=>(cF (Zcc c) Zo9 (jc vO (jc (cF (Zcc c) ZeZ (jc vD (jc vO Zp))) Zp)))))))
theorem ZrD: DD w s₀ mg mb 119 4 Zj6:=by
 unfold DD;k_fill
 refine Dof (names:=["bounds","mid"]) (g:=Zj5) ?_
 exact fun _ _ _ _ _ _ _ c _ _=>(Zy (ZH (by refine cO ?_ ?_ ?_;(exact(JI.seq vC));(exact fun _ _=>(cF (Zcc c) Zqo (jc vO (jc (Zz vO vD) (jc (Zz vD vD) Zp)))));(exact fun _ _=>JF.nil))))
theorem ZqD: DD w s₀ mg mb 129 1 ZiX:=by
 unfold DD;k_fill
 refine Dof (names:=["bounds"]) (g:=ZiW) ?_
 exact fun _ _ _ _ _ _ _ c _ _=>(Zy (ZH (Zaq (nB c) (jc (by refine cO ?_ ?_ ?_;(exact(JI.range (nB c) (jc (Zaq (nB c) (jc vC Zp) Za1) Zp)));(exact fun _ _=>(Zcw (Zz (Zz vD vO) vO) jI Zcr));(exact fun _ _=>JF.nil)) Zp) Zu4)))
theorem ZtF: DD w s₀ mg mb 114 5 Zfa:=by
 unfold DD;k_fill
 refine Dof (names:=["bounds","near","mid"]) (g:=ZlS) ?_
 exact fun _ _ _ _ _ _ _ c _ _=>(Zv (ZO sL vL) (Zv (Zbz sL (JI.range (nB c) (jc (Zaq (nB c) (jc vL Zp) Za1) Zp)) (Zv (ZO sL (cF c ZrD (jc vL (jc vL Zp)))) (Zy (Z1 (Zbb (cF c ZqD (jc vL Zp))) (Zy (ZH jN)) Z4)))) (Zy (ZH vL))))
theorem ZvV: DD w s₀ mg mb 256 6 ZdZ:=by
 unfold DD;k_fill
 refine Dof (names:=["told","bounds"]) (g:=Zif) ?_
 exact fun _ _ _ _ _ _ _ c _ _=>(Zv (Z1 (ZR vL jN Zbj) (Zy (ZH jN)) Z4) (Zv (ZO sL (cF c ZtF (jc (Zz vL jI) Zp))) (Zv (Z1 (ZR vL jN Zbj) (Zy (ZH jN)) Z4) (Zy (ZH (J.tup (jc vL (jc (Zz vL jI) Zp))))))))
theorem Zp6: DD w s₀ mg mb 249 7 Zfp:=by
 unfold DD;k_fill
 refine Dof (names:=["told"]) (g:=ZmE) ?_
 exact fun _ _ _ _ _ _ _ c _ _=>(Zy (ZH (cF c ZqX (jc (cF c ZvV (jc vL Zp)) Zp))))
theorem Zrk: DD w s₀ mg mb 199 1 ZjH:=by
 unfold DD;k_fill
 refine Dof (names:=["one","top"]) (g:=ZjG) ?_
 exact fun _ _ _ _ _ _ _ c _ _=>(Zv (Z1 (ZR (Zz vL jI) jI Zau) (Zy (ZH (Zex (ZR (Zz vL jI) vL ZmP) (Zz vL jI) jN))) Z4) (Zy (ZH (ZJ vL (ZJ (ZJ vL (Zz vL jI) Zbi) (Zz vL jI) ZaV) Zbi))))
theorem Zqp: DD w s₀ mg mb 294 2 ZiL:=by
 unfold DD;k_fill
 refine Dof (names:=["bound","left"]) (g:=ZiK) ?_
 exact fun _ _ _ _ _ _ _ c _ _=>(Zv (Z1 (ZR vL jN Zcb) (Zy (ZH (cF c Zrk (jc vL (jc vL Zp))))) Z4) (Zv (Z1 (ZR (Zz vL jI) jI Zau) (Zy (ZH (Zz vL jI))) Z4) (Zy (ZH jN))))
theorem ZjU: DD w s₀ mg mb 185 2 ZfH:=by
 unfold DD;k_fill
 refine Dof (names:=["one","k"]) (g:=ZjD) ?_
 exact fun _ _ _ _ _ _ _ c _ _=>(Zy (ZH (cF c Zil (jc (ZJ (Zz vL jI) (Zaq (nB c) (jc vL Zp) ZdE) Za2) (jc (ZJ (Zz vL jI) vL Za2) Zp)))))
theorem ZqY: DD w s₀ mg mb 287 3 Zjn:=by
 unfold DD;k_fill
 refine Dof (names:=["row","left","rests","new","bound","other","low"]) (g:=Zjm) ?_
 exact fun _ _ _ _ _ _ _ c _ _=>(Zv (ZO sL (J.list Zp)) (Zv (ZhR sL sL (JI2.zip (nB c) vL vL) (Zv (ZO sL (cF c Zqp (jc vL (jc (cF c Zku (jc vL (jc (cF c ZjU (jc vL (jc (Zb2 jI ZbW) Zp))) Zp))) Zp)))) (Zv (Z1 (Za7 (ZaS (ZR vL jN Zbj) (ZaS (ZR vL jN Zcb) Zct))) (Zy (ZH jN)) Z4) (Zy (ZdF (J.append vL vL)))))) (Zy (ZH vL))))
theorem ZsT: DD w s₀ mg mb 280 4 Zls:=by
 unfold DD;k_fill
 refine Dof (names:=["told","rests","bounds"]) (g:=Zlr) ?_
 exact fun _ _ _ _ _ _ _ c _ _=>(Zv (Z1 (ZR vL jN Zbj) (Zy (ZH jN)) Z4) (Zv (ZO sC (cF c Znw (jc (Zz vL jI) Zp))) (Zv (by refine sT sL ?_ ?_;(exact(JI2.zip (nB c) (Zz vL jI) vC));(exact fun _ _=>(cF (Zcc c) ZqY (jc vO (jc vO (jc vD Zp)))))) (Zv (Z1 (ZR jN vL ZgA) (Zy (ZH jN)) Z4) (Zy (ZH (J.tup (jc vL (jc (Zz vL jI) Zp)))))))))
theorem ZpI: DD w s₀ mg mb 242 8 Zh0:=by
 unfold DD;k_fill
 refine Dof (names:=["told"]) (g:=Zmf) ?_
 exact fun _ _ _ _ _ _ _ c _ _=>(Zy (ZH (cF c Zp6 (jc (cF c ZsT (jc (cF c Zp6 (jc vL Zp)) Zp)) Zp))))
theorem ZsU: DD w s₀ mg mb 51 1 Zlq:=by
 unfold DD;k_fill
 refine Dof (names:=["lo","hi"]) (g:=Zlp) ?_
 exact fun _ _ _ _ _ _ _ c _ _=>(Zy (ZH (ZvG (Zcw vL jN Zcb) (Zgw (Zcw vL jN Zcb) (Zcw vL vL Zey)))))
theorem ZuX: DD w s₀ mg mb 318 5 Zmk:=by
 unfold DD;k_fill
 refine Dof (names:=["told","one"]) (g:=Zmj) ?_
 exact fun _ _ _ _ _ _ _ c _ _=>(Zy (ZH (cF c Zhi (jc (cF c Zld (jc vL (jc (cF c Zeh (jc vL (jc (Zb2 jI ZbW) Zp))) Zp))) (jc (Zb2 jI ZbW) Zp)))))
theorem Zf8: DD w s₀ mg mb 325 10 Zen:=by
 unfold DD;k_fill
 refine Dof (names:=["told","one","top","bounds"]) (g:=ZlA) ?_
 exact fun _ _ _ _ _ _ _ c _ _=>(Zv (Z1 (Za7 (Za0 (ZR vL jN Zbj) (Za0 (Zbb (cF c ZsU (jc (cF c ZuX (jc vL (jc vL Zp))) (jc vL Zp)))) Zcu))) (Zy (ZH jN)) Z4) (Zv (ZO sL (cF c Zmo (jc (Zz vL jI) Zp))) (Zv (ZdF (cF c ZqV (jc vL (jc vL (jc vL (jc vL Zp)))))) (Zv (ZdF (cF c ZqW (jc vL (jc vL (jc vL (jc vL Zp)))))) (Zy (ZH (cF c ZpI (jc (J.tup (jc vL (jc (Zz vL jI) Zp))) Zp))))))))
theorem Zrl: DD w s₀ mg mb 360 11 ZjQ:=by
 unfold DD;k_fill
 refine Dof (names:=["told","one","truth"]) (g:=ZjP) ?_
 exact fun _ _ _ _ _ _ _ c _ _=>(Zv (Z1 (Zbb vL) (Zy (ZH (cF c Zf8 (jc vL (jc vL (jc (Zb2 jI ZbW) Zp)))))) Z4) (Zy (ZH (cF c Zf8 (jc vL (jc (cF c Zeh (jc vL (jc (Zb2 jI ZbW) Zp))) (jc jI Zp)))))))
theorem Znd: DD w s₀ mg mb 192 2 ZgQ:=by
 unfold DD;k_fill
 refine Dof (names:=["one","k"]) (g:=ZiQ) ?_
 exact fun _ _ _ _ _ _ _ c _ _=>(Zy (ZH (cF c Zil (jc (cF c ZlK (jc (Zz vL jI) (jc vL Zp))) (jc (Zz vL jI) Zp)))))
theorem ZhA: DD w s₀ mg mb 235 3 ZeW:=by
 unfold DD;k_fill
 refine Dof (names:=["one","rests","whole","k","part"]) (g:=ZkQ) ?_
 exact fun _ _ _ _ _ _ _ c _ _=>(Zv (ZO sL (J.tup (jc jI (jc (Zz vL jI) Zp)))) (Zv (ZhR sL sL (JI2.zip (nB c) (Zgo vL jI) vL) (Zy (ZO sL (cF c Zku (jc vL (jc (cF c ZjU (jc vL (jc vL Zp))) Zp)))))) (Zy (ZH vL))))
theorem ZqZ: DD w s₀ mg mb 407 4 Zjv:=by
 unfold DD;k_fill
 refine Dof (names:=["rests","one","d","i","k","left","others"]) (g:=Zju) ?_
 exact fun _ _ _ _ _ _ _ c _ _=>(Zv (ZO sL (Zz vL vL)) (Zv (ZO sL (Zz vL (ZJ vL jI Zbi))) (Zv (Z1 (ZR (Zaq (nB c) (jc vL Zp) ZdE) jI Zbu) (Zy (ZH vL)) Z4) (Zv (ZO sL (cF c Zlb (jc vL (jc (cF c Zeh (jc (cF c ZhK (jc vL (jc (Zaq (nB c) (jc vL Zp) Za1) Zp))) (jc vL Zp))) Zp)))) (Zy (ZH (cF c Zom (jc vL (jc (cF c Znd (jc (cF c ZjU (jc (cF c ZhA (jc vL (jc vL Zp))) (jc (Zb2 vL ZbW) Zp))) (jc vL Zp))) Zp)))))))))
theorem Zn0: DD w s₀ mg mb 400 9 Zhe:=by
 unfold DD;k_fill
 refine Dof (names:=["told","one","d","rests"]) (g:=Zkn) ?_
 exact fun _ _ _ _ _ _ _ c _ _=>(Zv (Z1 (ZR vC jN Zbj) (Zy (ZH jN)) Z4) (Zv (by refine sO sL ?_ ?_ ?_;(exact(JI.range (nB c) (jc jI (jc (Zaq (nB c) (jc vC Zp) Za1) Zp))));(exact fun _ _=>(cF (Zcc c) ZqZ (jc (Zz vD jI) (jc vD (jc vD (jc vO Zp))))));(exact fun _ _=>JF.nil)) (Zv (Z1 (ZR jN vL ZgA) (Zy (ZH jN)) Z4) (Zy (ZH (cF c ZpI (jc (J.tup (jc (Zz vC jI) (jc vL Zp))) Zp)))))))
theorem Zn1: DD w s₀ mg mb 388 10 Zhf:=by
 unfold DD;k_fill
 refine Dof (names:=["told","one","d"]) (g:=Zkp) ?_
 exact fun _ _ _ _ _ _ _ c _ _=>(Zv (Z1 (ZcC (Zbb (cF c ZfY (jc (cF c Znd (jc (cF c ZhA (jc vL (jc (Zz vL jI) Zp))) (jc vL Zp))) (jc jI Zp))))) (Zy (ZH jN)) Z4) (Zy (ZH (cF c Zn0 (jc vL (jc vL (jc vL Zp)))))))
theorem Zq0: DD w s₀ mg mb 164 2 Zjf:=by
 unfold DD;k_fill
 refine Dof (names:=["one","other"]) (g:=Zje) ?_
 exact fun _ _ _ _ _ _ _ c _ _=>(Zv (Z1 (ZR (Zz vL jI) jI Zau) (Zy (ZH (Zcw vL vL Zau))) Z4) (Zy (ZH (Zgw (Zcw (ZJ (Zz vL jI) (Zz vL jI) ZaV) jI Zau) (cF c ZfY (jc vL (jc (Zz vL jI) Zp)))))))
theorem Zqq: DD w s₀ mg mb 395 11 ZiT:=by
 unfold DD;k_fill
 refine Dof (names:=["told","one","d"]) (g:=ZiS) ?_
 exact fun _ _ _ _ _ _ _ c _ _=>(Zv (Z1 (Zbb (cF c Zq0 (jc (cF c ZhA (jc vL (jc (Zz vL jI) Zp))) (jc (J.tup (jc vL (jc jI Zp))) Zp)))) (Zy (ZH jN)) Z4) (Zv (Z1 (ZR vL jI Zau) (Zy (ZH (cF c Zn1 (jc vL (jc (ZJ (J.list (jc (ZJ (Zz vL jI) jI Zai) Zp)) (Zgo vL jI) Zai) (jc jI Zp)))))) Z4) (Zy (ZH (cF c Zmo (jc vL Zp))))))
theorem ZrE: DD w s₀ mg mb 367 11 Zkr:=by
 unfold DD;k_fill
 refine Dof (names:=["told","one","held"]) (g:=Zkq) ?_
 exact fun _ _ _ _ _ _ _ c _ _=>(Zv (Z1 (ZcC (Zbb (cF c ZfY (jc (cF c ZhA (jc vL (jc (Zz vL jI) Zp))) (jc jI Zp))))) (Zy (ZH jN)) Z4) (Zv (ZO sL (cF c Zf8 (jc (cF c Zf8 (jc vL (jc vL (jc jI Zp)))) (jc (cF c Zeh (jc vL (jc (Zb2 jI ZbW) Zp))) (jc jI Zp))))) (Zy (ZH (cF c Zn0 (jc vL (jc vL (jc jI Zp))))))))
theorem Zon: DD w s₀ mg mb 381 11 Zhw:=by
 unfold DD;k_fill
 refine Dof (names:=["told","one"]) (g:=Zk3) ?_
 exact fun _ _ _ _ _ _ _ c _ _=>(Zv (Z1 (Za7 (ZaS (ZR vL jN Zcb) (ZaS (Zbb (cF c ZnZ (jc (cF c Zld (jc vL (jc vL Zp))) (jc jI Zp)))) Zct))) (Zy (ZH (cF c Zf8 (jc vL (jc vL (jc (Zb2 jI ZbW) Zp)))))) Z4) (Zy (ZH vL)))
theorem Zqr: DD w s₀ mg mb 374 12 ZiV:=by
 unfold DD;k_fill
 refine Dof (names:=["told","one"]) (g:=ZiU) ?_
 exact fun _ _ _ _ _ _ _ c _ _=>(Zy (ZH (cF c Zmo (jc (cF c Zon (jc (cF c Zon (jc vL (jc vL Zp))) (jc (cF c Zeh (jc vL (jc (Zb2 jI ZbW) Zp))) Zp))) Zp))))
theorem ZvW: DD w s₀ mg mb 353 13 ZmG:=by
 unfold DD;k_fill
 refine Dof (names:=["told","claim","truth"]) (g:=ZmF) ?_
 exact fun _ _ _ _ _ _ _ c _ _=>(Zv (Z1 (ZR vL jN Zbj) (Zy (ZH jN)) Z4) (Zv (Z1 (ZR (Zz vL jI) jS Zau) (Zy (ZH (cF c Zrl (jc vL (jc (Zz vL jI) (jc vL Zp)))))) Z4) (Zv (Z1 (ZR (Zz vL jI) jS Zau) (Zy (ZH (Zex (Zbb vL) (cF c ZrE (jc vL (jc (Zz vL jI) Zp))) (cF c Zqr (jc vL (jc (Zz vL jI) Zp)))))) Z4) (Zy (ZH (Zex (Zbb vL) (cF c Zn1 (jc vL (jc (Zz vL jI) (jc (Zz vL jI) Zp)))) (cF c Zqq (jc vL (jc (Zz vL jI) (jc (Zz vL jI) Zp))))))))))
theorem Zkv: DD w s₀ mg mb 471 1 ZfM:=by
 unfold DD;k_fill
 refine Dof (names:=["_law_thing"]) (g:=Zj8) ?_
 exact fun _ _ _ _ _ _ _ c _ _=>(Zy (ZH (Zgw (Zdz (nB c) (nB c) (.inl rfl) vL) (ZvX (Zdz (nB c) (nB c) (.inr (.inl rfl)) vL)))))
theorem Zsd: DD w s₀ mg mb 478 2 ZkO:=by
 unfold DD;k_fill
 refine Dof (names:=["_law_thing","_law_size","_law_i","_law_top"]) (g:=ZkN) ?_
 exact fun _ _ _ _ _ _ _ c _ _=>(Zv (Z1 (Za7 (Za0 (ZcC (Zbb (Zdz (nB c) (nB c) (.inr (.inr (.inl rfl))) vL))) (Za0 (ZR (Zaq (nB c) (jc vL Zp) Za1) vL Zbu) Zcu))) (Zy (ZH jB)) Z4) (Zv (Zbz sL (JI.range (nB c) (jc vL Zp)) (Zv (Z1 (Za7 (Za0 (ZcC (Zbb (Zdz (nB c) (nB c) (.inr (.inr (.inl rfl))) (Zz vL vL)))) (Za0 (ZR (Zaq (nB c) (jc (Zz vL vL) Zp) Za1) vL Zbu) Zcu))) (Zy (ZH jB)) Z4) (Zv (Zbz sL (JI.seq (Zz vL vL)) (Zy (Z1 (Za7 (ZaS (ZR vL jN Zcb) (ZaS (ZcC (Zbb (cF c Zkv (jc vL Zp)))) Zct))) (Zy (ZH jB)) Z4))) (Zy (Z1 (ZR (Zz (Zz vL vL) vL) jI Zbu) (Zy (ZH jB)) Z4))))) (Zy (ZH jB))))
theorem ZrF: DD w s₀ mg mb 485 3 Zkg:=by
 unfold DD;k_fill
 refine Dof (names:=["_law_thing","_law_many","_law_pair"]) (g:=Zkf) ?_
 exact fun _ _ _ _ _ _ _ c _ _=>(Zv (Z1 (Za7 (Za0 (ZcC (Zbb (Zdz (nB c) (nB c) (.inr (.inr (.inr rfl))) vL))) (Za0 (ZR (Zaq (nB c) (jc vL Zp) Za1) jI Zbu) (Za0 (ZcC (Zbb (cF c Zsd (jc (Zz vL jI) (jc (ZJ vL jI Zai) Zp))))) Zcu)))) (Zy (ZH jB)) Z4) (Zv (Z1 (Za7 (Za0 (ZcC (Zbb (Zdz (nB c) (nB c) (.inr (.inr (.inl rfl))) (Zz vL jI)))) (Za0 (ZR (Zaq (nB c) (jc (Zz vL jI) Zp) Za1) vL Zbu) Zcu))) (Zy (ZH jB)) Z4) (Zv (Zbz sL (JI.seq (Zz vL jI)) (Zv (Z1 (Za7 (Za0 (ZcC (Zbb (Zdz (nB c) (nB c) (.inr (.inr (.inr rfl))) vL))) (Za0 (ZR (Zaq (nB c) (jc vL Zp) Za1) jI Zbu) Zcu))) (Zy (ZH jB)) Z4) (Zv (Z1 (Za7 (Za0 (ZcC (Zbb (cF c Zkv (jc (Zz vL jI) Zp)))) (Za0 (ZcC (Zbb (cF c Zkv (jc (Zz vL jI) Zp)))) Zcu))) (Zy (ZH jB)) Z4) (Zy (Z1 (Za7 (Za0 (ZR (Zz vL jI) jI Zcr) (Za0 (Za7 (ZaS (ZR (Zz vL jI) jI Zey) (ZaS (ZcC (Ztj jI (Zz vL jI) (Zz vL jI) ZmP Zcr)) Zct))) Zcu))) (Zy (ZH jB)) Z4))))) (Zy (ZH jB)))))
theorem Zse: DD w s₀ mg mb 492 4 ZkT:=by
 unfold DD;k_fill
 refine Dof (names:=["_law_found","_law_due"]) (g:=ZkS) ?_
 exact fun _ _ _ _ _ _ _ c _ _=>(Zv (Z1 (ZR vL jN Zbj) (Zy (ZH (Zcw vL jN Zbj))) Z4) (Zy (ZH (Zgw (cF c ZrF (jc vL (jc (Zaq (nB c) (jc (Zz vL jI) Zp) Za1) Zp))) (Zcw vL vL Zau)))))
theorem ZrG: DD w s₀ mg mb 549 1 Zkl:=by
 unfold DD;k_fill
 refine Dof (names:=["_law_one","_law_boxes"]) (g:=Zkk) ?_
 exact fun _ _ _ _ _ _ _ c _ _=>(Zy (ZH (ZJ (Zz vC jI) (Zaq (nB c) (jc (by refine cO ?_ ?_ ?_;(exact(JI.range (nB c) (jc (Zaq (nB c) (jc vC Zp) Za1) Zp)));(exact fun _ _=>(ZJ (Zz vD (ZJ vO jI Zai)) (Zz vD vO) Za2));(exact fun _ _=>JF.nil)) Zp) ZuY) Zai)))
theorem ZhL: DD w s₀ mg mb 499 1 Ze1:=by
 unfold DD;k_fill
 refine Dof (names:=["_law_one","_law_other","_law_over"]) (g:=Zlh) ?_
 exact fun _ _ _ _ _ _ _ c _ _=>(Zv (ZO sL (Zaq (nB c) (jc vL Zp) ZdE)) (Zv (ZO sL (Zaq (nB c) (jc vL Zp) ZdE)) (Zv (Zf9 1000000 (ZR vL jI Zbu) (Zv (ZO sL (ZJ vL vL ZaV)) (Zv (ZO sL vL) (Zy (ZO sL vL))))) (Zy (ZH vL)))))
theorem Znn: DD w s₀ mg mb 544 2 ZgS:=by
 unfold DD;k_fill
 refine Dof (names:=["_law_one","_law_rests","_law_m","_law_r","_law_i"]) (g:=Zi5) ?_
 exact fun _ _ _ _ _ _ _ c _ _=>(Zv (ZO sL jI) (Zv (ZO sL (Zz vL jI)) (Zv (Zbz sL (JI.range (nB c) (jc (Zaq (nB c) (jc vL Zp) Za1) Zp)) (Zv (ZO sL (cF c ZhL (jc vL (jc (ZJ (Zz vL (ZJ vL jI Zai)) (Zz (Zz vL vL) jI) Za2) Zp)))) (Zy (ZO sL (ZJ vL (ZJ (Zz vL (ZJ vL jI Zai)) (Zz (Zz vL vL) jI) Za2) Zai))))) (Zy (ZH (cF c Zed (jc vL (jc vL Zp))))))))
theorem Zm5: DD w s₀ mg mb 511 1 ZgN:=by
 unfold DD;k_fill
 refine Dof (names:=["_law_bounds","_law_size","_law_found","_law_reach","_law_before","_law_i","_law_j","_law_k","_law_by"]) (g:=ZiC) ?_
 exact fun _ _ _ _ _ _ _ c _ _=>(Zv (ZO sL (Zaq (nB c) (jc vL Zp) Za1)) (Zv (by refine sO sL ?_ ?_ ?_;(exact(JI.seq vL));(exact fun _ _=>(ZcZ (nB (Zcc c)) (jc vO Zp) Zdd));(exact fun _ _=>JF.nil)) (Zv (ZO sL jI) (Zv (Zf9 1000000 (ZR vL vL Zcr) (Zv (by refine sO sL ?_ ?_ ?_;(exact(JI.seq vL));(exact fun _ _=>(ZcZ (nB (Zcc c)) (jc vO Zp) Zdd));(exact fun _ _=>JF.nil)) (Zv (Zbz sL (JI.range (nB c) (jc vL Zp)) (Zy (Zbz sL (JI.range (nB c) (jc vL Zp)) (Zy (Zbz sL (JI.range (nB c) (jc vL Zp)) (Zy (Z1 (Za7 (ZaS (ZR (Zz (Zz vL vL) vL) jN Zcb) (ZaS (ZR (Zz (Zz vL vL) vL) jN Zcb) Zct))) (Zv (ZO sL (ZJ (Zz (Zz vL vL) vL) (Zz (Zz vL vL) vL) Zai)) (Zy (Z1 (Za7 (Za0 (ZR (Zz (Zz vL vL) vL) jN Zbj) (Za0 (ZR vL (Zz (Zz vL vL) vL) Zcr) Zcu))) (Zy (S1.put vL (Zz vL vL) vL)) Z4))) Z4))))))) (Zy (ZO sL (ZJ jI vL Za2)))))) (Zv (Zbz sL (JI.range (nB c) (jc vL Zp)) (Zy (Z1 (ZR (Zz (Zz vL vL) vL) jI Zcr) (Zy (ZH jN)) Z4))) (Zy (ZH vL)))))))
theorem ZoI: DD w s₀ mg mb 506 2 ZhG:=by
 unfold DD;k_fill
 refine Dof (names:=["_law_one","_law_other","_law_high","_law_low","_law_now","_law_then","_law_times","_law_over","_law_apart"]) (g:=Zlt) ?_
 exact fun _ _ _ _ _ _ _ c _ _=>(Zv (ZO sL (Zz vL jI)) (Zv (ZO sL (Zz vL jI)) (Zv (ZO sL jI) (Zv (ZO sL jI) (Zv (Zf9 1000000 (ZR vL jI Zbu) (Zv (ZO sL (ZJ vL vL Zdj)) (Zv (ZO sL (ZJ vL (ZJ vL vL Za2) Zbi)) (Zv (ZO sL vL) (Zv (ZO sL vL) (Zv (ZO sL (ZJ vL (ZJ vL vL Za2) Zbi)) (Zv (ZO sL vL) (Zy (ZO sL vL))))))))) (Zv (ZO sL (ZJ (Zz vL jI) (Zz vL jI) Zbi)) (Zv (Z1 (ZR vL jI Zau) (Zv (Z1 (ZR vL jI Zbu) (Zy (ZH jN)) Z4) (Zy (ZH vL))) Z4) (Zv (Z1 (ZR (ZJ vL vL ZaV) jI Zbu) (Zy (ZH jN)) Z4) (Zy (ZH (cF c Zed (jc (ZJ (ZJ (Zz vL jI) vL Zdj) (Zz vL jI) Za2) (jc (ZJ (Zz vL jI) (ZJ (ZJ (Zz vL jI) vL Za2) (ZJ vL vL Zdj) Za2) Zai) Zp)))))))))))))
theorem ZnI: DD w s₀ mg mb 518 3 Zg2:=by
 unfold DD;k_fill
 refine Dof (names:=["_law_bounds","_law_rests","_law_full","_law_new","_law_i","_law_j","_law_gap"]) (g:=ZjJ) ?_
 exact fun _ _ _ _ _ _ _ c _ _=>(Zv (ZO sL (ZJ (J.list (jc (J.tup (jc jI (jc jI Zp))) Zp)) vL Zai)) (Zv (ZO sL (ZJ (J.list (jc (J.tup (jc jI (jc jI Zp))) Zp)) vL Zai)) (Zv (Zbz sL (JI.range (nB c) (jc jI (jc (Zaq (nB c) (jc vL Zp) Za1) Zp))) (Zy (Zbz sL (JI.range (nB c) (jc (Zaq (nB c) (jc vL Zp) Za1) Zp)) (Zv (ZO sL (Zz (Zz vL vL) vL)) (Zy (Z1 (Za7 (ZaS (ZR vL vL Zbu) (ZaS (ZR vL jN Zcb) (ZaS (ZR (Zz (Zz vL vL) vL) (Zb2 vL ZbW) Zau) (ZaS (ZR (Zz vL vL) jN Zcb) Zct))))) (Zy (S1.put (cF c ZoI (jc (Zz vL vL) (jc (cF c Zed (jc (Zz (Zz vL vL) jI) (jc (ZJ (Zz (Zz vL vL) jI) vL Zai) Zp))) Zp))) vL vL)) Z4)))))) (Zv (Z1 (ZR jN vL ZgA) (Zy (ZH jN)) Z4) (Zy (ZH (Zgo vL jI)))))))
theorem Zq1: DD w s₀ mg mb 523 2 Zjq:=by
 unfold DD;k_fill
 refine Dof (names:=["_law_bounds","_law_rests","_law_full","_law_new","_law_i","_law_j","_law_m","_law_r","_law_top"]) (g:=Zjp) ?_
 exact fun _ _ _ _ _ _ _ c _ _=>(Zv (ZO sL (ZJ (J.list (jc (J.tup (jc jI (jc jI Zp))) Zp)) vL Zai)) (Zv (by refine sO sL ?_ ?_ ?_;(exact(JI.seq vL));(exact fun _ _=>(ZcZ (nB (Zcc c)) (jc vO Zp) Zdd));(exact fun _ _=>JF.nil)) (Zv (Zbz sL (JI.range (nB c) (jc (Zaq (nB c) (jc vL Zp) Za1) Zp)) (Zy (Zbz sL (JI.range (nB c) (jc (Zaq (nB c) (jc vL Zp) Za1) Zp)) (Zv (ZO sL (cF c ZhL (jc (Zz (Zz vL vL) jI) (jc (Zz (Zz vL vL) jI) Zp)))) (Zv (ZO sL (ZJ (Zz (Zz vL vL) jI) (Zz (Zz vL vL) jI) Zbi)) (Zv (ZO sL (Zz (Zz vL vL) vL)) (Zy (Z1 (Za7 (ZaS (ZR vL vL Zbu) (ZaS (ZR vL jI Zau) Zct))) (Zv (Z1 (Za7 (ZaS (ZR vL jN Zcb) (ZaS (ZR vL vL Zcr) Zct))) (Zy (ZH jN)) Z4) (Zy (S1.put vL (Zz vL vL) vL))) (Zy (Z1 (Za7 (ZaS (ZR vL vL Zbu) (ZaS (ZR vL jN Zcb) Zct))) (Zy (S1.put (ZJ vL (ZJ (ZJ vL vL Zbi) vL ZaV) Zbi) (Zz vL vL) vL)) Z4)))))))))) (Zy (ZH vL)))))
theorem ZrH: DD w s₀ mg mb 530 4 Zkd:=by
 unfold DD;k_fill
 refine Dof (names:=["_law_told_here","_law_bounds","_law_rests"]) (g:=Zkc) ?_
 exact fun _ _ _ _ _ _ _ c _ _=>(Zv (Z1 (ZR vL jN Zbj) (Zy (ZH jN)) Z4) (Zv (ZO sL (cF c Zm5 (jc (Zz vL jI) Zp))) (Zv (Z1 (ZR vL jN Zbj) (Zy (ZH jN)) Z4) (Zv (ZO sL (cF c ZnI (jc vL (jc (Zz vL jI) Zp)))) (Zv (Z1 (ZR vL jN Zbj) (Zy (ZH jN)) Z4) (Zv (ZO sL (cF c Zq1 (jc vL (jc vL Zp)))) (Zv (Z1 (ZR vL jN Zbj) (Zy (ZH jN)) Z4) (Zv (ZO sL (cF c Zm5 (jc vL Zp))) (Zv (Z1 (ZR vL jN Zbj) (Zy (ZH jN)) Z4) (Zv (ZO sL (cF c ZnI (jc vL (jc vL Zp)))) (Zv (Z1 (ZR vL jN Zbj) (Zy (ZH jN)) Z4) (Zy (ZH (J.tup (jc vL (jc vL Zp))))))))))))))))
theorem Zno: DD w s₀ mg mb 556 1 ZgT:=by
 unfold DD;k_fill
 refine Dof (names:=["_law_one","_law_i","_law_k","_law_new"]) (g:=Zi7) ?_
 exact fun _ _ _ _ _ _ _ c _ _=>(Zv (ZO sL (ZcZ (nB c) (jc vL Zp) Zdd)) (Zv (S1.put (ZJ (Zz vL vL) vL Zai) vL vL) (Zy (ZH vL))))
theorem ZqE: DD w s₀ mg mb 563 5 Zi9:=by
 unfold DD;k_fill
 refine Dof (names:=["_law_told_here","_law_one","_law_step","_law_rests","_law_i","_law_k","_law_pair"]) (g:=Zi8) ?_
 exact fun _ _ _ _ _ _ _ c _ _=>(Zv (ZO sL (ZcZ (nB c) (jc (Zz vL jI) Zp) Zdd)) (Zv (Zbz sL (JI.range (nB c) (jc jI (jc (Zaq (nB c) (jc vL Zp) Za1) Zp))) (Zv (ZO sL (Zz vL vL)) (Zy (Z1 (Za7 (Za0 (ZR vL jI Zau) (Za0 (ZR vL (Zb2 jI ZbW) Zau) Zcu))) (Zv (ZO sL (cF c Znn (jc (cF c Zno (jc vL (jc vL (jc (Zb2 vL ZbW) Zp)))) (jc (Zz vL jI) Zp)))) (Zv (ZO sL (cF c Zed (jc (cF c ZhL (jc (Zz vL jI) (jc vL Zp))) (jc (ZJ (Zb2 vL ZbW) (Zz vL jI) Za2) Zp)))) (Zy (S1.put (cF c ZoI (jc (Zz vL (ZJ vL jI Zbi)) (jc vL Zp))) vL (ZJ vL jI Zbi))))) Z4)))) (Zv (Z1 (ZR jN vL ZgA) (Zy (ZH jN)) Z4) (Zy (ZH (cF c ZrH (jc (J.tup (jc (Zz vL jI) (jc vL Zp))) Zp)))))))
theorem Zn2: ∀n:Nat,Def PySem.Challenge.rw_seer_k46_even_claims.row.prog w (head.heap_39 w.params) head.view_39 (looseW head.view_39 []) (ExcName.means s₀.heap) mg mb 570 (n+5) (ZeU n)
 | 0=>ZoS
 | n+1=>by
  have ih:=Zn2 n
  k_fill
  refine' Zmu (names:=["_law_told_here","_law_one","_law_step","_law_truth","_law_pair"]) (n:=4) (room:=n+5) (g:=Zk5 (ZeU n)) (ho:=?ho) (hcd:=?hcd) (nd:=by decide) (hn:=by decide) (hbind:=?hb) (hkinds:=?hk) (hone:=?h1) (hco:=?z1) (hgen:=?z2) (hk:=?z3) (hbody:=?hbody)
  case ho=>k_is
  case z1=>rfl
  case z2=>rfl
  case z3=>rfl
  case hcd=>k_is
  case hb=>intro s xs hx;match xs,hx with | [x0,x1,x2,x3],_=>exact BindsTo.of_eq rfl
  case hk=>decide
  case h1=>decide +kernel
  case hbody=>
   intro dp un gd L outer h₀ hu clr hd1 hu1
   exact(Zv (Z1 (ZR vL jN Zbj) (Zy (ZH jN)) Z4) (Zv (ZO sL (cF clr Znn (jc vL (jc (Zz vL jI) Zp)))) (Zv (Z1 (Zbb vL) (Zv (Z1 (ZR (ZJ (Zz vL jI) (cF clr ZhL (jc (Zz vL jI) (jc vL Zp))) ZaV) jI Zbu) (Zy (ZH jN)) Z4) (Zy (ZH (cF clr ZqE (jc vL (jc vL (jc vL Zp))))))) Z4) (Zv (Z1 (Za7 (ZaS (ZR (ZJ (Zz vL jI) vL ZaV) jI Zau) (ZaS (ZR (ZJ (Zz vL jI) vL ZaV) jI Zau) Zct))) (Zy (ZH jN)) Z4) (Zv (Z1 (ZR vL jI Zau) (Zy (ZH (cF clr ih (jc vL (jc (cF clr Zno (jc vL (jc jI (jc jI Zp)))) (jc jI (jc jB Zp))))))) Z4) (Zy (ZH vL)))))))
theorem Zsf: Def PySem.Challenge.rw_seer_k46_even_claims.row.prog w (head.heap_39 w.params) head.view_39 (looseW head.view_39 []) (ExcName.means s₀.heap) mg mb 570 8 Zk6:=Zn2 3
end
end L
end
section
open PySem PySem.W PySem.Calls PyProof.Rows PM
open L
seal PySem.wpAny PM.J PM.Js PM.JT PM.JA PM.JF PM.JI PM.JI2 PM.JP PM.S1 PM.Ss PM.Sto PM.Rd PM.Nm PM.OpN PM.Op2 PM.Def
theorem PySem.Challenge.cw_seer_k46_even_claims_holds : PySem.Challenge.rw_seer_k46_even_claims.Holds :=
 head (by
  w_strict (k_go0;(rename Well _ _ _ _=>w9);(rename Frag.In _ _=>kx9);(rename Top _ _ _ _ _ _=>t9);(rename Fr _ _ _ _=>f9);(rename News _ _ _ _=>n9);(rename CellsAre _ _ _=>x9);(rename (PyData.layable0 _=true)=>hl9);(obtain⟨H9,e9⟩:=L.Zri (by omega) hl9);(refine' PM.ZtO (names:=["_law_script","_law_many","_law_boxes","_law_told_here","_law_one","_law_step","_law_claim","_law_way","_law_kept","_law_truth","_law_found"]) (g:=ZlV) (room:=13) ?hb ?h1 ?h2 ?h3 ?h4 kx9 t9 w9 ?len f9 n9 x9 e9 ?post);(case h1=>decide);(case h2=>decide);(case h3=>rfl);(case h4=>rfl);(case len=>(rw[PM.Zbh];omega));(case hb=>(intro dp un gd L a ccd outer h₀ hu clr hd1 hu1;exact(Zv (ZO sL (Zz (J.list (jc jI (jc jI (jc jI (jc jI (jc jI (jc jI (jc jI (jc jI (jc jI Zp)))))))))) (cF clr law_pick_d (jc vC (jc jI (jc jI Zp)))))) (Zv (by refine sO sL ?_ ?_ ?_;(exact(JI.range (nB clr) (jc vL Zp)));(exact fun _ _=>(cF (Zcc clr) ZeQ (jc vD (jc (ZJ jI vO Zai) Zp))));(exact fun _ _=>JF.nil)) (Zv (ZO sL (cF clr Zsb (jc vC (jc jI (jc vL Zp))))) (Zv (ZO sL (cF clr ZsR (jc vC (jc jI (jc vL Zp))))) (Zv (Z1 (ZR (cF clr law_pick_d (jc vC (jc jI (jc jI Zp)))) jI Zey) (Zy (S1.put (ZJ (ZJ (ZJ (Zz vL jI) (cF clr ZrG (jc vL (jc vL Zp))) Zbi) (cF clr law_pick_d (jc vC (jc jI (jc jI Zp)))) Zai) jI Zbi) vL jI)) Z4) (Zv (ZO sL (ZJ jI (cF clr law_pick_d (jc vC (jc jI (jc jI Zp)))) Zai)) (Zv (Z1 (ZR (cF clr law_pick_d (jc vC (jc jI (jc jI Zp)))) jI Zau) (Zy (ZO sL (Zaq (nB clr) (jc jI (jc (Zaq (nB clr) (jc (cF clr ZeQ (jc vC (jc jI Zp))) Zp) ZdE) Zp)) ZtI))) Z4) (Zv (ZO sL (J.tup (jc jS (jc (ZcZ (nB clr) (jc vL Zp) Zdd) (jc vL Zp))))) (Zv (ZO sL (cF clr law_pick_d (jc vC (jc jI (jc jI Zp))))) (Zv (Z1 (ZR (ZJ vL jI ZaV) jI Zau) (Zy (ZO sL (cF clr Zrj (jc vC (jc jI (jc vL Zp)))))) Z4) (Zv (Z1 (ZR (ZJ vL jI ZaV) jI Zau) (Zy (ZO sL jN)) Z4) (Zv (ZO sL (cF clr Zol (jc vL Zp))) (Zv (Zbz sL (JI.seq (J.list (jc jB (jc jB Zp)))) (Zv (ZO sL (cF clr ZvW (jc vL (jc vL (jc vL Zp))))) (Zv (Z1 (Za7 (Za0 (ZR (Zz vL jI) vL Zbu) (Za0 (ZcC (Zbb (cF clr Zse (jc vL (jc (cF clr Zsf (jc (cF clr Zol (jc vL Zp)) (jc vL (jc vL (jc vL Zp))))) Zp))))) Zcu))) (Zy (ZH jB)) Z4) (Zv (Z1 (ZR vL jN Zcb) (Zv (S1.put jI (Zz (Zz vL jI) jI) jI) (Zy (ZdF (J.append (Zz vL jI) (J.tup (jc jI (jc jI Zp))))))) Z4) (Zy (Z1 (ZR vL vL Zbu) (Zy (ZH jB)) Z4)))))) (Zy (ZH jB)))))))))))))))));(case post=>(intro h' tk' m' F';k_steps)))
  )
end
