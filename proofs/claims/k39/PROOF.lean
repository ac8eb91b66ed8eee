import PyProof.Rows.All
import Wide.All
import OpenK.AllK
import Wide.FinOn
import PySem.Challenge.RW_seer_k39_stretches_told
import PyProof.Rows.News
import PyProof.Rows.Nodes
import PyProof.Rows.Chain
import PyProof.Rows.TupSub
import PyProof.PureInt
import PyProof.Rules2
import PyProof.Rules3
import PyProof.Rows.Globals
import PyProof.Rows.RuleB_mod
import PyProof.Rows.RuleB_floordiv
import PyProof.Rows.RuleB_small
import PyProof.NoPylong
import PyProof.Rows.RuleB_pow
import PyProof.Rows.EqDataRows
import PyProof.Rows.StrTemp
import PyProof.Rows.TupAdd
import PyProof.Rows.ListMul
import PyProof.ListIndexNeg
import PyProof.SliceList
import PyProof.Methods
import PyProof.Rows.Tup
import PyProof.IsiPairs
import PyProof.IsiHeapPairs
import PyProof.IsiNone
import PyProof.Rows.RuleN_abs
import PyProof.Rows.SumAny
import PyProof.WalkInts
import PyProof.PvWalk
import PyProof.RulesRaise
import PyProof.Raises
import PyProof.Dict
import PyProof.Seq
import PyProof.Rows.ListAppend
import PyProof.ForAppend
import PyProof.ForAny
import PyProof.Walks
import PyProof.WalksT
import KE.KItem
import PyProof.WalksMore
import PyProof.RangeFor
import PyProof.Rows.Range3
import OpenK.KCell
import KE.KTree
import KE.RegLcTurns
import KE.KCompFold
import KE.KLcPair
import KE.LcTurns
import PyProof.CompUse
import PyProof.Rows.ZipGen
import OpenK.KLine
import KE.KState
import Wide.Well
import PyProof.ListCopy
import PyProof.Rows.TupleOfSeqD
import KE.LcSums
import KE.KCellOne
import PyProof.FitsBits
import KE.KEqDeep
import PyProof.Rows.TupMore
import PyProof.Rows.NestLooks
import PyProof.EnumMake
import PyProof.WalksEnum
import PyProof.Rows.SortWalk
import PyProof.DictStraight
import PyProof.EqAt
import PyProof.Rows.SeqMore2
import PyProof.Draws
import PyProof.Rows.CallKwBuiltin
import KE.KAnyBase
import PyProof.Rows.SeqSlice
set_option linter.all false
set_option maxRecDepth 100000
set_option maxHeartbeats 8000000
abbrev Zz0:=@Option.bind_eq_some_iff
abbrev Zz1:=@Option.map_eq_some_iff
abbrev Zz2:=@List.mem_cons_of_mem
abbrev Zz3:=@List.mem_append_right
abbrev Zz4:=@List.mem_append_left
abbrev Zz5:=@List.mem_cons_self
abbrev Zz6:=@List.getElem?_eq_some_iff
abbrev Zz7:=@List.mem_cons
abbrev Zz8:=@List.mem_append
abbrev Zz9:=@List.mem_singleton
abbrev Zz10:=@Nat.le_refl
abbrev Zz11:=@List.mem_map
set_option Elab.async false
set_option compiler.extract_closed false
section
set_option autoImplicit false
/-! The plain machine: values as trees, lists as places; and how it stands for the model's heap. -/
namespace PM
open PySem PyProof.Rows
inductive V where
 | none
 | bool (b:Bool)
 | int (i:Int)
 | str (s:Str)
 | tup (vs:List V)
 | ref (a:Nat)
noncomputable abbrev Hp:=List (List V)
noncomputable abbrev Lc:=Nat→Option V
noncomputable def LEN: Nat:=100000
theorem Zbs: LEN=100000:=rfl
theorem ZcZ{n:Nat}(h:n≤LEN): n≤sizeLine:=by
 have:sizeLine=2 ^ 24:=rfl
 rw[this];rw[Zbs]at h;omega
noncomputable abbrev Zdw(xs:List Value)(k:Nat): Obj:={ cls:=.type "tuple",data:=.seq xs.toArray k }
noncomputable abbrev Zbj(xs:List Value)(k:Nat): Obj:={ cls:=.type "list",data:=.seq xs.toArray k }
structure Wd where
 pi:List Addr
 tups:List (Addr×Obj)
 sc:Addr×Obj
structure Wd.Le(W W':Wd): Prop where
 pi:W.pi <+: W'.pi
 tups:∀q∈W.tups,q∈W'.tups
 sc:W'.sc=W.sc
theorem Wd.Le.refl(W:Wd): W.Le W:=⟨List.prefix_refl _,fun _ h=>h,rfl⟩
theorem Wd.Le.trans{W W' W'':Wd}(a:W.Le W')(b:W'.Le W''): W.Le W'':=⟨a.pi.trans b.pi,fun q h=>b.tups q (a.tups q h),b.sc.trans a.sc⟩
theorem Wd.Le.at{W W':Wd}(h:W.Le W'){i:Nat}{a:Addr}(e:W.pi[i]?=some a): W'.pi[i]?=some a:=by
 obtain⟨t,ht⟩:=h.pi
 have hi:i<W.pi.length:=(Zz6.mp e).1
 rw[←ht,List.getElem?_append_left hi]
 exact e
mutual
inductive VR(W:Wd): V→Value→Prop where
 | none:VR W .none .none
 | bool (b:Bool):VR W (.bool b) (.bool b)
 | int (i:Int) (t:Tok):VR W (.int i) (.int i t)
 | str (s:Str) (t:Tok):VR W (.str s) (.str s t)
 | tup {vs:List V} {a:Addr} {xs:List Value} {k:Nat}:(a,Zdw xs k)∈W.tups→vs.length≤LEN→VRs W vs xs→VR W (.tup vs) (.ref a)
 | ref {i:Nat} {a:Addr}:W.pi[i]?=some a→VR W (.ref i) (.ref a)
inductive VRs(W:Wd): List V→List Value→Prop where
 | nil:VRs W [] []
 | cons {v:V} {x:Value} {vs:List V} {xs:List Value}:VR W v x→VRs W vs xs→VRs W (v::vs) (x::xs)
end
mutual
theorem VR.mono{W W':Wd}(h:W.Le W'){v:V}{x:Value}(r:VR W v x): VR W' v x:=by
 cases r with
 | none=>exact .none
 | bool b=>exact .bool b
 | int i t=>exact .int i t
 | str s t=>exact .str s t
 | tup hm hl hs=>exact .tup (h.tups _ hm) hl (VRs.mono h hs)
 | ref e=>exact .ref (h.at e)
theorem VRs.mono{W W':Wd}(h:W.Le W'){vs:List V}{xs:List Value}(r:VRs W vs xs): VRs W' vs xs:=by
 cases r with
 | nil=>exact .nil
 | cons a b=>exact .cons (VR.mono h a) (VRs.mono h b)
end
theorem VRs.length{W:Wd}: ∀{vs:List V} {xs:List Value},VRs W vs xs→xs.length=vs.length
 | _,_,.nil=>rfl
 | _,_,.cons _ r=>by rw[List.length_cons,List.length_cons,r.length]
theorem VRs.at{W:Wd}: ∀{vs:List V} {xs:List Value} {i:Nat} {v:V},VRs W vs xs→vs[i]?=some v→∃x,xs[i]?=some x∧VR W v x
 | _,_,_,_,.nil,e=>by simp at e
 | _,_,0,_,.cons a _,e=>by
  simp at e
  exact⟨_,by simp,e▸a⟩
 | _,_,i+1,_,.cons _ r,e=>by
  simp at e
  obtain⟨x,hx,hr⟩:=r.at e
  exact⟨x,by simpa using hx,hr⟩
theorem VRs.append{W:Wd}: ∀{vs us:List V} {xs ys:List Value},VRs W vs xs→VRs W us ys→VRs W (vs++us) (xs++ys)
 | _,_,_,_,.nil,h=>h
 | _,_,_,_,.cons a r,h=>.cons a (r.append h)
theorem VRs.snoc{W:Wd}{vs:List V}{xs:List Value}{v:V}{x:Value}(h:VRs W vs xs)(r:VR W v x): VRs W (vs++[v]) (xs++[x]):=h.append (.cons r .nil)
theorem VRs.set{W:Wd}: ∀{vs:List V} {xs:List Value} {v:V} {x:Value} (i:Nat),VRs W vs xs→VR W v x→VRs W (vs.set i v) (xs.set i x)
 | _,_,_,_,_,.nil,_=>.nil
 | _,_,_,_,0,.cons _ r,h=>.cons h r
 | _,_,_,_,i+1,.cons a r,h=>.cons a (r.set i h)
structure HR(W:Wd)(H:Hp)(led:List (Addr×Obj)): Prop where
 len:W.pi.length=H.length
 nd:W.pi.Nodup
 lists:∀(i:Nat) (vs:List V),H[i]?=some vs→vs.length≤LEN∧∃a xs k,W.pi[i]?=some a∧(a,Zbj xs k)∈led∧VRs W vs xs
 tups:∀q∈W.tups,q∈led
 kind:∀q∈W.tups,∃xs k,q.2=Zdw xs k
theorem HR.mono{W:Wd}{H:Hp}{led led':List (Addr×Obj)}(R:HR W H led)(h:∀q∈led,q∈led'): HR W H led':=
 ⟨R.len,R.nd,fun i vs e=>by
  obtain⟨l,a,xs,k,h1,h2,h3⟩:=R.lists i vs e
  exact⟨l,a,xs,k,h1,h _ h2,h3⟩,fun q hq=>h q (R.tups q hq),R.kind⟩
structure Cx where
 A:Around
 env:Env
 h₀:Heap
 L:Addr
 hh:A.handled=none
 hu:A.units+200<cLine
 Own:Wd→Lc→(Str→Option Value)→List (Addr×Obj)→Prop
 mono:∀{W W':Wd} {ρ:Lc} {m:Str→Option Value} {c:List (Addr×Obj)},W.Le W'→Own W ρ m c→Own W' ρ m c
structure Rep'(Γ:Cx)(W:Wd)(ρ:Lc)(H:Hp)(fr:List (Addr×Obj))(h:Heap)(m:Str→Option Value)(cells led:List (Addr×Obj)): Prop where
 F:Fr Γ.h₀ Γ.L h m
 N:News Γ.h₀ Γ.L h led
 R:HR W H (W.sc::led)
 sc:Γ.h₀.get? W.sc.1=some W.sc.2
 sc0:W.pi[0]?=some W.sc.1
 frIn:∀q∈fr,q∈led
 frOff:∀q∈fr,q.1∉W.pi
 clIn:∀q∈cells,q∈led
 clOff:∀q∈cells,q.1∉W.pi
 apart:∀q∈cells,∀r∈fr,q.1≠r.1
 frTup:∀q∈fr,∀t∈W.tups,q.1≠t.1
 clTup:∀q∈cells,∀t∈W.tups,q.1≠t.1
 own:Γ.Own W ρ m cells
noncomputable def Rep(Γ:Cx)(W:Wd)(ρ:Lc)(H:Hp)(fr:List (Addr×Obj))(h:Heap): Prop:=∃m cells led,Rep' Γ W ρ H fr h m cells led
theorem Rep.grown{Γ:Cx}{W:Wd}{ρ:Lc}{H:Hp}{fr:List (Addr×Obj)}{h h':Heap}(r:Rep Γ W ρ H fr h)(up:∀b o,h.get? b=some o→h'.get? b=some o): Rep Γ W ρ H fr h':=by
 obtain⟨m,c,led,r⟩:=r
 refine⟨m,c,led,⟨⟨?_,fun b o e=>up b o (r.F.keep b o e),r.F.above⟩,fun q hq=>⟨up _ _ (r.N q hq).1,(r.N q hq).2⟩,r.R,r.sc,r.sc0,r.frIn,r.frOff,r.clIn,r.clOff,r.apart,r.frTup,r.clTup,r.own⟩⟩
 obtain⟨o,es,ep,h1,h2⟩:=r.F.ns
 exact⟨o,es,ep,up _ _ h1,h2⟩
theorem Rep.push{Γ:Cx}{W:Wd}{ρ:Lc}{H:Hp}{fr:List (Addr×Obj)}{h:Heap}(r:Rep Γ W ρ H fr h)(o:Obj): Rep Γ W ρ H fr (h.push o):=r.grown fun _ _ e=>Heap.get?_push_of_some _ e
theorem Zdc{q s:Addr×Obj}{l l':List (Addr×Obj)}(h:q∈s::l)(m:q∈l→q∈l'): q∈s::l':=by
 rcases Zz7.mp h with e | h
 ·exact e▸List.mem_cons_self
 ·exact Zz2 _ (m h)
theorem ZdU{q s:Addr×Obj}{l l':List (Addr×Obj)}(h:q∈s::l)(m:∀x∈l,x∈l'): q∈s::l':=by
 rcases Zz7.mp h with e | h
 ·exact e▸List.mem_cons_self
 ·exact Zz2 _ (m q h)
theorem Rep'.get{Γ:Cx}{W:Wd}{ρ:Lc}{H:Hp}{fr:List (Addr×Obj)}{h:Heap}{m:Str→Option Value}{c led:List (Addr×Obj)}(r:Rep' Γ W ρ H fr h m c led){q:Addr×Obj}(hq:q∈W.sc::led): h.get? q.1=some q.2:=by
 rcases Zz7.mp hq with e | hq
 ·rw[e]
  exact r.F.keep _ _ r.sc
 ·exact(r.N q hq).1
theorem Rep'.off{Γ:Cx}{W:Wd}{ρ:Lc}{H:Hp}{fr:List (Addr×Obj)}{h:Heap}{m:Str→Option Value}{c led:List (Addr×Obj)}(r:Rep' Γ W ρ H fr h m c led): ∀q∈W.sc::led,q.1≠h.objs.size:=fun q hq=>Nat.ne_of_lt (Heap.lt_size (r.get hq))
theorem Rep'.same{Γ:Cx}{W:Wd}{ρ:Lc}{H:Hp}{fr:List (Addr×Obj)}{h h':Heap}{m:Str→Option Value}{c led:List (Addr×Obj)}(r:Rep' Γ W ρ H fr h m c led)(F':Fr Γ.h₀ Γ.L h' m)(N':News Γ.h₀ Γ.L h' led): Rep Γ W ρ H fr h':=
 ⟨m,c,led,F',N',r.R,r.sc,r.sc0,r.frIn,r.frOff,r.clIn,r.clOff,r.apart,r.frTup,r.clTup,r.own⟩
theorem Rep'.piIn{Γ:Cx}{W:Wd}{ρ:Lc}{H:Hp}{fr:List (Addr×Obj)}{h:Heap}{m:Str→Option Value}{c led:List (Addr×Obj)}(r:Rep' Γ W ρ H fr h m c led): ∀a∈W.pi,∃o,(a,o)∈W.sc::led:=by
 intro a ha
 obtain⟨i,hi,e⟩:=List.getElem_of_mem ha
 have hi':i<H.length:=r.R.len▸hi
 obtain⟨_,b,xs,k,h1,h2,_⟩:=r.R.lists i H[i] (List.getElem?_eq_getElem hi')
 have:b=a:=by rw[List.getElem?_eq_getElem hi,e]at h1;exact(Option.some.inj h1).symm
 exact⟨_,this▸h2⟩
theorem Rep'.inLed{Γ:Cx}{W:Wd}{ρ:Lc}{H:Hp}{fr:List (Addr×Obj)}{h:Heap}{m:Str→Option Value}{c led:List (Addr×Obj)}(r:Rep' Γ W ρ H fr h m c led){i:Nat}{a:Addr}{o:Obj}(hi:i≠0)(ea:W.pi[i]?=some a)(hm:(a,o)∈W.sc::led): (a,o)∈led:=by
 rcases Zz7.mp hm with e | hm
 ·have e1:a=W.sc.1:=congrArg (·.1) e
  have hl:i<W.pi.length:=(Zz6.mp ea).1
  have:i=0:=(List.getElem?_inj hl r.R.nd).mp (by rw[ea,r.sc0,e1])
  exact absurd this hi
 ·exact hm
theorem Rep'.notSc{Γ:Cx}{W:Wd}{ρ:Lc}{H:Hp}{fr:List (Addr×Obj)}{h:Heap}{m:Str→Option Value}{c led:List (Addr×Obj)}(r:Rep' Γ W ρ H fr h m c led): ∀q∈led,q.1≠W.sc.1:=fun q hq e=>by
 have:=(r.N q hq).2.2
 rw[e,r.sc]at this
 cases this
theorem Rep'.newTup{Γ:Cx}{W:Wd}{ρ:Lc}{H:Hp}{fr:List (Addr×Obj)}{h h':Heap}{m:Str→Option Value}{c led:List (Addr×Obj)}{vs:List V}{xs:List Value}{k:Nat}{n:Addr}(r:Rep' Γ W ρ H fr h m c led)(F':Fr Γ.h₀ Γ.L h' m)(N':News Γ.h₀ Γ.L h' ((n,Zdw xs k)::led))(hn:∀q∈W.sc::led,q.1≠n)(hv:VRs W vs xs)(hl:vs.length≤LEN):
  ∃W',W.Le W'∧Rep Γ W' ρ H fr h'∧VR W' (.tup vs) (.ref n):=by
 have le:W.Le ⟨W.pi,(n,Zdw xs k)::W.tups,W.sc⟩:=⟨List.prefix_refl _,fun q hq=>List.mem_cons_of_mem _ hq,rfl⟩
 refine⟨⟨W.pi,(n,Zdw xs k)::W.tups,W.sc⟩,le,⟨m,c,(n,Zdw xs k)::led,⟨F',N',?_,r.sc,r.sc0,fun q hq=>List.mem_cons_of_mem _ (r.frIn q hq),r.frOff,fun q hq=>List.mem_cons_of_mem _ (r.clIn q hq),r.clOff,r.apart,fun q hq t ht=>?_,fun q hq t ht=>?_,Γ.mono le r.own⟩⟩,.tup Zz5 hl (hv.mono le)⟩
 ·refine⟨r.R.len,r.R.nd,fun i us e=>?_,fun q hq=>?_,fun q hq=>?_⟩
  ·obtain⟨l,a,ys,j,h1,h2,h3⟩:=r.R.lists i us e
   exact⟨l,a,ys,j,h1,ZdU h2 fun x hx=>List.mem_cons_of_mem _ hx,h3.mono le⟩
  ·rcases Zz7.mp hq with e | hq
   ·exact e▸List.mem_cons_of_mem _ Zz5
   ·exact ZdU (r.R.tups q hq) fun x hx=>List.mem_cons_of_mem _ hx
  ·rcases Zz7.mp hq with e | hq
   ·exact⟨xs,k,by rw[e]⟩
   ·exact r.R.kind q hq
 ·rcases Zz7.mp ht with e | ht
  ·rw[e]
   exact hn q (Zz2 _ (r.frIn q hq))
  ·exact r.frTup q hq t ht
 ·rcases Zz7.mp ht with e | ht
  ·rw[e]
   exact hn q (Zz2 _ (r.clIn q hq))
  ·exact r.clTup q hq t ht
theorem Rep.tuple{Γ:Cx}{W:Wd}{ρ:Lc}{H:Hp}{fr:List (Addr×Obj)}{h:Heap}{vs:List V}{xs:List Value}{k:Nat}(r:Rep Γ W ρ H fr h)(hv:VRs W vs xs)(hl:vs.length≤LEN):
  ∃W',W.Le W'∧Rep Γ W' ρ H fr (h.push (Zdw xs k))∧VR W' (.tup vs) (.ref h.objs.size):=by
 obtain⟨m,c,led,r⟩:=r
 exact r.newTup (r.F.push _) (News.push r.F r.N _) r.off hv hl
theorem Rep'.newList{Γ:Cx}{W:Wd}{ρ:Lc}{H:Hp}{fr:List (Addr×Obj)}{h h':Heap}{m:Str→Option Value}{c led:List (Addr×Obj)}{vs:List V}{xs:List Value}{k:Nat}{n:Addr}(r:Rep' Γ W ρ H fr h m c led)(F':Fr Γ.h₀ Γ.L h' m)(N':News Γ.h₀ Γ.L h' ((n,Zbj xs k)::led))(hn:∀q∈W.sc::led,q.1≠n)(hv:VRs W vs xs)(hl:vs.length≤LEN):
  ∃W',W.Le W'∧Rep Γ W' ρ (H++[vs]) fr h'∧VR W' (.ref H.length) (.ref n):=by
 have le:W.Le ⟨W.pi++[n],W.tups,W.sc⟩:=⟨List.prefix_append _ _,fun q hq=>hq,rfl⟩
 have h0:0<W.pi.length:=(Zz6.mp r.sc0).1
 have at_n:(W.pi++[n])[H.length]?=some n:=by rw[←r.R.len];simp
 refine⟨⟨W.pi++[n],W.tups,W.sc⟩,le,⟨m,c,(n,Zbj xs k)::led,⟨F',N',?_,r.sc,(List.getElem?_append_left h0).trans r.sc0,fun q hq=>List.mem_cons_of_mem _ (r.frIn q hq),fun q hq=>?_,fun q hq=>List.mem_cons_of_mem _ (r.clIn q hq),fun q hq=>?_,r.apart,r.frTup,r.clTup,Γ.mono le r.own⟩⟩,.ref at_n⟩
 ·refine⟨by simp[r.R.len],?_,fun i us e=>?_,fun q hq=>ZdU (r.R.tups q hq) fun x hx=>List.mem_cons_of_mem _ hx,r.R.kind⟩
  ·show(W.pi++[n]).Nodup
   rw[List.nodup_append]
   refine⟨r.R.nd,by simp,fun a ha b hb=>?_⟩
   rw[List.mem_singleton.mp hb]
   obtain⟨o,ho⟩:=r.piIn a ha
   exact hn _ ho
  ·by_cases hi:i<H.length
   ·rw[List.getElem?_append_left hi]at e
    obtain⟨l,a,ys,j,h1,h2,h3⟩:=r.R.lists i us e
    exact⟨l,a,ys,j,le.at h1,ZdU h2 fun x hx=>List.mem_cons_of_mem _ hx,h3.mono le⟩
   ·have:i=H.length:=by
     have:=(Zz6.mp e).1
     simp at this
     omega
    subst this
    simp at e
    subst e
    exact⟨hl,n,xs,k,at_n,List.mem_cons_of_mem _ Zz5,hv.mono le⟩
 ·intro hm
  rcases Zz8.mp hm with hm | hm
  ·exact r.frOff q hq hm
  ·exact hn q (Zz2 _ (r.frIn q hq)) (Zz9.mp hm)
 ·intro hm
  rcases Zz8.mp hm with hm | hm
  ·exact r.clOff q hq hm
  ·exact hn q (Zz2 _ (r.clIn q hq)) (Zz9.mp hm)
theorem Rep.list{Γ:Cx}{W:Wd}{ρ:Lc}{H:Hp}{fr:List (Addr×Obj)}{h:Heap}{vs:List V}{xs:List Value}{k:Nat}(r:Rep Γ W ρ H fr h)(hv:VRs W vs xs)(hl:vs.length≤LEN):
  ∃W',W.Le W'∧Rep Γ W' ρ (H++[vs]) fr (h.push (Zbj xs k))∧VR W' (.ref H.length) (.ref h.objs.size):=by
 obtain⟨m,c,led,r⟩:=r
 exact r.newList (r.F.push _) (News.push r.F r.N _) r.off hv hl
theorem Rep.at{Γ:Cx}{W:Wd}{ρ:Lc}{H:Hp}{fr:List (Addr×Obj)}{h:Heap}{i:Nat}{a:Addr}{vs:List V}(r:Rep Γ W ρ H fr h)(e:H[i]?=some vs)(ea:W.pi[i]?=some a): vs.length≤LEN∧∃xs k,h.get? a=some (Zbj xs k)∧VRs W vs xs:=by
 obtain⟨m,c,led,r⟩:=r
 obtain⟨l,b,xs,k,h1,h2,h3⟩:=r.R.lists i vs e
 rw[ea]at h1
 cases h1
 exact⟨l,xs,k,r.get h2,h3⟩
theorem Rep.tupAt{Γ:Cx}{W:Wd}{ρ:Lc}{H:Hp}{fr:List (Addr×Obj)}{h:Heap}{q:Addr×Obj}(r:Rep Γ W ρ H fr h)(e:q∈W.tups): h.get? q.1=some q.2:=by
 obtain⟨m,c,led,r⟩:=r
 exact r.get (r.R.tups _ e)
theorem Rep'.changed{Γ:Cx}{W:Wd}{ρ:Lc}{H:Hp}{fr:List (Addr×Obj)}{h h':Heap}{m:Str→Option Value}{c led:List (Addr×Obj)}{i:Nat}{a:Addr}{vs us:List V}{ys:List Value}{k:Nat}(r:Rep' Γ W ρ H fr h m c led)(i0:i≠0)(e:H[i]?=some vs)(ea:W.pi[i]?=some a)(F':Fr Γ.h₀ Γ.L h' m)(N':News Γ.h₀ Γ.L h' ((a,Zbj ys k)::led.filter (fun q=>decide (q.1≠a))))(hv:VRs W us ys)(hl:us.length≤LEN):
  Rep Γ W ρ (H.set i us) fr h':=by
 obtain⟨_,b,xs,j,h1,h2,h3⟩:=r.R.lists i vs e
 rw[ea]at h1
 cases h1
 have h2:=r.inLed i0 ea h2
 have hN:=r.N _ h2
 have hm:a∈W.pi:=List.mem_of_getElem? ea
 have hi:i<H.length:=(Zz6.mp e).1
 refine⟨m,c,(a,Zbj ys k)::led.filter (fun q=>decide (q.1≠a)),⟨F',N',?_,r.sc,r.sc0,fun q hq=>?_,r.frOff,fun q hq=>?_,r.clOff,r.apart,r.frTup,r.clTup,r.own⟩⟩
 ·refine⟨by simp[r.R.len],r.R.nd,fun n ws en=>?_,fun q hq=>?_,r.R.kind⟩
  ·by_cases hn:n=i
   ·subst hn
    rw[List.getElem?_set_self hi]at en
    cases en
    exact⟨hl,a,ys,k,ea,List.mem_cons_of_mem _ Zz5,hv⟩
   ·rw[List.getElem?_set_ne (Ne.symm hn)]at en
    obtain⟨l,d,zs,j',g1,g2,g3⟩:=r.R.lists n ws en
    refine⟨l,d,zs,j',g1,Zdc g2 fun g2=>List.mem_cons_of_mem _ (List.mem_filter.mpr ⟨g2,?_⟩),g3⟩
    have:d≠a:=fun e=>by
     subst e
     exact hn ((List.getElem?_inj (Zz6.mp g1).1 r.R.nd).mp (g1.trans ea.symm))
    simpa using this
  ·refine Zdc (r.R.tups q hq) fun g2=>List.mem_cons_of_mem _ (List.mem_filter.mpr ⟨g2,?_⟩)
   have:q.1≠a:=fun e=>by
    obtain⟨zs,j',hk⟩:=r.R.kind q hq
    have g:=r.get (r.R.tups q hq)
    rw[e,hN.1,hk]at g
    have c:=congrArg Obj.cls (Option.some.inj g)
    exact absurd c (by simp)
   simpa using this
 ·refine Zz2 _ (List.mem_filter.mpr ⟨r.frIn q hq,?_⟩)
  have:q.1≠a:=fun e=>r.frOff q hq (e▸hm)
  simpa using this
 ·refine Zz2 _ (List.mem_filter.mpr ⟨r.clIn q hq,?_⟩)
  have:q.1≠a:=fun e=>r.clOff q hq (e▸hm)
  simpa using this
theorem Rep.change{Γ:Cx}{W:Wd}{ρ:Lc}{H:Hp}{fr:List (Addr×Obj)}{h h':Heap}{i:Nat}{a:Addr}{vs us:List V}{ys:List Value}{k:Nat}(r:Rep Γ W ρ H fr h)(i0:i≠0)(e:H[i]?=some vs)(ea:W.pi[i]?=some a)(sb:Heap.SameBut a h h')(ha:h'.get? a=some (Zbj ys k))(hv:VRs W us ys)(hl:us.length≤LEN):
  Rep Γ W ρ (H.set i us) fr h':=by
 obtain⟨m,c,led,r⟩:=r
 obtain⟨_,b,xs,j,h1,h2,h3⟩:=r.R.lists i vs e
 rw[ea]at h1
 cases h1
 have h2:=r.inLed i0 ea h2
 have hN:=r.N _ h2
 have keep:∀q∈led,q.1≠a→h'.get? q.1=some q.2:=fun q hq hn=>sb.extBut _ _ hn (r.N q hq).1
 refine r.changed (k:=k) i0 e ea ⟨r.F.ns.sameBut sb (Ne.symm hN.2.1),fun b o eb=>sb.extBut b o (fun q=>?_) (r.F.keep b o eb),r.F.above⟩ (fun q hq=>?_) hv hl
 ·subst q
  rw[hN.2.2]at eb
  cases eb
 ·rcases Zz7.mp hq with e | hq
  ·subst e
   exact⟨ha,hN.2⟩
  ·obtain⟨h1,h2⟩:=List.mem_filter.mp hq
   exact⟨keep q h1 (by simpa using h2),(r.N q h1).2⟩
theorem Rep.swap{Γ:Cx}{W:Wd}{ρ:Lc}{H:Hp}{fs fs' fr:List (Addr×Obj)}{h h':Heap}(r:Rep Γ W ρ H (fs++fr) h)(ap:∀q∈fs,∀t∈fr,q.1≠t.1)(keep:∀b o,b∉fs.map (·.1)→h.get? b=some o→h'.get? b=some o)(new:∀q∈fs',h'.get? q.1=some q.2∧q.1∈fs.map (·.1)): Rep Γ W ρ H (fs'++fr) h':=by
 obtain⟨m,c,led,r⟩:=r
 have inF:∀q∈fs,q∈fs++fr:=fun q hq=>List.mem_append_left _ hq
 have nL:∀a∈fs.map (·.1),a≠Γ.L∧Γ.h₀.get? a=none:=fun a ha=>by
  obtain⟨q,hq,e⟩:=Zz11.mp ha
  exact e▸(r.N q (r.frIn q (inF q hq))).2
 have kp:∀q∈led,q.1∉fs.map (·.1)→h'.get? q.1=some q.2:=fun q hq hn=>keep _ _ hn (r.N q hq).1
 refine⟨m,c,fs'++led.filter (fun q=>decide (q.1∉fs.map (·.1))),⟨⟨?_,fun b o e=>?_,r.F.above⟩,fun q hq=>?_,⟨r.R.len,r.R.nd,fun i vs e=>?_,fun q hq=>?_,r.R.kind⟩,r.sc,r.sc0,fun q hq=>?_,fun q hq=>?_,fun q hq=>?_,r.clOff,fun q hq t ht=>?_,fun q hq t ht=>?_,r.clTup,r.own⟩⟩
 ·obtain⟨o,es,ep,h1,h2⟩:=r.F.ns
  exact⟨o,es,ep,keep _ _ (fun q=>(nL _ q).1 rfl) h1,h2⟩
 ·refine keep b o (fun q=>?_) (r.F.keep b o e)
  rw[(nL b q).2]at e
  cases e
 ·rcases Zz8.mp hq with hq | hq
  ·obtain⟨h1,h2⟩:=new q hq
   exact⟨h1,nL _ h2⟩
  ·obtain⟨h1,h2⟩:=List.mem_filter.mp hq
   exact⟨kp q h1 (by simpa using h2),(r.N q h1).2⟩
 ·obtain⟨l,a,xs,k,h1,h2,h3⟩:=r.R.lists i vs e
  refine⟨l,a,xs,k,h1,Zdc h2 fun h2=>List.mem_append_right _ (List.mem_filter.mpr ⟨h2,?_⟩),h3⟩
  have:a∉fs.map (·.1):=fun q=>by
   obtain⟨t,ht,e⟩:=Zz11.mp q
   exact r.frOff t (inF t ht) (e▸List.mem_of_getElem? h1)
  simpa using this
 ·refine Zdc (r.R.tups q hq) fun h2=>List.mem_append_right _ (List.mem_filter.mpr ⟨h2,?_⟩)
  have:q.1∉fs.map (·.1):=fun z=>by
   obtain⟨t,ht,e⟩:=Zz11.mp z
   exact r.frTup t (inF t ht) q hq e
  simpa using this
 ·rcases Zz8.mp hq with hq | hq
  ·exact Zz4 _ hq
  ·refine Zz3 _ (List.mem_filter.mpr ⟨r.frIn q (Zz3 _ hq),?_⟩)
   have:q.1∉fs.map (·.1):=fun z=>by
    obtain⟨t,ht,e⟩:=Zz11.mp z
    exact ap t ht q hq e
   simpa using this
 ·rcases Zz8.mp hq with hq | hq
  ·obtain⟨t,ht,e⟩:=Zz11.mp (new q hq).2
   exact e▸r.frOff t (inF t ht)
  ·exact r.frOff q (Zz3 _ hq)
 ·refine Zz3 _ (List.mem_filter.mpr ⟨r.clIn q hq,?_⟩)
  have:q.1∉fs.map (·.1):=fun z=>by
   obtain⟨t,ht,e⟩:=Zz11.mp z
   exact r.apart q hq t (inF t ht) e.symm
  simpa using this
 ·rcases Zz8.mp ht with ht | ht
  ·obtain⟨u,hu,e⟩:=Zz11.mp (new t ht).2
   exact e▸r.apart q hq u (inF u hu)
  ·exact r.apart q hq t (Zz3 _ ht)
 ·rcases Zz8.mp hq with hq | hq
  ·obtain⟨u,hu,e⟩:=Zz11.mp (new q hq).2
   exact e▸r.frTup u (inF u hu) t ht
  ·exact r.frTup q (Zz3 _ hq) t ht
theorem Rep.more{Γ:Cx}{W:Wd}{ρ:Lc}{H:Hp}{fs fr:List (Addr×Obj)}{h h':Heap}(r:Rep Γ W ρ H fr h)(up:∀b o,h.get? b=some o→h'.get? b=some o)(new:∀q∈fs,h'.get? q.1=some q.2∧h.objs.size≤q.1): Rep Γ W ρ H (fs++fr) h'∧∀q∈fs,∀t∈fr,q.1≠t.1:=by
 have r':=r.grown up
 obtain⟨m,c,led,r⟩:=r
 have lt:∀q∈W.sc::led,q.1<h.objs.size:=fun q hq=>Heap.lt_size (r.get hq)
 have ne:∀q∈fs,∀t∈W.sc::led,q.1≠t.1:=fun q hq t ht=>Nat.ne_of_gt (Nat.lt_of_lt_of_le (lt t ht) (new q hq).2)
 refine⟨⟨m,c,fs++led,⟨⟨?_,fun b o e=>up b o (r.F.keep b o e),r.F.above⟩,fun q hq=>?_,r.R.mono fun q hq=>ZdU hq fun x hx=>List.mem_append_right _ hx,r.sc,r.sc0,fun q hq=>?_,fun q hq=>?_,fun q hq=>List.mem_append_right _ (r.clIn q hq),r.clOff,fun q hq t ht=>?_,fun q hq t ht=>?_,r.clTup,r.own⟩⟩,fun q hq t ht=>ne q hq t (Zz2 _ (r.frIn t ht))⟩
 ·obtain⟨o,es,ep,h1,h2⟩:=r.F.ns
  exact⟨o,es,ep,up _ _ h1,h2⟩
 ·rcases Zz8.mp hq with hq | hq
  ·obtain⟨h1,h2⟩:=new q hq
   refine⟨h1,fun e=>?_,?_⟩
   ·exact absurd (e▸r.F.ns.lt) (Nat.not_lt.mpr h2)
   ·cases e:Γ.h₀.get? q.1 with
    | none=>rfl
    | some o=>exact absurd (Heap.lt_size (r.F.keep _ _ e)) (Nat.not_lt.mpr h2)
  ·exact⟨up _ _ (r.N q hq).1,(r.N q hq).2⟩
 ·rcases Zz8.mp hq with hq | hq
  ·exact Zz4 _ hq
  ·exact Zz3 _ (r.frIn q hq)
 ·rcases Zz8.mp hq with hq | hq
  ·intro hm
   obtain⟨o,ho⟩:=r.piIn _ hm
   exact ne q hq _ ho rfl
  ·exact r.frOff q hq
 ·rcases Zz8.mp ht with ht | ht
  ·exact(ne t ht q (Zz2 _ (r.clIn q hq))).symm
  ·exact r.apart q hq t ht
 ·rcases Zz8.mp hq with hq | hq
  ·exact ne q hq t (r.R.tups t ht)
  ·exact r.frTup q hq t ht
theorem Rep.less{Γ:Cx}{W:Wd}{ρ:Lc}{H:Hp}{fs fr:List (Addr×Obj)}{h:Heap}(r:Rep Γ W ρ H fs h)(sub:∀q∈fr,q∈fs): Rep Γ W ρ H fr h:=by
 obtain⟨m,c,led,r⟩:=r
 exact⟨m,c,led,⟨r.F,r.N,r.R,r.sc,r.sc0,fun q hq=>r.frIn q (sub q hq),fun q hq=>r.frOff q (sub q hq),r.clIn,r.clOff,fun q hq t ht=>r.apart q hq t (sub t ht),fun q hq=>r.frTup q (sub q hq),r.clTup,r.own⟩⟩
theorem Rep.frAt{Γ:Cx}{W:Wd}{ρ:Lc}{H:Hp}{fr:List (Addr×Obj)}{h:Heap}{q:Addr×Obj}(r:Rep Γ W ρ H fr h)(hq:q∈fr): h.get? q.1=some q.2:=by
 obtain⟨m,c,led,r⟩:=r
 exact(r.N q (r.frIn q hq)).1
end PM
end
section
set_option autoImplicit false
namespace PM
open PySem PyProof.Rows PyProof
noncomputable abbrev Ex:=Lc→Hp→Option (V×Hp)
noncomputable abbrev Exs:=Lc→Hp→Option (List V×Hp)
noncomputable abbrev Ts:=Lc→Hp→Option (Bool×Hp)
noncomputable abbrev ZeP(Γ:Cx)(W:Wd)(ρ:Lc)(H:Hp)(fr:List (Addr×Obj))(s:Shared)(Q:Value→Shared→Prop)(v:V): Prop:=
 ∀(W':Wd) (h':Heap) (tk':Nat) (x:Value),W.Le W'→Rep Γ W' ρ H fr h'→VR W' v x→Q x { s with heap:=h',toks:=tk' }
noncomputable abbrev Zf6(Γ:Cx)(W:Wd)(ρ:Lc)(H:Hp)(fr:List (Addr×Obj))(s:Shared)(Q:Bool→Shared→Prop)(b:Bool): Prop:=
 ∀(W':Wd) (h':Heap) (tk':Nat),W.Le W'→Rep Γ W' ρ H fr h'→Q b { s with heap:=h',toks:=tk' }
section
variable (prog:Program) (w:World)
noncomputable def J(Γ:Cx)(e:Expr)(f:Ex): Prop:=∀(W:Wd) (ρ:Lc) (H:Hp) (fr:List (Addr×Obj)) (s:Shared) (Q E:Value→Shared→Prop) (v:V) (H':Hp),
 Rep Γ W ρ H fr s.heap→f ρ H=some (v,H')→ZeP Γ W ρ H' fr s Q v→wpAny (model prog w) Γ.A (eval e Γ.env) Q E s
noncomputable def Js(Γ:Cx)(es:List Expr)(f:Exs): Prop:=∀(pos:Pos) (W:Wd) (ρ:Lc) (H:Hp) (fr:List (Addr×Obj)) (s:Shared) (Q:List Value→Shared→Prop) (E:Value→Shared→Prop) (vs:List V) (H':Hp),
 Rep Γ W ρ H fr s.heap→f ρ H=some (vs,H')→(∀(W':Wd) (h':Heap) (tk':Nat) (xs:List Value),W.Le W'→Rep Γ W' ρ H' fr h'→VRs W' vs xs→Q xs { s with heap:=h',toks:=tk' })→wpAny (model prog w) Γ.A (spliced (backTo pos (starEach es Γ.env))) Q E s
noncomputable def JT(Γ:Cx)(e:Expr)(f:Ts): Prop:=∀(W:Wd) (ρ:Lc) (H:Hp) (fr:List (Addr×Obj)) (s:Shared) (Q:Bool→Shared→Prop) (E:Value→Shared→Prop) (b:Bool) (H':Hp),
 Rep Γ W ρ H fr s.heap→f ρ H=some (b,H')→Zf6 Γ W ρ H' fr s Q b→wpAny (model prog w) Γ.A (isTrue e Γ.env (eval e Γ.env)) Q E s
noncomputable def Op2(m:Value→Value→Sem Value)(o:V→V→Hp→Option (V×Hp)): Prop:=∀(Γ:Cx) (W:Wd) (ρ:Lc) (H:Hp) (fr:List (Addr×Obj)) (s:Shared) (Q E:Value→Shared→Prop) (a b:V) (x y:Value) (v:V) (H':Hp),
 Rep Γ W ρ H fr s.heap→VR W a x→VR W b y→o a b H=some (v,H')→ZeP Γ W ρ H' fr s Q v→wpAny (model prog w) Γ.A (m x y) Q E s
noncomputable def Op1(m:Value→Sem Value)(o:V→Hp→Option (V×Hp)): Prop:=∀(Γ:Cx) (W:Wd) (ρ:Lc) (H:Hp) (fr:List (Addr×Obj)) (s:Shared) (Q E:Value→Shared→Prop) (a:V) (x:Value) (v:V) (H':Hp),
 Rep Γ W ρ H fr s.heap→VR W a x→o a H=some (v,H')→ZeP Γ W ρ H' fr s Q v→wpAny (model prog w) Γ.A (m x) Q E s
noncomputable def OpT(m:Value→Sem Bool)(o:V→Hp→Option Bool): Prop:=∀(Γ:Cx) (W:Wd) (ρ:Lc) (H:Hp) (fr:List (Addr×Obj)) (s:Shared) (Q:Bool→Shared→Prop) (E:Value→Shared→Prop) (a:V) (x:Value) (b:Bool),
 Rep Γ W ρ H fr s.heap→VR W a x→o a H=some b→Zf6 Γ W ρ H fr s Q b→wpAny (model prog w) Γ.A (m x) Q E s
end
noncomputable def Zj(k:Int): Ex:=fun _ H=>some (.int k,H)
noncomputable def ZU: Ex:=fun _ H=>some (.none,H)
noncomputable def Zba(b:Bool): Ex:=fun _ H=>some (.bool b,H)
noncomputable def Za(i:Nat): Ex:=fun ρ H=>(ρ i).map fun v=>(v,H)
noncomputable def Zd(o:V→V→Hp→Option (V×Hp))(f g:Ex): Ex:=fun ρ H=>(f ρ H).bind fun p=>(g ρ p.2).bind fun q=>o p.1 q.1 q.2
noncomputable def eUn(o:V→Hp→Option (V×Hp))(f:Ex): Ex:=fun ρ H=>(f ρ H).bind fun p=>o p.1 p.2
noncomputable def eIf(t:Ts)(f g:Ex): Ex:=fun ρ H=>(t ρ H).bind fun p=>if p.1 then f ρ p.2 else g ρ p.2
noncomputable def Zn: Exs:=fun _ H=>some ([],H)
noncomputable def Zf(f:Ex)(g:Exs): Exs:=fun ρ H=>(f ρ H).bind fun p=>(g ρ p.2).bind fun q=>some (p.1::q.1,q.2)
noncomputable def Zax(g:Exs): Ex:=fun ρ H=>(g ρ H).bind fun p=>if p.1.length≤LEN then some (.tup p.1,p.2)else none
noncomputable def ZbP(g:Exs): Ex:=fun ρ H=>(g ρ H).bind fun p=>if p.1.length≤LEN then some (.ref p.2.length,p.2++[p.1])else none
noncomputable def Zb4: V→Hp→Option Bool
 | .bool b,_=>some b
 | .int i,_=>some (i != 0)
 | .none,_=>some false
 | _,_=>none
noncomputable def ZE(f:Ex): Ts:=fun ρ H=>(f ρ H).bind fun p=>(Zb4 p.1 p.2).map fun b=>(b,p.2)
noncomputable def Zbk(t:Ts): Ts:=fun ρ H=>(t ρ H).map fun p=>(!p.1,p.2)
noncomputable def Zaq: Ts:=fun _ H=>some (true,H)
noncomputable def Zbx: Ts:=fun _ H=>some (false,H)
noncomputable def Za7(t u:Ts): Ts:=fun ρ H=>(t ρ H).bind fun p=>if p.1 then u ρ p.2 else some (false,p.2)
noncomputable def tOr(t u:Ts): Ts:=fun ρ H=>(t ρ H).bind fun p=>if p.1 then some (true,p.2)else u ρ p.2
noncomputable def tIf(t u v:Ts): Ts:=fun ρ H=>(t ρ H).bind fun p=>if p.1 then u ρ p.2 else v ρ p.2
noncomputable def Zgg(f:Ex): Ex:=fun ρ H=>(f ρ H).bind fun p=>(Zb4 p.1 p.2).map fun b=>(.bool (!b),p.2)
noncomputable def Zdd(f g:Ex): Ex:=fun ρ H=>(f ρ H).bind fun p=>(Zb4 p.1 p.2).bind fun b=>if b then g ρ p.2 else some p
noncomputable def eOr(f g:Ex): Ex:=fun ρ H=>(f ρ H).bind fun p=>(Zb4 p.1 p.2).bind fun b=>if b then some p else g ρ p.2
section
variable {prog:Program} {w:World} {Γ:Cx}
theorem J.int(k:Int)(n:Nat)(pos:Pos): J prog w Γ (.Constant (.int k) n pos) (Zj k):=fun W ρ H fr s Q E v H' r e post=>by
 cases e
 exact wpAny_Constant_int (post W s.heap _ _ (.refl W) r (.int k _))
theorem J.none(n:Nat)(pos:Pos): J prog w Γ (.Constant .none n pos) ZU:=fun W ρ H fr s Q E v H' r e post=>by
 cases e
 exact wpAny_Constant_none (post W s.heap s.toks _ (.refl W) r .none)
theorem J.bool(b:Bool)(n:Nat)(pos:Pos): J prog w Γ (.Constant (.bool b) n pos) (Zba b):=fun W ρ H fr s Q E v H' r e post=>by
 cases e
 exact wpAny_Constant_bool (post W s.heap s.toks _ (.refl W) r (.bool b))
theorem ZH{e1 e2:Expr}{op:Operator}{pos:Pos}{f g:Ex}{o:V→V→Hp→Option (V×Hp)}(h1:J prog w Γ e1 f)(h2:J prog w Γ e2 g)(ho:Op2 prog w (binaryOp op) o): J prog w Γ (.BinOp e1 op e2 pos) (Zd o f g):=by
 intro W ρ H fr s Q E v H' r hf post
 obtain⟨p,e1,hf⟩:=Zz0.mp hf
 obtain⟨q,e2,e3⟩:=Zz0.mp hf
 refine wpAny_BinOp (h1 W ρ H fr s _ E _ _ r e1 fun W1 k1 t1 x l1 r1 x1=>?_)
 refine h2 W1 ρ _ fr _ _ E _ _ r1 e2 fun W2 k2 t2 y l2 r2 y2=>?_
 exact ho Γ W2 ρ _ fr _ Q E _ _ x y v H' r2 (x1.mono l2) y2 e3 fun W3 k3 t3 z l3 r3 z3=>post W3 k3 t3 z ((l1.trans l2).trans l3) r3 z3
theorem ZcC{e1 e2:Expr}{op:CmpOp}{pos:Pos}{f g:Ex}{o:V→V→Hp→Option (V×Hp)}(h1:J prog w Γ e1 f)(h2:J prog w Γ e2 g)(ho:Op2 prog w (compareOp op) o)(hm:behindInMarks op e2=false:=by with_unfolding_all rfl): J prog w Γ (.Compare e1 [op] [e2] pos) (Zd o f g):=by
 intro W ρ H fr s Q E v H' r hf post
 obtain⟨p,e1,hf⟩:=Zz0.mp hf
 obtain⟨q,e2,e3⟩:=Zz0.mp hf
 refine wpAny_Compare1 (h1 W ρ H fr s _ E _ _ r e1 fun W1 k1 t1 x l1 r1 x1=>?_) hm
 refine h2 W1 ρ _ fr _ _ E _ _ r1 e2 fun W2 k2 t2 y l2 r2 y2=>?_
 exact ho Γ W2 ρ _ fr _ Q E _ _ x y v H' r2 (x1.mono l2) y2 e3 fun W3 k3 t3 z l3 r3 z3=>post W3 k3 t3 z ((l1.trans l2).trans l3) r3 z3
theorem Zgh{e1:Expr}{op:UnaryOp}{pos:Pos}{f:Ex}{o:V→Hp→Option (V×Hp)}(h1:J prog w Γ e1 f)(ho:Op1 prog w (unaryOp op) o): J prog w Γ (.UnaryOp op e1 pos) (eUn o f):=by
 intro W ρ H fr s Q E v H' r hf post
 obtain⟨p,e1,hf⟩:=Zz0.mp hf
 refine wpAny_UnaryOp (h1 W ρ H fr s _ E _ _ r e1 fun W1 k1 t1 x l1 r1 x1=>?_)
 exact ho Γ W1 ρ _ fr _ Q E _ x v H' r1 x1 hf fun W3 k3 t3 z l3 r3 z3=>post W3 k3 t3 z (l1.trans l3) r3 z3
theorem Zdr: OpT prog w truthy Zb4:=by
 intro Γ W ρ H fr s Q E a x b r hx ho post
 cases hx with
 | none=>cases ho;exact truthy_none (post W s.heap s.toks (.refl W) r)
 | bool c=>cases ho;exact fun _ _ _=>post W s.heap s.toks (.refl W) r
 | int i t=>cases ho;exact P.truthy_int (post W s.heap s.toks (.refl W) r)
 | str _ _=>cases ho
 | tup _ _ _=>cases ho
 | ref _=>cases ho
theorem Zqk{e1:Expr}{pos:Pos}{f:Ex}(h1:J prog w Γ e1 f): J prog w Γ (.UnaryOp .Not e1 pos) (Zgg f):=by
 intro W ρ H fr s Q E v H' r hf post
 obtain⟨p,e1,hf⟩:=Zz0.mp hf
 obtain⟨b,e2,e3⟩:=Zz1.mp hf
 cases e3
 refine wpAny_UnaryOp (h1 W ρ H fr s _ E _ _ r e1 fun W1 k1 t1 x l1 r1 x1=>?_)
 exact not_of (Zdr Γ W1 ρ _ fr _ _ E _ x b r1 x1 e2 fun W2 k2 t2 l2 r2=>post W2 k2 t2 _ (l1.trans l2) r2 (.bool _))
theorem Zf7{e1 e2:Expr}{pos:Pos}{f g:Ex}(h1:J prog w Γ e1 f)(h2:J prog w Γ e2 g): J prog w Γ (.BoolOp .And [e1,e2] pos) (Zdd f g):=by
 intro W ρ H fr s Q E v H' r hf post
 obtain⟨p,e1,hf⟩:=Zz0.mp hf
 obtain⟨b,e2,e3⟩:=Zz0.mp hf
 refine wpAny_And2 (h1 W ρ H fr s _ E _ _ r e1 fun W1 k1 t1 x l1 r1 x1=>?_)
 refine Zdr Γ W1 ρ _ fr _ _ E _ x b r1 x1 e2 fun W2 k2 t2 l2 r2=>?_
 cases b with
 | true=>exact h2 W2 ρ _ fr _ Q E v H' r2 e3 fun W3 k3 t3 z l3 r3 z3=>post W3 k3 t3 z ((l1.trans l2).trans l3) r3 z3
 | false=>
  cases e3
  exact post W2 k2 t2 x (l1.trans l2) r2 (x1.mono l2)
theorem ZqI{e1 e2:Expr}{pos:Pos}{f g:Ex}(h1:J prog w Γ e1 f)(h2:J prog w Γ e2 g): J prog w Γ (.BoolOp .Or [e1,e2] pos) (eOr f g):=by
 intro W ρ H fr s Q E v H' r hf post
 obtain⟨p,e1,hf⟩:=Zz0.mp hf
 obtain⟨b,e2,e3⟩:=Zz0.mp hf
 refine wpAny_Or2 (h1 W ρ H fr s _ E _ _ r e1 fun W1 k1 t1 x l1 r1 x1=>?_)
 refine Zdr Γ W1 ρ _ fr _ _ E _ x b r1 x1 e2 fun W2 k2 t2 l2 r2=>?_
 cases b with
 | false=>exact h2 W2 ρ _ fr _ Q E v H' r2 e3 fun W3 k3 t3 z l3 r3 z3=>post W3 k3 t3 z ((l1.trans l2).trans l3) r3 z3
 | true=>
  cases e3
  exact post W2 k2 t2 x (l1.trans l2) r2 (x1.mono l2)
theorem ZeJ{t e1 e2:Expr}{pos:Pos}{u:Ts}{f g:Ex}(ht:JT prog w Γ t u)(h1:J prog w Γ e1 f)(h2:J prog w Γ e2 g): J prog w Γ (.IfExp t e1 e2 pos) (eIf u f g):=by
 intro W ρ H fr s Q E v H' r hf post
 obtain⟨p,e1,hf⟩:=Zz0.mp hf
 refine wpAny_IfExp (ht W ρ H fr s _ E _ _ r e1 fun W1 k1 t1 l1 r1=>?_)
 obtain⟨b,H1⟩:=p
 cases b with
 | true=>exact h1 W1 ρ _ fr _ Q E v H' r1 hf fun W3 k3 t3 z l3 r3 z3=>post W3 k3 t3 z (l1.trans l3) r3 z3
 | false=>exact h2 W1 ρ _ fr _ Q E v H' r1 hf fun W3 k3 t3 z l3 r3 z3=>post W3 k3 t3 z (l1.trans l3) r3 z3
theorem Zp: Js prog w Γ [] Zn:=fun pos W ρ H fr s Q E vs H' r hf post=>by
 cases hf
 exact wpAny_items_nil (post W s.heap s.toks [] (.refl W) r .nil)
theorem Zol{e:Expr}{es:List Expr}{f:Ex}{g:Exs}(h1:J prog w Γ e f)(h2:Js prog w Γ es g)(he:starEach (e::es) Γ.env=(false,eval e Γ.env)::starEach es Γ.env:=by rfl): Js prog w Γ (e::es) (Zf f g):=by
 intro pos W ρ H fr s Q E vs H' r hf post
 obtain⟨p,e1,hf⟩:=Zz0.mp hf
 obtain⟨q,e2,e3⟩:=Zz0.mp hf
 cases e3
 refine wpAny_items_cons (h1 W ρ H fr s _ E _ _ r e1 fun W1 k1 t1 x l1 r1 x1=>?_) he
 exact h2 pos W1 ρ _ fr _ _ E _ _ r1 e2 fun W2 k2 t2 ys l2 r2 y2=>post W2 k2 t2 _ (l1.trans l2) r2 (.cons (x1.mono l2) y2)
theorem J.tup{es:List Expr}{k:Nat}{pos:Pos}{g:Exs}(h:Js prog w Γ es g): J prog w Γ (.Tuple es k pos) (Zax g):=by
 intro W ρ H fr s Q E v H' r hf post
 obtain⟨p,e1,hf⟩:=Zz0.mp hf
 by_cases hl:p.1.length≤LEN
 ·rw[if_pos hl]at hf
  cases hf
  refine wpAny_Tuple (h pos W ρ H fr s _ E _ _ r e1 fun W1 k1 t1 xs l1 r1 x1=>⟨ZcZ (by rw[x1.length];exact hl),?_⟩)
  obtain⟨W2,l2,r2,v2⟩:=r1.tuple (k:=0) x1 hl
  exact post W2 _ _ _ (l1.trans l2) r2 v2
 ·rw[if_neg hl]at hf
  cases hf
theorem J.list{es:List Expr}{pos:Pos}{g:Exs}(h:Js prog w Γ es g): J prog w Γ (.List es pos) (ZbP g):=by
 intro W ρ H fr s Q E v H' r hf post
 obtain⟨p,e1,hf⟩:=Zz0.mp hf
 by_cases hl:p.1.length≤LEN
 ·rw[if_pos hl]at hf
  cases hf
  refine wpAny_List (h pos W ρ H fr s _ E _ _ r e1 fun W1 k1 t1 xs l1 r1 x1=>⟨ZcZ (by rw[x1.length];exact hl),?_⟩)
  obtain⟨W2,l2,r2,v2⟩:=r1.list (k:=0) x1 hl
  exact post W2 _ _ _ (l1.trans l2) r2 v2
 ·rw[if_neg hl]at hf
  cases hf
theorem Zby{e:Expr}{pos:Pos}{t:Ts}(h:JT prog w Γ e t): JT prog w Γ (.UnaryOp .Not e pos) (Zbk t):=by
 intro W ρ H fr s Q E b H' r hf post
 obtain⟨p,e1,e2⟩:=Zz1.mp hf
 cases e2
 exact isTrue_not (h W ρ H fr s _ E _ _ r e1 post)
noncomputable def JA(prog:Program)(w:World)(Γ:Cx)(op:BoolOp)(es:List Expr)(f:Ts): Prop:=∀(W:Wd) (ρ:Lc) (H:Hp) (fr:List (Addr×Obj)) (s:Shared) (Q:Bool→Shared→Prop) (E:Value→Shared→Prop) (b:Bool) (H':Hp),
 Rep Γ W ρ H fr s.heap→f ρ H=some (b,H')→Zf6 Γ W ρ H' fr s Q b→wpAny (model prog w) Γ.A (allTrue op es Γ.env) Q E s
theorem ZcY: JA prog w Γ .And [] Zaq:=fun W ρ H fr s Q E b H' r hf post=>by
 cases hf
 exact wpAny_allTrue_And_nil (post W s.heap s.toks (.refl W) r)
theorem Zb1: JA prog w Γ .Or [] Zbx:=fun W ρ H fr s Q E b H' r hf post=>by
 cases hf
 exact wpAny_allTrue_Or_nil (post W s.heap s.toks (.refl W) r)
theorem Zbr{e:Expr}{es:List Expr}{t u:Ts}(h1:JT prog w Γ e t)(h2:JA prog w Γ .And es u): JA prog w Γ .And (e::es) (Za7 t u):=by
 intro W ρ H fr s Q E b H' r hf post
 obtain⟨p,e1,hf⟩:=Zz0.mp hf
 refine wpAny_allTrue_And_cons (h1 W ρ H fr s _ E _ _ r e1 fun W1 k1 t1 l1 r1=>?_)
 obtain⟨c,H1⟩:=p
 cases c with
 | true=>exact h2 W1 ρ _ fr _ Q E b H' r1 hf fun W3 k3 t3 l3 r3=>post W3 k3 t3 (l1.trans l3) r3
 | false=>
  cases hf
  exact post W1 k1 t1 l1 r1
theorem ZaF{e:Expr}{es:List Expr}{t u:Ts}(h1:JT prog w Γ e t)(h2:JA prog w Γ .Or es u): JA prog w Γ .Or (e::es) (tOr t u):=by
 intro W ρ H fr s Q E b H' r hf post
 obtain⟨p,e1,hf⟩:=Zz0.mp hf
 refine wpAny_allTrue_Or_cons (h1 W ρ H fr s _ E _ _ r e1 fun W1 k1 t1 l1 r1=>?_)
 obtain⟨c,H1⟩:=p
 cases c with
 | false=>exact h2 W1 ρ _ fr _ Q E b H' r1 hf fun W3 k3 t3 l3 r3=>post W3 k3 t3 (l1.trans l3) r3
 | true=>
  cases hf
  exact post W1 k1 t1 l1 r1
theorem Za1{op:BoolOp}{es:List Expr}{pos:Pos}{t:Ts}(h:JA prog w Γ op es t): JT prog w Γ (.BoolOp op es pos) t:=fun W ρ H fr s Q E b H' r hf post=>wpAny_isTrue_BoolOp (h W ρ H fr s Q E b H' r hf post)
theorem Zbd{e:Expr}{f:Ex}(h:J prog w Γ e f)(he:isTrue e Γ.env (eval e Γ.env)=(do let v ←eval e Γ.env;standAt e.pos;holding [v] (truthy v)):=by rfl): JT prog w Γ e (ZE f):=by
 intro W ρ H fr s Q E b H' r hf post
 obtain⟨p,e1,hf⟩:=Zz0.mp hf
 obtain⟨c,e2,e3⟩:=Zz1.mp hf
 cases e3
 refine isTrue_plain (h W ρ H fr s _ E _ _ r e1 fun W1 k1 t1 x l1 r1 x1=>?_) he
 exact Zdr Γ W1 ρ _ fr _ _ E _ x b r1 x1 e2 fun W2 k2 t2 l2 r2=>post W2 k2 t2 (l1.trans l2) r2
theorem ZW{e1 e2:Expr}{op:CmpOp}{pos:Pos}{f g:Ex}{o:V→V→Hp→Option (V×Hp)}(h1:J prog w Γ e1 f)(h2:J prog w Γ e2 g)(ho:Op2 prog w (compareOp op) o)(hm:behindInMarks op e2=false:=by with_unfolding_all rfl): JT prog w Γ (.Compare e1 [op] [e2] pos) (ZE (Zd o f g)):=by
 intro W ρ H fr s Q E b H' r hf post
 obtain⟨pp,e0,hf0⟩:=Zz0.mp hf
 obtain⟨c,e4,e5⟩:=Zz1.mp hf0
 cases e5
 obtain⟨p,e1,hf⟩:=Zz0.mp e0
 obtain⟨q,e2,e3⟩:=Zz0.mp hf
 refine wpAny_isTrue_Compare1 (h1 W ρ H fr s _ E _ _ r e1 fun W1 k1 t1 x l1 r1 x1=>?_) hm
 refine h2 W1 ρ _ fr _ _ E _ _ r1 e2 fun W2 k2 t2 y l2 r2 y2=>?_
 refine ho Γ W2 ρ _ fr _ _ E _ _ x y _ _ r2 (x1.mono l2) y2 e3 fun W3 k3 t3 z l3 r3 z3=>?_
 exact Zdr Γ W3 ρ _ fr _ _ E _ z b r3 z3 e4 fun W4 k4 t4 l4 r4=>post W4 k4 t4 (((l1.trans l2).trans l3).trans l4) r4
theorem ZqQ{t e1 e2:Expr}{pos:Pos}{u f g:Ts}(ht:JT prog w Γ t u)(h1:JT prog w Γ e1 f)(h2:JT prog w Γ e2 g): JT prog w Γ (.IfExp t e1 e2 pos) (tIf u f g):=by
 intro W ρ H fr s Q E v H' r hf post
 obtain⟨p,e1,hf⟩:=Zz0.mp hf
 refine isTrue_IfExp (ht W ρ H fr s _ E _ _ r e1 fun W1 k1 t1 l1 r1=>?_)
 obtain⟨b,H1⟩:=p
 cases b with
 | true=>exact h1 W1 ρ _ fr _ Q E v H' r1 hf fun W3 k3 t3 l3 r3=>post W3 k3 t3 (l1.trans l3) r3
 | false=>exact h2 W1 ρ _ fr _ Q E v H' r1 hf fun W3 k3 t3 l3 r3=>post W3 k3 t3 (l1.trans l3) r3
end
end PM
end
section
set_option autoImplicit false
namespace PM
open PySem PyProof.Rows PyProof
noncomputable def mulOk(a b:Int): Bool:=!(decide (Builtin.Int.intBits a>shortFactorBits) && decide (Builtin.Int.intBits b>shortFactorBits) && Builtin.Int.intTooBig (Builtin.Int.intBits a+Builtin.Int.intBits b))
theorem ZnE{a b:Int}(h:mulOk a b=true): IntMulOk a b:=by
 unfold mulOk at h
 unfold IntMulOk
 intro c
 rw[c]at h
 cases h
noncomputable def ZbU: V→V→Hp→Option (V×Hp)
 | .int a,.int b,H=>some (.int (a-b),H)
 | _,_,_=>none
noncomputable def oDiv: V→V→Hp→Option (V×Hp)
 | .int a,.int b,H=>if b≠0∧Builtin.divisionGoesByPylong a b=false then some (.int (a.fdiv b),H)else none
 | _,_,_=>none
noncomputable def oMod: V→V→Hp→Option (V×Hp)
 | .int a,.int b,H=>if b≠0 then some (.int (a.fmod b),H)else none
 | _,_,_=>none
noncomputable def oPow: V→V→Hp→Option (V×Hp)
 | .int a,.int b,H=>if 0≤b∧(Builtin.Int.intBits a:Int)*b≤2 ^ 27 then some (.int (a ^ b.toNat),H)else none
 | _,_,_=>none
noncomputable def ZdW: V→Hp→Option (V×Hp)
 | .int a,H=>some (.int (-a),H)
 | _,_=>none
noncomputable def Zgi(p:Int→Int→Bool): V→V→Hp→Option (V×Hp)
 | .int a,.int b,H=>some (.bool (p a b),H)
 | _,_,_=>none
noncomputable def oLt:=Zgi fun a b=>decide (a<b)
noncomputable def oLe:=Zgi fun a b=>decide (a≤b)
noncomputable def oGt:=Zgi fun a b=>decide (b<a)
section
variable {prog:Program} {w:World}
theorem Zcf: Op2 prog w (binaryOp .Sub) ZbU:=by
 intro Γ W ρ H fr s Q E a b x y v H' r hx hy ho post
 cases hx <;> first | (cases ho;done) | skip
 cases hy <;> first | (cases ho;done) | skip
 cases ho
 exact PySem.P.sub_int (post W s.heap _ _ (.refl W) r (.int _ _))
theorem Za3: Op2 prog w (binaryOp .Mod) oMod:=by
 intro Γ W ρ H fr s Q E a b x y v H' r hx hy ho post
 cases hx <;> first | (cases ho;done) | skip
 cases hy <;> first | (cases ho;done) | skip
 rename_i i t j u
 simp only[oMod]at ho
 by_cases hb:j≠0
 ·rw[if_pos hb]at ho
  cases ho
  exact mod_int' hb (post W s.heap _ _ (.refl W) r (.int _ _))
 ·rw[if_neg hb]at ho
  cases ho
theorem ZdO: Op2 prog w (binaryOp .FloorDiv) oDiv:=by
 intro Γ W ρ H fr s Q E a b x y v H' r hx hy ho post
 cases hx <;> first | (cases ho;done) | skip
 cases hy <;> first | (cases ho;done) | skip
 rename_i i t j u
 simp only[oDiv]at ho
 by_cases hb:j≠0∧Builtin.divisionGoesByPylong i j=false
 ·rw[if_pos hb]at ho
  cases ho
  exact floordiv_int hb.1 (post W s.heap _ _ (.refl W) r (.int _ _)) (.inl hb.2)
 ·rw[if_neg hb]at ho
  cases ho
theorem Zi0: Op2 prog w (binaryOp .Pow) oPow:=by
 intro Γ W ρ H fr s Q E a b x y v H' r hx hy ho post
 cases hx <;> first | (cases ho;done) | skip
 cases hy <;> first | (cases ho;done) | skip
 rename_i i t j u
 simp only[oPow]at ho
 by_cases hb:0≤j∧(Builtin.Int.intBits i:Int)*j≤2 ^ 27
 ·rw[if_pos hb]at ho
  cases ho
  exact pow_int hb.1 hb.2 (post W s.heap _ _ (.refl W) r (.int _ _))
 ·rw[if_neg hb]at ho
  cases ho
theorem ZfP: Op1 prog w (unaryOp .USub) ZdW:=by
 intro Γ W ρ H fr s Q E a x v H' r hx ho post
 cases hx <;> first | (cases ho;done) | skip
 cases ho
 exact PySem.P.neg_int (post W s.heap _ _ (.refl W) r (.int _ _))
theorem ZcN: Op2 prog w (compareOp .Lt) oLt:=by
 intro Γ W ρ H fr s Q E a b x y v H' r hx hy ho post
 cases hx <;> first | (cases ho;done) | skip
 cases hy <;> first | (cases ho;done) | skip
 cases ho
 exact PySem.P.lt_int (post W s.heap s.toks _ (.refl W) r (.bool _))
theorem Zjd: Op2 prog w (compareOp .LtE) oLe:=by
 intro Γ W ρ H fr s Q E a b x y v H' r hx hy ho post
 cases hx <;> first | (cases ho;done) | skip
 cases hy <;> first | (cases ho;done) | skip
 cases ho
 exact PySem.P.le_int (post W s.heap s.toks _ (.refl W) r (.bool _))
theorem Zje: Op2 prog w (compareOp .Gt) oGt:=by
 intro Γ W ρ H fr s Q E a b x y v H' r hx hy ho post
 cases hx <;> first | (cases ho;done) | skip
 cases hy <;> first | (cases ho;done) | skip
 cases ho
 exact PySem.P.gt_int (post W s.heap s.toks _ (.refl W) r (.bool _))
end
end PM
end
section
set_option autoImplicit false
namespace PM
open PySem PyProof.Rows PyProof
noncomputable def ZdX(f:V→Option PyData): List V→Option (List PyData)
 | []=>some []
 | v::vs=>(f v).bind fun d=>(ZdX f vs).bind fun ds=>some (d::ds)
noncomputable def toD(H:Hp): Nat→V→Option PyData
 | _,.none=>some .none
 | _,.bool b=>some (.bool b)
 | _,.int i=>some (.int i)
 | _,.str x=>some (.str x)
 | n+1,.tup vs=>(ZdX (toD H n) vs).map .tuple
 | n+1,.ref a=>H[a]?.bind fun vs=>(ZdX (toD H n) vs).map .list
 | 0,.tup _=>none
 | 0,.ref _=>none
theorem Zhz{W:Wd}{h:Heap}{f:V→Option PyData}(ih:∀v x d,VR W v x→f v=some d→∃as,Reads h x d as): ∀{vs:List V} {xs:List Value} {ds:List PyData},VRs W vs xs→ZdX f vs=some ds→∃as,ReadsAll h xs ds as
 | _,_,_,.nil,e=>by
  cases e
  exact⟨_,.nil⟩
 | _,_,_,.cons a r,e=>by
  obtain⟨d,e1,e⟩:=Zz0.mp e
  obtain⟨ds,e2,e3⟩:=Zz0.mp e
  cases e3
  obtain⟨as,h1⟩:=ih _ _ _ a e1
  obtain⟨bs,h2⟩:=Zhz ih r e2
  exact⟨_,.cons h1 h2⟩
theorem ZdG{Γ:Cx}{W:Wd}{ρ:Lc}{H:Hp}{fr:List (Addr×Obj)}{h:Heap}(r:Rep Γ W ρ H fr h): ∀(n:Nat) (v:V) (x:Value) (d:PyData),VR W v x→toD H n v=some d→∃as,Reads h x d as:=by
 intro n
 induction n with
 | zero=>
  intro v x d hv e
  cases hv with
  | none=>cases e;exact⟨_,.none⟩
  | bool b=>cases e;exact⟨_,.bool b⟩
  | int i t=>cases e;exact⟨_,.int i t⟩
  | str y t=>cases e;exact⟨_,.str y t⟩
  | tup _ _ _=>cases e
  | ref _=>cases e
 | succ n ih=>
  intro v x d hv e
  cases hv with
  | none=>cases e;exact⟨_,.none⟩
  | bool b=>cases e;exact⟨_,.bool b⟩
  | int i t=>cases e;exact⟨_,.int i t⟩
  | str y t=>cases e;exact⟨_,.str y t⟩
  | @tup vs a xs k hm hl hs=>
   obtain⟨ds,e1,e2⟩:=Zz1.mp e
   subst e2
   obtain⟨as,h1⟩:=Zhz ih hs e1
   exact⟨_,.tuple (r.tupAt hm) rfl rfl (by simpa using h1)⟩
  | @ref i a ea=>
   obtain⟨vs,e0,e⟩:=Zz0.mp e
   obtain⟨ds,e1,e2⟩:=Zz1.mp e
   subst e2
   obtain⟨hl,xs,k,hg,hs⟩:=r.at e0 ea
   obtain⟨as,h1⟩:=Zhz ih hs e1
   exact⟨_,.list hg rfl rfl (by simpa using h1)⟩
noncomputable def Zbb: Nat:=8
noncomputable def Zgj(a b:V)(H:Hp): Option Bool:=(toD H Zbb a).bind fun d=>(toD H Zbb b).bind fun e=>if SeqAt.shaped d=true∧SeqAt.shaped e=true then some (PyData.eqv d e)else none
noncomputable def oEq(a b:V)(H:Hp): Option (V×Hp):=(Zgj a b H).map fun c=>(.bool c,H)
noncomputable def oNe(a b:V)(H:Hp): Option (V×Hp):=(Zgj a b H).map fun c=>(.bool (!c),H)
noncomputable def oIs: V→V→Hp→Option (V×Hp)
 | .none,.none,H=>some (.bool true,H)
 | .bool _,.none,H=>some (.bool false,H)
 | .int _,.none,H=>some (.bool false,H)
 | .str _,.none,H=>some (.bool false,H)
 | .tup _,.none,H=>some (.bool false,H)
 | .ref _,.none,H=>some (.bool false,H)
 | _,_,_=>none
noncomputable def Zb5(a b:V)(H:Hp): Option (V×Hp):=(oIs a b H).bind fun p=>match p.1 with | .bool c=>some (.bool (!c),p.2) | _=>none
section
variable {prog:Program} {w:World}
theorem Zbf: Op2 prog w (compareOp .Eq) oEq:=by
 intro Γ W ρ H fr s Q E a b x y v H' r hx hy ho post
 obtain⟨c,e1,e2⟩:=Zz1.mp ho
 cases e2
 obtain⟨d,h1,e1⟩:=Zz0.mp e1
 obtain⟨e,h2,e1⟩:=Zz0.mp e1
 by_cases hs:SeqAt.shaped d=true∧SeqAt.shaped e=true
 ·rw[if_pos hs]at e1
  cases e1
  obtain⟨as,R1⟩:=ZdG r Zbb a x d hx h1
  obtain⟨bs,R2⟩:=ZdG r Zbb b y e hy h2
  exact eq_dataH R1 R2 hs.1 hs.2 (by have:=Γ.hu;omega) (post W s.heap s.toks _ (.refl W) r (.bool _))
 ·rw[if_neg hs]at e1
  cases e1
theorem ZbQ: Op2 prog w (compareOp .NotEq) oNe:=by
 intro Γ W ρ H fr s Q E a b x y v H' r hx hy ho post
 obtain⟨c,e1,e2⟩:=Zz1.mp ho
 cases e2
 obtain⟨d,h1,e1⟩:=Zz0.mp e1
 obtain⟨e,h2,e1⟩:=Zz0.mp e1
 by_cases hs:SeqAt.shaped d=true∧SeqAt.shaped e=true
 ·rw[if_pos hs]at e1
  cases e1
  obtain⟨as,R1⟩:=ZdG r Zbb a x d hx h1
  obtain⟨bs,R2⟩:=ZdG r Zbb b y e hy h2
  exact ne_dataH R1 R2 hs.1 hs.2 (by have:=Γ.hu;omega) (post W s.heap s.toks _ (.refl W) r (.bool _))
 ·rw[if_neg hs]at e1
  cases e1
theorem ZbK: Op2 prog w (compareOp .Is) oIs:=by
 intro Γ W ρ H fr s Q E a b x y v H' r hx hy ho post
 cases hy <;> first | (cases hx <;> cases ho;done) | skip
 refine PySem.is_none ?_
 cases hx <;> (cases ho;exact post W s.heap s.toks _ (.refl W) r (.bool _))
theorem Zck: Op2 prog w (compareOp .IsNot) Zb5:=by
 intro Γ W ρ H fr s Q E a b x y v H' r hx hy ho post
 cases hy <;> first | (cases hx <;> cases ho;done) | skip
 refine PySem.isNot_none ?_
 cases hx <;> (cases ho;exact post W s.heap s.toks _ (.refl W) r (.bool _))
end
end PM
end
section
set_option autoImplicit false
namespace PM
open PySem PyProof.Rows PyProof
noncomputable def Zs: V→V→Hp→Option (V×Hp)
 | .ref a,.int k,H=>H[a]?.bind fun vs=>(seqIndex? k vs.length).bind fun j=>vs[j]?.map fun v=>(v,H)
 | .tup vs,.int k,H=>(seqIndex? k vs.length).bind fun j=>vs[j]?.map fun v=>(v,H)
 | _,_,_=>none
theorem ZjI{k:Int}{n j:Nat}(h:seqIndex? k n=some j): j<n∧(k:Int)<n∧-(n:Int)≤k∧(0≤k→k.toNat=j)∧(k<0→(k+n).toNat=j):=by
 unfold seqIndex? at h
 by_cases c:k<0
 ·simp only[c,if_true]at h
  split at h
  ·rename_i d
   simp at d h
   omega
  ·cases h
 ·simp only[c,if_false]at h
  split at h
  ·rename_i d
   simp at d h
   omega
  ·cases h
section
variable {prog:Program} {w:World} {Γ:Cx}
theorem ZA{e1 e2:Expr}{pos:Pos}{f g:Ex}(h1:J prog w Γ e1 f)(h2:J prog w Γ e2 g)(hs:∀a k u,subscripted e2 false (.ref a) (.int k u)=operate [.ref a,.int k u] (getItem (.ref a) (.int k u)):=by intros;with_unfolding_all rfl): J prog w Γ (.Subscript e1 e2 pos) (Zd Zs f g):=by
 intro W ρ H fr s Q E v H' r hf post
 obtain⟨p,e1,hf⟩:=Zz0.mp hf
 obtain⟨q,e2,e3⟩:=Zz0.mp hf
 refine Subscript_ (h1 W ρ H fr s _ E _ _ r e1 fun W1 k1 t1 x l1 r1 x1=>?_)
 refine h2 W1 ρ _ fr _ _ E _ _ r1 e2 fun W2 k2 t2 y l2 r2 y2=>?_
 have x2:=x1.mono l2
 obtain⟨v1,H1⟩:=p
 obtain⟨v2,H2⟩:=q
 simp only at e3 r2 x2 y2
 cases y2 <;> first | (cases x2 <;> cases e3;done) | skip
 rename_i k u
 cases x2 <;> first | (cases e3;done) | skip
 ·rename_i vs a xs kk hm hl hv
  obtain⟨j,hj,e4⟩:=Zz0.mp e3
  obtain⟨z,hz,e5⟩:=Zz1.mp e4
  cases e5
  obtain⟨z',hz',rz⟩:=hv.at hz
  have hx:xs.length=vs.length:=hv.length
  have hb:=ZjI hj
  rw[Zbs]at hl
  have it:IsTup k2 a xs.toArray:=⟨_,r2.tupAt hm,rfl,kk,rfl⟩
  exact item_tupleT it (by omega) (by omega) (by rw[hx];exact hj) hz' (post W2 k2 t2 z' (l1.trans l2) r2 rz) (hs _ _ _)
 ·rename_i i a ea
  obtain⟨vs,hvs,e3⟩:=Zz0.mp e3
  obtain⟨j,hj,e4⟩:=Zz0.mp e3
  obtain⟨z,hz,e5⟩:=Zz1.mp e4
  cases e5
  obtain⟨hl,xs,kk,hg,hv⟩:=r2.at hvs ea
  obtain⟨z',hz',rz⟩:=hv.at hz
  have hx:xs.length=vs.length:=hv.length
  have hb:=ZjI hj
  rw[Zbs]at hl
  have isl:k2.IsList a xs.toArray:=⟨_,hg,rfl,kk,rfl⟩
  refine tail_any (s:={ s with heap:=k2,toks:=t2 }) isl.typeIs slot_list_getitem.lookup ?_ (hs _ _ _)
  by_cases hk:0≤k
  ·exact wpAny_getItem_list isl hk (by omega) (by rw[hb.2.2.2.1 hk];simpa using hz') (post W2 k2 t2 z' (l1.trans l2) r2 rz)
  ·refine wpAny_getItem_list_neg isl (by omega) (by simp;omega) (by omega) ?_ (post W2 k2 t2 z' (l1.trans l2) r2 rz)
   have:=hb.2.2.2.2 (by omega)
   rw[←hx]at this
   simpa [this]using hz'
end
noncomputable def Zql{α:Type}(vs:List α)(lo hi:Option Int): List α:=(sliceRange (sliceBounds lo hi none vs.length).1 (sliceBounds lo hi none vs.length).2.1 (sliceBounds lo hi none vs.length).2.2).filterMap fun i=>vs[i]?
noncomputable def Zqm: Option V→Option (Option Int)
 | none=>some none
 | some (.int k)=>some (some k)
 | _=>none
noncomputable abbrev Pt:=Lc→Hp→Option (Option V×Hp)
noncomputable def Zjf: Pt:=fun _ H=>some (none,H)
inductive VP(W:Wd): Option V→Value→Prop where
 | none:VP W none .none
 | some {v:V} {x:Value}:VR W v x→VP W (some v) x
noncomputable def JP(prog:Program)(w:World)(Γ:Cx)(e:Option Expr)(f:Pt): Prop:=∀(W:Wd) (ρ:Lc) (H:Hp) (fr:List (Addr×Obj)) (s:Shared) (Q E:Value→Shared→Prop) (v:Option V) (H':Hp),
 Rep Γ W ρ H fr s.heap→f ρ H=some (v,H')→(∀(W':Wd) (h':Heap) (tk':Nat) (x:Value),W.Le W'→Rep Γ W' ρ H' fr h'→VP W' v x→Q x { s with heap:=h',toks:=tk' })→wpAny (model prog w) Γ.A (evalPart e Γ.env) Q E s
section
variable {prog:Program} {w:World} {Γ:Cx}
theorem JP.none: JP prog w Γ none Zjf:=fun W ρ H fr s Q E v H' r hf post=>by
 cases hf
 exact wpAny_evalPart_none (post W s.heap s.toks _ (.refl W) r .none)
end
end PM
end
section
set_option autoImplicit false
namespace PM
open PySem PyProof.Rows PyProof
noncomputable def Nm(prog:Program)(w:World)(Γ:Cx)(x:Str)(v:Value): Prop:=∀(pos:Pos) (m:Str→Option Value) (s:Shared) (Q E:Value→Shared→Prop),Fr Γ.h₀ Γ.L s.heap m→Q v s→wpAny (model prog w) Γ.A (eval (.Name x pos) Γ.env) Q E s
theorem Nm.use{prog:Program}{w:World}{Γ:Cx}{x:Str}{y:Value}(h:Nm prog w Γ x y){pos:Pos}{W:Wd}{ρ:Lc}{H:Hp}{fr:List (Addr×Obj)}{s:Shared}{Q E:Value→Shared→Prop}(r:Rep Γ W ρ H fr s.heap)(q:Q y s): wpAny (model prog w) Γ.A (eval (.Name x pos) Γ.env) Q E s:=by
 obtain⟨m,c,led,r⟩:=r
 exact h pos m s Q E r.F q
noncomputable def OpN(prog:Program)(w:World)(m:List Value→Sem Value)(o:List V→Hp→Option (V×Hp)): Prop:=∀(Γ:Cx) (W:Wd) (ρ:Lc) (H:Hp) (fr:List (Addr×Obj)) (s:Shared) (Q E:Value→Shared→Prop) (as:List V) (xs:List Value) (v:V) (H':Hp),
 Rep Γ W ρ H fr s.heap→VRs W as xs→o as H=some (v,H')→ZeP Γ W ρ H' fr s Q v→wpAny (model prog w) Γ.A (m xs) Q E s
noncomputable def Zq(o:List V→Hp→Option (V×Hp))(g:Exs): Ex:=fun ρ H=>(g ρ H).bind fun p=>o p.1 p.2
section
variable {prog:Program} {w:World} {Γ:Cx}
theorem Zaz{x:Str}{np pos:Pos}{id:String}{e:Expr}{es:List Expr}{g:Exs}{o:List V→Hp→Option (V×Hp)}(hn:Nm prog w Γ x (.builtin id))(h:Js prog w Γ (e::es) g)(ho:OpN prog w (fun xs=>call (.builtin id) xs) o)
  (he:starEach (e::es) Γ.env=(false,eval e Γ.env)::starEach es Γ.env:=by rfl) (hp:∀pos,(backTo pos (starEach es Γ.env)).any (·.1)=false:=by intro _;rfl):J prog w Γ (.Call (.Name x np) (e::es) [] pos) (Zq o g):=by
 intro W ρ H fr s Q E v H' r hf post
 obtain⟨p,e1,hf⟩:=Zz0.mp hf
 refine wpAny_Call_ofName (hn.use r ?_)
 refine callWith_builtin1 (h pos W ρ H fr s _ E _ _ r e1 fun W1 k1 t1 xs l1 r1 x1=>?_) he (hp pos)
 exact ho Γ W1 ρ _ fr _ Q E _ xs v H' r1 x1 hf fun W2 k2 t2 y l2 r2 y2=>post W2 k2 t2 y (l1.trans l2) r2 y2
theorem Zep{x:Str}{np pos:Pos}{T:String}{e:Expr}{es:List Expr}{g:Exs}{o:List V→Hp→Option (V×Hp)}(hn:Nm prog w Γ x (.type T))(h:Js prog w Γ (e::es) g)(ho:OpN prog w (fun xs=>call (.type T) xs) o)
  (he:starEach (e::es) Γ.env=(false,eval e Γ.env)::starEach es Γ.env:=by rfl) (hp:∀pos,(backTo pos (starEach es Γ.env)).any (·.1)=false:=by intro _;rfl):J prog w Γ (.Call (.Name x np) (e::es) [] pos) (Zq o g):=by
 intro W ρ H fr s Q E v H' r hf post
 obtain⟨p,e1,hf⟩:=Zz0.mp hf
 refine wpAny_Call_ofName (hn.use r ?_)
 refine PySem.Pv.callWith_type1 (h pos W ρ H fr s _ E _ _ r e1 fun W1 k1 t1 xs l1 r1 x1=>?_) he (hp pos)
 exact ho Γ W1 ρ _ fr _ Q E _ xs v H' r1 x1 hf fun W2 k2 t2 y l2 r2 y2=>post W2 k2 t2 y (l1.trans l2) r2 y2
end
noncomputable def ZiC: V→String
 | .none=>"NoneType"
 | .bool _=>"bool"
 | .int _=>"int"
 | .str _=>"str"
 | .tup _=>"tuple"
 | .ref _=>"list"
noncomputable def Zi1(T:String)(v:V): Bool:=ZiC v == T || (T == "int" && ZiC v == "bool")
noncomputable def eIs(T:String)(f:Ex): Ex:=fun ρ H=>(f ρ H).map fun p=>(.bool (Zi1 T p.1),p.2)
section
variable {prog:Program} {w:World} {Γ:Cx}
theorem isinst{T:String}(hT:T="int"∨T="bool"∨T="list"∨T="tuple"){W:Wd}{ρ:Lc}{H:Hp}{fr:List (Addr×Obj)}{s:Shared}{Q E:Value→Shared→Prop}{a:V}{x:Value}(r:Rep Γ W ρ H fr s.heap)(hx:VR W a x)(hin:∀i,a=.ref i→i<H.length)
  (post:∀tk,Q (.bool (Zi1 T a)) { s with toks:=tk }):wpAny (model prog w) Γ.A (call (.builtin "isinstance") [x,.type T]) Q E s:=by
 cases hx with
 | none=>
      rcases hT with e | e | e | e <;> subst e
      ·exact call_isinstance (isinstance_false_none (by decide +kernel) F.isi_meta_int (by rw[isSubtype_type];kernel_rfl)) (post _)
      ·exact call_isinstance (isinstance_false_none (by decide +kernel) F.isi_meta_bool (by rw[isSubtype_type];kernel_rfl)) (post _)
      ·exact call_isinstance (isinstance_false_none (by decide +kernel) F.isi_meta_list (by rw[isSubtype_type];kernel_rfl)) (post _)
      ·exact call_isinstance (isinstance_false_none (by decide +kernel) F.isi_meta_tuple (by rw[isSubtype_type];kernel_rfl)) (post _)
 | bool b=>
       rcases hT with e | e | e | e <;> subst e
       ·exact IsiPair.bool_int (post s.toks)
       ·exact IsiPair.bool_bool (post s.toks)
       ·exact IsiPair.bool_list (post _)
       ·exact IsiPair.bool_tuple (post _)
 | int i t=>
       rcases hT with e | e | e | e <;> subst e
       ·exact IsiPair.int_int (post s.toks)
       ·exact IsiPair.int_bool (post _)
       ·exact IsiPair.int_list (post _)
       ·exact IsiPair.int_tuple (post _)
 | str y t=>
       rcases hT with e | e | e | e <;> subst e
       ·exact IsiPair.str_int (post _)
       ·exact IsiPair.str_bool (post _)
       ·exact IsiPair.str_list (post _)
       ·exact IsiPair.str_tuple (post _)
 | tup hm hl hs=>
  have hg:=r.tupAt hm
  rcases hT with e | e | e | e <;> subst e
  ·exact IsiPair.tuple_int hg rfl (post _)
  ·exact IsiPair.tuple_bool hg rfl (post _)
  ·exact IsiPair.tuple_list hg rfl (post _)
  ·exact IsiPair.tuple_tuple hg rfl (post s.toks)
 | @ref i a ea=>
  obtain⟨hl,xs,k,hg,hv⟩:=r.at (List.getElem?_eq_getElem (hin i rfl)) ea
  rcases hT with e | e | e | e <;> subst e
  ·exact IsiPair.list_int hg rfl (post _)
  ·exact IsiPair.list_bool hg rfl (post _)
  ·exact IsiPair.list_list hg rfl (post s.toks)
  ·exact IsiPair.list_tuple hg rfl (post _)
end
theorem Rep.refIn{Γ:Cx}{W:Wd}{ρ:Lc}{H:Hp}{fr:List (Addr×Obj)}{h:Heap}{i:Nat}{x:Value}(r:Rep Γ W ρ H fr h)(hx:VR W (.ref i) x): i<H.length:=by
 obtain⟨m,c,led,r⟩:=r
 cases hx with
 | ref e=>rw[←r.R.len];exact(Zz6.mp e).1
section
variable {prog:Program} {w:World} {Γ:Cx}
theorem ZcJ{np tp pos:Pos}{x y:Str}{T:String}{e:Expr}{f:Ex}(hn:Nm prog w Γ x (.builtin "isinstance"))(hy:Nm prog w Γ y (.type T))(hT:T="int"∨T="bool"∨T="list"∨T="tuple")(h:J prog w Γ e f)
  (he:starEach [e,.Name y tp] Γ.env=(false,eval e Γ.env)::starEach [.Name y tp] Γ.env:=by rfl) (hp:∀pos,(backTo pos (starEach [.Name y tp] Γ.env)).any (·.1)=false:=by intro _;rfl):J prog w Γ (.Call (.Name x np) [e,.Name y tp] [] pos) (eIs T f):=by
 intro W ρ H fr s Q E v H' r hf post
 obtain⟨p,e1,e2⟩:=Zz1.mp hf
 cases e2
 refine wpAny_Call_ofName (hn.use r ?_)
 refine callWith_builtin1 (wpAny_items_cons (h W ρ H fr s _ E _ _ r e1 fun W1 k1 t1 z l1 r1 z1=>?_) he) he (hp pos)
 refine wpAny_items_cons (hy.use (s:={ s with heap:=k1,toks:=t1 }) r1 ?_)
 refine wpAny_items_nil ?_
 exact PM.isinst hT r1 z1 (fun i e=>by rw[e]at z1;exact r1.refIn z1) fun tk=>post W1 k1 tk _ l1 r1 (.bool _)
end
noncomputable def Zay: List V→Hp→Option (V×Hp)
 | [.ref a],H=>H[a]?.map fun vs=>(.int vs.length,H)
 | [.tup vs],H=>some (.int vs.length,H)
 | _,_=>none
noncomputable def Zde: List V→Hp→Option (V×Hp)
 | [.int a],H=>some (.int (if a<0 then -a else a),H)
 | _,_=>none
noncomputable def Zlc: List V→Option (List Int)
 | []=>some []
 | .int k::vs=>(Zlc vs).map fun ks=>k::ks
 | _::_=>none
noncomputable def ZqX: List V→Hp→Option (V×Hp)
 | [.ref a],H=>H[a]?.bind fun vs=>(Zlc vs).map fun ks=>(.int ks.sum,H)
 | _,_=>none
theorem VRs.one{W:Wd}{v:V}{xs:List Value}(h:VRs W [v] xs): ∃x,xs=[x]∧VR W v x:=by
 cases h with
 | cons a b=>cases b;exact⟨_,rfl,a⟩
theorem VRs.two{W:Wd}{v u:V}{xs:List Value}(h:VRs W [v,u] xs): ∃x y,xs=[x,y]∧VR W v x∧VR W u y:=by
 cases h with
 | cons a b=>obtain⟨y,e,r⟩:=b.one;subst e;exact⟨_,_,rfl,a,r⟩
noncomputable def Zak: V→V→Hp→Option (V×Hp)
 | .int a,.int b,H=>some (.int (a+b),H)
 | .ref a,.ref b,H=>H[a]?.bind fun vs=>H[b]?.bind fun us=>if(vs++us).length≤LEN then some (.ref H.length,H++[vs++us])else none
 | .tup vs,.tup us,H=>if(vs++us).length≤LEN then some (.tup (vs++us),H)else none
 | _,_,_=>none
noncomputable def Zdx(vs:List V): Nat→List V
 | 0=>[]
 | n+1=>Zdx vs n++vs
noncomputable def ZaR: V→V→Hp→Option (V×Hp)
 | .int a,.int b,H=>if mulOk a b=true then some (.int (a*b),H)else none
 | .ref a,.int k,H=>H[a]?.bind fun vs=>if vs.length*k.toNat≤LEN∧-(2 ^ 63:Int)≤k∧k<2 ^ 63 then some (.ref H.length,H++[Zdx vs k.toNat])else none
 | _,_,_=>none
section
variable {prog:Program} {w:World}
theorem ZaU: OpN prog w (fun xs=>call (.builtin "len") xs) Zay:=by
 intro Γ W ρ H fr s Q E as xs v H' r hx ho post
 unfold Zay at ho
 split at ho
 ·rename_i a
  obtain⟨vs,e1,e2⟩:=Zz1.mp ho
  cases e2
  obtain⟨x,ex,rx⟩:=hx.one
  subst ex
  cases rx with
  | ref ea=>
   obtain⟨hl,ys,k,hg,hv⟩:=r.at e1 ea
   have isl:s.heap.IsList _ ys.toArray:=⟨_,hg,rfl,k,rfl⟩
   have e3:(ys.toArray.size:Int)=vs.length:=by simp[hv.length]
   rw[Zbs]at hl
   refine Calls.call_len_list isl (by rw[e3];omega) ?_
   rw[e3]
   exact post W s.heap _ _ (.refl W) r (.int _ _)
 ·rename_i vs
  cases ho
  obtain⟨x,ex,rx⟩:=hx.one
  subst ex
  cases rx with
  | @tup _ a ys k hm hl hs=>
   have it:IsTup s.heap a ys.toArray:=⟨_,r.tupAt hm,rfl,k,rfl⟩
   have e3:(ys.toArray.size:Int)=vs.length:=by simp[hs.length]
   rw[Zbs]at hl
   refine len_tuple it (by rw[e3];omega) ?_
   rw[e3]
   exact post W s.heap _ _ (.refl W) r (.int _ _)
 ·cases ho
theorem ZeA: OpN prog w (fun xs=>call (.builtin "abs") xs) Zde:=by
 intro Γ W ρ H fr s Q E as xs v H' r hx ho post
 unfold Zde at ho
 split at ho
 ·cases ho
  obtain⟨x,ex,rx⟩:=hx.one
  subst ex
  cases rx with
  | int i t=>exact call_abs_int fun u tk=>post W s.heap tk _ (.refl W) r (.int _ _)
 ·cases ho
theorem Zau: Op2 prog w (binaryOp .Add) Zak:=by
 intro Γ W ρ H fr s Q E a b x y v H' r hx hy ho post
 unfold Zak at ho
 split at ho
 ·cases ho
  cases hx;cases hy
  exact PySem.P.add_int (post W s.heap _ _ (.refl W) r (.int _ _))
 ·obtain⟨vs,e1,ho⟩:=Zz0.mp ho
  obtain⟨us,e2,ho⟩:=Zz0.mp ho
  by_cases hl:(vs++us).length≤LEN
  ·rw[if_pos hl]at ho
   cases ho
   cases hx with
   | ref ea=>
   cases hy with
   | ref eb=>
   obtain⟨l1,ys,k,hg,hv⟩:=r.at e1 ea
   obtain⟨l2,zs,k2,hg2,hv2⟩:=r.at e2 eb
   obtain⟨m,c,led,r'⟩:=r
   have i1:s.heap.IsList _ ys.toArray:=⟨_,hg,rfl,k,rfl⟩
   have i2:s.heap.IsList _ zs.toArray:=⟨_,hg2,rfl,k2,rfl⟩
   refine add_lists (hsz:=ZcZ (by rw[hv.length,hv2.length,←List.length_append];exact hl)) r'.F r'.N i1 i2 fun h' F' N'=>?_
   obtain⟨W2,le2,r2,v2⟩:=r'.newList F' N' r'.off (hv.append hv2) hl
   exact post W2 h' s.toks _ le2 r2 v2
  ·rw[if_neg hl]at ho
   cases ho
 ·rename_i vs us
  by_cases hl:(vs++us).length≤LEN
  ·rw[if_pos hl]at ho
   cases ho
   cases hx with
   | @tup _ a ys k hm h1 hv=>
   cases hy with
   | @tup _ b zs k2 hm2 h2 hv2=>
   have t1:IsTup s.heap a ys.toArray:=⟨_,r.tupAt hm,rfl,k,rfl⟩
   have t2:IsTup s.heap b zs.toArray:=⟨_,r.tupAt hm2,rfl,k2,rfl⟩
   have r0:=r
   obtain⟨m,c,led,r'⟩:=r
   refine add_tuples (hsz:=ZcZ (by rw[hv.length,hv2.length,←List.length_append];exact hl)) r'.F r'.N t1 t2 (fun e=>?_) (fun _ e=>?_) fun _ _ h' F' N'=>?_
   ·have:vs=[]:=List.length_eq_zero_iff.mp (by rw[←hv.length,e];rfl)
    subst this
    exact post W s.heap s.toks _ (.refl W) r0 (.tup hm2 h2 hv2)
   ·have:us=[]:=List.length_eq_zero_iff.mp (by rw[←hv2.length,e];rfl)
    subst this
    rw[List.append_nil]at post
    exact post W s.heap s.toks _ (.refl W) r0 (.tup hm h1 hv)
   ·obtain⟨W2,le2,r2,v2⟩:=r'.newTup F' N' r'.off (hv.append hv2) hl
    exact post W2 h' s.toks _ le2 r2 v2
  ·rw[if_neg hl]at ho
   cases ho
 ·cases ho
theorem Zkp(vs:List V): ∀n,(Zdx vs n).length=vs.length*n
 | 0=>rfl
 | n+1=>by rw[Zdx,List.length_append,Zkp vs n,Nat.mul_succ]
theorem Zm5(xs:List Value)(n:Nat): ∀acc:Array Value,(List.foldl (fun x1 x2=>x1++x2) acc (List.replicate n xs.toArray))=acc++(List.replicate n xs).flatten.toArray:=by
 induction n with
 | zero=>intro acc;simp
 | succ n ih=>
  intro acc
  rw[List.replicate_succ,List.foldl_cons,ih,List.replicate_succ,List.flatten_cons]
  simp[Array.append_assoc]
theorem ZkN{W:Wd}{vs:List V}{xs:List Value}(h:VRs W vs xs): ∀n,VRs W (Zdx vs n) (List.replicate n xs).flatten
 | 0=>.nil
 | n+1=>by
  rw[Zdx,List.replicate_succ',List.flatten_append]
  simp only[List.flatten_cons,List.flatten_nil,List.append_nil]
  exact(ZkN h n).append h
theorem Zbe: Op2 prog w (binaryOp .Mult) ZaR:=by
 intro Γ W ρ H fr s Q E a b x y v H' r hx hy ho post
 unfold ZaR at ho
 split at ho
 ·rename_i i j
  by_cases hm:mulOk i j=true
  ·rw[if_pos hm]at ho
   cases ho
   cases hx;cases hy
   exact PySem.P.mul_int (post W s.heap _ _ (.refl W) r (.int _ _)) (ZnE hm)
  ·rw[if_neg hm]at ho
   cases ho
 ·rename_i i k
  obtain⟨vs,e1,ho⟩:=Zz0.mp ho
  by_cases hc:vs.length*k.toNat≤LEN∧-(2 ^ 63:Int)≤k∧k<2 ^ 63
  ·rw[if_pos hc]at ho
   cases ho
   cases hx with
   | ref ea=>
   cases hy with
   | int _ u=>
   obtain⟨l1,ys,kk,hg,hv⟩:=r.at e1 ea
   obtain⟨m,c,led,r'⟩:=r
   have hl:=hc.1
   rw[Zbs]at hl
   refine mul_list r'.F r'.N hg hc.2.1 hc.2.2 (by rw[List.size_toArray,hv.length];omega) fun h' F' N'=>?_
   have e2:(List.foldl (fun x1 x2=>x1++x2) #[] (List.replicate (if ys.toArray.isEmpty=true then 0 else k.toNat) ys.toArray))=(List.replicate k.toNat ys).flatten.toArray:=by
    cases ys with
    | nil=>
     simp
    | cons y0 ys0=>
     have:((y0::ys0).toArray.isEmpty=true)=False:=by simp
     simp only[this,if_false]
     rw[Zm5]
     simp
   rw[e2]at N'
   obtain⟨W2,le2,r2,v2⟩:=r'.newList F' N' r'.off (ZkN hv k.toNat) (by rw[Zkp];exact hc.1)
   exact post W2 h' s.toks _ le2 r2 v2
  ·rw[if_neg hc]at ho
   cases ho
 ·cases ho
end
end PM
end
section
set_option autoImplicit false
namespace PM
open PySem PyProof.Rows PyProof
noncomputable def upd(ρ:Lc)(i:Nat)(v:V): Lc:=fun j=>if j=i then some v else ρ j
noncomputable abbrev Sm:=Lc→Hp→Option (Option V×Lc×Hp)
noncomputable def ZY: Sm:=fun ρ H=>some (none,ρ,H)
noncomputable def Zr(a b:Sm): Sm:=fun ρ H=>(a ρ H).bind fun p=>match p.1 with
 | some _=>some p
 | none=>b p.2.1 p.2.2
noncomputable def ZD(f:Ex): Sm:=fun ρ H=>(f ρ H).map fun p=>(some p.1,ρ,p.2)
noncomputable def ZK(i:Nat)(f:Ex): Sm:=fun ρ H=>(f ρ H).map fun p=>(none,upd ρ i p.1,p.2)
noncomputable def ZR(t:Ts)(a b:Sm): Sm:=fun ρ H=>(t ρ H).bind fun p=>if p.1 then a ρ p.2 else b ρ p.2
noncomputable def Zbl(f:Ex): Sm:=fun ρ H=>(f ρ H).map fun p=>(none,ρ,p.2)
noncomputable def Zjp: V→V→V→Hp→Option Hp
 | .ref a,.int k,v,H=>H[a]?.bind fun vs=>if a≠0∧0≤k∧k<vs.length then some (H.set a (vs.set k.toNat v))else none
 | _,_,_,_=>none
noncomputable def Zcu(f o i:Ex): Sm:=fun ρ H=>(f ρ H).bind fun p=>(o ρ p.2).bind fun q=>(i ρ q.2).bind fun u=>(Zjp q.1 u.1 p.1 u.2).map fun K=>(none,ρ,K)
noncomputable def ZcK(t:Ts)(b:Sm): Nat→Sm
 | 0=>fun _ _=>none
 | n+1=>fun ρ H=>(t ρ H).bind fun p=>if p.1 then(b ρ p.2).bind fun q=>(match q.1 with
   | some _=>some q
   | none=>ZcK t b n q.2.1 q.2.2)else some (none,ρ,p.2)
noncomputable def PostS(Γ:Cx)(W:Wd)(fr:List (Addr×Obj))(s:Shared)(Q:Flow→Shared→Prop): Option V×Lc×Hp→Prop
 | (none,ρ',H')=>∀(W':Wd) (h':Heap) (tk':Nat),W.Le W'→Rep Γ W' ρ' H' fr h'→Q .next { s with heap:=h',toks:=tk' }
 | (some v,ρ',H')=>∀(W':Wd) (h':Heap) (tk':Nat) (x:Value),W.Le W'→Rep Γ W' ρ' H' fr h'→VR W' v x→Q (.ret x) { s with heap:=h',toks:=tk' }
theorem PostS.le{Γ:Cx}{W W':Wd}{fr:List (Addr×Obj)}{s:Shared}{h:Heap}{tk:Nat}{Q:Flow→Shared→Prop}{r:Option V×Lc×Hp}(l:W.Le W')(p:PostS Γ W fr s Q r): PostS Γ W' fr { s with heap:=h,toks:=tk } Q r:=by
 obtain⟨o,ρ',H'⟩:=r
 cases o with
 | none=>exact fun W2 h2 t2 l2 r2=>p W2 h2 t2 (l.trans l2) r2
 | some v=>exact fun W2 h2 t2 x l2 r2 x2=>p W2 h2 t2 x (l.trans l2) r2 x2
section
variable (prog:Program) (w:World)
noncomputable def S1(Γ:Cx)(st:Stmt)(g:Sm): Prop:=∀(W:Wd) (ρ:Lc) (H:Hp) (fr:List (Addr×Obj)) (s:Shared) (Q:Flow→Shared→Prop) (E:Value→Shared→Prop) (r:Option V×Lc×Hp),
 Rep Γ W ρ H fr s.heap→g ρ H=some r→PostS Γ W fr s Q r→wpAny (model prog w) Γ.A (exec st Γ.env) Q E s
noncomputable def Ss(Γ:Cx)(ss:List Stmt)(g:Sm): Prop:=∀(W:Wd) (ρ:Lc) (H:Hp) (fr:List (Addr×Obj)) (s:Shared) (Q:Flow→Shared→Prop) (E:Value→Shared→Prop) (r:Option V×Lc×Hp),
 Rep Γ W ρ H fr s.heap→g ρ H=some r→PostS Γ W fr s Q r→wpAny (model prog w) Γ.A (execs ss Γ.env) Q E s
noncomputable def Sto(Γ:Cx)(x:Str)(i:Nat): Prop:=∀(W:Wd) (ρ:Lc) (H:Hp) (fr:List (Addr×Obj)) (s:Shared) (Q:Unit→Shared→Prop) (E:Value→Shared→Prop) (v:V) (y:Value),
 Rep Γ W ρ H fr s.heap→VR W v y→(∀(h':Heap) (tk':Nat),Rep Γ W (upd ρ i v) H fr h'→Q () { s with heap:=h',toks:=tk' })→wpAny (model prog w) Γ.A (storeName Γ.env x y) Q E s
noncomputable def Rd(Γ:Cx)(x:Str)(i:Nat): Prop:=∀(W:Wd) (ρ:Lc) (H:Hp) (fr:List (Addr×Obj)) (s:Shared) (Q E:Value→Shared→Prop) (v:V) (pos:Pos),
 Rep Γ W ρ H fr s.heap→ρ i=some v→(∀y,VR W v y→Q y s)→wpAny (model prog w) Γ.A (eval (.Name x pos) Γ.env) Q E s
end
section
variable {prog:Program} {w:World} {Γ:Cx}
theorem Zf8{x:Str}{i:Nat}{pos:Pos}(h:Rd prog w Γ x i): J prog w Γ (.Name x pos) (Za i):=by
 intro W ρ H fr s Q E v H' r hf post
 obtain⟨u,e1,e2⟩:=Zz1.mp hf
 cases e2
 exact h W ρ H fr s Q E v pos r e1 fun y hy=>post W s.heap s.toks y (.refl W) r hy
theorem Zab: Ss prog w Γ [] ZY:=fun W ρ H fr s Q E r rp hf post=>by
 cases hf
 exact wpAny_execs_nil (post W s.heap s.toks (.refl W) rp)
theorem Zw{st:Stmt}{ss:List Stmt}{a b:Sm}(h1:S1 prog w Γ st a)(h2:Ss prog w Γ ss b): Ss prog w Γ (st::ss) (Zr a b):=by
 intro W ρ H fr s Q E r rp hf post
 obtain⟨p,e1,hf⟩:=Zz0.mp hf
 refine wpAny_execs_cons (h1 W ρ H fr s _ E p rp e1 ?_)
 obtain⟨o,ρ1,H1⟩:=p
 cases o with
 | some v=>
  cases hf
  exact fun W1 k1 t1 x l1 r1 x1=>post W1 k1 t1 x l1 r1 x1
 | none=>exact fun W1 k1 t1 l1 r1=>h2 W1 ρ1 H1 fr _ Q E r r1 hf (post.le l1)
theorem Zx{st:Stmt}{a:Sm}(h1:S1 prog w Γ st a): Ss prog w Γ [st] a:=by
 intro W ρ H fr s Q E r rp hf post
 refine wpAny_execs_cons (h1 W ρ H fr s _ E r rp hf ?_)
 obtain⟨o,ρ1,H1⟩:=r
 cases o with
 | some v=>exact fun W1 k1 t1 x l1 r1 x1=>post W1 k1 t1 x l1 r1 x1
 | none=>exact fun W1 k1 t1 l1 r1=>wpAny_execs_nil (post W1 k1 t1 l1 r1)
theorem ZJ{e:Expr}{pos:Pos}{f:Ex}(h:J prog w Γ e f): S1 prog w Γ (.Return (some e) pos) (ZD f):=by
 intro W ρ H fr s Q E r rp hf post
 obtain⟨p,e1,e2⟩:=Zz1.mp hf
 cases e2
 exact wpAny_Return_some (h W ρ H fr s _ E _ _ rp e1 post)
theorem Z7{t:Expr}{a b:List Stmt}{pos:Pos}{u:Ts}{f g:Sm}(ht:JT prog w Γ t u)(h1:Ss prog w Γ a f)(h2:Ss prog w Γ b g): S1 prog w Γ (.If t a b pos) (ZR u f g):=by
 intro W ρ H fr s Q E r rp hf post
 obtain⟨p,e1,hf⟩:=Zz0.mp hf
 refine wpAny_If (ht W ρ H fr s _ E _ _ rp e1 fun W1 k1 t1 l1 r1=>?_)
 obtain⟨c,H1⟩:=p
 cases c with
 | true=>exact h1 W1 ρ H1 fr _ Q E r r1 hf (post.le l1)
 | false=>exact h2 W1 ρ H1 fr _ Q E r r1 hf (post.le l1)
theorem Zcy{e:Expr}{pos:Pos}{f:Ex}(h:J prog w Γ e f)(hi:interactive Γ.env=false:=by rfl)(hs:swapsWith e none pos.line Γ.env=pure false:=by rfl): S1 prog w Γ (.Expr e pos) (Zbl f):=by
 intro W ρ H fr s Q E r rp hf post
 obtain⟨p,e1,e2⟩:=Zz1.mp hf
 cases e2
 exact wpAny_Expr_any (h W ρ H fr s _ E _ _ rp e1 fun W1 k1 t1 x l1 r1 x1=>post W1 k1 t1 l1 r1) hi hs
theorem ZT{x:Str}{i:Nat}{e:Expr}{pos' pos:Pos}{f:Ex}(hx:Sto prog w Γ x i)(h:J prog w Γ e f)(hs:swapsWith e (some (.Name x pos')) pos.line Γ.env=pure false:=by rfl): S1 prog w Γ (.Assign [.Name x pos'] e pos) (ZK i f):=by
 intro W ρ H fr s Q E r rp hf post
 obtain⟨p,e1,e2⟩:=Zz1.mp hf
 cases e2
 refine wpAny_Assign_Name (h W ρ H fr s _ E _ _ rp e1 fun W1 k1 t1 y l1 r1 y1=>?_) hs
 exact hx W1 ρ _ fr _ _ E _ y r1 y1 fun h' tk' r2=>post W1 h' tk' l1 r2
theorem Zkq{t:Expr}{a:List Stmt}{pos:Pos}{u:Ts}{f:Sm}(n:Nat)(ht:JT prog w Γ t u)(h1:Ss prog w Γ a f): S1 prog w Γ (.While t a [] pos) (ZcK u f n):=by
 intro W ρ H fr s Q E r rp hf post
 refine wpAny_While ?_
 refine codeAny_whileLoop (fun k s'=>∃W' ρ' H' h' tk',s' = { s with heap:=h',toks:=tk' }∧W.Le W'∧Rep Γ W' ρ' H' fr h'∧ZcK u f k ρ' H'=some r) ?_ n ⟨W,ρ,H,s.heap,s.toks,rfl,.refl W,rp,hf⟩
 rintro k s' ⟨W1,ρ1,H1,k1,t1,rfl,l1,r1,e⟩
 cases k with
 | zero=>cases e
 | succ k=>
  obtain⟨p,e1,e⟩:=Zz0.mp e
  refine ht W1 ρ1 H1 fr _ _ _ _ _ r1 e1 fun W2 k2 t2 l2 r2=>?_
  obtain⟨c,H2⟩:=p
  cases c with
  | false=>
   cases e
   exact wpAny_execs_nil (post W2 k2 t2 (l1.trans l2) r2)
  | true=>
   obtain⟨q,e2,e⟩:=Zz0.mp e
   refine h1 W2 ρ1 H2 fr _ _ _ q r2 e2 ?_
   obtain⟨o,ρ3,H3⟩:=q
   cases o with
   | some v=>
    cases e
    exact fun W3 k3 t3 x l3 r3 x3=>post W3 k3 t3 x ((l1.trans l2).trans l3) r3 x3
   | none=>exact fun W3 k3 t3 l3 r3=>⟨k,Nat.lt_succ_self k,W3,ρ3,H3,k3,t3,rfl,(l1.trans l2).trans l3,r3,e⟩
end
noncomputable def Zeq: List V→Hp→Option (V×Hp)
 | [.ref a,v],H=>H[a]?.bind fun vs=>if a≠0∧vs.length<LEN then some (.none,H.set a (vs++[v]))else none
 | _,_=>none
section
variable {prog:Program} {w:World} {Γ:Cx}
theorem Zm6: OpN prog w (fun xs=>call (.builtin "list.append") xs) Zeq:=by
 intro Γ W ρ H fr s Q E as xs v H' r hx ho post
 unfold Zeq at ho
 split at ho
 ·obtain⟨vs,e1,e2⟩:=Zz0.mp ho
  obtain⟨x,y,ex,rx,ry⟩:=hx.two
  subst ex
  split at e2
  ·rename_i hl
   cases e2
   cases rx with
   | @ref _ a0 ea=>
    obtain⟨_,ys,k,hg,hv⟩:=r.at e1 ea
    refine append_at (hsz:=ZcZ (by rw[List.size_toArray,hv.length];omega)) hg fun h' sb hg'=>?_
    have hg2:h'.get? a0=some (Zbj (ys++[y]) (k+1)):=by rw[hg'];simp
    exact post W h' s.toks _ (.refl W) (r.change hl.1 e1 ea sb hg2 (hv.snoc ry) (by simp;omega)) .none
  ·cases e2
 ·cases ho
end
end PM
end
section
set_option autoImplicit false
namespace PM
open PySem PySem.W PyProof.Rows PyProof
theorem ZkO: ∀{l:List Value} {k:Nat} {v:Value},k<l.length→ki_setL l k v=some (l.set k v)
 | [],_,_,h=>by simp at h
 | x::r,0,v,_=>by simp[ki_setL]
 | x::r,k+1,v,h=>by
  have:=ZkO (l:=r) (k:=k) (v:=v) (by simpa using h)
  simp[ki_setL,this]
theorem Zm7{a k v:V}{H K:Hp}(h:Zjp a k v H=some K): ∃i j vs,a=.ref i∧k=.int j∧H[i]?=some vs∧(i≠0∧0≤j∧j<vs.length)∧K=H.set i (vs.set j.toNat v):=by
 cases a <;> first | (cases h;done) | skip
 cases k <;> first | (cases h;done) | skip
 obtain⟨vs,e1,e2⟩:=Zz0.mp h
 split at e2
 ·rename_i c
  cases e2
  exact⟨_,_,vs,rfl,rfl,e1,c,rfl⟩
 ·cases e2
theorem Zl5{a v x:V}{H K:Hp}(h:Zeq [a,v] H=some (x,K)): ∃i,a=.ref i:=by
 cases a <;> first | (cases h;done) | skip
 exact⟨_,rfl⟩
noncomputable def Zcd(o f:Ex): Ex:=fun ρ H=>(o ρ H).bind fun p=>(f ρ p.2).bind fun q=>Zeq [p.1,q.1] q.2
section
variable {prog:Program} {w:World} {Γ:Cx}
theorem S1.put{o i value:Expr}{pos' pos:Pos}{f g k:Ex}(hf:J prog w Γ value f)(ho:J prog w Γ o g)(hi:J prog w Γ i k)(hs:swapsWith value (some (.Subscript o i pos')) pos.line Γ.env=pure false:=by rfl): S1 prog w Γ (.Assign [.Subscript o i pos'] value pos) (Zcu f g k):=by
 intro W ρ H fr s Q E r rp hx post
 obtain⟨p,e1,hx⟩:=Zz0.mp hx
 obtain⟨q,e2,hx⟩:=Zz0.mp hx
 obtain⟨u,e3,hx⟩:=Zz0.mp hx
 obtain⟨K,e4,e5⟩:=Zz1.mp hx
 cases e5
 refine wpAny_Assign_Subscript (hf W ρ H fr s _ E _ _ rp e1 fun W1 k1 t1 x l1 r1 x1=>?_) hs
 refine ho W1 ρ _ fr _ _ E _ _ r1 e2 fun W2 k2 t2 y l2 r2 y2=>?_
 refine hi W2 ρ _ fr _ _ E _ _ r2 e3 fun W3 k3 t3 z l3 r3 z3=>?_
 have x3:=x1.mono (l2.trans l3)
 have y3:=y2.mono l3
 obtain⟨b,kk,vs,eb,ek,hvs,hc,e6⟩:=Zm7 e4
 subst e6
 rw[eb]at y3
 rw[ek]at z3
 cases y3 with
 | @ref _ a ea=>
 cases z3 with
 | int _ tz=>
 obtain⟨hl,xs,n,hg,hv⟩:=r3.at hvs ea
 obtain⟨m,c,led,r'⟩:=r3
 have hll:=hl
 rw[Zbs]at hll
 have hk:kk.toNat<xs.length:=by rw[hv.length];omega
 obtain⟨_,a',xs',n',h1,h2,h3⟩:=r'.R.lists b vs hvs
 rw[ea]at h1
 cases h1
 have h2:=r'.inLed hc.1 ea h2
 have N2:News Γ.h₀ Γ.L k3 ((a,Zbj xs n)::led.filter (fun q=>decide (q.1≠a))):=by
  intro q hq
  rcases Zz7.mp hq with e | hq
  ·subst e
   exact⟨hg,(r'.N _ h2).2⟩
  ·exact r'.N q (List.mem_filter.mp hq).1
 refine ki_set (its:=xs.toArray) (n:=n) (q:=xs.set kk.toNat x) r'.F N2 hc.2.1 (by omega) (by simpa using ZkO hk) (Upd.head fun q hq=>by simpa using (List.mem_filter.mp hq).2) fun h' F' N'=>?_
 exact post W3 h' t3 ((l1.trans l2).trans l3) (r'.changed hc.1 hvs ea F' N' (hv.set _ x3) (by simpa using hl))
theorem J.append{o e:Expr}{apos pos:Pos}{f g:Ex}(ho:J prog w Γ o f)(he:J prog w Γ e g)(hbase:attributeBase o "append" Γ.env (eval o Γ.env)=eval o Γ.env:=by rfl)
  (hfew:((backTo pos (starEach [e] Γ.env)).all (fun x=>!x.1) && (backToKw pos (keywordEach [] Γ.env)).all (fun x=>x.1.isSome) && decide (([e]:List Expr).length+([]:List Keyword).length+(if([]:List Keyword).isEmpty then 0 else 1)<30))=true:=by rfl)
  (hline:(apos.endLine == pos.line)=true:=by rfl) (htrees:backTo pos (starEach [e] Γ.env)=[(false,eval e Γ.env)]:=by rfl):J prog w Γ (.Call (.Attribute o "append" apos) [e] [] pos) (Zcd f g):=by
 intro W ρ H fr s Q E v H' r hx post
 obtain⟨p,e1,hx⟩:=Zz0.mp hx
 obtain⟨q,e2,e3⟩:=Zz0.mp hx
 refine wpAny_Call_append hbase hfew hline htrees (ho W ρ H fr s _ E _ _ r e1 fun W1 k1 t1 x l1 r1 x1=>?_)
 obtain⟨v1,H1⟩:=p
 obtain⟨b,hb⟩:=Zl5 e3
 subst hb
 have hb:=r1.refIn x1
 cases x1 with
 | @ref _ a ea=>
 obtain⟨_,xs,n,hg,hv⟩:=r1.at (List.getElem?_eq_getElem hb) ea
 refine⟨a,xs.toArray,rfl,⟨_,n,hg,rfl,rfl,rfl⟩,?_⟩
 refine he W1 ρ _ fr _ _ E _ _ r1 e2 fun W2 k2 t2 y l2 r2 y2=>?_
 exact Zm6 Γ W2 ρ _ fr _ Q E _ [.ref a,y] v H' r2 (.cons (.ref (l2.at ea)) (.cons y2 .nil)) e3 fun W3 k3 t3 z l3 r3 z3=>post W3 k3 t3 z ((l1.trans l2).trans l3) r3 z3
end
end PM
end
section
set_option autoImplicit false
namespace PM
open PySem PySem.W PyProof.Rows PyProof
noncomputable abbrev Nx:=Nat→Hp→Option (Option V)
noncomputable def Zqn(Γ:Cx)(W:Wd)(ρ:Lc)(H:Hp)(fr:List (Addr×Obj))(s:Shared)(It:Nat→List (Addr×Obj)→Prop)(i:Nat)(Q:Option Value→Shared→Prop): Option V→Prop
 | none=>∀(h':Heap) (tk':Nat),Rep Γ W ρ H fr h'→Q none { s with heap:=h',toks:=tk' }
 | some v=>∀(fs':List (Addr×Obj)) (h':Heap) (tk':Nat) (x:Value),It (i+1) fs'→Rep Γ W ρ H (fs'++fr) h'→VR W v x→Q (some x) { s with heap:=h',toks:=tk' }
structure Itr(prog:Program)(w:World)(Γ:Cx)(W0:Wd)(it:Value)(as:List Addr)(It:Nat→List (Addr×Obj)→Prop)(nx:Nx): Prop where
 adr:∀i fs,It i fs→fs.map (·.1)=as
 next:∀(i:Nat) (W:Wd) (ρ:Lc) (H:Hp) (fr fs:List (Addr×Obj)) (s:Shared) (Q:Option Value→Shared→Prop) (E:Value→Shared→Prop) (o:Option V),W0.Le W→Rep Γ W ρ H (fs++fr) s.heap→(∀a∈as,∀t∈fr,a≠t.1)→It i fs→nx i H=some o →
  Zqn Γ W ρ H fr s It i Q o→wpAny (model prog w) Γ.A (pyNext it) Q E s
 self:∀(i:Nat) (W:Wd) (ρ:Lc) (H:Hp) (fr fs:List (Addr×Obj)) (s:Shared) (Q E:Value→Shared→Prop),W0.Le W→Rep Γ W ρ H (fs++fr) s.heap→It i fs→Q it s→wpAny (model prog w) Γ.A (pyIter it) Q E s
noncomputable abbrev Src:=Lc→Hp→Option (Nx×Nat×Hp)
noncomputable def JI(prog:Program)(w:World)(Γ:Cx)(e:Expr)(g:Src): Prop:=∀(W:Wd) (ρ:Lc) (H:Hp) (fr:List (Addr×Obj)) (s:Shared) (Q E:Value→Shared→Prop) (nx:Nx) (n:Nat) (H':Hp),
 Rep Γ W ρ H fr s.heap→g ρ H=some (nx,n,H') →
 (∀(W':Wd) (h':Heap) (tk':Nat) (it:Value) (as:List Addr) (It:Nat→List (Addr×Obj)→Prop) (fs:List (Addr×Obj)),W.Le W'→It 0 fs→Rep Γ W' ρ H' (fs++fr) h'→(∀a∈as,∀t∈fr,a≠t.1)→Itr prog w Γ W' it as It nx→Q it { s with heap:=h',toks:=tk' }) →
 wpAny (model prog w) Γ.A (eval e Γ.env) (fun xv s₁=>wpAny (model prog w) Γ.A (pyIter xv) Q E s₁) E s
noncomputable def Zi2(a:Nat): Nx:=fun i H=>H[a]?.map fun vs=>vs[i]?
noncomputable def Zld(vs:List V): Nx:=fun i _=>some vs[i]?
noncomputable def ZdL(a c:Int)(n:Nat): Nx:=fun i _=>some (if i<n then some (.int (a+i*c))else none)
noncomputable def ZbV(f:Ex): Src:=fun ρ H=>(f ρ H).bind fun p=>match p.1 with
 | .ref a=>p.2[a]?.map fun vs=>(Zi2 a,vs.length+1,p.2)
 | .tup vs=>some (Zld vs,vs.length+1,p.2)
 | _=>none
noncomputable def rngN(a b c:Int): Nat:=(Builtin.Range.rangeSize a b c).toNat
noncomputable def ZbH(a b c:Int)(H:Hp): Option (Nx×Nat×Hp):=if c≠0∧Builtin.Range.small a b c=true∧0≤Builtin.Range.rangeSize a b c∧rngN a b c≤LEN∧Builtin.divisionGoesByPylong (b-a) c=false then some (ZdL a c (rngN a b c),rngN a b c+1,H)else none
noncomputable def Za4(g:Exs): Src:=fun ρ H=>(g ρ H).bind fun p=>match p.1 with
 | [.int b]=>ZbH 0 b 1 p.2
 | [.int a,.int b]=>ZbH a b 1 p.2
 | [.int a,.int b,.int c]=>ZbH a b c p.2
 | _=>none
section
variable {prog:Program} {w:World} {Γ:Cx}
theorem Zi3{W0:Wd}{I:Addr}{nx:Nx}(P:Nat→Obj→Prop)
  (next:∀(i:Nat) (W:Wd) (ρ:Lc) (H:Hp) (fr:List (Addr×Obj)) (ob:Obj) (s:Shared) (Q:Option Value→Shared→Prop) (E:Value→Shared→Prop) (o:Option V),W0.Le W→Rep Γ W ρ H ((I,ob)::fr) s.heap→P i ob→nx i H=some o →
   (match o with
    | none=>∀(h':Heap) (tk':Nat),(∀b o,b≠I→s.heap.get? b=some o→h'.get? b=some o)→Q none { s with heap:=h',toks:=tk' }
    | some v=>∀(ob':Obj) (h':Heap) (tk':Nat) (x:Value),P (i+1) ob'→h'.get? I=some ob'→(∀b o,b≠I→s.heap.get? b=some o→h'.get? b=some o)→VR W v x→Q (some x) { s with heap:=h',toks:=tk' })→wpAny (model prog w) Γ.A (pyNext (.ref I)) Q E s)
  (self:∀(i:Nat) (W:Wd) (ρ:Lc) (H:Hp) (fr:List (Addr×Obj)) (ob:Obj) (s:Shared) (Q E:Value→Shared→Prop),W0.Le W→Rep Γ W ρ H ((I,ob)::fr) s.heap→P i ob→Q (.ref I) s→wpAny (model prog w) Γ.A (pyIter (.ref I)) Q E s):
  Itr prog w Γ W0 (.ref I) [I] (fun i fs=>∃ob,fs=[(I,ob)]∧P i ob) nx:=by
 refine⟨?_,?_,?_⟩
 ·rintro i fs ⟨ob,e,_⟩
  rw[e]
  rfl
 ·rintro i W ρ H fr fs s Q E o le r ap ⟨ob,e,hp⟩ hn post
  subst e
  refine next i W ρ H fr ob s Q E o le r hp hn ?_
  have ap':∀q∈[(I,ob)],∀t∈fr,q.1≠t.1:=fun q hq t ht=>by rw[List.mem_singleton.mp hq];exact ap I Zz5 t ht
  cases o with
  | none=>
   intro h' tk' keep
   have:=Rep.swap (fs:=[(I,ob)]) (fs':=[]) r ap' (fun b o hb e=>keep b o (fun q=>hb (by simp[q])) e) (fun q hq=>nomatch hq)
   exact post h' tk' this
  | some v=>
   intro ob' h' tk' x hp' hg keep hx
   have:=Rep.swap (fs:=[(I,ob)]) (fs':=[(I,ob')]) r ap' (fun b o hb e=>keep b o (fun q=>hb (by simp[q])) e) (fun q hq=>by rw[List.mem_singleton.mp hq];exact⟨hg,by simp⟩)
   exact post [(I,ob')] h' tk' x ⟨ob',rfl,hp'⟩ this hx
 ·rintro i W ρ H fr fs s Q E le r ⟨ob,e,hp⟩ q
  subst e
  exact self i W ρ H fr ob s Q E le r hp q
theorem JI.seq{e:Expr}{f:Ex}(h:J prog w Γ e f): JI prog w Γ e (ZbV f):=by
 intro W ρ H fr s Q E nx n H' r hf post
 obtain⟨p,e1,hf⟩:=Zz0.mp hf
 refine h W ρ H fr s _ E _ _ r e1 fun W1 k1 t1 x l1 r1 x1=>?_
 obtain⟨v,H1⟩:=p
 cases x1 with
 | none=>cases hf
 | bool _=>cases hf
 | int _ _=>cases hf
 | str _ _=>cases hf
 | @tup vs a xs k hm hl hs=>
  cases hf
  have it:k1.IsTuple a xs.toArray:=⟨_,r1.tupAt hm,rfl,k,rfl⟩
  refine wpAny_pyIter_tuple it ?_
  obtain⟨r2,ap⟩:=r1.more (fs:=[(k1.objs.size,{ cls:=.type "tuple_iterator",data:=.fields #[.ref a,.int 0 0] })]) (fun b o e=>Heap.get?_push_of_some { cls:=.type "tuple_iterator",data:=.fields #[.ref a,.int 0 0] } e) (fun q hq=>by rw[List.mem_singleton.mp hq];exact⟨Heap.get?_push_size _ rfl,Nat.le_refl _⟩)
  refine post W1 _ t1 _ [k1.objs.size] _ _ l1 ⟨_,rfl,?_⟩ r2 (fun b hb t ht=>by rw[List.mem_singleton.mp hb];exact ap _ Zz5 t ht)
   (Zi3 (fun i ob=>ob.cls=.type "tuple_iterator"∧ob.data=.fields #[.ref a,.int i 0]) ?_ ?_)
  ·intro i W ρ H fr ob s Q E o le r hp hn post
   have g1:s.heap.IsTupleIter k1.objs.size a i:=⟨ob,r.frAt Zz5,hp.1,hp.2⟩
   have g2:s.heap.IsTuple a xs.toArray:=⟨_,r.tupAt (le.tups _ hm),rfl,k,rfl⟩
   have ne:a≠k1.objs.size:=Nat.ne_of_lt (Heap.lt_size (r1.tupAt hm))
   have Wk:=Walks.tuple (prog:=prog) (w:=w) Γ.hh k1.objs.size a ne xs.toArray
   cases hn
   cases ev:vs[i]? with
   | none=>
    rw[ev]at post
    have hi:xs.toArray[i]?=none:=by have:=List.getElem?_eq_none_iff.mp ev;rw[←hs.length]at this;simpa using this
    exact wpAny_pyNext_tuple_end Γ.hh g1 g2 hi fun h' he'=>post h' s.toks fun b o hb e=>he' b o hb e
   | some v=>
    rw[ev]at post
    obtain⟨y,hy,ry⟩:=hs.at ev
    refine wpAny_pyNext_tuple_item g1 g2 (x:=y) (by simpa using hy) fun h' hit' hs'=>?_
    obtain⟨ob',h1,h2,h3⟩:=hit'
    exact post ob' h' s.toks y ⟨h2,h3⟩ h1 (fun b o hb e=>hs'.extBut b o hb e) (ry.mono le)
  ·intro i W ρ H fr ob s Q E le r hp q
   exact wpAny_pyIter_tupleiter (⟨ob,r.frAt Zz5,hp.1,hp.2⟩:s.heap.IsTupleIter k1.objs.size a i) q
  ·exact⟨rfl,rfl⟩
 | @ref i0 a ea=>
  obtain⟨vs,e2,e3⟩:=Zz1.mp hf
  cases e3
  obtain⟨hl,xs,k,hg,hv⟩:=r1.at e2 ea
  have isl:k1.IsList a xs.toArray:=⟨_,hg,rfl,k,rfl⟩
  refine wpAny_pyIter_list isl ?_
  obtain⟨r2,ap⟩:=r1.more (fs:=[(k1.objs.size,{ cls:=.type "list_iterator",data:=.fields #[.ref a,.int 0 0] })]) (fun b o e=>Heap.get?_push_of_some { cls:=.type "list_iterator",data:=.fields #[.ref a,.int 0 0] } e) (fun q hq=>by rw[List.mem_singleton.mp hq];exact⟨Heap.get?_push_size _ rfl,Nat.le_refl _⟩)
  refine post W1 _ t1 _ [k1.objs.size] _ _ l1 ⟨_,rfl,?_⟩ r2 (fun b hb t ht=>by rw[List.mem_singleton.mp hb];exact ap _ Zz5 t ht)
   (Zi3 (fun i ob=>ob.cls=.type "list_iterator"∧ob.data=.fields #[.ref a,.int i 0]) ?_ ?_)
  ·intro i W ρ H fr ob s Q E o le r hp hn post
   obtain⟨us,eu,e4⟩:=Zz1.mp hn
   subst e4
   obtain⟨hl2,ys,k2,hg2,hv2⟩:=r.at eu (le.at ea)
   have g1:s.heap.IsListIter k1.objs.size a i:=⟨ob,r.frAt Zz5,hp.1,hp.2⟩
   have g2:s.heap.IsList a ys.toArray:=⟨_,hg2,rfl,k2,rfl⟩
   cases ev:us[i]? with
   | none=>
    rw[ev]at post
    have hi:ys.toArray[i]?=none:=by have:=List.getElem?_eq_none_iff.mp ev;rw[←hv2.length]at this;simpa using this
    exact wpAny_pyNext_list_end Γ.hh g1 g2 hi fun h' he'=>post h' s.toks fun b o hb e=>he' b o hb e
   | some v=>
    rw[ev]at post
    obtain⟨y,hy,ry⟩:=hv2.at ev
    refine wpAny_pyNext_list_item g1 g2 (x:=y) (by simpa using hy) fun h' hit' hs'=>?_
    obtain⟨ob',h1,h2,h3⟩:=hit'
    exact post ob' h' s.toks y ⟨h2,h3⟩ h1 (fun b o hb e=>hs'.extBut b o hb e) ry
  ·intro i W ρ H fr ob s Q E le r hp q
   exact wpAny_pyIter_listiter (⟨ob,r.frAt Zz5,hp.1,hp.2⟩:s.heap.IsListIter k1.objs.size a i) q
  ·exact⟨rfl,rfl⟩
theorem Zl6{a b c:Int}{H:Hp}{z:Nx×Nat×Hp}(h:ZbH a b c H=some z): c≠0∧Builtin.divisionGoesByPylong (b-a) c=false:=by
 unfold ZbH at h
 split at h
 ·rename_i hc
  exact⟨hc.1,hc.2.2.2.2⟩
 ·cases h
theorem ZnF{W0:Wd}{I:Addr}{a c:Int}{n:Nat}: Itr prog w Γ W0 (.ref I) [I] (fun i fs=>∃ob,fs=[(I,ob)]∧(i≤n∧ob = { cls:=.type "range_iterator",dict:=none,data:=.fields #[rawInt (a+(i:Nat)*c),rawInt ((n:Int)-(i:Nat)),rawInt c],slots:=#[] })) (ZdL a c n):=by
 have Wk:=Walks.range (prog:=prog) (w:=w) Γ.hh I a c n
 refine Zi3 (fun i ob=>i≤n∧ob = { cls:=.type "range_iterator",dict:=none,data:=.fields #[rawInt (a+(i:Nat)*c),rawInt ((n:Int)-(i:Nat)),rawInt c],slots:=#[] }) ?_ ?_
 ·intro i W ρ H fr ob s Q E o le r hp hn post
  have g:IsRangeIter s.heap I (a+(i:Nat)*c) ((n:Int)-(i:Nat)) c:=(r.frAt Zz5).trans (congrArg some hp.2)
  cases hn
  by_cases hi:i<n
  ·rw[if_pos hi]at post
   refine Wk.item i s Q E hi g fun v h' tk hv st keep=>?_
   obtain⟨t,e⟩:=hv
   subst e
   exact post _ h' tk _ ⟨hi,rfl⟩ st (fun b o hb e=>keep b o (by simpa using hb) e) (.int _ _)
  ·rw[if_neg hi]at post
   have e:i=n:=by have:=hp.1;omega
   subst e
   exact Wk.done s Q E g fun h' tk keep=>post h' tk fun b o hb e=>keep b o (by simpa using hb) e
 ·intro i W ρ H fr ob s Q E le r hp q
  have g:IsRangeIter s.heap I (a+(i:Nat)*c) ((n:Int)-(i:Nat)) c:=(r.frAt Zz5).trans (congrArg some hp.2)
  exact Wk.self i s Q E g q
theorem ZhA{a b c:Int}{t u v:Tok}{W:Wd}{ρ:Lc}{H:Hp}{fr:List (Addr×Obj)}{s:Shared}{k:Heap}{tk:Nat}{Q E:Value→Shared→Prop}{nx:Nx}{n:Nat}{H':Hp}(r:Rep Γ W ρ H fr k)(hm:ZbH a b c H=some (nx,n,H'))
  (post:∀(W':Wd) (h':Heap) (tk':Nat) (it:Value) (as:List Addr) (It:Nat→List (Addr×Obj)→Prop) (fs:List (Addr×Obj)),W.Le W'→It 0 fs→Rep Γ W' ρ H' (fs++fr) h'→(∀a∈as,∀t∈fr,a≠t.1)→Itr prog w Γ W' it as It nx→Q it { s with heap:=h',toks:=tk' }):
  wpAny (model prog w) Γ.A (pyIter (.ref k.objs.size)) Q E { s with heap:=k.push { cls:=.type "range",data:=.fields #[.int a t,.int b u,.int c v] },toks:=tk }:=by
 unfold ZbH at hm
 split at hm
 ·rename_i hc
  cases hm
  have hr:IsRange (k.push { cls:=.type "range",data:=.fields #[.int a t,.int b u,.int c v] }) k.objs.size a b c t u v:=IsRange.new ..
  refine wpAny_pyIter_range hr hc.2.1 ?_
  have rp:=r.push { cls:=.type "range",data:=.fields #[.int a t,.int b u,.int c v] }
  have en:Builtin.Range.rangeSize a b c=((rngN a b c:Nat):Int):=(Int.toNat_of_nonneg hc.2.2.1).symm
  dsimp only
  generalize hk:k.push { cls:=.type "range",data:=.fields #[.int a t,.int b u,.int c v] } = k2 at rp ⊢
  obtain⟨r2,ap⟩:=rp.more (fs:=[(k2.objs.size,{ cls:=.type "range_iterator",data:=.fields #[rawInt a,rawInt (Builtin.Range.rangeSize a b c),rawInt c] })]) (fun b' o e=>Heap.get?_push_of_some { cls:=.type "range_iterator",data:=.fields #[rawInt a,rawInt (Builtin.Range.rangeSize a b c),rawInt c] } e) (fun q hq=>by rw[List.mem_singleton.mp hq];exact⟨Heap.get?_push_size _ rfl,Nat.le_refl _⟩)
  refine post W _ tk _ [k2.objs.size] _ _ (.refl W) ⟨_,rfl,Nat.zero_le _,?_⟩ r2 (fun b hb t ht=>by rw[List.mem_singleton.mp hb];exact ap _ Zz5 t ht) (ZnF (a:=a) (c:=c) (n:=rngN a b c))
  rw[en]
  simp
 ·cases hm
theorem JI.range{x:Str}{np pos:Pos}{e:Expr}{es:List Expr}{g:Exs}(hn:Nm prog w Γ x (.type "range"))(h:Js prog w Γ (e::es) g)
  (he:starEach (e::es) Γ.env=(false,eval e Γ.env)::starEach es Γ.env:=by rfl) (hp:∀pos,(backTo pos (starEach es Γ.env)).any (·.1)=false:=by intro _;rfl):JI prog w Γ (.Call (.Name x np) (e::es) [] pos) (Za4 g):=by
 intro W ρ H fr s Q E nx n H' r hf post
 obtain⟨p,e1,hf⟩:=Zz0.mp hf
 refine wpAny_Call_ofName (hn.use r ?_)
 refine PySem.Pv.callWith_type1 (h pos W ρ H fr s _ E _ _ r e1 fun W1 k1 t1 xs l1 r1 x1=>?_) he (hp pos)
 obtain⟨vs,H1⟩:=p
 dsimp only at hf x1 r1
 have post1:=fun W' h' tk' it as It fs (l:W1.Le W')=>post W' h' tk' it as It fs (l1.trans l)
 split at hf
 ·obtain⟨y,ex,ry⟩:=x1.one
  subst ex
  cases ry
  exact call_range_1 (ZhA r1 hf post1)
 ·obtain⟨y,z,ex,ry,rz⟩:=x1.two
  subst ex
  cases ry
  cases rz
  exact call_range_2 (ZhA r1 hf post1)
 ·cases x1 with
  | cons ry x1=>
  obtain⟨y,z,ex,rz,ru⟩:=x1.two
  subst ex
  cases ry
  cases rz
  cases ru
  have hc:=Zl6 hf
  exact call_range_3 hc.1 (ZhA r1 hf post1) (.inl hc.2)
 ·cases hf
end
noncomputable def ZcD(nx:Nx)(put:V→Lc→Option Lc)(b:Sm): Nat→Nat→Sm
 | 0,_=>fun _ _=>none
 | n+1,i=>fun ρ H=>(nx i H).bind fun o=>match o with
  | none=>some (none,ρ,H)
  | some v=>(put v ρ).bind fun ρ1=>(b ρ1 H).bind fun q=>match q.1 with
   | some _=>some q
   | none=>ZcD nx put b n (i+1) q.2.1 q.2.2
noncomputable def ZaW(g:Src)(put:V→Lc→Option Lc)(b:Sm): Sm:=fun ρ H=>(g ρ H).bind fun z=>ZcD z.1 put b z.2.1 0 ρ z.2.2
noncomputable def Zap(i:Nat): V→Lc→Option Lc:=fun v ρ=>some (upd ρ i v)
section
variable {prog:Program} {w:World} {Γ:Cx}
theorem Zcg{x:Str}{i:Nat}{px pos:Pos}{it:Expr}{body:List Stmt}{g:Src}{b:Sm}(hx:Sto prog w Γ x i)(hg:JI prog w Γ it g)(hb:Ss prog w Γ body b)(hs:∀x,foldedSetIterable it Γ.env x=pure x:=by intro _;rfl): S1 prog w Γ (.For (.Name x px) it body [] pos) (ZaW g (Zap i) b):=by
 intro W ρ H fr s Q E r rp hf post
 obtain⟨z,e1,hf⟩:=Zz0.mp hf
 obtain⟨nx,n,H0⟩:=z
 refine wpAny_For (hg W ρ H fr s _ E nx n H0 rp e1 fun W1 k1 t1 itv as It fs l1 i1 r1 ap I1=>?_) hs
 refine codeAny_forLoop (fun k s'=>∃W' ρ' H' h' tk' j fs',s' = { s with heap:=h',toks:=tk' }∧W1.Le W'∧It j fs'∧Rep Γ W' ρ' H' (fs'++fr) h'∧ZcD nx (Zap i) b k j ρ' H'=some r) ?_ n ⟨W1,ρ,H0,k1,t1,0,fs,rfl,.refl _,i1,r1,hf⟩
 rintro k s' ⟨W2,ρ2,H2,k2,t2,j,fs2,rfl,l2,i2,r2,e⟩
 cases k with
 | zero=>cases e
 | succ k=>
  obtain⟨o,e2,e⟩:=Zz0.mp e
  refine I1.next j W2 ρ2 H2 fr fs2 _ _ _ o l2 r2 ap i2 e2 ?_
  cases o with
  | none=>
   cases e
   intro h' tk' r3
   exact wpAny_execs_nil (post W2 h' tk' (l1.trans l2) r3)
  | some v=>
   intro fs3 k3 t3 y i3 r3 y3
   obtain⟨ρ3,e3,e⟩:=Zz0.mp e
   cases e3
   obtain⟨q,e4,e⟩:=Zz0.mp e
   refine wpAny_assign_Name (hx W2 ρ2 H2 (fs3++fr) _ _ _ v y r3 y3 fun k4 t4 r4=>?_)
   refine hb W2 _ H2 (fs3++fr) _ _ _ q r4 e4 ?_
   obtain⟨u,ρ5,H5⟩:=q
   cases u with
   | some u=>
    cases e
    exact fun W5 k5 t5 x5 l5 r5 v5=>post W5 k5 t5 x5 ((l1.trans l2).trans l5) (r5.less fun q hq=>List.mem_append_right _ hq) v5
   | none=>exact fun W5 k5 t5 l5 r5=>⟨k,Nat.lt_succ_self k,W5,ρ5,H5,k5,t5,j+1,fs3,rfl,l2.trans l5,i3,r5,e⟩
end
end PM
end
section
set_option autoImplicit false
namespace PM
open PySem PySem.W PySem.Calls PyProof.Rows PyProof
structure OwnF(names:List Str)(cs:Scope)(cl:List (Str×Addr))(W:Wd)(ρ:Lc)(m:Str→Option Value)(cells:List (Addr×Obj)): Prop where
 loc:∀(i:Nat) (x:Str) (v:V),names[i]?=some x→cs.names.lookup x=some .local→ρ i=some v→∃y,m x=some y∧VR W v y
 cel:∀(i:Nat) (x:Str) (v:V),names[i]?=some x→cs.names.lookup x=some .cell→ρ i=some v→∃c o y,cl.lookup x=some c∧(c,o)∈cells∧o.data=.cell (some y)∧VR W v y
 all:∀(x:Str) (c:Addr),cl.lookup x=some c→∃o v₀,(c,o)∈cells∧o.data=.cell v₀
 one:∀(x y:Str) (c:Addr),cl.lookup x=some c→cl.lookup y=some c→x=y
theorem OwnF.mono{names:List Str}{cs:Scope}{cl:List (Str×Addr)}{W W':Wd}{ρ:Lc}{m:Str→Option Value}{cells:List (Addr×Obj)}(l:W.Le W')(h:OwnF names cs cl W ρ m cells): OwnF names cs cl W' ρ m cells:=
 ⟨fun i x v a b c=>by
  obtain⟨y,h1,h2⟩:=h.loc i x v a b c
  exact⟨y,h1,h2.mono l⟩,fun i x v a b c=>by
  obtain⟨d,o,y,h1,h2,h3,h4⟩:=h.cel i x v a b c
  exact⟨d,o,y,h1,h2,h3,h4.mono l⟩,h.all,h.one⟩
noncomputable def Za8(dp un:Nat)(gd:Option (List Code))(cn:Str)(cs:Scope)(L a:Addr)(ccd:Value)(cl:List (Str×Addr))(outer:List Env)(h₀:Heap)(hu:un+200<cLine)(names:List Str): Cx where
 A:=ktrTop dp un gd cn cs L a ccd cl outer
 env:=envX cn cs L a ccd cl
 h₀:=h₀
 L:=L
 hh:=rfl
 hu:=hu
 Own:=OwnF names cs cl
 mono:=OwnF.mono
section
variable {prog:Program} {w:World} {dp un:Nat} {gd:Option (List Code)} {cn:Str} {cs:Scope} {L a:Addr} {ccd:Value} {cl:List (Str×Addr)} {outer:List Env} {h₀:Heap} {hu:un+200<cLine} {names:List Str}
theorem Zpl{x:Str}{i:Nat}(hi:names[i]?=some x)(hx:cs.names.lookup x=some .local)(hk:cs.kind=.function)(hd:(x == ("__debug__":Str))=false): Rd prog w (Za8 dp un gd cn cs L a ccd cl outer h₀ hu names) x i:=by
 intro W ρ H fr s Q E v pos r e q
 obtain⟨m,c,led,r⟩:=r
 obtain⟨y,h1,h2⟩:=r.own.loc i x v hi hx e
 exact nameX_L r.F h1 (q y h2) hk hx hd
theorem Zpm{x:Str}{i:Nat}(hi:names[i]?=some x)(hx:cs.names.lookup x=some .cell)(hk:cs.kind=.function)(hd:(x == ("__debug__":Str))=false): Rd prog w (Za8 dp un gd cn cs L a ccd cl outer h₀ hu names) x i:=by
 intro W ρ H fr s Q E v pos r e q
 obtain⟨m,c,led,r⟩:=r
 obtain⟨d,o,y,h1,h2,h3,h4⟩:=r.own.cel i x v hi hx e
 exact nameX_C r.N h1 (r.clIn _ h2) h3 (q y h4) hk hx hd
theorem Zom{x:Str}{i:Nat}(nd:names.Nodup)(hi:names[i]?=some x)(hx:cs.names.lookup x=some .local)(hk:cs.kind=.function): Sto prog w (Za8 dp un gd cn cs L a ccd cl outer h₀ hu names) x i:=by
 intro W ρ H fr s Q E v y r vy q
 obtain⟨m,c,led,r⟩:=r
 have hi':i<names.length:=(Zz6.mp hi).1
 refine storeX_L r.F r.N (fun h' F' N'=>q h' _ ⟨_,c,led,⟨F',N',r.R,r.sc,r.sc0,r.frIn,r.frOff,r.clIn,r.clOff,r.apart,r.frTup,r.clTup,⟨fun j z u hj hz hu=>?_,fun j z u hj hz hu=>?_,r.own.all,r.own.one⟩⟩⟩) hk hx
 ·by_cases e:j=i
  ·subst e
   rw[hi]at hj
   cases hj
   simp only[upd,if_true]at hu
   cases hu
   exact⟨y,by simp,vy⟩
  ·have hzx:z≠x:=fun e'=>by
    subst e'
    exact e ((List.getElem?_inj (Zz6.mp hj).1 nd).mp (hj.trans hi.symm))
   simp only[upd,if_neg e]at hu
   obtain⟨y',h1,h2⟩:=r.own.loc j z u hj hz hu
   exact⟨y',by simp[hzx,h1],h2⟩
 ·by_cases e:j=i
  ·subst e
   rw[hi]at hj
   cases hj
   rw[hx]at hz
   cases hz
  ·simp only[upd,if_neg e]at hu
   exact r.own.cel j z u hj hz hu
theorem Zon{x:Str}{i:Nat}(nd:names.Nodup)(hi:names[i]?=some x)(hx:cs.names.lookup x=some .cell)(hk:cs.kind=.function)(hcl:(cl.lookup x).isSome=true): Sto prog w (Za8 dp un gd cn cs L a ccd cl outer h₀ hu names) x i:=by
 intro W ρ H fr s Q E v y r vy q
 obtain⟨m,c,led,r⟩:=r
 obtain⟨d,hd⟩:=Option.isSome_iff_exists.mp hcl
 obtain⟨o,v₀,ho,hv₀⟩:=r.own.all x d hd
 have inl:=r.clIn _ ho
 have N2:News h₀ L s.heap ((d,o)::led.filter (fun q=>decide (q.1≠d))):=by
  intro q hq
  rcases Zz7.mp hq with e | hq
  ·subst e
   exact r.N _ inl
  ·exact r.N q (List.mem_filter.mp hq).1
 refine storeX_C r.F N2 hd (UpdF.head fun q hq=>by simpa using (List.mem_filter.mp hq).2) hv₀ (fun h' o' F' N' ho'=>?_) hk hx
 have keep:∀q∈led,q.1≠d→q∈(d,o')::led.filter (fun q=>decide (q.1≠d)):=fun q hq hn=>List.mem_cons_of_mem _ (List.mem_filter.mpr ⟨hq,by simpa using hn⟩)
 refine q h' s.toks ⟨m,(d,o')::c.filter (fun q=>decide (q.1≠d)),_,⟨F',N',⟨r.R.len,r.R.nd,fun j vs e=>?_,fun q hq=>Zdc (r.R.tups q hq) fun z=>keep q z (r.clTup _ ho q hq).symm,r.R.kind⟩,r.sc,r.sc0,fun q hq=>keep q (r.frIn q hq) (r.apart _ ho q hq).symm,r.frOff,fun q hq=>?_,fun q hq=>?_,fun q hq t ht=>?_,r.frTup,fun q hq t ht=>?_,⟨fun j z u hj hz hu=>?_,fun j z u hj hz hu=>?_,fun z e hz=>?_,r.own.one⟩⟩⟩
 ·obtain⟨l,b,xs,k,h1,h2,h3⟩:=r.R.lists j vs e
  exact⟨l,b,xs,k,h1,Zdc h2 fun z=>keep _ z fun e=>r.clOff _ ho (e▸List.mem_of_getElem? h1),h3⟩
 ·rcases Zz7.mp hq with e | hq
  ·exact e▸List.mem_cons_self
  ·obtain⟨h1,h2⟩:=List.mem_filter.mp hq
   exact keep q (r.clIn q h1) (by simpa using h2)
 ·rcases Zz7.mp hq with e | hq
  ·rw[e]
   exact(r.clOff _ ho:d∉W.pi)
  ·exact r.clOff q (List.mem_filter.mp hq).1
 ·rcases Zz7.mp hq with e | hq
  ·rw[e]
   exact(r.apart _ ho t ht:d≠t.1)
  ·exact r.apart q (List.mem_filter.mp hq).1 t ht
 ·rcases Zz7.mp hq with e | hq
  ·rw[e]
   exact(r.clTup _ ho t ht:d≠t.1)
  ·exact r.clTup q (List.mem_filter.mp hq).1 t ht
 ·by_cases e:j=i
  ·subst e
   rw[hi]at hj
   cases hj
   rw[hx]at hz
   cases hz
  ·simp only[upd,if_neg e]at hu
   exact r.own.loc j z u hj hz hu
 ·by_cases e:j=i
  ·subst e
   rw[hi]at hj
   cases hj
   simp only[upd,if_true]at hu
   cases hu
   exact⟨d,o',y,hd,List.mem_cons_self,ho',vy⟩
  ·have hzx:z≠x:=fun e'=>by
    subst e'
    exact e ((List.getElem?_inj (Zz6.mp hj).1 nd).mp (hj.trans hi.symm))
   simp only[upd,if_neg e]at hu
   obtain⟨b,ob,y',h1,h2,h3,h4⟩:=r.own.cel j z u hj hz hu
   have:b≠d:=fun e'=>by
    subst e'
    exact hzx (r.own.one z x b h1 hd)
   exact⟨b,ob,y',h1,List.mem_cons_of_mem _ (List.mem_filter.mpr ⟨h2,by simpa using this⟩),h3,h4⟩
 ·by_cases e':e=d
  ·subst e'
   exact⟨o',_,List.mem_cons_self,ho'⟩
  ·obtain⟨ob,v1,h1,h2⟩:=r.own.all z e hz
   exact⟨ob,v1,List.mem_cons_of_mem _ (List.mem_filter.mpr ⟨h1,by simpa using e'⟩),h2⟩
end
end PM
end
section
set_option autoImplicit false
namespace PM
open PySem PySem.W PySem.Calls PyProof.Rows PyProof PyProof.Rows.LCg
theorem Zfu{Γ:Cx}{W:Wd}{ρ:Lc}{H:Hp}{fr:List (Addr×Obj)}{h:Heap}{D:Addr}{ys:List Value}{k:Nat}{vs:List V}(r:Rep Γ W ρ H ((D,Zbj ys k)::fr) h)(ap:∀t∈fr,D≠t.1)(hv:VRs W vs ys)(hl:vs.length≤LEN):
  ∃W',W.Le W'∧Rep Γ W' ρ (H++[vs]) fr h∧VR W' (.ref H.length) (.ref D):=by
 obtain⟨m,c,led,r⟩:=r
 have le:W.Le ⟨W.pi++[D],W.tups,W.sc⟩:=⟨List.prefix_append _ _,fun q hq=>hq,rfl⟩
 have h0:0<W.pi.length:=(Zz6.mp r.sc0).1
 have at_n:(W.pi++[D])[H.length]?=some D:=by rw[←r.R.len];simp
 have off:=r.frOff _ Zz5
 refine⟨⟨W.pi++[D],W.tups,W.sc⟩,le,⟨m,c,led,⟨r.F,r.N,⟨by simp[r.R.len],?_,fun i us e=>?_,r.R.tups,r.R.kind⟩,r.sc,(List.getElem?_append_left h0).trans r.sc0,fun q hq=>r.frIn q (Zz2 _ hq),fun q hq=>?_,r.clIn,fun q hq=>?_,fun q hq t ht=>r.apart q hq t (Zz2 _ ht),fun q hq=>r.frTup q (Zz2 _ hq),r.clTup,Γ.mono le r.own⟩⟩,.ref at_n⟩
 ·show(W.pi++[D]).Nodup
  rw[List.nodup_append]
  refine⟨r.R.nd,by simp,fun a ha b hb=>?_⟩
  rw[List.mem_singleton.mp hb]
  exact fun e=>off (e▸ha)
 ·by_cases hi:i<H.length
  ·rw[List.getElem?_append_left hi]at e
   obtain⟨l,a,zs,j,h1,h2,h3⟩:=r.R.lists i us e
   exact⟨l,a,zs,j,le.at h1,h2,h3.mono le⟩
  ·have:i=H.length:=by
    have:=(Zz6.mp e).1
    simp at this
    omega
   subst this
   simp at e
   subst e
   exact⟨hl,D,ys,k,at_n,List.mem_cons_of_mem _ (r.frIn _ Zz5),hv.mono le⟩
 ·intro hm
  rcases Zz8.mp hm with hm | hm
  ·exact r.frOff q (Zz2 _ hq) hm
  ·exact ap q hq (Zz9.mp hm).symm
 ·intro hm
  rcases Zz8.mp hm with hm | hm
  ·exact r.clOff q hq hm
  ·exact r.apart q hq _ Zz5 (Zz9.mp hm)
noncomputable def ZqJ(Γ:Cx)(C:Addr)(ts:List (Str×Nat))(ρ0:Lc)(W:Wd)(ρ:Lc)(m:Str→Option Value)(cells:List (Addr×Obj)): Prop:=
 ∃oC m₂ cs,cells=(C,oC)::cs∧(∀q∈cs,q.1≠C)∧NsObj oC m₂∧(∀p∈ts,∃v y,ρ p.2=some v∧m₂ p.1=some y∧VR W v y)∧(∀j,(∀p∈ts,p.2≠j)→ρ j=ρ0 j)∧Γ.Own W ρ0 m cs
noncomputable def ZaI(Γ:Cx)(scope:Scope)(cl:List (Str×Addr))(C:Addr)(ts:List (Str×Nat))(ρ0:Lc): Cx where
 A:=Γ.A
 env:=compEnvC scope cl C Γ.env
 h₀:=Γ.h₀
 L:=Γ.L
 hh:=Γ.hh
 hu:=Γ.hu
 Own:=ZqJ Γ C ts ρ0
 mono:=fun l h=>by
  obtain⟨oC,m₂,cs,e,h0,h1,h2,h3,h4⟩:=h
  exact⟨oC,m₂,cs,e,h0,h1,fun p hp=>by
   obtain⟨v,y,a,b,c⟩:=h2 p hp
   exact⟨v,y,a,b,c.mono l⟩,h3,Γ.mono l h4⟩
section
variable {Γ:Cx} {scope:Scope} {cl:List (Str×Addr)} {C:Addr} {ts:List (Str×Nat)} {ρ0:Lc} {W:Wd} {ρ:Lc} {H:Hp} {fr:List (Addr×Obj)} {h:Heap}
theorem ZkP{oC:Obj}{m₂:Str→Option Value}(r:Rep Γ W ρ0 H ((C,oC)::fr) h)(ap:∀t∈fr,C≠t.1)(hC:NsObj oC m₂)(ht:∀p∈ts,∃v y,ρ p.2=some v∧m₂ p.1=some y∧VR W v y)(hj:∀j,(∀p∈ts,p.2≠j)→ρ j=ρ0 j): Rep (ZaI Γ scope cl C ts ρ0) W ρ H fr h:=by
 obtain⟨m,c,led,r⟩:=r
 refine⟨m,(C,oC)::c,led,⟨r.F,r.N,r.R,r.sc,r.sc0,fun q hq=>r.frIn q (Zz2 _ hq),fun q hq=>r.frOff q (Zz2 _ hq),fun q hq=>?_,fun q hq=>?_,fun q hq t ht=>?_,fun q hq=>r.frTup q (Zz2 _ hq),fun q hq t ht=>?_,⟨oC,m₂,c,rfl,fun q hq=>r.apart q hq _ Zz5,hC,ht,hj,r.own⟩⟩⟩
 ·rcases Zz7.mp hq with e | hq
  ·exact e▸r.frIn _ Zz5
  ·exact r.clIn q hq
 ·rcases Zz7.mp hq with e | hq
  ·exact e▸r.frOff _ Zz5
  ·exact r.clOff q hq
 ·rcases Zz7.mp hq with e | hq
  ·exact e▸ap t ht
  ·exact r.apart q hq t (Zz2 _ ht)
 ·rcases Zz7.mp hq with e | hq
  ·exact e▸r.frTup _ Zz5 t ht
  ·exact r.clTup q hq t ht
theorem Rep.fromC(r:Rep (ZaI Γ scope cl C ts ρ0) W ρ H fr h): ∃oC m₂,NsObj oC m₂∧Rep Γ W ρ0 H ((C,oC)::fr) h:=by
 obtain⟨m,c,led,r⟩:=r
 obtain⟨oC,m₂,cs,e,h0,h1,h2,h3,h4⟩:=r.own
 subst e
 refine⟨oC,m₂,h1,m,cs,led,⟨r.F,r.N,r.R,r.sc,r.sc0,fun q hq=>?_,fun q hq=>?_,fun q hq=>r.clIn q (Zz2 _ hq),fun q hq=>r.clOff q (Zz2 _ hq),fun q hq t ht=>?_,fun q hq t ht=>?_,fun q hq=>r.clTup q (Zz2 _ hq),h4⟩⟩
 ·rcases Zz7.mp hq with e | hq
  ·exact e▸r.clIn _ Zz5
  ·exact r.frIn q hq
 ·rcases Zz7.mp hq with e | hq
  ·exact e▸r.clOff _ Zz5
  ·exact r.frOff q hq
 ·rcases Zz7.mp ht with e | ht
  ·rw[e]
   exact h0 q hq
  ·exact r.apart q (Zz2 _ hq) t ht
 ·rcases Zz7.mp hq with e | hq
  ·exact e▸r.clTup _ Zz5 t ht
  ·exact r.frTup q hq t ht
end
noncomputable def JF(prog:Program)(w:World)(Γ:Cx)(ifs:List Expr)(f:Ts): Prop:=∀(W:Wd) (ρ:Lc) (H:Hp) (fr:List (Addr×Obj)) (s:Shared) (Q:Bool→Shared→Prop) (E:Value→Shared→Prop) (b:Bool) (H':Hp),
 Rep Γ W ρ H fr s.heap→f ρ H=some (b,H')→Zf6 Γ W ρ H' fr s Q b →
 wpAny (model prog w) Γ.A (forIn ifs true fun c r=>if r=true then do let ok ←isTrue c Γ.env (eval c Γ.env);pure (ForInStep.yield ok)else pure (ForInStep.yield r)) Q E s
section
variable {prog:Program} {w:World} {Γ:Cx}
theorem JF.nil: JF prog w Γ [] Zaq:=fun W ρ H fr s Q E b H' r hf post=>by
 cases hf
 exact wpAny_pure (post W s.heap s.toks (.refl W) r)
end
end PM
end
section
set_option autoImplicit false
namespace PM
open PySem PySem.W PySem.Calls PyProof.Rows PyProof PyProof.Rows.LCg
noncomputable def Zb6(nx:Nx)(put:V→Lc→Option Lc)(c:Ts)(f:Ex)(ρ:Lc): Nat→Nat→List V→Hp→Option (List V×Hp)
 | 0,_,_,_=>none
 | n+1,i,acc,H=>(nx i H).bind fun o=>match o with
  | none=>some (acc,H)
  | some v=>(put v ρ).bind fun ρ1=>(c ρ1 H).bind fun b=>if b.1 then(f ρ1 b.2).bind fun p=>(if acc.length<LEN then Zb6 nx put c f ρ n (i+1) (acc++[p.1]) p.2 else none)else Zb6 nx put c f ρ n (i+1) acc b.2
noncomputable def ZaC(g:Src)(put:V→Lc→Option Lc)(c:Ts)(f:Ex): Ex:=fun ρ H=>(g ρ H).bind fun z=>(Zb6 z.1 put c f ρ z.2.1 0 [] z.2.2).map fun q=>(.ref q.2.length,q.2++[q.1])
noncomputable def ZeQ(Γ:Cx)(W0:Wd)(ρ:Lc)(fr:List (Addr×Obj))(C D:Addr)(It:Nat→List (Addr×Obj)→Prop)(nx:Nx)(put:V→Lc→Option Lc)(c:Ts)(f:Ex)(q:List V×Hp)(s:Shared)(k:Nat)(s':Shared): Prop:=
 ∃W' H' h' tk' j fs acc ys oC m₂,s' = { s with heap:=h',toks:=tk' }∧W0.Le W'∧It j fs∧NsObj oC m₂∧VRs W' acc ys∧acc.length≤LEN∧Rep Γ W' ρ H' ((C,oC)::(D,lst ys)::(fs++fr)) h'∧Zb6 nx put c f ρ k j acc H'=some q
section
variable {prog:Program} {w:World} {Γ:Cx}
theorem Zj9{scope:Scope}{cl:List (Str×Addr)}{elt:Expr}{ts:List (Str×Nat)}{W0 W:Wd}{ρ ρ1:Lc}{H:Hp}{fr fs:List (Addr×Obj)}{C D:Addr}{It:Nat→List (Addr×Obj)→Prop}{nx:Nx}{put:V→Lc→Option Lc}{c:Ts}{f:Ex}{q:List V×Hp}{s:Shared}{h:Heap}{tk:Nat}{k j:Nat}{acc:List V}{ys:List Value}{E:Value→Shared→Prop}
  (hel:J prog w (ZaI Γ scope cl C ts ρ) elt f) (aD:∀t∈fs++fr,D≠t.1) (cd:C≠D) (l0:W0.Le W) (hit:It (j+1) fs) (hv:VRs W acc ys) (r:Rep (ZaI Γ scope cl C ts ρ) W ρ1 H ((D,lst ys)::(fs++fr)) h)
  (e:((f ρ1 H).bind fun p=>(if acc.length<LEN then Zb6 nx put c f ρ k (j+1) (acc++[p.1]) p.2 else none))=some q):
  wpAny (model prog w) Γ.A (eval elt (compEnvC scope cl C Γ.env)) (fun x s₄=>wpAny (model prog w) Γ.A (call (.builtin "list.append") [.ref D,x]) (fun _ s₅=>∃m,m<k+1∧ZeQ Γ W0 ρ fr C D It nx put c f q s m s₅) E s₄) E { s with heap:=h,toks:=tk }:=by
 obtain⟨p,e2,e⟩:=Zz0.mp e
 by_cases hlt:acc.length<LEN
 ·rw[if_pos hlt]at e
  refine hel W ρ1 H _ _ _ E _ _ r e2 fun W2 k2 t2 x l2 r2 x2=>?_
  obtain⟨oC',m₃,hC',r3⟩:=r2.fromC
  have hD:k2.get? D=some (lst ys):=r3.frAt (q:=(D,lst ys)) (Zz2 _ Zz5)
  refine append_at (hsz:=ZcZ (by rw[List.size_toArray,hv.length];omega)) hD fun h' sb hg=>?_
  have hg':h'.get? D=some (lst (ys++[x])):=hg.trans (congrArg some (lst_snoc ys x))
  have r4:Rep Γ W2 ρ p.2 ([(D,lst ys)]++((C,oC')::(fs++fr))) k2:=r3.less fun q hq=>by
   rcases Zz8.mp hq with hq | hq
   ·rw[List.mem_singleton.mp hq]
    exact Zz2 _ Zz5
   ·rcases Zz7.mp hq with e | hq
    ·exact e▸List.mem_cons_self
    ·exact Zz2 _ (Zz2 _ hq)
  have r5:Rep Γ W2 ρ p.2 ([(D,lst (ys++[x]))]++((C,oC')::(fs++fr))) h':=by
   refine r4.swap (fun q hq t ht=>?_) (fun b o hb e=>sb.extBut b o (fun z=>hb (by simp[z])) e) fun q hq=>?_
   ·rw[List.mem_singleton.mp hq]
    rcases Zz7.mp ht with e | ht
    ·rw[e]
     exact cd.symm
    ·exact aD t ht
   ·rw[List.mem_singleton.mp hq]
    exact⟨hg',by simp⟩
  have r6:Rep Γ W2 ρ p.2 ((C,oC')::(D,lst (ys++[x]))::(fs++fr)) h':=r5.less fun q hq=>by
   rcases Zz7.mp hq with e | hq
   ·exact e▸List.mem_append_right _ Zz5
   ·rcases Zz7.mp hq with e | hq
    ·exact e▸List.mem_append_left _ Zz5
    ·exact Zz3 _ (Zz2 _ hq)
  exact⟨k,Nat.lt_succ_self k,W2,p.2,h',t2,j+1,fs,acc++[p.1],ys++[x],oC',m₃,rfl,l0.trans l2,hit,hC',(hv.mono l2).snoc x2,by simp;omega,r6,e⟩
 ·rw[if_neg hlt]at e
  cases e
theorem ZnG{scope:Scope}{cl:List (Str×Addr)}{elt:Expr}{ifs:List Expr}{ts:List (Str×Nat)}{W0 W:Wd}{ρ ρ1:Lc}{H:Hp}{fr fs:List (Addr×Obj)}{C D:Addr}{It:Nat→List (Addr×Obj)→Prop}{nx:Nx}{put:V→Lc→Option Lc}{c:Ts}{f:Ex}{q:List V×Hp}{s s1:Shared}{k j:Nat}{acc:List V}{ys:List Value}{oC:Obj}{m₂:Str→Option Value}{E:Value→Shared→Prop}
  (hel:J prog w (ZaI Γ scope cl C ts ρ) elt f) (hif:JF prog w (ZaI Γ scope cl C ts ρ) ifs c) (hs:∃h tk,s1 = { s with heap:=h,toks:=tk })
  (aC:∀t∈(D,lst ys)::(fs++fr),C≠t.1) (aD:∀t∈fs++fr,D≠t.1) (l0:W0.Le W) (hit:It (j+1) fs) (hC:NsObj oC m₂) (hv:VRs W acc ys) (hl:acc.length≤LEN) (r:Rep Γ W ρ H ((C,oC)::(D,lst ys)::(fs++fr)) s1.heap)
  (ht:∀p∈ts,∃v y,ρ1 p.2=some v∧m₂ p.1=some y∧VR W v y) (hj:∀i,(∀p∈ts,p.2≠i)→ρ1 i=ρ i)
  (e:((c ρ1 H).bind fun b=>if b.1 then(f ρ1 b.2).bind fun p=>(if acc.length<LEN then Zb6 nx put c f ρ k (j+1) (acc++[p.1]) p.2 else none)else Zb6 nx put c f ρ k (j+1) acc b.2)=some q):
  wpAny (model prog w) Γ.A (forIn ifs true fun c r=>if r=true then do let ok ←isTrue c (compEnvC scope cl C Γ.env) (eval c (compEnvC scope cl C Γ.env));pure (ForInStep.yield ok)else pure (ForInStep.yield r)) (fun ok s₃=>
   if ok=true then wpAny (model prog w) Γ.A (eval elt (compEnvC scope cl C Γ.env)) (fun x s₄=>wpAny (model prog w) Γ.A (call (.builtin "list.append") [.ref D,x]) (fun _ s₅=>∃m,m<k+1∧ZeQ Γ W0 ρ fr C D It nx put c f q s m s₅) E s₄) E s₃
   else ∃m,m<k+1∧ZeQ Γ W0 ρ fr C D It nx put c f q s m s₃) E s1:=by
 obtain⟨h,tk,rfl⟩:=hs
 obtain⟨b,e1,e⟩:=Zz0.mp e
 obtain⟨b,H1⟩:=b
 have rc:=ZkP (scope:=scope) (cl:=cl) r aC hC ht hj
 refine hif W ρ1 H _ _ _ E b H1 rc e1 fun W1 k1 t1 l1 r1=>?_
 cases b with
 | false=>
  obtain⟨oC',m₃,hC',r2⟩:=r1.fromC
  exact⟨k,Nat.lt_succ_self k,W1,H1,k1,t1,j+1,fs,acc,ys,oC',m₃,rfl,l0.trans l1,hit,hC',hv.mono l1,hl,r2,e⟩
 | true=>exact Zj9 hel aD (aC (D,lst ys) Zz5) (l0.trans l1) hit (hv.mono l1) r1 e
theorem comp_core{elt iter:Expr}{x:Str}{px:Pos}{ifs:List Expr}{scope:Scope}{pos:Pos}{cl:List (Str×Addr)}{t:Nat}{g:Src}{c:Ts}{f:Ex}(hg:JI prog w Γ iter g)(hel:∀C ρ,J prog w (ZaI Γ scope cl C [(x,t)] ρ) elt f)(hif:∀C ρ,JF prog w (ZaI Γ scope cl C [(x,t)] ρ) ifs c)
  (hcell:∀y∈scope.names,y.2≠.cell) (hkind:scope.kind=.function) (hx:scope.names.lookup x=some .local)
  {W:Wd} {ρ:Lc} {H:Hp} {fr:List (Addr×Obj)} {s:Shared} {E:Value→Shared→Prop} {q:List V×Hp} {RR:Value→Addr→Result→Shared→Prop} (r:Rep Γ W ρ H fr s.heap) (hf:((g ρ H).bind fun z=>Zb6 z.1 (Zap t) c f ρ z.2.1 0 [] z.2.2)=some q)
  (hR:∀(W':Wd) (h':Heap) (tk':Nat) (C D:Addr) (oC:Obj) (m₂:Str→Option Value) (ys:List Value),W.Le W'→NsObj oC m₂→VRs W' q.1 ys→q.1.length≤LEN→(∀t∈fr,D≠t.1)→(∀t∈fr,C≠t.1)→C≠D→Rep Γ W' ρ q.2 ((C,oC)::(D,lst ys)::fr) h'→RR (.ref D) C (.ok .next) { s with heap:=h',toks:=tk' }):
  wpAny (model prog w) Γ.A (eval iter Γ.env) (fun xv s₁=>wpAny (model prog w) Γ.A (pyIter xv) (fun it s₂=>wpAny (model prog w) Γ.A (newList []) (fun acc s₃=>wpAny (model prog w) Γ.A (newFunctionEnv scope Γ.env.globals cl [] Γ.env.qual none .none (some Γ.env)) (fun cenv s₄=>
   codeAny (model prog w) Γ.A (.compStart (.ListComp elt [⟨.Name x px,iter,ifs,0⟩] scope pos) 0 it acc { cenv with scope:=relabel scope Γ.env }) (RR acc cenv.locals) s₄) E s₃) E s₂) E s₁) E s:=by
 obtain⟨z,e1,e2⟩:=Zz0.mp hf
 obtain⟨nx,n,H0⟩:=z
 refine hg W ρ H fr s _ E nx n H0 r e1 fun W1 k1 t1 itv as It fs l1 i1 r1 ap I1=>?_
 refine wpAny_newObj_type (wpAny_newFunctionEnv hcell (fun y hy=>by simp at hy) (fun h₂ hns hsb=>?_) hkind)
 dsimp only at hns hsb ⊢
 obtain⟨rD,aD⟩:=r1.more (fs:=[(k1.objs.size,lst [])]) (fun b o e=>Heap.get?_push_of_some (lst []) e) (fun q hq=>by rw[List.mem_singleton.mp hq];exact⟨Heap.get?_push_size _ rfl,Nat.le_refl _⟩)
 generalize eH:k1.push { cls:=.type "list",dict:=none,data:=.seq ([]:List Value).toArray } = K at hns hsb ⊢
 have eK:k1.push (lst [])=K:=eH
 rw[eK]at rD
 obtain⟨oC,gC,nC⟩:=ns_obj hns
 have up:∀b o,K.get? b=some o→h₂.get? b=some o:=fun b o e=>hsb.extBut b o (Nat.ne_of_lt (Heap.lt_size e)) (Heap.get?_push_of_some _ e)
 obtain⟨rC,aC⟩:=rD.more (fs:=[(K.objs.size,oC)]) up (fun q hq=>by rw[List.mem_singleton.mp hq];exact⟨gC,Nat.le_refl _⟩)
 have adr0:=I1.adr 0 fs i1
 have offs:∀b∈as,b≠k1.objs.size∧b≠K.objs.size:=fun b hb=>by
  rw[←adr0]at hb
  obtain⟨q,hq,e⟩:=Zz11.mp hb
  exact⟨e▸(aD _ Zz5 q (Zz4 _ hq)).symm,e▸(aC _ Zz5 q (Zz3 _ (Zz4 _ hq))).symm⟩
 have cd:K.objs.size≠k1.objs.size:=aC _ Zz5 (k1.objs.size,lst []) (Zz4 _ Zz5)
 have cfr:∀t∈fr,K.objs.size≠t.1:=fun t ht=>aC _ Zz5 t (Zz3 _ (Zz3 _ ht))
 have dfr:∀t∈fr,k1.objs.size≠t.1:=fun t ht=>aD _ Zz5 t (Zz3 _ ht)
 generalize k1.objs.size=D at *
 generalize K.objs.size=C at *
 have loop:∀s₃:Shared,s₃ = { s with heap:=h₂,toks:=t1+([]:List (Str×Value)).length } →
   codeAny (model prog w) Γ.A (.compLoop (.ListComp elt [⟨.Name x px,iter,ifs,0⟩] scope pos) 0 itv (.ref D) (compEnvC scope cl C Γ.env)) (RR (.ref D) C) s₃:=by
  intro s₃ hs₃
  subst hs₃
  refine codeAny_compLoop_tests (ZeQ Γ W1 ρ fr C D It nx (Zap t) c f q s) ?_ n ⟨W1,H0,h₂,_,0,fs,[],[],oC,_,rfl,.refl _,i1,nC,.nil,Nat.zero_le _,rC,e2⟩
  rintro k s' ⟨W2,H2,k2,t2,j,fs2,acc,ys,oC2,m₂,rfl,l2,i2,hC2,hv2,hl2,r2,e⟩
  cases k with
  | zero=>cases e
  | succ k=>
   obtain⟨o,e4,e⟩:=Zz0.mp e
   have r2':Rep Γ W2 ρ H2 (fs2++((C,oC2)::(D,lst ys)::fr)) k2:=r2.less fun q hq=>by
    rcases Zz8.mp hq with hq | hq
    ·exact Zz2 _ (Zz2 _ (Zz4 _ hq))
    ·rcases Zz7.mp hq with e | hq
     ·exact e▸List.mem_cons_self
     ·rcases Zz7.mp hq with e | hq
      ·exact e▸List.mem_cons_of_mem _ Zz5
      ·exact Zz2 _ (Zz2 _ (Zz3 _ hq))
   have ap2:∀b∈as,∀t∈(C,oC2)::(D,lst ys)::fr,b≠t.1:=fun b hb t ht=>by
    rcases Zz7.mp ht with e | ht
    ·rw[e]
     exact(offs b hb).2
    ·rcases Zz7.mp ht with e | ht
     ·rw[e]
      exact(offs b hb).1
     ·exact ap b hb t ht
   refine I1.next j W2 ρ H2 _ fs2 _ _ _ o l2 r2' ap2 i2 e4 ?_
   cases o with
   | none=>
    cases e
    intro h' tk' r3
    exact hR W2 h' tk' C D oC2 m₂ ys (l1.trans l2) hC2 hv2 hl2 dfr cfr cd r3
   | some v=>
    intro fs3 k3 t3 y i3 r3 y3
    obtain⟨ρ3,e5,e⟩:=Zz0.mp e
    cases e5
    have a3:∀t∈fs3,t.1∈as:=fun t ht=>by
     rw[←I1.adr _ _ i3]
     exact List.mem_map_of_mem ht
    have gC3:k3.get? C=some oC2:=r3.frAt (q:=(C,oC2)) (Zz3 _ Zz5)
    have nC3:k3.Ns C m₂:=hC2.ns gC3
    refine wpAny_assign_Name (wpAny_storeName_local (lookup_relabel_local hx) nC3 (fun h4 hn4 sb4=>?_) (by simp[compEnvC,relabel,hkind]))
    obtain⟨oC4,gC4,nC4⟩:=ns_obj hn4
    have r3':Rep Γ W2 ρ H2 ([(C,oC2)]++((D,lst ys)::(fs3++fr))) k3:=r3.less fun q hq=>by
     rcases Zz8.mp hq with hq | hq
     ·rw[List.mem_singleton.mp hq]
      exact Zz3 _ Zz5
     ·rcases Zz7.mp hq with e | hq
      ·exact e▸List.mem_append_right _ (Zz2 _ Zz5)
      ·rcases Zz8.mp hq with hq | hq
       ·exact Zz4 _ hq
       ·exact Zz3 _ (Zz2 _ (Zz2 _ hq))
    have aC3:∀t∈(D,lst ys)::(fs3++fr),C≠t.1:=fun t ht=>by
     rcases Zz7.mp ht with e | ht
     ·rw[e]
      exact cd
     ·rcases Zz8.mp ht with ht | ht
      ·exact(offs _ (a3 t ht)).2.symm
      ·exact cfr t ht
    have aD3:∀t∈fs3++fr,D≠t.1:=fun t ht=>by
     rcases Zz8.mp ht with ht | ht
     ·exact(offs _ (a3 t ht)).1.symm
     ·exact dfr t ht
    have r4:Rep Γ W2 ρ H2 ([(C,oC4)]++((D,lst ys)::(fs3++fr))) h4:=by
     refine r3'.swap (fun q hq t ht=>?_) (fun b o hb e=>sb4.extBut b o (fun z=>hb (by simp[z,compEnvC])) e) fun q hq=>?_
     ·rw[List.mem_singleton.mp hq]
      exact aC3 t ht
     ·rw[List.mem_singleton.mp hq]
      exact⟨gC4,by simp⟩
    refine ZnG (hel C ρ) (hif C ρ) ⟨h4,_,rfl⟩ aC3 aD3 l2 i3 nC4 hv2 hl2 r4 (fun p hp=>?_) (fun i hi=>?_) e
    ·rw[List.mem_singleton.mp hp]
     exact⟨v,y,by simp[upd],by simp,y3⟩
    ·have:i≠t:=fun e=>hi (x,t) Zz5 e.symm
     simp[upd,this]
 refine codeAny_compStart_list (loop _ rfl) ?_
 exact I1.self 0 W1 ρ H0 (([(C,oC)]++[(D,lst [])])++fr) fs _ _ _ (.refl _) (rC.less fun q hq=>by
  rcases Zz8.mp hq with hq | hq
  ·exact Zz3 _ (Zz3 _ (Zz4 _ hq))
  ·rcases Zz8.mp hq with hq | hq
   ·rcases Zz8.mp hq with hq | hq
    ·exact Zz4 _ hq
    ·exact Zz3 _ (Zz4 _ hq)
   ·exact Zz3 _ (Zz3 _ (Zz3 _ hq))) i1 (loop _ rfl)
theorem Zkr{W:Wd}{ρ:Lc}{q:List V×Hp}{fr:List (Addr×Obj)}{C D:Addr}{oC:Obj}{ys:List Value}{h' h'':Heap}(hv:VRs W q.1 ys)(hl:q.1.length≤LEN)(aD:∀t∈fr,D≠t.1)(aC:∀t∈fr,C≠t.1)(cd:C≠D)(r:Rep Γ W ρ q.2 ((C,oC)::(D,lst ys)::fr) h')(sb:Heap.SameBut C h' h''):
  ∃W',W.Le W'∧Rep Γ W' ρ (q.2++[q.1]) fr h''∧VR W' (.ref q.2.length) (.ref D):=by
 have r4:Rep Γ W ρ q.2 ([]++((D,lst ys)::fr)) h'':=by
  refine Rep.swap (fs:=[(C,oC)]) (fs':=[]) r (fun q hq t ht=>?_) (fun b o hb e=>sb.extBut b o (fun z=>hb (by simp[z])) e) fun q hq=>nomatch hq
  rw[List.mem_singleton.mp hq]
  rcases Zz7.mp ht with e | ht
  ·rw[e]
   exact cd
  ·exact aC t ht
 exact Zfu r4 aD hv hl
theorem Zpn{elt iter:Expr}{x:Str}{px:Pos}{ifs:List Expr}{scope:Scope}{pos:Pos}{cl:List (Str×Addr)}{t:Nat}{g:Src}{c:Ts}{f:Ex}(hg:JI prog w Γ iter g)(hel:∀C ρ,J prog w (ZaI Γ scope cl C [(x,t)] ρ) elt f)(hif:∀C ρ,JF prog w (ZaI Γ scope cl C [(x,t)] ρ) ifs c)
  (hclos:closureFor scope Γ.env=pure cl) (hcell:∀y∈scope.names,y.2≠.cell) (hkind:scope.kind=.function) (hnames:∀y∈scope.names,y.2=.local→scope.names.lookup y.1=some .local) (hx:scope.names.lookup x=some .local) (hs:∀x,foldedSetIterable iter Γ.env x=pure x:=by intro _;rfl):
  J prog w Γ (.ListComp elt [⟨.Name x px,iter,ifs,0⟩] scope pos) (ZaC g (Zap t) c f):=by
 intro W ρ H fr s Q E v H' r hf post
 obtain⟨z,e1,hf⟩:=Zz0.mp hf
 obtain⟨q,e2,e3⟩:=Zz1.mp hf
 cases e3
 rw[eval_ListComp]
 refine wpAny_comprehension_free (use:=Option.none) rfl hs hclos hkind hnames ?_
 refine comp_core (RR:=fun acc C=>compPost (model prog w) Γ.A E Option.none Q acc C) hg hel hif hcell hkind hx r (q:=q) (by rw[e1];exact e2) fun W2 h' tk' C D oC m₂ ys l2 hC hv hl aD aC cd r3=>?_
 refine⟨m₂,hC.ns (r3.frAt (q:=(C,oC)) Zz5),fun h'' sb=>?_⟩
 obtain⟨W5,l5,r5,v5⟩:=Zkr hv hl aD aC cd r3 sb
 exact post W5 h'' tk' _ (l2.trans l5) r5 v5
theorem ZmA{elt iter:Expr}{x y:Str}{px py pos spos:Pos}{ifs:List Expr}{scope:Scope}{cl:List (Str×Addr)}{t i:Nat}{g:Src}{c:Ts}{f:Ex}(hy:Sto prog w Γ y i)(hg:JI prog w Γ iter g)(hel:∀C ρ,J prog w (ZaI Γ scope cl C [(x,t)] ρ) elt f)(hif:∀C ρ,JF prog w (ZaI Γ scope cl C [(x,t)] ρ) ifs c)
  (hsw:swapsWith (.ListComp elt [⟨.Name x px,iter,ifs,0⟩] scope pos) (some (.Name y py)) spos.line Γ.env=pure true)
  (hclos:closureFor scope Γ.env=pure cl) (hcell:∀y∈scope.names,y.2≠.cell) (hkind:scope.kind=.function) (hnames:∀y∈scope.names,y.2=.local→scope.names.lookup y.1=some .local) (hx:scope.names.lookup x=some .local) (hs:∀x,foldedSetIterable iter Γ.env x=pure x:=by intro _;rfl):
  S1 prog w Γ (.Assign [.Name y py] (.ListComp elt [⟨.Name x px,iter,ifs,0⟩] scope pos) spos) (ZK i (ZaC g (Zap t) c f)):=by
 intro W ρ H fr s Q E r rp hf post
 obtain⟨p,e0,e9⟩:=Zz1.mp hf
 cases e9
 obtain⟨z,e1,hf⟩:=Zz0.mp e0
 obtain⟨q,e2,e3⟩:=Zz1.mp hf
 cases e3
 rw[exec_Assign_Name_used _ _ _ _ hsw]
 refine wpAny_bind (wpAny_standAt (wpAny_bind ?_))
 show wpAny _ Γ.A (do let _ ←comprehension (.ListComp elt [⟨.Name x px,iter,ifs,0⟩] scope pos) scope Γ.env _ (newList []) false (eval iter Γ.env) (some (assign (.Name y py) Γ.env))) _ _ s
 refine wpAny_bind (wpAny_mono (wpAny_comprehension_free (use:=some (assign (.Name y py) Γ.env)) (Q:=fun _ s'=>Q .next s') rfl hs hclos hkind hnames ?_) (fun _ s' h'=>wpAny_pure (wpAny_pure h')) fun _ _ e=>e)
 refine comp_core (RR:=fun acc C=>compPost (model prog w) Γ.A E (some (assign (.Name y py) Γ.env)) (fun _ s'=>Q .next s') acc C) hg hel hif hcell hkind hx rp (q:=q) (by rw[e1];exact e2) fun W2 h' tk' C D oC m₂ ys l2 hC hv hl aD aC cd r3=>?_
 have r4:Rep Γ W2 ρ q.2 ((D,lst ys)::(C,oC)::fr) h':=r3.less fun t ht=>by
  rcases Zz7.mp ht with e | ht
  ·exact e▸List.mem_cons_of_mem _ Zz5
  ·rcases Zz7.mp ht with e | ht
   ·exact e▸List.mem_cons_self
   ·exact Zz2 _ (Zz2 _ ht)
 obtain⟨W5,l5,r5,v5⟩:=Zfu r4 (fun t ht=>by
  rcases Zz7.mp ht with e | ht
  ·rw[e]
   exact cd.symm
  ·exact aD t ht) hv hl
 refine wpAny_assign_Name (hy W5 ρ _ _ _ _ _ _ _ r5 v5 fun h6 t6 r6=>?_)
 refine⟨m₂,hC.ns (r6.frAt (q:=(C,oC)) Zz5),fun h'' sb=>?_⟩
 have r7:Rep Γ W5 (upd ρ i (.ref q.2.length)) (q.2++[q.1]) ([]++fr) h'':=
  Rep.swap (fs:=[(C,oC)]) (fs':=[]) r6 (fun q hq t ht=>by rw[List.mem_singleton.mp hq];exact aC t ht) (fun b o hb e=>sb.extBut b o (fun z=>hb (by simp[z])) e) fun q hq=>nomatch hq
 exact post W5 h'' t6 (l2.trans l5) r7
end
end PM
end
section
set_option autoImplicit false
namespace PM
open PySem PySem.W PySem.Calls PyProof.Rows PyProof PyProof.Rows.LCg PyProof.Rows.LCp
theorem Zgk(h:Heap): ∀as:List Addr,(∀a∈as,∃o,h.get? a=some o)→∃fs:List (Addr×Obj),fs.map (·.1)=as∧∀q∈fs,h.get? q.1=some q.2
 | [],_=>⟨[],rfl,fun q hq=>nomatch hq⟩
 | a::as,d=>by
  obtain⟨o,ho⟩:=d a Zz5
  obtain⟨fs,h1,h2⟩:=Zgk h as fun b hb=>d b (Zz2 _ hb)
  refine⟨(a,o)::fs,by rw[List.map_cons,h1],fun q hq=>?_⟩
  rcases Zz7.mp hq with e | hq
  ·rw[e]
   exact ho
  ·exact h2 q hq
structure Itr2(prog:Program)(w:World)(Γ:Cx)(W0:Wd)(it:Value)(as:List Addr)(It:Nat→List (Addr×Obj)→Prop)(nx:Nx): Prop where
 adr:∀i fs,It i fs→fs.map (·.1)=as
 pair:∀i H v,nx i H=some (some v)→∃a b,v=.tup [a,b]
 item:∀(i:Nat) (W:Wd) (ρ:Lc) (H:Hp) (fr fs:List (Addr×Obj)) (s:Shared) (Q:Option Value→Shared→Prop) (E:Value→Shared→Prop) (a b:V),W0.Le W→Rep Γ W ρ H (fs++fr) s.heap→(∀a∈as,∀t∈fr,a≠t.1)→It i fs→nx i H=some (some (.tup [a,b])) →
  (∀(T:Addr) (h1:Heap) (t1:Nat),(∀(elts:List Expr) (k:Nat) (pos:Pos) (s1:Shared) (Q1:Unit→Shared→Prop) (E1:Value→Shared→Prop),s1 = { s with heap:=h1,toks:=t1 } →
    (∀(fs':List (Addr×Obj)) (h':Heap) (x y:Value),It (i+1) fs'→Rep Γ W ρ H (fs'++fr) h'→IsTup h' T #[x,y]→VR W a x→VR W b y→Q1 () { s with heap:=h',toks:=t1 })→wpAny (model prog w) Γ.A (letOwnedTupleGo (.Tuple elts k pos) it (.ref T)) Q1 E1 s1)→Q (some (.ref T)) { s with heap:=h1,toks:=t1 })→wpAny (model prog w) Γ.A (pyNext it) Q E s
 done:∀(i:Nat) (W:Wd) (ρ:Lc) (H:Hp) (fr fs:List (Addr×Obj)) (s:Shared) (Q:Option Value→Shared→Prop) (E:Value→Shared→Prop),W0.Le W→Rep Γ W ρ H (fs++fr) s.heap→(∀a∈as,∀t∈fr,a≠t.1)→It i fs→nx i H=some none →
  (∀(h':Heap) (tk':Nat),Rep Γ W ρ H fr h'→Q none { s with heap:=h',toks:=tk' })→wpAny (model prog w) Γ.A (pyNext it) Q E s
 self:∀(i:Nat) (W:Wd) (ρ:Lc) (H:Hp) (fr fs:List (Addr×Obj)) (s:Shared) (Q E:Value→Shared→Prop) (o:Option V),W0.Le W→Rep Γ W ρ H (fs++fr) s.heap→It i fs→nx i H=some o→Q it s→wpAny (model prog w) Γ.A (pyIter it) Q E s
noncomputable def JI2(prog:Program)(w:World)(Γ:Cx)(e:Expr)(g:Src): Prop:=∀(W:Wd) (ρ:Lc) (H:Hp) (fr:List (Addr×Obj)) (s:Shared) (Q E:Value→Shared→Prop) (nx:Nx) (n:Nat) (H':Hp),
 Rep Γ W ρ H fr s.heap→g ρ H=some (nx,n,H') →
 (∀(W':Wd) (h':Heap) (tk':Nat) (it:Value) (as:List Addr) (It:Nat→List (Addr×Obj)→Prop) (fs:List (Addr×Obj)),W.Le W'→It 0 fs→Rep Γ W' ρ H' (fs++fr) h'→(∀a∈as,∀t∈fr,a≠t.1)→Itr2 prog w Γ W' it as It nx→(∃o,nx 0 H'=some o)→Q it { s with heap:=h',toks:=tk' }) →
 wpAny (model prog w) Γ.A (eval e Γ.env) (fun xv s₁=>wpAny (model prog w) Γ.A (pyIter xv) Q E s₁) E s
noncomputable def ZeK(a b:Nat): Nx:=fun i H=>H[a]?.bind fun vs=>H[b]?.bind fun us=>match vs[i]?,us[i]? with
 | some x,some y=>some (some (.tup [x,y]))
 | _,_=>if i=min vs.length us.length then some none else none
noncomputable def ZdY(f g:Ex): Src:=fun ρ H=>(f ρ H).bind fun p=>(g ρ p.2).bind fun q=>match p.1,q.1 with
 | .ref a,.ref b=>q.2[a]?.bind fun vs=>q.2[b]?.map fun us=>(ZeK a b,min vs.length us.length+1,q.2)
 | _,_=>none
noncomputable def ZbW(i j:Nat): V→Lc→Option Lc
 | .tup [a,b],ρ=>some (upd (upd ρ i a) j b)
 | _,_=>none
noncomputable def ZS(z TI TO i1 i2 l1 l2:Addr)(i:Nat)(h:Heap): Prop:=IsZip h z TI TO .none∧PySem.IsPair h TI (.ref i1) (.ref i2)∧(∃a b,PySem.IsPair h TO a b)∧h.IsListIter i1 l1 i∧h.IsListIter i2 l2 i
theorem ZS.at{z TI TO i1 i2 l1 l2:Addr}{i:Nat}{h h':Heap}(x:ZS z TI TO i1 i2 l1 l2 i h)(e:∀a∈[z,TI,TO,i1,i2],∀o,h.get? a=some o→h'.get? a=some o): ZS z TI TO i1 i2 l1 l2 i h':=by
 obtain⟨h1,h2,⟨a,b,h3⟩,h4,h5⟩:=x
 exact⟨e z (by simp) _ h1,e TI (by simp) _ h2,⟨a,b,e TO (by simp) _ h3⟩,h4.at fun o x=>e i1 (by simp) o x,h5.at fun o x=>e i2 (by simp) o x⟩
theorem ZS.have{z TI TO i1 i2 l1 l2:Addr}{i:Nat}{h:Heap}(x:ZS z TI TO i1 i2 l1 l2 i h): ∀a∈[z,TI,TO,i1,i2],∃o,h.get? a=some o:=by
 obtain⟨h1,h2,⟨a,b,h3⟩,⟨o4,h4,_⟩,⟨o5,h5,_⟩⟩:=x
 intro c hc
 simp only[List.mem_cons,List.not_mem_nil,or_false]at hc
 rcases hc with e | e | e | e | e <;> subst e
 ·exact⟨_,h1⟩
 ·exact⟨_,h2⟩
 ·exact⟨_,h3⟩
 ·exact⟨_,h4⟩
 ·exact⟨_,h5⟩
noncomputable def ZIt(z TI TO i1 i2 l1 l2:Addr)(i:Nat)(fs:List (Addr×Obj)): Prop:=fs.map (·.1)=[z,TI,TO,i1,i2]∧∀h:Heap,(∀q∈fs,h.get? q.1=some q.2)→ZS z TI TO i1 i2 l1 l2 i h
theorem ZkQ{z TI TO i1 i2 l1 l2:Addr}{i:Nat}{h:Heap}(x:ZS z TI TO i1 i2 l1 l2 i h): ∃fs,ZIt z TI TO i1 i2 l1 l2 i fs∧∀q∈fs,h.get? q.1=some q.2:=by
 obtain⟨fs,h1,h2⟩:=Zgk h [z,TI,TO,i1,i2] x.have
 refine⟨fs,⟨h1,fun h' e=>x.at fun a ha o ho=>?_⟩,h2⟩
 rw[←h1]at ha
 obtain⟨q,hq,eq⟩:=Zz11.mp ha
 have:=h2 q hq
 rw[eq,ho]at this
 cases this
 exact eq▸e q hq
section
variable {prog:Program} {w:World} {Γ:Cx}
theorem Zpo{W0:Wd}{z TI TO i1 i2 l1 l2:Addr}{a b:Nat}(ea:W0.pi[a]?=some l1)(eb:W0.pi[b]?=some l2)(D:ZipApart z TI TO i1 i2 l1 l2):
  Itr2 prog w Γ W0 (.ref z) [z,TI,TO,i1,i2] (ZIt z TI TO i1 i2 l1 l2) (ZeK a b):=by
 refine⟨fun i fs h=>h.1,?_,?_,?_,?_⟩
 ·intro i H v e
  obtain⟨vs,e1,e⟩:=Zz0.mp e
  obtain⟨us,e2,e⟩:=Zz0.mp e
  split at e
  ·cases e
   exact⟨_,_,rfl⟩
  ·split at e <;> cases e
 ·intro i W ρ H fr fs s Q E va vb le r ap hit hn post
  obtain⟨vs,e1,e⟩:=Zz0.mp hn
  obtain⟨us,e2,e⟩:=Zz0.mp e
  have hvu:vs[i]?=some va∧us[i]?=some vb:=by
   split at e
   ·rename_i x y h1 h2
    cases e
    exact⟨h1,h2⟩
   ·split at e <;> cases e
  obtain⟨_,xs,k1,g1,v1⟩:=r.at e1 (le.at ea)
  obtain⟨_,ys,k2,g2,v2⟩:=r.at e2 (le.at eb)
  obtain⟨x,hx,rx⟩:=v1.at hvu.1
  obtain⟨y,hy,ry⟩:=v2.at hvu.2
  have st:ZS z TI TO i1 i2 l1 l2 i s.heap:=hit.2 _ fun q hq=>r.frAt (Zz4 _ hq)
  have Wk:=WalksT.zip2 (prog:=prog) (w:=w) (A:=Γ.A) Γ.hh z TI TO i1 i2 l1 l2 D xs.toArray ys.toArray
  have isl1:s.heap.IsList l1 xs.toArray:=⟨_,g1,rfl,k1,rfl⟩
  have isl2:s.heap.IsList l2 ys.toArray:=⟨_,g2,rfl,k2,rfl⟩
  have hi:i<min xs.toArray.size ys.toArray.size:=by
   have h1:=(Zz6.mp hx).1
   have h2:=(Zz6.mp hy).1
   simp
   omega
  refine Wk.item i s Q E hi ⟨st.1,st.2.1,st.2.2.1,st.2.2.2.1,st.2.2.2.2,isl1,isl2⟩ fun T vals h1 t1 hp hT hTup hmid keep1=>post T h1 t1 ?_
  intro elts k pos s1 Q1 E1 es1 q1
  subst es1
  have hTw:=Wk.apart i T _ hmid
  refine Wk.go elts k pos i T _ Q1 E1 hmid fun h2 st2 keep2=>?_
  obtain⟨x',y',hx',hy',ev⟩:=hp
  have ex:x'=x:=by
   have:xs[i]?=some x':=by simpa using hx'
   rw[hx]at this
   exact(Option.some.inj this).symm
  have ey:y'=y:=by
   have:ys[i]?=some y':=by simpa using hy'
   rw[hy]at this
   exact(Option.some.inj this).symm
  subst ex ey ev
  obtain⟨fs',hit',at'⟩:=ZkQ (h:=h2) (⟨st2.1,st2.2.1,st2.2.2.1,st2.2.2.2.1,st2.2.2.2.2.1⟩:ZS z TI TO i1 i2 l1 l2 (i+1) h2)
  obtain⟨oT,gT,cT,nT,dT⟩:=hTup
  refine q1 fs' h2 x' y' hit' ?_ ⟨oT,keep2 T oT hTw gT,cT,nT,dT⟩ rx ry
  refine r.swap (fs':=fs') (fun q hq t ht=>?_) (fun c o hc e=>?_) fun q hq=>⟨at' q hq,?_⟩
  ·exact ap _ (hit.1▸List.mem_map_of_mem hq) t ht
  ·rw[hit.1]at hc
   have hcw:c∉[z,TO,i1,i2]:=fun h=>hc (by simp at h ⊢;rcases h with h | h | h | h <;> simp[h])
   exact keep2 c o hcw (keep1 c o hcw e)
  ·rw[hit.1,←hit'.1]
   exact List.mem_map_of_mem hq
 ·intro i W ρ H fr fs s Q E le r ap hit hn post
  obtain⟨vs,e1,e⟩:=Zz0.mp hn
  obtain⟨us,e2,e⟩:=Zz0.mp e
  obtain⟨_,xs,k1,g1,v1⟩:=r.at e1 (le.at ea)
  obtain⟨_,ys,k2,g2,v2⟩:=r.at e2 (le.at eb)
  have hi:i=min vs.length us.length:=by
   split at e
   ·cases e
   ·split at e
    ·assumption
    ·cases e
  have st:ZS z TI TO i1 i2 l1 l2 i s.heap:=hit.2 _ fun q hq=>r.frAt (Zz4 _ hq)
  have Wk:=WalksT.zip2 (prog:=prog) (w:=w) (A:=Γ.A) Γ.hh z TI TO i1 i2 l1 l2 D xs.toArray ys.toArray
  have hm:min xs.toArray.size ys.toArray.size=i:=by simp[v1.length,v2.length,hi]
  refine Wk.done s Q E (by rw[hm];exact⟨st.1,st.2.1,st.2.2.1,st.2.2.2.1,st.2.2.2.2,⟨_,g1,rfl,k1,rfl⟩,⟨_,g2,rfl,k2,rfl⟩⟩) fun h' tk keep=>post h' tk ?_
  have:=r.swap (fs':=[]) (fun q hq t ht=>ap _ (hit.1▸List.mem_map_of_mem hq) t ht) (fun c o hc e=>keep c o (fun h=>hc (by rw[hit.1];simp at h ⊢;rcases h with h | h | h | h <;> simp[h])) e) (fun q hq=>nomatch hq)
  exact this
 ·intro i W ρ H fr fs s Q E o le r hit hn q
  obtain⟨vs,e1,e⟩:=Zz0.mp hn
  obtain⟨us,e2,e⟩:=Zz0.mp e
  obtain⟨_,xs,k1,g1,v1⟩:=r.at e1 (le.at ea)
  obtain⟨_,ys,k2,g2,v2⟩:=r.at e2 (le.at eb)
  have st:ZS z TI TO i1 i2 l1 l2 i s.heap:=hit.2 _ fun q hq=>r.frAt (Zz4 _ hq)
  have Wk:=WalksT.zip2 (prog:=prog) (w:=w) (A:=Γ.A) Γ.hh z TI TO i1 i2 l1 l2 D xs.toArray ys.toArray
  exact Wk.self i s Q E ⟨st.1,st.2.1,st.2.2.1,st.2.2.2.1,st.2.2.2.2,⟨_,g1,rfl,k1,rfl⟩,⟨_,g2,rfl,k2,rfl⟩⟩ q
theorem JI2.zip{x:Str}{np pos:Pos}{e1 e2:Expr}{f g:Ex}(hn:Nm prog w Γ x (.type "zip"))(h1:J prog w Γ e1 f)(h2:J prog w Γ e2 g)
  (he:starEach [e1,e2] Γ.env=(false,eval e1 Γ.env)::starEach [e2] Γ.env:=by rfl) (he2:starEach [e2] Γ.env=(false,eval e2 Γ.env)::starEach [] Γ.env:=by rfl) (hp:∀pos,(backTo pos (starEach [e2] Γ.env)).any (·.1)=false:=by intro _;rfl):JI2 prog w Γ (.Call (.Name x np) [e1,e2] [] pos) (ZdY f g):=by
 intro W ρ H fr s Q E nx n H' r hf post
 obtain⟨p,a1,hf⟩:=Zz0.mp hf
 obtain⟨q,a2,hf⟩:=Zz0.mp hf
 refine wpAny_Call_ofName (hn.use r ?_)
 refine PySem.Pv.callWith_type1 (wpAny_items_cons (h1 W ρ H fr s _ E _ _ r a1 fun W1 k1 t1 y1 l1 r1 v1=>?_) he) he (hp pos)
 refine wpAny_items_cons (h2 W1 ρ _ fr _ _ E _ _ r1 a2 fun W2 k2 t2 y2 l2 r2 v2=>wpAny_items_nil ?_) he2
 have v1':=v1.mono l2
 obtain⟨u1,H1⟩:=p
 obtain⟨u2,H2⟩:=q
 simp only at hf v1' v2 r2
 cases u1 <;> first | (cases hf;done) | skip
 rename_i b1
 cases u2 <;> first | (cases hf;done) | skip
 rename_i b2
 obtain⟨vs,c1,hf⟩:=Zz0.mp hf
 obtain⟨us,c2,c3⟩:=Zz1.mp hf
 cases c3
 cases v1' with
 | @ref _ m1 ea=>
 cases v2 with
 | @ref _ m2 eb=>
 obtain⟨_,xs,n1,g1,w1⟩:=r2.at c1 ea
 obtain⟨_,ys,n2,g2,w2⟩:=r2.at c2 eb
 have isl1:k2.IsList m1 xs.toArray:=⟨_,g1,rfl,n1,rfl⟩
 have isl2:k2.IsList m2 ys.toArray:=⟨_,g2,rfl,n2,rfl⟩
 refine call_zip_2 (s:={ s with heap:=k2,toks:=t2 }) isl1 isl2 fun h₁ hz hTI hTO hi1 hi2 hsz up=>?_
 have ap:=zipApart_new (n:=k2.objs.size) (Heap.lt_size g1) (Heap.lt_size g2)
 have Wk:=WalksT.zip2 (prog:=prog) (w:=w) (A:=Γ.A) Γ.hh _ _ _ _ _ m1 m2 ap xs.toArray ys.toArray
 have zs:ZS (k2.objs.size+4) (k2.objs.size+2) (k2.objs.size+3) k2.objs.size (k2.objs.size+1) m1 m2 0 h₁:=⟨hz,hTI,⟨_,_,hTO⟩,hi1,hi2⟩
 refine Wk.self 0 _ _ _ ⟨hz,hTI,⟨_,_,hTO⟩,hi1,hi2,isl1.at fun o e=>up _ o e,isl2.at fun o e=>up _ o e⟩ ?_
 obtain⟨fs,hit,at'⟩:=ZkQ zs
 obtain⟨r3,ap3⟩:=r2.more (fs:=fs) (h':=h₁) (fun b o e=>up b o e) (fun q hq=>⟨at' q hq,by
  have:q.1∈fs.map (·.1):=List.mem_map_of_mem hq
  rw[hit.1]at this
  simp at this
  rcases this with e | e | e | e | e <;> rw[e] <;> omega⟩)
 refine post W2 h₁ t2 _ _ _ fs (l1.trans l2) hit r3 (fun b hb t ht=>?_) (Zpo ea eb ap) ?_
 ·rw[←hit.1]at hb
  obtain⟨q,hq,e⟩:=Zz11.mp hb
  exact e▸ap3 q hq t ht
 ·simp only[ZeK,c1,c2,Option.bind_some]
  split
  ·exact⟨_,rfl⟩
  ·rename_i hno
   have:0=min vs.length us.length:=by
    rcases Nat.eq_zero_or_pos vs.length with z | z
    ·rw[z];simp
    ·rcases Nat.eq_zero_or_pos us.length with z' | z'
     ·rw[z'];simp
     ·exact(hno vs[0] us[0] (by simp[z]) (by simp[z'])).elim
   rw[if_pos this]
   exact⟨_,rfl⟩
theorem Zoo{x1 x2:Str}{i1 i2 kt:Nat}{p1 p2 tp:Pos}(h1:Sto prog w Γ x1 i1)(h2:Sto prog w Γ x2 i2){W:Wd}{ρ:Lc}{H:Hp}{fr:List (Addr×Obj)}{s:Shared}{Q:Unit→Shared→Prop}{E:Value→Shared→Prop}{T:Addr}{y1 y2:Value}{a b:V}(r:Rep Γ W ρ H fr s.heap)(ht:IsTup s.heap T #[y1,y2])(v1:VR W a y1)(v2:VR W b y2)
  (post:∀(h':Heap) (tk':Nat),Rep Γ W (upd (upd ρ i1 a) i2 b) H fr h'→Q () { s with heap:=h',toks:=tk' }):wpAny (model prog w) Γ.A (assign (.Tuple [.Name x1 p1,.Name x2 p2] kt tp) Γ.env (.ref T)) Q E s:=by
 refine assign_Tuple_tuple Γ.hh ht rfl rfl fun g₄ he=>?_
 have r4:=r.grown (h':=g₄) fun b o e=>he b o (Nat.ne_of_lt (Heap.lt_size e)) e
 refine assignInOrder_cons (wpAny_assign_Name (h1 W ρ H fr _ _ _ a y1 r4 v1 fun k5 t5 r5=>?_))
 refine assignInOrder_cons (wpAny_assign_Name (h2 W _ H fr _ _ _ b y2 r5 v2 fun k6 t6 r6=>?_))
 exact assignInOrder_nil (post k6 t6 r6)
theorem ZiD{x1 x2:Str}{i1 i2 kt:Nat}{p1 p2 tp pos:Pos}{it:Expr}{body:List Stmt}{g:Src}{b:Sm}(h1:Sto prog w Γ x1 i1)(h2:Sto prog w Γ x2 i2)(hg:JI2 prog w Γ it g)(hb:Ss prog w Γ body b)(hs:∀x,foldedSetIterable it Γ.env x=pure x:=by intro _;rfl):
  S1 prog w Γ (.For (.Tuple [.Name x1 p1,.Name x2 p2] kt tp) it body [] pos) (ZaW g (ZbW i1 i2) b):=by
 intro W ρ H fr s Q E r rp hf post
 obtain⟨z,e1,hf⟩:=Zz0.mp hf
 obtain⟨nx,n,H0⟩:=z
 refine wpAny_For (hg W ρ H fr s _ E nx n H0 rp e1 fun W1 k1 t1 itv as It fs l1 j1 r1 ap I1 _=>?_) hs
 refine codeAny_forLoop_any (fun k s'=>∃W' ρ' H' h' tk' j fs',s' = { s with heap:=h',toks:=tk' }∧W1.Le W'∧It j fs'∧Rep Γ W' ρ' H' (fs'++fr) h'∧ZcD nx (ZbW i1 i2) b k j ρ' H'=some r) ?_ n ⟨W1,ρ,H0,k1,t1,0,fs,rfl,.refl _,j1,r1,hf⟩
 rintro k s' ⟨W2,ρ2,H2,k2,t2,j,fs2,rfl,l2,j2,r2,e⟩
 cases k with
 | zero=>cases e
 | succ k=>
  obtain⟨o,e2,e⟩:=Zz0.mp e
  cases o with
  | none=>
   cases e
   exact I1.done j W2 ρ2 H2 fr fs2 _ _ _ l2 r2 ap j2 e2 fun h' tk' r3=>wpAny_execs_nil (post W2 h' tk' (l1.trans l2) r3)
  | some v=>
   obtain⟨va,vb,ev⟩:=I1.pair j H2 v e2
   subst ev
   refine I1.item j W2 ρ2 H2 fr fs2 _ _ _ va vb l2 r2 ap j2 e2 fun T h3 t3 go=>?_
   obtain⟨ρ3,e3,e⟩:=Zz0.mp e
   cases e3
   obtain⟨q,e4,e⟩:=Zz0.mp e
   refine go _ _ _ _ _ _ rfl fun fs3 k3 y1 y2 j3 r3 ht w1 w2=>?_
   refine Zoo h1 h2 (s:={ s with heap:=k3,toks:=t3 }) r3 ht w1 w2 fun k4 t4 r4=>?_
   refine hb W2 _ H2 (fs3++fr) _ _ _ q r4 e4 ?_
   obtain⟨u,ρ5,H5⟩:=q
   cases u with
   | some u=>
    cases e
    exact fun W5 k5 t5 x5 l5 r5 v5=>post W5 k5 t5 x5 ((l1.trans l2).trans l5) (r5.less fun q hq=>List.mem_append_right _ hq) v5
   | none=>exact fun W5 k5 t5 l5 r5=>⟨k,Nat.lt_succ_self k,W5,ρ5,H5,k5,t5,j+1,fs3,rfl,l2.trans l5,j3,r5,e⟩
theorem ZjW{elt iter:Expr}{x x₂:Str}{px px₂ tp:Pos}{kt:Nat}{scope:Scope}{pos:Pos}{cl:List (Str×Addr)}{t t₂:Nat}{g:Src}{f:Ex}(hg:JI2 prog w Γ iter g)(hel:∀C ρ,J prog w (ZaI Γ scope cl C [(x,t),(x₂,t₂)] ρ) elt f)
  (hcell:∀y∈scope.names,y.2≠.cell) (hkind:scope.kind=.function) (hx:scope.names.lookup x=some .local) (hx₂:scope.names.lookup x₂=some .local) (hxx:x≠x₂) (htt:t≠t₂)
  {W:Wd} {ρ:Lc} {H:Hp} {fr:List (Addr×Obj)} {s:Shared} {E:Value→Shared→Prop} {q:List V×Hp} {RR:Value→Addr→Result→Shared→Prop} (r:Rep Γ W ρ H fr s.heap) (hf:((g ρ H).bind fun z=>Zb6 z.1 (ZbW t t₂) Zaq f ρ z.2.1 0 [] z.2.2)=some q)
  (hR:∀(W':Wd) (h':Heap) (tk':Nat) (C D:Addr) (oC:Obj) (m₂:Str→Option Value) (ys:List Value),W.Le W'→NsObj oC m₂→VRs W' q.1 ys→q.1.length≤LEN→(∀t∈fr,D≠t.1)→(∀t∈fr,C≠t.1)→C≠D→Rep Γ W' ρ q.2 ((C,oC)::(D,lst ys)::fr) h'→RR (.ref D) C (.ok .next) { s with heap:=h',toks:=tk' }):
  wpAny (model prog w) Γ.A (eval iter Γ.env) (fun xv s₁=>wpAny (model prog w) Γ.A (pyIter xv) (fun it s₂=>wpAny (model prog w) Γ.A (newList []) (fun acc s₃=>wpAny (model prog w) Γ.A (newFunctionEnv scope Γ.env.globals cl [] Γ.env.qual none .none (some Γ.env)) (fun cenv s₄=>
   codeAny (model prog w) Γ.A (.compStart (.ListComp elt [⟨.Tuple [.Name x px,.Name x₂ px₂] kt tp,iter,[],0⟩] scope pos) 0 it acc { cenv with scope:=relabel scope Γ.env }) (RR acc cenv.locals) s₄) E s₃) E s₂) E s₁) E s:=by
 obtain⟨z,e1,e2⟩:=Zz0.mp hf
 obtain⟨nx,n,H0⟩:=z
 refine hg W ρ H fr s _ E nx n H0 r e1 fun W1 k1 t1 itv as It fs l1 i1 r1 ap I1 hstart=>?_
 refine wpAny_newObj_type (wpAny_newFunctionEnv hcell (fun y hy=>by simp at hy) (fun h₂ hns hsb=>?_) hkind)
 dsimp only at hns hsb ⊢
 obtain⟨rD,aD⟩:=r1.more (fs:=[(k1.objs.size,lst [])]) (fun b o e=>Heap.get?_push_of_some (lst []) e) (fun q hq=>by rw[List.mem_singleton.mp hq];exact⟨Heap.get?_push_size _ rfl,Nat.le_refl _⟩)
 generalize eH:k1.push { cls:=.type "list",dict:=none,data:=.seq ([]:List Value).toArray } = K at hns hsb ⊢
 have eK:k1.push (lst [])=K:=eH
 rw[eK]at rD
 obtain⟨oC,gC,nC⟩:=ns_obj hns
 have up:∀b o,K.get? b=some o→h₂.get? b=some o:=fun b o e=>hsb.extBut b o (Nat.ne_of_lt (Heap.lt_size e)) (Heap.get?_push_of_some _ e)
 obtain⟨rC,aC⟩:=rD.more (fs:=[(K.objs.size,oC)]) up (fun q hq=>by rw[List.mem_singleton.mp hq];exact⟨gC,Nat.le_refl _⟩)
 have adr0:=I1.adr 0 fs i1
 have offs:∀b∈as,b≠k1.objs.size∧b≠K.objs.size:=fun b hb=>by
  rw[←adr0]at hb
  obtain⟨q,hq,e⟩:=Zz11.mp hb
  exact⟨e▸(aD _ Zz5 q (Zz4 _ hq)).symm,e▸(aC _ Zz5 q (Zz3 _ (Zz4 _ hq))).symm⟩
 have cd:K.objs.size≠k1.objs.size:=aC _ Zz5 (k1.objs.size,lst []) (Zz4 _ Zz5)
 have cfr:∀t∈fr,K.objs.size≠t.1:=fun t ht=>aC _ Zz5 t (Zz3 _ (Zz3 _ ht))
 have dfr:∀t∈fr,k1.objs.size≠t.1:=fun t ht=>aD _ Zz5 t (Zz3 _ ht)
 generalize k1.objs.size=D at *
 generalize K.objs.size=C at *
 have loop:∀s₃:Shared,s₃ = { s with heap:=h₂,toks:=t1+([]:List (Str×Value)).length } →
   codeAny (model prog w) Γ.A (.compLoop (.ListComp elt [⟨.Tuple [.Name x px,.Name x₂ px₂] kt tp,iter,[],0⟩] scope pos) 0 itv (.ref D) (compEnvC scope cl C Γ.env)) (RR (.ref D) C) s₃:=by
  intro s₃ hs₃
  subst hs₃
  refine codeAny_compLoop_pair (ZeQ Γ W1 ρ fr C D It nx (ZbW t t₂) Zaq f q s) ?_ n ⟨W1,H0,h₂,_,0,fs,[],[],oC,_,rfl,.refl _,i1,nC,.nil,Nat.zero_le _,rC,e2⟩
  rintro k s' ⟨W2,H2,k2,t2,j,fs2,acc,ys,oC2,m₂,rfl,l2,i2,hC2,hv2,hl2,r2,e⟩
  cases k with
  | zero=>cases e
  | succ k=>
   obtain⟨o,e4,e⟩:=Zz0.mp e
   have r2':Rep Γ W2 ρ H2 (fs2++((C,oC2)::(D,lst ys)::fr)) k2:=r2.less fun q hq=>by
    rcases Zz8.mp hq with hq | hq
    ·exact Zz2 _ (Zz2 _ (Zz4 _ hq))
    ·rcases Zz7.mp hq with e | hq
     ·exact e▸List.mem_cons_self
     ·rcases Zz7.mp hq with e | hq
      ·exact e▸List.mem_cons_of_mem _ Zz5
      ·exact Zz2 _ (Zz2 _ (Zz3 _ hq))
   have ap2:∀b∈as,∀t∈(C,oC2)::(D,lst ys)::fr,b≠t.1:=fun b hb t ht=>by
    rcases Zz7.mp ht with e | ht
    ·rw[e]
     exact(offs b hb).2
    ·rcases Zz7.mp ht with e | ht
     ·rw[e]
      exact(offs b hb).1
     ·exact ap b hb t ht
   cases o with
   | none=>
    cases e
    exact I1.done j W2 ρ H2 _ fs2 _ _ _ l2 r2' ap2 i2 e4 fun h' tk' r3=>hR W2 h' tk' C D oC2 m₂ ys (l1.trans l2) hC2 hv2 hl2 dfr cfr cd r3
   | some v=>
    obtain⟨va,vb,ev⟩:=I1.pair j H2 v e4
    subst ev
    refine I1.item j W2 ρ H2 _ fs2 _ _ _ va vb l2 r2' ap2 i2 e4 fun T h3 t3 go=>?_
    obtain⟨ρ3,e5,e⟩:=Zz0.mp e
    cases e5
    refine go _ _ _ _ _ _ rfl fun fs3 k3 y1 y2 i3 r3 htup w1 w2=>?_
    have a3:∀t∈fs3,t.1∈as:=fun t ht=>by
     rw[←I1.adr _ _ i3]
     exact List.mem_map_of_mem ht
    refine assign_Tuple_tuple (s:={ s with heap:=k3,toks:=t3 }) Γ.hh htup rfl rfl fun g₄ he=>?_
    have r3g:=r3.grown (h':=g₄) fun b o e=>he b o (Nat.ne_of_lt (Heap.lt_size e)) e
    have gC3:g₄.get? C=some oC2:=r3g.frAt (q:=(C,oC2)) (Zz3 _ Zz5)
    have nC3:g₄.Ns C m₂:=hC2.ns gC3
    refine assignInOrder_cons (wpAny_assign_Name (wpAny_storeName_local (lookup_relabel_local hx) nC3 (fun h5 hn5 sb5=>?_) (by simp[compEnvC,relabel,hkind])))
    refine assignInOrder_cons (wpAny_assign_Name (wpAny_storeName_local (lookup_relabel_local hx₂) hn5 (fun h4 hn4 sb4=>?_) (by simp[compEnvC,relabel,hkind])))
    refine assignInOrder_nil ?_
    obtain⟨oC4,gC4,nC4⟩:=ns_obj hn4
    have r3':Rep Γ W2 ρ H2 ([(C,oC2)]++((D,lst ys)::(fs3++fr))) g₄:=r3g.less fun q hq=>by
     rcases Zz8.mp hq with hq | hq
     ·rw[List.mem_singleton.mp hq]
      exact Zz3 _ Zz5
     ·rcases Zz7.mp hq with e | hq
      ·exact e▸List.mem_append_right _ (Zz2 _ Zz5)
      ·rcases Zz8.mp hq with hq | hq
       ·exact Zz4 _ hq
       ·exact Zz3 _ (Zz2 _ (Zz2 _ hq))
    have aC3:∀t∈(D,lst ys)::(fs3++fr),C≠t.1:=fun t ht=>by
     rcases Zz7.mp ht with e | ht
     ·rw[e]
      exact cd
     ·rcases Zz8.mp ht with ht | ht
      ·exact(offs _ (a3 t ht)).2.symm
      ·exact cfr t ht
    have aD3:∀t∈fs3++fr,D≠t.1:=fun t ht=>by
     rcases Zz8.mp ht with ht | ht
     ·exact(offs _ (a3 t ht)).1.symm
     ·exact dfr t ht
    have r4:Rep Γ W2 ρ H2 ([(C,oC4)]++((D,lst ys)::(fs3++fr))) h4:=by
     refine r3'.swap (fun q hq t ht=>?_) (fun b o hb e=>sb4.extBut b o (fun z=>hb (by simp[z,compEnvC])) (sb5.extBut b o (fun z=>hb (by simp[z,compEnvC])) e)) fun q hq=>?_
     ·rw[List.mem_singleton.mp hq]
      exact aC3 t ht
     ·rw[List.mem_singleton.mp hq]
      exact⟨gC4,by simp⟩
    have rc:=ZkP (scope:=scope) (cl:=cl) (ts:=[(x,t),(x₂,t₂)]) (ρ:=upd (upd ρ t va) t₂ vb) r4 aC3 nC4 (fun p hp=>by
     rcases Zz7.mp hp with e | hp
     ·rw[e]
      exact⟨va,y1,by simp[upd,htt],by simp[hxx],w1⟩
     ·rw[List.mem_singleton.mp hp]
      exact⟨vb,y2,by simp[upd],by simp,w2⟩) (fun i hi=>by
     have h1:i≠t:=fun e=>hi (x,t) Zz5 e.symm
     have h2:i≠t₂:=fun e=>hi (x₂,t₂) (Zz2 _ Zz5) e.symm
     simp[upd,h1,h2])
    exact Zj9 (hel C ρ) aD3 cd l2 i3 hv2 rc e
 refine codeAny_compStart_list (loop _ rfl) ?_
 obtain⟨o0,ho0⟩:=hstart
 exact I1.self 0 W1 ρ H0 (([(C,oC)]++[(D,lst [])])++fr) fs _ _ _ o0 (.refl _) (rC.less fun q hq=>by
  rcases Zz8.mp hq with hq | hq
  ·exact Zz3 _ (Zz3 _ (Zz4 _ hq))
  ·rcases Zz8.mp hq with hq | hq
   ·rcases Zz8.mp hq with hq | hq
    ·exact Zz4 _ hq
    ·exact Zz3 _ (Zz4 _ hq)
   ·exact Zz3 _ (Zz3 _ (Zz3 _ hq))) i1 ho0 (loop _ rfl)
theorem Zop{elt iter:Expr}{x x₂:Str}{px px₂ tp:Pos}{kt:Nat}{scope:Scope}{pos:Pos}{cl:List (Str×Addr)}{t t₂:Nat}{g:Src}{f:Ex}(hg:JI2 prog w Γ iter g)(hel:∀C ρ,J prog w (ZaI Γ scope cl C [(x,t),(x₂,t₂)] ρ) elt f)
  (hclos:closureFor scope Γ.env=pure cl) (hcell:∀y∈scope.names,y.2≠.cell) (hkind:scope.kind=.function) (hnames:∀y∈scope.names,y.2=.local→scope.names.lookup y.1=some .local) (hx:scope.names.lookup x=some .local) (hx₂:scope.names.lookup x₂=some .local) (hxx:x≠x₂) (htt:t≠t₂) (hs:∀x,foldedSetIterable iter Γ.env x=pure x:=by intro _;rfl):
  J prog w Γ (.ListComp elt [⟨.Tuple [.Name x px,.Name x₂ px₂] kt tp,iter,[],0⟩] scope pos) (ZaC g (ZbW t t₂) Zaq f):=by
 intro W ρ H fr s Q E v H' r hf post
 obtain⟨z,e1,hf⟩:=Zz0.mp hf
 obtain⟨q,e2,e3⟩:=Zz1.mp hf
 cases e3
 rw[eval_ListComp]
 refine wpAny_comprehension_free (use:=Option.none) rfl hs hclos hkind hnames ?_
 refine ZjW (RR:=fun acc C=>compPost (model prog w) Γ.A E Option.none Q acc C) hg hel hcell hkind hx hx₂ hxx htt r (q:=q) (by rw[e1];exact e2) fun W2 h' tk' C D oC m₂ ys l2 hC hv hl aD aC cd r3=>?_
 refine⟨m₂,hC.ns (r3.frAt (q:=(C,oC)) Zz5),fun h'' sb=>?_⟩
 obtain⟨W5,l5,r5,v5⟩:=Zkr hv hl aD aC cd r3 sb
 exact post W5 h'' tk' _ (l2.trans l5) r5 v5
end
end PM
end
section
set_option autoImplicit false
namespace PM
open PySem PySem.W PySem.Calls PyProof.Rows PyProof PySem.Spec
theorem Zpp{prog:Program}{w:World}{A A₀:Around}{s:Shared}{base h₀:Heap}{L:Addr}{m:Str→Option Value}{lent:List (Addr×Obj)}{K:Frag}{p:Program}{loose:List Str}{mean:ExcName→Option Value}{mg mb:Str→Option Value}
  {env:Env} {outer:List Env} {R:Result→Shared→Prop} {name qual:Str} {params:Arguments} {body:List Stmt} {scope:Scope} {dV kV doc pm cdv ct oc:Value} {an od:Option Addr} {osl:Array (Option Value)} {f:Addr} {args:Args} {binds:List (Str×Value)}
  (B:Below A₀ base outer h₀) (F:Fr h₀ L s.heap m) (X₀:K.In h₀) (N:News h₀ L s.heap lent) (T:Top p loose mean mg mb h₀) (hA:A.frames=some (env::outer)) (hf:env.frame=some L) (hke:env.scope.kind=.function)
  (ho:K.lookup f=some ⟨oc,od,.func (fnOf name qual params body scope dV kV doc pm an cdv ct),osl⟩) (hcd:codeIn K cdv qual=true) (hroom:A.depth<recursionLimit)
  (hbind:BindsTo s (fnOf name qual params body scope dV kV doc pm an cdv ct) args binds) (hall:(binds.all fun y=>scope.names.lookup y.1 == some .local || scope.names.lookup y.1 == some .cell)=true) (hone:((cellsFrom 0 scope.names []).map (·.1)).Nodup)
  (h:∀g L' h₁ tk cells,(∀b o,s.heap.get? b=some o→b∉lent.map (·.1)→g.get? b=some o)→Fr g L' h₁ (bindL (envOfC qual scope L' f cdv).kindOf binds fun _=>none)→News g L' h₁ (cells++lent)→CellsAre (bindC (envOfC qual scope L' f cdv).kindOf binds fun _=>none) (cellsFrom (L'+1) scope.names []) cells →
   (cellsFrom (L'+1) scope.names []).Pairwise (fun x y=>x.2≠y.2)→(∀n c,(n,c)∈cellsFrom (L'+1) scope.names []→L'<c)→Below A base (env::outer) g→K.In g→Top p loose mean mg mb g→(∀q∈lent,q.1<L')→s.heap.objs.size≤L' →
   wpAny (model prog w) (A.deeper (envOfC qual scope L' f cdv)) (execs body (envOfC qual scope L' f cdv)) (fun fl s'=>LeaveK h₀ L m g R (match fl with | .ret v=>v | _=>.none) s')
    (fun e s'=>wpAny (model prog w) (A.deeper (envOfC qual scope L' f cdv)) (leaving (envOfC qual scope L' f cdv) e) (fun _ s''=>R (.error e) s'') (fun e' s''=>R (.error e') s'') s') { s with heap:=h₁,toks:=tk })
  (hco:scope.isCoroutine=false) (hgen:scope.isGenerator=false) (hk:scope.kind=.function):codeAny (model prog w) A (.call (.ref f) args) R s:=by
 obtain⟨FG,BG,st,lv⟩:=groundX (R:=R) B F N hA hf hke
 have X:=X₀.keeps F.keep
 refine codeAny_call_function (fd:=fnOf name qual params body scope dV kV doc pm an cdv ct) hroom (X _ _ ho) rfl hco hgen rfl (codeRec_of X hcd) (hbind _ _ _ _ ?_)
 refine wpAny_newFunctionEnv_cells hk (kindsX hall _) fun fresh hfr s' inC=>?_
 subst hfr
 have up:=inC.toInCall.keep
 refine⟨(T.nolimit.keeps F.keep).keeps up,codeAny_func ?_⟩
 obtain⟨h₁,tk,hs',_⟩:=inC.done
 subst hs'
 have nod:=cellsFrom_names scope.names 0 (s.heap.objs.size+1) [] [] rfl▸hone
 obtain⟨cells,NC,Y⟩:=Cl.news (h₀:=s.heap) (L:=s.heap.objs.size) (Zz10 _) fun n c hm=>⟨inC.cell n c (lookup_of_mem_nodup nod hm),inC.above n c hm⟩
 have old:∀q∈lent,q.1<s.heap.objs.size:=fun q hq=>Heap.lt_size (N q hq).1
 refine wpAny_mono (h _ s.heap.objs.size h₁ tk cells (fun b o e nb=>hideAll_get _ e nb) ⟨inC.toInCall.ns,fun b o e=>up b o (of_hideAll _ e),Nat.le_of_eq (hideAll_size _ _)⟩ (fun q hq=>?_) Y inC.apart inC.above BG (X₀.keeps st) (T.keeps st) old (Zz10 _)) (fun fl s' hl=>lv _ _ hl) fun _ _ y=>y
 rcases Zz8.mp hq with hq | hq
 ·obtain⟨c1,c2,c3⟩:=NC q hq
  refine⟨c1,c2,?_⟩
  cases e:(hideAll s.heap (lent.map (·.1))).get? q.1 with
  | none=>rfl
  | some o=>
   have z:=of_hideAll _ e
   rw[c3]at z
   cases z
 ·exact⟨up _ _ (N q hq).1,Nat.ne_of_lt (old q hq),hideAll_none _ (List.mem_map_of_mem hq)⟩
section
variable (prog:Program) (w:World) (K:Frag) (p:Program) (loose:List Str) (mean:ExcName→Option Value) (mg mb:Str→Option Value)
noncomputable def Clr(Γ:Cx)(dp un:Nat): Prop:=∃(gd:Option (List Code)) (cn:Str) (cs:Scope) (a:Addr) (ccd:Value) (cl:List (Str×Addr)) (outer:List Env) (A₀:Around) (base:Heap),
 Γ.A=ktrTop dp un gd cn cs Γ.L a ccd cl outer∧Below A₀ base outer Γ.h₀∧K.In Γ.h₀∧Top p loose mean mg mb Γ.h₀∧cs.kind=.function
noncomputable def Def(f:Addr)(room:Nat)(F:List V→Hp→Option (V×Hp)): Prop:=∀(Γ:Cx) (dp un:Nat),Clr K p loose mean mg mb Γ dp un→dp+room<recursionLimit→un+10*room+300<cLine →
 ∀(W:Wd) (ρ:Lc) (H:Hp) (fr:List (Addr×Obj)) (s:Shared) (Q E:Value→Shared→Prop) (as:List V) (xs:List Value) (v:V) (H':Hp),
  Rep Γ W ρ H fr s.heap→VRs W as xs→F as H=some (v,H')→ZeP Γ W ρ H' fr s Q v→wpAny (model prog w) Γ.A (call (.ref f) xs) Q E s
end
noncomputable def ZX(n:Nat)(g:Sm): List V→Hp→Option (V×Hp):=fun as H=>if as.length=n then(g (fun i=>as[i]?) H).map fun r=>((r.1.getD .none),r.2.2)else none
theorem Zm8{kindOf:Str→Option NameKind}: ∀{ps:List Str} {xs:List Value} {m:Str→Option Value} {x:Str} {i:Nat} {y:Value},ps.Nodup→ps[i]?=some x→xs[i]?=some y→kindOf x=some .local→bindL kindOf (ps.zip xs) m x=some y:=by
 have skip:∀{ps:List Str} {xs:List Value} {m:Str→Option Value} {x:Str},x∉ps→bindL kindOf (ps.zip xs) m x=m x:=by
  intro ps
  induction ps with
  | nil=>intro xs m x _;rfl
  | cons p ps ih=>
   intro xs m x hx
   cases xs with
   | nil=>rfl
   | cons z xs=>
    simp only[List.zip_cons_cons,bindL]
    rw[ih (fun h=>hx (Zz2 _ h))]
    have:x≠p:=fun e=>hx (e▸List.mem_cons_self)
    split <;> simp[this]
 intro ps
 induction ps with
 | nil=>intro xs m x i y _ h;simp at h
 | cons p ps ih=>
  intro xs m x i y nd hp hx hk
  cases xs with
  | nil=>simp at hx
  | cons z xs=>
   obtain⟨n1,n2⟩:=List.nodup_cons.mp nd
   cases i with
   | zero=>
    simp at hp hx
    subst hp hx
    simp only[List.zip_cons_cons,bindL]
    rw[skip n1,if_pos hk]
    simp
   | succ i=>
    simp at hp hx
    simp only[List.zip_cons_cons,bindL]
    exact ih n2 hp hx hk
theorem Zm9{kindOf:Str→Option NameKind}: ∀{ps:List Str} {xs:List Value} {m:Str→Option Value} {x:Str} {i:Nat} {y:Value},ps.Nodup→ps[i]?=some x→xs[i]?=some y→kindOf x=some .cell→bindC kindOf (ps.zip xs) m x=some y:=by
 have skip:∀{ps:List Str} {xs:List Value} {m:Str→Option Value} {x:Str},x∉ps→bindC kindOf (ps.zip xs) m x=m x:=by
  intro ps
  induction ps with
  | nil=>intro xs m x _;rfl
  | cons p ps ih=>
   intro xs m x hx
   cases xs with
   | nil=>rfl
   | cons z xs=>
    simp only[List.zip_cons_cons,bindC]
    rw[ih (fun h=>hx (Zz2 _ h))]
    have:x≠p:=fun e=>hx (e▸List.mem_cons_self)
    split <;> simp[this]
 intro ps
 induction ps with
 | nil=>intro xs m x i y _ h;simp at h
 | cons p ps ih=>
  intro xs m x i y nd hp hx hk
  cases xs with
  | nil=>simp at hx
  | cons z xs=>
   obtain⟨n1,n2⟩:=List.nodup_cons.mp nd
   cases i with
   | zero=>
    simp at hp hx
    subst hp hx
    simp only[List.zip_cons_cons,bindC]
    rw[skip n1,if_neg (by rw[hk];simp)]
    simp
   | succ i=>
    simp at hp hx
    simp only[List.zip_cons_cons,bindC]
    exact ih n2 hp hx hk
theorem Zer{cm:Str→Option Value}: ∀{cs:List (Str×Addr)} {cells:List (Addr×Obj)} {x:Str} {c:Addr},CellsAre cm cs cells→(x,c)∈cs→∃o,(c,o)∈cells∧o.data=.cell (cm x)
 | _,_,_,_,.nil,h=>nomatch h
 | _,_,_,_,.cons hd r,h=>by
  rcases Zz7.mp h with e | h
  ·cases e
   exact⟨_,List.mem_cons_self,hd⟩
  ·obtain⟨o,h1,h2⟩:=Zer r h
   exact⟨o,List.mem_cons_of_mem _ h1,h2⟩
theorem ZkR{cm:Str→Option Value}: ∀{cs:List (Str×Addr)} {cells:List (Addr×Obj)} {q:Addr×Obj},CellsAre cm cs cells→q∈cells→∃x,(x,q.1)∈cs
 | _,_,_,.nil,h=>nomatch h
 | _,_,_,.cons hd r,h=>by
  rcases Zz7.mp h with e | h
  ·cases e
   exact⟨_,List.mem_cons_self⟩
  ·obtain⟨x,h1⟩:=ZkR r h
   exact⟨x,List.mem_cons_of_mem _ h1⟩
theorem ZcI{α β:Type}[BEq α][LawfulBEq α]: ∀{l:List (α×β)} {x:α} {y:β},l.lookup x=some y→(x,y)∈l
 | [],_,_,h=>by simp at h
 | (a,b)::r,x,y,h=>by
  rw[List.lookup_cons]at h
  split at h
  ·rename_i e
   cases h
   have:=eq_of_beq e
   subst this
   exact Zz5
  ·exact Zz2 _ (ZcI h)
end PM
end
section
set_option autoImplicit false
namespace PM
open PySem PySem.W PySem.Calls PyProof.Rows PyProof PySem.Spec
section
variable {prog:Program} {w:World} {K:Frag} {p:Program} {loose:List Str} {mean:ExcName→Option Value} {mg mb:Str→Option Value}
theorem Zpq{name qual:Str}{params:Arguments}{body:List Stmt}{scope:Scope}{dV kV doc pm cdv ct oc:Value}{an od:Option Addr}{osl:Array (Option Value)}{f:Addr}{names:List Str}{n room:Nat}{g:Sm}
  (ho:K.lookup f=some ⟨oc,od,.func (fnOf name qual params body scope dV kV doc pm an cdv ct),osl⟩) (hcd:codeIn K cdv qual=true) (nd:names.Nodup) (hn:n≤names.length)
  (hbind:∀s xs,xs.length=n→BindsTo s (fnOf name qual params body scope dV kV doc pm an cdv ct) ⟨xs,[]⟩ ((names.take n).zip xs)) (hkinds:∀x∈names.take n,scope.names.lookup x=some .local∨scope.names.lookup x=some .cell) (hone:((cellsFrom 0 scope.names []).map (·.1)).Nodup)
  (hco:scope.isCoroutine=false) (hgen:scope.isGenerator=false) (hk:scope.kind=.function)
  (hbody:∀(dp un:Nat) (gd:Option (List Code)) (L:Addr) (outer:List Env) (h₀:Heap) (hu:un+200<cLine),Clr K p loose mean mg mb (Za8 dp un gd qual scope L f cdv (cellsFrom (L+1) scope.names []) outer h₀ hu names) dp un→dp+room<recursionLimit→un+10*room+300<cLine →
   Ss prog w (Za8 dp un gd qual scope L f cdv (cellsFrom (L+1) scope.names []) outer h₀ hu names) body g):
  Def prog w K p loose mean mg mb f (room+1) (ZX n g):=by
 intro Γ dp un clr hd hu W ρ H fr s Q E as xs v H' r hx hF post
 obtain⟨gd,cn,cs,a,ccd,cl,outer,A₀,base,eA,B,X,T,hke⟩:=clr
 unfold ZX at hF
 split at hF
 ·rename_i hlen
  obtain⟨res,e1,e2⟩:=Zz1.mp hF
  obtain⟨o,ρ',K'⟩:=res
  cases e2
  obtain⟨m,c,led,r⟩:=r
  have hxl:xs.length=n:=by rw[hx.length,hlen]
  have inn:∀q∈led,(q.1∈W.pi∨q.1∈W.tups.map (·.1))↔q∈led.filter (fun q=>decide (q.1∈W.pi∨q.1∈W.tups.map (·.1))):=fun q hq=>⟨fun h=>List.mem_filter.mpr ⟨hq,by simpa using h⟩,fun h=>by simpa using (List.mem_filter.mp h).2⟩
  have isub:∀q∈led.filter (fun q=>decide (q.1∈W.pi∨q.1∈W.tups.map (·.1))),q∈led:=fun q hq=>(List.mem_filter.mp hq).1
  generalize hlent:led.filter (fun q=>decide (q.1∈W.pi∨q.1∈W.tups.map (·.1)))=lent at inn isub
  have notin:∀q∈led,q.1∉W.pi→(∀t∈W.tups,q.1≠t.1)→q.1∉lent.map (·.1):=fun q hq h1 h2 h3=>by
   obtain⟨t,ht,e⟩:=Zz11.mp h3
   rcases(inn t (isub t ht)).mpr ht with z | z
   ·exact h1 (e▸z)
   ·obtain⟨u,hu,e'⟩:=Zz11.mp z
    exact h2 u hu (e▸e'.symm)
  rw[eA]
  refine wpAny_call ?_
  refine Zpp (env:=envX cn cs Γ.L a ccd cl) (lent:=lent) B r.F X (fun q hq=>r.N q (isub q hq)) T rfl rfl hke ho hcd (by show dp<recursionLimit;omega) (hbind s xs hxl) ?_ hone ?_ hco hgen hk
  ·refine List.all_eq_true.mpr fun y hy=>?_
   rcases hkinds y.1 (List.of_mem_zip hy).1 with h | h <;> simp[h]
  intro g0 L' h₁ tk cells stay F' N' Y ap ab B' X' T' old szL
  have hu':(un+3)+200<cLine:=by omega
  have clr':Clr K p loose mean mg mb (Za8 (dp+1) (un+3) gd qual scope L' f cdv (cellsFrom (L'+1) scope.names []) (envX cn cs Γ.L a ccd cl::outer) g0 hu' names) (dp+1) (un+3):=
   ⟨gd,qual,scope,f,cdv,cellsFrom (L'+1) scope.names [],envX cn cs Γ.L a ccd cl::outer,_,base,rfl,B',X',T',hk⟩
  have below:∀q∈cells,L'<q.1:=fun q hq=>by
   obtain⟨x,hx⟩:=ZkR Y hq
   exact ab x _ hx
  have piLt:∀b∈W.pi,b<L':=fun b hb=>by
   obtain⟨o,ho⟩:=r.piIn b hb
   exact Nat.lt_of_lt_of_le (Heap.lt_size (r.get ho)) szL
  have tuLt:∀t∈W.tups,t.1<L':=fun t ht=>Nat.lt_of_lt_of_le (Heap.lt_size (r.get (r.R.tups t ht))) szL
  have scN:W.sc.1∉lent.map (·.1):=fun z=>by
   obtain⟨t,ht,e⟩:=Zz11.mp z
   exact r.notSc t (isub t ht) e
  have tkn:∀{i:Nat} {x:Str} {u:V},names[i]?=some x→as[i]?=some u→(names.take n)[i]?=some x∧∃y,xs[i]?=some y∧VR W u y:=fun {i x u} h1 h2=>by
   have hi:i<n:=by rw[←hlen];exact(Zz6.mp h2).1
   exact⟨by rw[List.getElem?_take_of_lt hi];exact h1,hx.at h2⟩
  have ndt:(names.take n).Nodup:=nd.sublist (List.take_sublist _ _)
  have rep:Rep (Za8 (dp+1) (un+3) gd qual scope L' f cdv (cellsFrom (L'+1) scope.names []) (envX cn cs Γ.L a ccd cl::outer) g0 hu' names) W (fun i=>as[i]?) H [] h₁:=by
   refine⟨_,cells,cells++lent,⟨F',N',⟨r.R.len,r.R.nd,fun i vs e=>?_,fun q hq=>?_,r.R.kind⟩,stay _ _ (r.F.keep _ _ r.sc) scN,r.sc0,fun q hq=>(nomatch hq),fun q hq=>(nomatch hq),fun q hq=>List.mem_append_left _ hq,fun q hq z=>?_,fun q _ t ht=>(nomatch ht),fun q hq=>(nomatch hq),fun q hq t ht=>?_,⟨fun i x u hi hk1 hu1=>?_,fun i x u hi hk1 hu1=>?_,fun x c1 hc=>?_,fun x y c1 h1 h2=>?_⟩⟩⟩
   ·obtain⟨l,b,ys,k,h1,h2,h3⟩:=r.R.lists i vs e
    exact⟨l,b,ys,k,h1,Zdc h2 fun z=>List.mem_append_right _ ((inn _ z).mp (.inl (List.mem_of_getElem? h1))),h3⟩
   ·exact Zdc (r.R.tups q hq) fun z=>List.mem_append_right _ ((inn _ z).mp (.inr (List.mem_map_of_mem hq)))
   ·exact absurd (Nat.lt_trans (piLt _ z) (below q hq)) (Nat.lt_irrefl _)
   ·exact Nat.ne_of_gt (Nat.lt_trans (tuLt t ht) (below q hq))
   ·obtain⟨h1,y,h2,h3⟩:=tkn hi hu1
    exact⟨y,Zm8 ndt h1 h2 hk1,h3⟩
   ·obtain⟨h1,y,h2,h3⟩:=tkn hi hu1
    have hs:=cellsFrom_some scope.names (L'+1) [] (.inl hk1)
    obtain⟨c1,hc1⟩:=Option.isSome_iff_exists.mp hs
    obtain⟨o1,ho1,hd1⟩:=Zer Y (ZcI hc1)
    refine⟨c1,o1,y,hc1,ho1,?_,h3⟩
    rw[hd1,Zm9 ndt h1 h2 hk1]
   ·obtain⟨o1,ho1,hd1⟩:=Zer Y (ZcI hc)
    exact⟨o1,_,ho1,hd1⟩
   ·exact name_of_addr ap (ZcI h1) (ZcI h2)
  have hb:=hbody (dp+1) (un+3) gd L' (envX cn cs Γ.L a ccd cl::outer) g0 hu' clr' (by omega) (by omega)
  have back:∀(W':Wd) (h':Heap) (tk':Nat) (x:Value),W.Le W'→Rep (Za8 (dp+1) (un+3) gd qual scope L' f cdv (cellsFrom (L'+1) scope.names []) (envX cn cs Γ.L a ccd cl::outer) g0 hu' names) W' ρ' K' [] h'→VR W' (o.getD .none) x →
    LeaveK Γ.h₀ Γ.L m g0 (fun r s'=>match r with | .ok (.ret v)=>Q v s' | .ok _=>False | .error e=>E e s') x { s with heap:=h',toks:=tk' }:=by
   intro W' h' tk' x l' r' x'
   obtain⟨m',c',led',r'⟩:=r'
   refine⟨L',m',led',r'.F,r'.N,fun FG NG=>post W' h' tk' x l' ?_ x'⟩
   have g0at:∀q∈led,q.1∉lent.map (·.1)→g0.get? q.1=some q.2:=fun q hq hn=>stay _ _ (r.N q hq).1 hn
   have frN:∀q∈fr,q.1∉lent.map (·.1):=fun q hq=>notin q (r.frIn q hq) (r.frOff q hq) (r.frTup q hq)
   have clN:∀q∈c,q.1∉lent.map (·.1):=fun q hq=>notin q (r.clIn q hq) (r.clOff q hq) (r.clTup q hq)
   have newN:∀t∈led',g0.get? t.1=none:=fun t ht=>(r'.N t ht).2.2
   have far:∀q∈led,q.1∉lent.map (·.1)→∀t∈W'.sc::led',q.1≠t.1:=fun q hq hn t ht e=>by
    rcases Zz7.mp ht with e2 | ht
    ·rw[e2,l'.sc]at e
     exact r.notSc q hq e
    ·have:=g0at q hq hn
     rw[e,newN t ht]at this
     cases this
   have farPi:∀q∈led,q.1∉lent.map (·.1)→q.1∉W'.pi:=fun q hq hn z=>by
    obtain⟨o2,h2⟩:=r'.piIn _ z
    exact far q hq hn _ h2 rfl
   have keep:∀q∈led,q.1∉lent.map (·.1)→q∈led'++led.filter (fun q=>decide (q.1∉lent.map (·.1))):=fun q hq hn=>List.mem_append_right _ (List.mem_filter.mpr ⟨hq,by simpa using hn⟩)
   refine⟨m,c,led'++led.filter (fun q=>decide (q.1∉lent.map (·.1))),⟨FG,fun q hq=>?_,r'.R.mono fun q hq=>ZdU hq fun x hx=>List.mem_append_left _ hx,l'.sc▸r.sc,r'.sc0,fun q hq=>keep q (r.frIn q hq) (frN q hq),fun q hq=>farPi q (r.frIn q hq) (frN q hq),fun q hq=>keep q (r.clIn q hq) (clN q hq),fun q hq=>farPi q (r.clIn q hq) (clN q hq),r.apart,fun q hq t ht=>far q (r.frIn q hq) (frN q hq) t (r'.R.tups t ht),fun q hq t ht=>far q (r.clIn q hq) (clN q hq) t (r'.R.tups t ht),Γ.mono l' r.own⟩⟩
   rcases Zz8.mp hq with hq | hq
   ·exact NG q hq
   ·obtain⟨h1,h2⟩:=List.mem_filter.mp hq
    exact⟨r'.F.keep _ _ (g0at q h1 (by simpa using h2)),(r.N q h1).2⟩
  refine hb W _ H [] _ _ _ (o,ρ',K') rep e1 ?_
  cases o with
  | none=>exact fun W' h' tk' l' r'=>back W' h' tk' .none l' r' .none
  | some v0=>exact fun W' h' tk' x l' r' x'=>back W' h' tk' x l' r' x'
 ·cases hF
theorem Zoq{Γ:Cx}{dp un:Nat}{x:Str}{np pos:Pos}{f:Addr}{room:Nat}{e:Expr}{es:List Expr}{g:Exs}{o:List V→Hp→Option (V×Hp)}(clr:Clr K p loose mean mg mb Γ dp un)(hn:Nm prog w Γ x (.ref f))(hkeep:keepIn K (.ref f)=true)(D:Def prog w K p loose mean mg mb f room o)(hd:dp+room<recursionLimit)(hu:un+10*room+300<cLine)
  (h:Js prog w Γ (e::es) g) (he:starEach (e::es) Γ.env=(false,eval e Γ.env)::starEach es Γ.env:=by rfl) (hp:∀pos,(backTo pos (starEach es Γ.env)).any (·.1)=false:=by intro _;rfl):J prog w Γ (.Call (.Name x np) (e::es) [] pos) (Zq o g):=by
 intro W ρ H fr s Q E v H' r hf post
 obtain⟨q,e1,hf⟩:=Zz0.mp hf
 have X:K.In Γ.h₀:=by
  obtain⟨_,_,_,_,_,_,_,_,_,_,_,X,_⟩:=clr
  exact X
 refine wpAny_Call_ofName (hn.use r ?_)
 refine callWith_K (first:=[]) X hkeep (h pos W ρ H fr s _ E _ _ r e1 fun W1 k1 t1 xs l1 r1 x1=>⟨?_,?_⟩) he (hp pos)
 ·obtain⟨m,c,led,r1⟩:=r1
  exact X.keeps r1.F.keep
 ·exact D Γ dp un clr hd hu W1 ρ _ fr _ Q E _ xs v H' r1 x1 hf fun W2 k2 t2 y l2 r2 y2=>post W2 k2 t2 y (l1.trans l2) r2 y2
theorem Zcc{Γ:Cx}{dp un:Nat}{scope:Scope}{cl:List (Str×Addr)}{C:Addr}{ts:List (Str×Nat)}{ρ0:Lc}(h:Clr K p loose mean mg mb Γ dp un): Clr K p loose mean mg mb (ZaI Γ scope cl C ts ρ0) dp un:=h
end
end PM
end
section
set_option autoImplicit false
namespace PM
open PySem PySem.W PySem.Calls PyProof.Rows PyProof PySem.Spec
theorem ZgI{lo:Nat}: ∀(names:List (Str×NameKind)) (n:Nat) (acc:List (Str×Addr)),acc.Pairwise (fun x y=>x.2≠y.2)→(∀q∈acc,lo<q.2∧q.2<n)→lo<n→(cellsFrom n names acc).Pairwise (fun x y=>x.2≠y.2)∧∀q∈cellsFrom n names acc,lo<q.2
 | [],n,acc,h1,h2,_=>⟨h1,fun q hq=>(h2 q hq).1⟩
 | (y,k)::r,n,acc,h1,h2,h3=>by
  unfold cellsFrom
  by_cases hk:(k == .cell)=true
  ·rw[if_pos hk]
   refine ZgI r (n+1) ((y,n)::acc) (List.pairwise_cons.mpr ⟨fun q hq=>Nat.ne_of_gt (h2 q hq).2,h1⟩) (fun q hq=>?_) (Nat.lt_succ_of_lt h3)
   rcases Zz7.mp hq with e | hq
   ·rw[e]
    exact⟨h3,Nat.lt_succ_self n⟩
   ·exact⟨(h2 q hq).1,Nat.lt_succ_of_lt (h2 q hq).2⟩
  ·rw[if_neg hk]
   exact ZgI r n acc h1 h2 h3
theorem Zna{P:Params}{h:Heap}{a:Addr}{ns:List Int}(w1:Well P h (.ref a) (ofPy (.list (ns.map PyData.int))))(W:Wd): ∃vs,h.get? a=some (Zbj vs 0)∧VRs W (ns.map V.int) vs:=by
 have key:∀{ns:List Int} {vs:List Value} {xs:List WData},xs=(ns.map PyData.int).map ofPy→WellAll P h vs xs→VRs W (ns.map V.int) vs:=by
  intro ns
  induction ns with
  | nil=>intro vs xs e h;subst e;cases h;exact .nil
  | cons n ns ih=>
   intro vs xs e h
   subst e
   cases h with
   | cons h1 h2=>
    cases h1 with
    | int i t=>exact .cons (.int _ _) (ih rfl h2)
 have e:ofPy (.list (ns.map PyData.int))=.list ((ns.map PyData.int).map ofPy):=by rw[ofPy,ofPys_eq]
 rw[e]at w1
 cases w1 with
 | list hg ha=>exact⟨_,hg,key rfl ha⟩
section
variable {prog:Program} {w:World} {K:Frag} {p:Program} {loose:List Str} {mean:ExcName→Option Value} {mg mb:Str→Option Value}
theorem Zor{P:Params}{h₀:Heap}{s:Shared}{sa fa:Addr}{cd:Value}{ns:List Int}{qual pname:Str}{scope:Scope}{body:List Stmt}{names:List Str}{g:Sm}{cells:List (Addr×Obj)}{Q:Flow→Shared→Prop}{E:Value→Shared→Prop}{room:Nat}{H':Hp}
  (hbody:∀(dp un:Nat) (gd:Option (List Code)) (L a:Addr) (ccd:Value) (outer:List Env) (h₀:Heap) (hu:un+200<cLine),Clr K p loose mean mg mb (Za8 dp un gd qual scope L a ccd (cellsFrom (L+1) scope.names []) outer h₀ hu names) dp un→dp+room<recursionLimit→un+10*room+300<cLine →
   Ss prog w (Za8 dp un gd qual scope L a ccd (cellsFrom (L+1) scope.names []) outer h₀ hu names) body g)
  (hd:callerA.depth+1+room<recursionLimit) (hun:callerA.units+3+10*room+300<cLine) (hk:scope.kind=.function) (h0:names[0]?=some pname)
  (KX:K.In h₀) (T:Top p loose mean mg mb h₀) (w1:Well P h₀ (.ref sa) (ofPy (.list (ns.map PyData.int)))) (hlen:ns.length≤LEN)
  (F:Fr h₀ h₀.objs.size s.heap (bindL (envOfC qual scope h₀.objs.size fa cd).kindOf [(pname,.ref sa)] fun _=>none)) (N:News h₀ h₀.objs.size s.heap cells) (X0:CellsAre (bindC (envOfC qual scope h₀.objs.size fa cd).kindOf [(pname,.ref sa)] fun _=>none) (cellsFrom (h₀.objs.size+1) scope.names []) cells)
  (hg:ZX 1 g [.ref 0] [ns.map V.int]=some (.bool true,H')) (post:∀h' tk' m',Fr h₀ h₀.objs.size h' m'→Q (.ret (.bool true)) { s with heap:=h',toks:=tk' }):
  wpAny (model prog w) (callerA.deeper (envOfC qual scope h₀.objs.size fa cd)) (execs body (envOfC qual scope h₀.objs.size fa cd)) Q E s:=by
 have hu':(callerA.units+3)+200<cLine:=by omega
 have clr:Clr K p loose mean mg mb (Za8 (callerA.depth+1) (callerA.units+3) callerA.guards qual scope h₀.objs.size fa cd (cellsFrom (h₀.objs.size+1) scope.names []) [] h₀ hu' names) (callerA.depth+1) (callerA.units+3):=
  ⟨callerA.guards,qual,scope,fa,cd,cellsFrom (h₀.objs.size+1) scope.names [],[],_,_,rfl,below_caller h₀,KX,T,hk⟩
 have hb:=hbody (callerA.depth+1) (callerA.units+3) callerA.guards h₀.objs.size fa cd [] h₀ hu' clr hd hun
 obtain⟨vs,hsc,hv⟩:=Zna w1 ⟨[sa],[],(sa,Zbj [] 0)⟩
 have hv':VRs ⟨[sa],[],(sa,Zbj vs 0)⟩ (ns.map V.int) vs:=by
  clear hg post w1 hlen hsc
  generalize ns.map V.int=us at hv
  have key:∀{us:List V} {xs:List Value},VRs ⟨[sa],[],(sa,Zbj [] 0)⟩ us xs→VRs ⟨[sa],[],(sa,Zbj vs 0)⟩ us xs:=by
   intro us
   induction us with
   | nil=>intro xs h;cases h;exact .nil
   | cons u us ih=>
    intro xs h
    cases h with
    | cons a b=>
     refine .cons ?_ (ih b)
     cases a with
     | none=>exact .none
     | bool b=>exact .bool b
     | int i t=>exact .int i t
     | str s t=>exact .str s t
     | tup hm _ _=>exact nomatch hm
     | ref e=>exact .ref e
  exact key hv
 have far:=ZgI (lo:=h₀.objs.size) scope.names (h₀.objs.size+1) [] .nil (fun q hq=>nomatch hq) (Nat.lt_succ_self _)
 unfold ZX at hg
 rw[if_pos (show([V.ref 0]:List V).length=1 from rfl)]at hg
 obtain⟨res,e1,e2⟩:=Zz1.mp hg
 obtain⟨o,ρ',K'⟩:=res
 have eo:o=some (.bool true):=by
  cases o with
  | none=>simp at e2
  | some v=>simp at e2;rw[e2.1]
 subst eo
 have pick:∀{i:Nat} {x:Str} {u:V},names[i]?=some x→([V.ref 0]:List V)[i]?=some u→x=pname∧u=.ref 0:=fun {i x u} h1 h2=>by
  have hi:i<1:=(Zz6.mp h2).1
  have:i=0:=by omega
  subst this
  rw[h0]at h1
  simp at h1 h2
  exact⟨h1.symm,h2.symm⟩
 have rep:Rep (Za8 (callerA.depth+1) (callerA.units+3) callerA.guards qual scope h₀.objs.size fa cd (cellsFrom (h₀.objs.size+1) scope.names []) [] h₀ hu' names) ⟨[sa],[],(sa,Zbj vs 0)⟩ (fun i=>[V.ref 0][i]?) [ns.map V.int] [] s.heap:=by
  refine⟨_,cells,cells,⟨F,N,⟨rfl,by simp,fun i us e=>?_,fun q hq=>(nomatch hq),fun q hq=>(nomatch hq)⟩,hsc,rfl,fun q hq=>(nomatch hq),fun q hq=>(nomatch hq),fun q hq=>hq,fun q hq z=>?_,fun q _ t ht=>(nomatch ht),fun q hq=>(nomatch hq),fun q hq t ht=>(nomatch ht),⟨fun i x u hi hk1 hu1=>?_,fun i x u hi hk1 hu1=>?_,fun x c1 hc=>?_,fun x y c1 h1 h2=>?_⟩⟩⟩
  ·have hi:i<1:=(Zz6.mp e).1
   have:i=0:=by omega
   subst this
   simp at e
   subst e
   exact⟨by simpa using hlen,sa,vs,0,rfl,List.mem_cons_self,hv'⟩
  ·have:=(N q hq).2.2
   rw[List.mem_singleton.mp z,hsc]at this
   cases this
  ·obtain⟨e3,e4⟩:=pick hi hu1
   subst e3 e4
   refine⟨.ref sa,?_,.ref rfl⟩
   show bindL _ _ _ _=_
   unfold bindL bindL
   rw[if_pos (show(envOfC qual scope h₀.objs.size fa cd).kindOf x=some .local from hk1)]
   simp
  ·obtain⟨e3,e4⟩:=pick hi hu1
   subst e3 e4
   have hs:=cellsFrom_some scope.names (h₀.objs.size+1) [] (.inl hk1)
   obtain⟨c1,hc1⟩:=Option.isSome_iff_exists.mp hs
   obtain⟨o1,ho1,hd1⟩:=Zer X0 (ZcI hc1)
   refine⟨c1,o1,.ref sa,hc1,ho1,?_,.ref rfl⟩
   rw[hd1]
   unfold bindC bindC
   rw[if_neg (show ¬(envOfC qual scope h₀.objs.size fa cd).kindOf x=some .local by show ¬scope.names.lookup x=some .local;rw[hk1];simp)]
   simp
  ·obtain⟨o1,ho1,hd1⟩:=Zer X0 (ZcI hc)
   exact⟨o1,_,ho1,hd1⟩
  ·exact name_of_addr far.1 (ZcI h1) (ZcI h2)
 refine hb _ _ _ [] s Q E _ rep e1 ?_
 intro W' h' tk' x l' r' x'
 cases x' with
 | bool _=>
  obtain⟨m',c',led',r'⟩:=r'
  exact post h' tk' m' r'.F
end
end PM
end
section
set_option autoImplicit false
namespace PM
open PySem PySem.W PySem.Calls PyProof.Rows PyProof PyProof.Rows.LCg PyProof.Rows.LSm
theorem Rep.listAt{Γ:Cx}{W:Wd}{ρ:Lc}{H:Hp}{fr:List (Addr×Obj)}{h h':Heap}{vs:List V}{xs:List Value}{k:Nat}(r:Rep Γ W ρ H fr h)(up:∀b o,h.get? b=some o→h'.get? b=some o)(hg:h'.get? h.objs.size=some (Zbj xs k))(hv:VRs W vs xs)(hl:vs.length≤LEN):
  ∃W',W.Le W'∧Rep Γ W' ρ (H++[vs]) fr h'∧VR W' (.ref H.length) (.ref h.objs.size):=by
 obtain⟨r2,ap⟩:=r.more (fs:=[(h.objs.size,Zbj xs k)]) up (fun q hq=>by rw[List.mem_singleton.mp hq];exact⟨hg,Nat.le_refl _⟩)
 exact Zfu r2 (fun t ht=>ap _ Zz5 t ht) hv hl
noncomputable def Zcz: List V→Hp→Option (V×Hp)
 | [.ref a],H=>H[a]?.map fun vs=>(.ref H.length,H++[vs])
 | [.tup vs],H=>some (.ref H.length,H++[vs])
 | _,_=>none
noncomputable def ZdM: List V→Option (List Bool)
 | []=>some []
 | .bool b::vs=>(ZdM vs).map fun bs=>b::bs
 | _::_=>none
noncomputable def ZqY: List V→Hp→Option (V×Hp)
 | [.ref a],H=>H[a]?.bind fun vs=>(ZdM vs).map fun bs=>(.bool (bs.all id),H)
 | _,_=>none
noncomputable def ZeR: List V→Hp→Option (V×Hp)
 | [.ref a],H=>H[a]?.bind fun vs=>(ZdM vs).map fun bs=>(.bool (bs.any id),H)
 | _,_=>none
theorem Zmi{W:Wd}: ∀{vs:List V} {xs:List Value} {bs:List Bool},VRs W vs xs→ZdM vs=some bs→BoolsAre xs bs:=by
 intro vs
 induction vs with
 | nil=>intro xs bs h e;cases h;cases e;exact .nil
 | cons v vs ih=>
  intro xs bs h e
  cases h with
  | cons a b=>
   cases v with
   | bool c=>
    obtain⟨cs,e1,e2⟩:=Zz1.mp e
    subst e2
    cases a
    exact .cons _ (ih b e1)
   | none=>cases e
   | int _=>cases e
   | str _=>cases e
   | tup _=>cases e
   | ref _=>cases e
section
variable {prog:Program} {w:World}
theorem Zem: OpN prog w (fun xs=>call (.type "list") xs) Zcz:=by
 intro Γ W ρ H fr s Q E as xs v H' r hx ho post
 unfold Zcz at ho
 split at ho
 ·obtain⟨vs,e1,e2⟩:=Zz1.mp ho
  cases e2
  obtain⟨x,ex,rx⟩:=hx.one
  subst ex
  cases rx with
  | @ref _ a ea=>
   obtain⟨hl,ys,k,hg,hv⟩:=r.at e1 ea
   refine call_list_seq (hsz:=ZcZ (by rw[List.size_toArray,hv.length];exact hl)) a (.inl rfl) hg rfl rfl fun h' c' up hg'=>?_
   obtain⟨W2,l2,r2,v2⟩:=r.listAt up hg' hv hl
   exact post W2 h' s.toks _ l2 r2 v2
 ·cases ho
  obtain⟨x,ex,rx⟩:=hx.one
  subst ex
  cases rx with
  | @tup _ a ys k hm hl hv=>
   refine call_list_seq (hsz:=ZcZ (by rw[List.size_toArray,hv.length];exact hl)) a (.inr rfl) (r.tupAt hm) rfl rfl fun h' c' up hg'=>?_
   obtain⟨W2,l2,r2,v2⟩:=r.listAt up hg' hv hl
   exact post W2 h' s.toks _ l2 r2 v2
 ·cases ho
theorem Zpr: OpN prog w (fun xs=>call (.builtin "any") xs) ZeR:=by
 intro Γ W ρ H fr s Q E as xs v H' r hx ho post
 unfold ZeR at ho
 split at ho
 ·obtain⟨vs,e1,e2⟩:=Zz0.mp ho
  obtain⟨bs,e3,e4⟩:=Zz1.mp e2
  cases e4
  obtain⟨x,ex,rx⟩:=hx.one
  subst ex
  cases rx with
  | @ref _ a ea=>
   obtain⟨hl,ys,k,hg,hv⟩:=r.at e1 ea
   have isl:s.heap.IsList a ys.toArray:=⟨_,hg,rfl,k,rfl⟩
   obtain⟨m,c,led,r'⟩:=r
   exact any_bools r'.F r'.N Γ.hh isl (Zmi hv e3) fun h' tk F' N'=>post W h' tk _ (.refl W) (r'.same F' N') (.bool _)
 ·cases ho
end
section
variable {prog:Program} {w:World} {K:Frag} {p:Program} {loose:List Str} {mean:ExcName→Option Value} {mg mb:Str→Option Value} {Γ:Cx} {dp un:Nat}
theorem Zps{x:Str}{v:Value}(clr:Clr K p loose mean mg mb Γ dp un)(e:nsIn K mainGlobals x=some (some v))(hg:Γ.env.globals=mainGlobals)(hk:Γ.env.scope.kind=.function)(hx:Γ.env.kindOf x=some .globalImplicit)(hd:(x == ("__debug__":Str))=false): Nm prog w Γ x v:=by
 obtain⟨_,_,_,_,_,_,_,_,_,_,_,X,T,_⟩:=clr
 intro pos m s Q E F q
 exact Name_function_global hk hx (loadGlobal_global (env:=Γ.env) (by rw[hg];exact T.g.keeps F.keep) (mg_of X T.g e) q) hd
theorem ZnH{x:Str}{v:Value}(clr:Clr K p loose mean mg mb Γ dp un)(e:nsIn K mainGlobals x=some none)(hv:bootBuiltins x=some v)(hn:x≠"__name__")(hg:Γ.env.globals=mainGlobals)(hb:Γ.env.builtins=builtinsNs)(hk:Γ.env.scope.kind=.function)(hx:Γ.env.kindOf x=some .globalImplicit)(hd:(x == ("__debug__":Str))=false): Nm prog w Γ x v:=by
 obtain⟨_,_,_,_,_,_,_,_,_,_,_,X,T,_⟩:=clr
 intro pos m s Q E F q
 exact Name_function_global hk hx (loadGlobal_builtin (env:=Γ.env) (by rw[hg];exact T.g.keeps F.keep) (mg_none_of X T.g e) (by rw[hb];exact T.b.keeps F.keep) ((T.builtins x hn).trans hv) q) hd
end
section
variable {prog:Program} {w:World} {Γ:Cx} {scope:Scope} {cl:List (Str×Addr)} {C:Addr} {ts:List (Str×Nat)} {ρ0:Lc}
theorem Zos{x:Str}{t:Nat}(hm:(x,t)∈ts)(hk:scope.kind=.function)(hl:(compEnvC scope cl C Γ.env).kindOf x=some .local)(hd:(x == ("__debug__":Str))=false): Rd prog w (ZaI Γ scope cl C ts ρ0) x t:=by
 intro W ρ H fr s Q E v pos r e q
 obtain⟨m,c,led,r⟩:=r
 obtain⟨oC,m₂,cs,ec,h0,h1,h2,h3,h4⟩:=r.own
 obtain⟨v',y,e1,e2,e3⟩:=h2 _ hm
 rw[e]at e1
 cases e1
 exact LCgL.ld_own r.N (r.clIn _ (by rw[ec];exact Zz5)) h1 e2 (q y e3) hk hl hd
end
section
variable {prog:Program} {w:World} {dp un:Nat} {gd:Option (List Code)} {cn:Str} {cs:Scope} {L a:Addr} {ccd:Value} {clf:List (Str×Addr)} {outer:List Env} {h₀:Heap} {hu:un+200<cLine} {names:List Str} {scope:Scope} {cl:List (Str×Addr)} {C:Addr} {ts:List (Str×Nat)} {ρ0:Lc}
theorem Zot{x:Str}{i:Nat}(hi:names[i]?=some x)(hx:cs.names.lookup x=some .cell)(hne:∀p∈ts,p.2≠i)(hcl:cl.lookup x=clf.lookup x)(hk:scope.kind=.function)(hl:(compEnvC scope cl C (envX cn cs L a ccd clf)).kindOf x=some .cell)(hd:(x == ("__debug__":Str))=false):
  Rd prog w (ZaI (Za8 dp un gd cn cs L a ccd clf outer h₀ hu names) scope cl C ts ρ0) x i:=by
 intro W ρ H fr s Q E v pos r e q
 obtain⟨m,c,led,r⟩:=r
 obtain⟨oC,m₂,cs',ec,h0,h1,h2,h3,h4⟩:=r.own
 rw[h3 i hne]at e
 obtain⟨d,o,y,g1,g2,g3,g4⟩:=h4.cel i x v hi hx e
 exact kcf_cell r.N (hcl.trans g1) (r.clIn _ (by rw[ec];exact Zz2 _ g2)) g3 (q y g4) hk hl hd
end
end PM
end
section
namespace My
open PySem PySem.W PySem.Calls PyProof.Rows PySem.Spec
structure Cell(v:Int): Prop where
 bits:Builtin.Int.intBits v≤2 ^ 20
theorem bits_zero: Builtin.Int.intBits 0≤2 ^ 20:=by unfold Builtin.Int.intBits;simp
theorem cell_at{ns:List Int}(h:PyData.layable0 (.list (ns.map .int))=true)(i:Int): Cell (cellAt ns i 0):=by
 refine⟨?_⟩
 rw[cellAt_def,List.getD_eq_getElem?_getD]
 cases e:ns[i.toNat]? with
 | none=>exact bits_zero
 | some v=>exact PyData.bits_item_of_ints h (List.mem_of_getElem? e)
section
variable {prog:Program} {w:World} {A:Around} {E:Value→Shared→Prop} {s:Shared} {x y:Int} {t u:Tok} {Q:Value→Shared→Prop}
@[irreducible] noncomputable def T9: Int:=10 ^ 9
theorem T9_eq: T9=1000000000:=by unfold T9;decide +kernel
end
end My
end
section
set_option autoImplicit false
/-! Reckoning with the plain machine. -/
namespace PM
open PySem PySem.W PyProof.Rows
section
variable (ρ:Lc) (H:Hp)
end
section
variable (a b:Int) (H:Hp)
end
noncomputable def Ext(H H':Hp): Prop:=∃X,H'=H++X
theorem Ext.refl(H:Hp): Ext H H:=⟨[],by simp⟩
theorem Ext.trans{H H' H'':Hp}(a:Ext H H')(b:Ext H' H''): Ext H H'':=by
 obtain⟨X,rfl⟩:=a
 obtain⟨Y,rfl⟩:=b
 exact⟨X++Y,by simp⟩
theorem Zlu{b:Int}(hb:0≤b): Builtin.Range.rangeSize 0 b 1=b:=by
 unfold Builtin.Range.rangeSize
 rw[if_pos (by decide)]
 by_cases h:(0:Int)<b
 ·rw[if_pos h]
  omega
 ·rw[if_neg h]
  omega
theorem Zpt{b:Int}{H:Hp}(hb:0≤b)(hb9:b≤1000): ZbH 0 b 1 H=some (ZdL 0 1 b.toNat,b.toNat+1,H):=by
 unfold ZbH rngN
 rw[Zlu hb,if_pos]
 refine⟨by decide,?_,hb,by rw[Zbs];omega,?_⟩
 ·unfold Builtin.Range.small
  rw[Zlu hb]
  simp only[Builtin.Range.rangeFitsLong,Bool.and_eq_true,Bool.or_eq_true,decide_eq_true_eq,beq_iff_eq]
  rw[if_pos (by decide)]
  simp only[Bool.and_eq_true,decide_eq_true_eq]
  by_cases h:(0:Int)<b
  ·refine⟨⟨⟨⟨?_,?_⟩,?_⟩,?_⟩,Or.inr ?_⟩ <;> omega
  ·refine⟨⟨⟨⟨?_,?_⟩,?_⟩,?_⟩,?_⟩ <;> first | omega | (left;omega)
 ·exact PyProof.noPylong_small (by omega)
end PM
end
section
set_option autoImplicit false
namespace PM
open PySem PySem.W PyProof.Rows My
theorem Zks{a b:Int}(h:IntMulOk a b): mulOk a b=true:=by
 unfold IntMulOk at h
 unfold mulOk
 cases e:(decide (Builtin.Int.intBits a>shortFactorBits) && decide (Builtin.Int.intBits b>shortFactorBits) && Builtin.Int.intTooBig (Builtin.Int.intBits a+Builtin.Int.intBits b))with
 | true=>exact absurd e h
 | false=>rfl
theorem Zjg{a b:Int}{H:Hp}(h:0≤b∧(Builtin.Int.intBits a:Int)*b≤2 ^ 27): oPow (.int a) (.int b) H=some (.int (a ^ b.toNat),H):=by simp only[oPow];rw[if_pos h]
theorem Zqo(H:Hp): oPow (.int 10) (.int 9) H=some (.int T9,H):=by rw[Zjg (by decide +kernel)];unfold T9;rfl
end PM
end
section
set_option autoImplicit false
namespace PM
open PySem PySem.W PyProof.Rows PyProof
section
variable {prog:Program} {w:World} {Γ:Cx}
end
section
variable {ρ:Lc} {H:Hp} {Q:V→Hp→Prop}
theorem Zlv{a b c:Int}(hc:0<c)(hb:a<b): Builtin.Range.rangeSize a b c=(b-a-1) / c+1:=by
 unfold Builtin.Range.rangeSize
 rw[if_pos hc,if_pos hb]
theorem Zpu{a b c:Int}{H:Hp}(ha:0≤a)(hb:a<b)(hb9:b≤1000)(hc:0<c)(hc9:c≤1000): ZbH a b c H=some (ZdL a c (rngN a b c),rngN a b c+1,H):=by
 have e:=Zlv hc hb
 have h0:0≤(b-a-1) / c:=Int.ediv_nonneg (by omega) (by omega)
 have h2:(b-a-1) / c≤b-a-1:=Int.ediv_le_self _ (by omega)
 unfold ZbH
 rw[if_pos]
 refine⟨by omega,?_,by omega,by unfold rngN;rw[Zbs];omega,PyProof.noPylong_small (by omega)⟩
 unfold Builtin.Range.small
 rw[e]
 simp only[Builtin.Range.rangeFitsLong,Bool.and_eq_true,Bool.or_eq_true,decide_eq_true_eq,beq_iff_eq]
 rw[if_pos hc]
 simp only[Bool.and_eq_true,decide_eq_true_eq]
 refine⟨⟨⟨⟨?_,?_⟩,?_⟩,?_⟩,?_⟩ <;> first | omega | (left;omega) | (right;omega)
end
end PM
end
section
set_option autoImplicit false
namespace PM
open PySem PySem.W PyProof.Rows PyProof My
section
variable {ρ:Lc} {H:Hp} {Q:V→Hp→Prop} {L:List V→Hp→Prop}
end
noncomputable def od: Option Int→PyData
 | none=>.none
 | some k=>.int k
theorem ZjJ{a:Int}{k:Nat}(h:Builtin.Int.intBits a≤k): a.natAbs<2 ^ k:=by
 unfold Builtin.Int.intBits at h
 by_cases z:a=0
 ·subst z
  exact Nat.two_pow_pos k
 ·rw[if_neg (by simpa using z)]at h
  exact Nat.lt_of_lt_of_le Nat.lt_log2_self (Nat.pow_le_pow_right (by decide) h)
theorem ZnI{a b:Int}{k:Nat}(ha:Builtin.Int.intBits a≤k)(hb:Builtin.Int.intBits b≤k): Builtin.Int.intBits (a+b)≤k+1:=by
 refine PyProof.Rows.intBits_le ?_
 have h1:=ZjJ ha
 have h2:=ZjJ hb
 rw[Nat.pow_succ]
 omega
theorem Zkt{a b:Int}(ha:Builtin.Int.intBits a≤2 ^ 21)(hb:Builtin.Int.intBits b≤2 ^ 21): mulOk a b=true:=by
 have e:(2:Nat) ^ 21=2097152:=by decide
 have h:Builtin.Int.intTooBig (Builtin.Int.intBits a+Builtin.Int.intBits b)=false:=by
  unfold Builtin.Int.intTooBig bitsLine
  exact decide_eq_false (by omega)
 unfold mulOk
 rw[h]
 simp
theorem Znb{a b:Int}(h1:-(2 ^ 64)<b)(h2:b<2 ^ 64): mulOk a b=true:=Zks (IntMulOk.of_right (intBits_le_64 h1 h2))
theorem ZmB{a b:Int}(h1:-(2 ^ 64)<a)(h2:a<2 ^ 64): mulOk a b=true:=Zks (IntMulOk.of_left (intBits_le_64 h1 h2))
@[irreducible] noncomputable def M9: Int:=48271 ^ Int.toNat 9
@[irreducible] noncomputable def T40: Int:=10 ^ Int.toNat 40
theorem Zpv(H:Hp): oPow (.int 48271) (.int 9) H=some (.int M9,H):=by rw[Zjg (by decide +kernel)];unfold M9;rfl
theorem Zpw(H:Hp): oPow (.int 10) (.int 40) H=some (.int T40,H):=by rw[Zjg (by decide +kernel)];unfold T40;rfl
theorem ZeB: T40=10000000000000000000000000000000000000000:=by unfold T40;decide +kernel
theorem Zou: Builtin.Int.intBits M9≤2 ^ 21:=by
 unfold M9
 exact Nat.le_trans (PyProof.Rows.intBits_le (k:=256) (by decide +kernel)) (by decide)
section
variable {H:Hp} {Q:V→Hp→Prop} {a b:Int}
end
end PM
end
section
set_option autoImplicit false
/-! The tree machine: values without places; lists that nobody else holds may be changed. -/
namespace TM
open PySem PM
inductive T where
 | none
 | bool (b:Bool)
 | int (i:Int)
 | str (s:Str)
 | tup (ts:List T)
 | lst (ts:List T)
mutual
inductive RF(H:Hp): V→T→List Nat→Prop where
 | none:RF H .none .none []
 | bool (b:Bool):RF H (.bool b) (.bool b) []
 | int (i:Int):RF H (.int i) (.int i) []
 | str (s:Str):RF H (.str s) (.str s) []
 | tup {vs:List V} {ts:List T} {F:List Nat}:RFs H vs ts F→RF H (.tup vs) (.tup ts) F
 | ref {a:Nat} {vs:List V} {ts:List T} {F:List Nat}:H[a]?=some vs→RFs H vs ts F→RF H (.ref a) (.lst ts) (a::F)
inductive RFs(H:Hp): List V→List T→List Nat→Prop where
 | nil:RFs H [] [] []
 | cons {v:V} {t:T} {F:List Nat} {vs:List V} {ts:List T} {G:List Nat}:RF H v t F→RFs H vs ts G→RFs H (v::vs) (t::ts) (F++G)
end
mutual
theorem RF.frame{H H':Hp}{v:V}{t:T}{F:List Nat}(r:RF H v t F)(h:∀a∈F,H'[a]?=H[a]?): RF H' v t F:=by
 cases r with
 | none=>exact .none
 | bool b=>exact .bool b
 | int i=>exact .int i
 | str s=>exact .str s
 | tup hs=>exact .tup (RFs.frame hs h)
 | ref e hs=>exact .ref ((h _ Zz5).trans e) (RFs.frame hs fun a m=>h a (Zz2 _ m))
theorem RFs.frame{H H':Hp}{vs:List V}{ts:List T}{F:List Nat}(r:RFs H vs ts F)(h:∀a∈F,H'[a]?=H[a]?): RFs H' vs ts F:=by
 cases r with
 | nil=>exact .nil
 | cons a b=>exact .cons (RF.frame a fun x m=>h x (Zz4 _ m)) (RFs.frame b fun x m=>h x (Zz3 _ m))
end
mutual
theorem RF.lt{H:Hp}{v:V}{t:T}{F:List Nat}(r:RF H v t F): ∀a∈F,a<H.length:=by
 cases r with
 | none=>intro a m;cases m
 | bool b=>intro a m;cases m
 | int i=>intro a m;cases m
 | str s=>intro a m;cases m
 | tup hs=>exact RFs.lt hs
 | ref e hs=>
  intro x m
  rcases Zz7.mp m with rfl | m
  ·exact(Zz6.mp e).1
  ·exact RFs.lt hs x m
theorem RFs.lt{H:Hp}{vs:List V}{ts:List T}{F:List Nat}(r:RFs H vs ts F): ∀a∈F,a<H.length:=by
 cases r with
 | nil=>intro a m;cases m
 | cons a b=>
  intro x m
  rcases Zz8.mp m with m | m
  ·exact RF.lt a x m
  ·exact RFs.lt b x m
end
theorem RF.ext{H:Hp}{v:V}{t:T}{F:List Nat}(r:RF H v t F)(X:Hp): RF (H++X) v t F:=r.frame fun a m=>List.getElem?_append_left (r.lt a m)
theorem RFs.ext{H:Hp}{vs:List V}{ts:List T}{F:List Nat}(r:RFs H vs ts F)(X:Hp): RFs (H++X) vs ts F:=r.frame fun a m=>List.getElem?_append_left (r.lt a m)
theorem RFs.length{H:Hp}: ∀{vs:List V} {ts:List T} {F:List Nat},RFs H vs ts F→vs.length=ts.length
 | _,_,_,.nil=>rfl
 | _,_,_,.cons _ r=>by rw[List.length_cons,List.length_cons,r.length]
theorem RFs.append{H:Hp}: ∀{vs us:List V} {ts ss:List T} {F G:List Nat},RFs H vs ts F→RFs H us ss G→RFs H (vs++us) (ts++ss) (F++G)
 | _,_,_,_,_,_,.nil,h=>h
 | _,_,_,_,_,_,.cons a r,h=>by rw[List.append_assoc];exact .cons a (r.append h)
theorem RFs.one{H:Hp}{v:V}{t:T}{F:List Nat}(r:RF H v t F): RFs H [v] [t] F:=by
 have:=RFs.cons r RFs.nil
 rwa [List.append_nil]at this
theorem RFs.snoc{H:Hp}{vs:List V}{ts:List T}{F G:List Nat}{v:V}{t:T}(r:RFs H vs ts F)(x:RF H v t G): RFs H (vs++[v]) (ts++[t]) (F++G):=r.append (.one x)
theorem RFs.at{H:Hp}: ∀{vs:List V} {ts:List T} {F:List Nat} {i:Nat} {t:T},RFs H vs ts F→ts[i]?=some t→∃v G,vs[i]?=some v∧RF H v t G∧G.Sublist F
 | _,_,_,_,_,.nil,e=>by simp at e
 | _,_,_,0,_,.cons a _,e=>by
  simp at e
  exact⟨_,_,by simp,e▸a,List.sublist_append_left _ _⟩
 | _,_,_,i+1,_,.cons _ r,e=>by
  simp at e
  obtain⟨x,G,hx,hr,hs⟩:=r.at e
  exact⟨x,G,by simpa using hx,hr,hs.trans (List.sublist_append_right _ _)⟩
theorem RFs.split{H:Hp}: ∀{vs:List V} {ts:List T} {F:List Nat} {i:Nat} {t:T},RFs H vs ts F→ts[i]?=some t →
  ∃v G F1 F2,vs[i]?=some v∧RF H v t G∧F=F1++(G++F2)∧∀(H':Hp) (w:V) (t':T) (G':List Nat),RF H' w t' G'→(∀a∈F1,H'[a]?=H[a]?)→(∀a∈F2,H'[a]?=H[a]?)→RFs H' (vs.set i w) (ts.set i t') (F1++(G'++F2))
 | _,_,_,_,_,.nil,e=>by simp at e
 | _,_,_,0,_,.cons (G:=G1) a r,e=>by
  simp at e
  subst e
  exact⟨_,_,[],G1,by simp,a,by simp,fun H' w t' G' x _ h2=>by simpa using RFs.cons x (r.frame h2)⟩
 | _,_,_,i+1,_,.cons (F:=F0) a r,e=>by
  simp at e
  obtain⟨v,G,F1,F2,h1,h2,h3,h4⟩:=r.split e
  refine⟨v,G,F0++F1,F2,by simpa using h1,h2,by rw[h3];simp,fun H' w t' G' x k1 k2=>?_⟩
  have:=RFs.cons (a.frame fun b m=>k1 b (Zz4 _ m)) (h4 H' w t' G' x (fun b m=>k1 b (Zz3 _ m)) k2)
  simpa using this
theorem Zku{α:Type}{xs:List α}{i:Nat}{x:α}(h:xs[i]?=some x): xs.set i x=xs:=by
 obtain⟨hi,e⟩:=Zz6.mp h
 rw[←e]
 exact List.set_getElem_self hi
theorem nd3{F1 G F2 G' Gn:List Nat}(nd:(F1++(G++F2)).Nodup)(n':G'.Nodup)(sub:∀a∈G',a∈G∨a∈Gn)(ds:∀a∈Gn,a∉F1++(G++F2)): (F1++(G'++F2)).Nodup:=by
 rw[List.nodup_append,List.nodup_append]at nd ⊢
 obtain⟨a1,⟨a2,a3,a4⟩,a5⟩:=nd
 refine⟨a1,⟨n',a3,fun x hx y hy e=>?_⟩,fun x hx y hy e=>?_⟩
 ·rcases sub x hx with m | m
  ·exact a4 x m y hy e
  ·exact ds x m (Zz3 _ (Zz3 _ (e▸hy)))
 ·rcases Zz8.mp hy with m | m
  ·rcases sub y m with q | q
   ·exact a5 x hx y (Zz4 _ q) e
   ·exact ds y q (Zz4 _ (e▸hx))
  ·exact a5 x hx y (Zz3 _ m) e
theorem in3{F1 G F2 G' Gn:List Nat}(sub:∀a∈G',a∈G∨a∈Gn): ∀a∈F1++(G'++F2),a∈F1++(G++F2)∨a∈Gn:=by
 intro a m
 rcases Zz8.mp m with m | m
 ·exact .inl (Zz4 _ m)
 ·rcases Zz8.mp m with m | m
  ·exact(sub a m).imp (fun q=>List.mem_append_right _ (Zz4 _ q)) id
  ·exact .inl (Zz3 _ (Zz3 _ m))
mutual
noncomputable def T.flat: T→Bool
 | .lst _=>false
 | .tup ts=>T.flats ts
 | .none=>true
 | .bool _=>true
 | .int _=>true
 | .str _=>true
noncomputable def T.flats: List T→Bool
 | []=>true
 | t::ts=>t.flat && T.flats ts
end
mutual
theorem RF.flat{H:Hp}{v:V}{t:T}{F:List Nat}(r:RF H v t F)(h:t.flat=true): F=[]:=by
 cases r with
 | none=>rfl
 | bool b=>rfl
 | int i=>rfl
 | str s=>rfl
 | tup hs=>exact RFs.flats hs (by simpa [T.flat]using h)
 | ref e hs=>simp[T.flat]at h
theorem RFs.flats{H:Hp}{vs:List V}{ts:List T}{F:List Nat}(r:RFs H vs ts F)(h:T.flats ts=true): F=[]:=by
 cases r with
 | nil=>rfl
 | cons a b=>
  simp only[T.flats,Bool.and_eq_true]at h
  rw[RF.flat a h.1,RFs.flats b h.2]
  rfl
end
noncomputable def T.flatIn: T→Bool
 | .lst ts=>T.flats ts
 | t=>t.flat
noncomputable def ZcR(f:List T→Option (List T)): List Int→T→Option T
 | [],.lst ts=>(f ts).map .lst
 | k::ks,.lst ts=>(seqIndex? k ts.length).bind fun j=>ts[j]?.bind fun t=>(ZcR f ks t).map fun u=>.lst (ts.set j u)
 | k::ks,.tup ts=>(seqIndex? k ts.length).bind fun j=>ts[j]?.bind fun t=>(ZcR f ks t).map fun u=>.tup (ts.set j u)
 | _,_=>none
inductive Lead(H:Hp): List Int→V→Nat→Prop where
 | nil {a:Nat}:Lead H [] (.ref a) a
 | ref {k:Int} {ks:List Int} {b:Nat} {vs:List V} {j:Nat} {v:V} {a:Nat}:H[b]?=some vs→seqIndex? k vs.length=some j→vs[j]?=some v→Lead H ks v a→Lead H (k::ks) (.ref b) a
 | tup {k:Int} {ks:List Int} {vs:List V} {j:Nat} {v:V} {a:Nat}:seqIndex? k vs.length=some j→vs[j]?=some v→Lead H ks v a→Lead H (k::ks) (.tup vs) a
theorem ZdP{H:Hp}{Gn:List Nat}{f:List T→Option (List T)}: ∀(ks:List Int) {v:V} {t t':T} {F:List Nat},RF H v t F→F.Nodup→(∀a∈Gn,a∉F)→ZcR f ks t=some t' →
  ∃a vs ts ts' G,Lead H ks v a∧a∈F∧H[a]?=some vs∧RFs H vs ts G∧f ts=some ts'∧G.Nodup∧a∉G∧(∀x∈G,x∈F) ∧
   ∀vs' G',RFs H vs' ts' G'→G'.Nodup→a∉G'→(∀x∈G',x∈G∨x∈Gn)→∃F',RF (H.set a vs') v t' F'∧F'.Nodup∧∀x∈F',x∈F∨x∈Gn
 | [],v,t,t',F,r,nd,ds,e=>by
  cases r with
  | @ref a vs ts G e1 hs=>
   obtain⟨ts',h1,h2⟩:=Zz1.mp e
   subst h2
   rw[List.nodup_cons]at nd
   refine⟨a,vs,ts,ts',G,.nil,List.mem_cons_self,e1,hs,h1,nd.2,nd.1,fun x m=>List.mem_cons_of_mem _ m,fun vs' G' r' n' na sub=>⟨a::G',?_,?_,?_⟩⟩
   ·have ha:=(Zz6.mp e1).1
    refine .ref (List.getElem?_set_self ha) (r'.frame fun b m=>List.getElem?_set_ne ?_)
    intro q
    subst q
    exact na m
   ·exact List.nodup_cons.mpr ⟨na,n'⟩
   ·intro x m
    rcases Zz7.mp m with rfl | m
    ·exact .inl Zz5
    ·exact(sub x m).imp (Zz2 _) id
  | none=>cases e
  | bool _=>cases e
  | int _=>cases e
  | str _=>cases e
  | tup _=>cases e
 | k::ks,v,t,t',F,r,nd,ds,e=>by
  cases r with
  | none=>cases e
  | bool _=>cases e
  | int _=>cases e
  | str _=>cases e
  | @tup vs ts _ hs=>
   obtain⟨j,e1,e⟩:=Zz0.mp e
   obtain⟨u,e2,e⟩:=Zz0.mp e
   obtain⟨u',e3,e⟩:=Zz1.mp e
   subst e
   obtain⟨w,G1,F1,F2,e4,g1,eF,rb⟩:=hs.split e2
   subst eF
   have nd1:G1.Nodup:=(List.nodup_append.mp (List.nodup_append.mp nd).2.1).1
   have hin:∀x∈G1,x∈F1++(G1++F2):=fun x m=>List.mem_append_right _ (Zz4 _ m)
   obtain⟨a,us,qs,qs',G,l,am,ea,hq,hf,gn,na,gs,go⟩:=ZdP ks g1 nd1 (fun b m q=>ds b m (hin b q)) e3
   refine⟨a,us,qs,qs',G,.tup (by rw[hs.length];exact e1) e4 l,hin a am,ea,hq,hf,gn,na,fun x m=>hin x (gs x m),fun vs' G' r' n' na' sub=>?_⟩
   obtain⟨G2,f1,f2,f3⟩:=go vs' G' r' n' na' sub
   obtain⟨a1,a2,a5⟩:=List.nodup_append.mp nd
   obtain⟨_,a3,a4⟩:=List.nodup_append.mp a2
   have:=rb (H.set a vs') w u' G2 f1 (fun b m=>List.getElem?_set_ne fun q=>a5 b m a (Zz4 _ am) q.symm) (fun b m=>List.getElem?_set_ne fun q=>a4 a am b m q)
   rw[Zku e4]at this
   exact⟨_,.tup this,nd3 nd f2 f3 ds,in3 f3⟩
  | @ref b vs ts F' e0 hs=>
   obtain⟨j,e1,e⟩:=Zz0.mp e
   obtain⟨u,e2,e⟩:=Zz0.mp e
   obtain⟨u',e3,e⟩:=Zz1.mp e
   subst e
   obtain⟨w,G1,F1,F2,e4,g1,eF,rb⟩:=hs.split e2
   subst eF
   rw[List.nodup_cons]at nd
   obtain⟨nb,nd⟩:=nd
   have nd1:G1.Nodup:=(List.nodup_append.mp (List.nodup_append.mp nd).2.1).1
   have hin:∀x∈G1,x∈F1++(G1++F2):=fun x m=>List.mem_append_right _ (Zz4 _ m)
   have ds':∀a∈Gn,a∉F1++(G1++F2):=fun a m q=>ds a m (Zz2 _ q)
   obtain⟨a,us,qs,qs',G,l,am,ea,hq,hf,gn,na,gs,go⟩:=ZdP ks g1 nd1 (fun b m q=>ds' b m (hin b q)) e3
   refine⟨a,us,qs,qs',G,.ref e0 (by rw[hs.length];exact e1) e4 l,List.mem_cons_of_mem _ (hin a am),ea,hq,hf,gn,na,fun x m=>List.mem_cons_of_mem _ (hin x (gs x m)),fun vs' G' r' n' na' sub=>?_⟩
   obtain⟨G2,f1,f2,f3⟩:=go vs' G' r' n' na' sub
   obtain⟨a1,a2,a5⟩:=List.nodup_append.mp nd
   obtain⟨_,a3,a4⟩:=List.nodup_append.mp a2
   have:=rb (H.set a vs') w u' G2 f1 (fun b m=>List.getElem?_set_ne fun q=>a5 b m a (Zz4 _ am) q.symm) (fun b m=>List.getElem?_set_ne fun q=>a4 a am b m q)
   rw[Zku e4]at this
   have hab:a≠b:=fun q=>nb (hin b (q▸am))
   refine⟨_,.ref ((List.getElem?_set_ne hab).trans e0) this,List.nodup_cons.mpr ⟨fun q=>?_,nd3 nd f2 f3 ds'⟩,fun x m=>?_⟩
   ·rcases in3 f3 b q with m | m
    ·exact nb m
    ·exact ds b m Zz5
   ·rcases Zz7.mp m with rfl | m
    ·exact .inl Zz5
    ·exact(in3 f3 x m).imp (Zz2 _) id
end TM
end
section
set_option autoImplicit false
namespace TM
open PySem PM
noncomputable abbrev TL:=Nat→Option T
noncomputable abbrev PE:=TL→Option T
noncomputable abbrev PEs:=TL→Option (List T)
noncomputable abbrev PB:=TL→Option Bool
noncomputable abbrev PG:=TL→Option (List T)
noncomputable def ZI(σ:TL)(i:Nat)(t:T): TL:=fun j=>if j=i then some t else σ j
structure Ctx where
 H0:Hp
 F0:List Nat
 P:Nat→Prop
structure St(c:Ctx)(O:List Nat)(ρ:Lc)(σ:TL)(H:Hp)(Φ:Nat→List Nat): Prop where
 slot:∀i t,σ i=some t→∃v,ρ i=some v∧RF H v t (Φ i)
 src:∀i t,σ i=some t→∀a∈Φ i,c.H0.length≤a∨c.P a
 own:∀i∈O,∀t,σ i=some t→(Φ i).Nodup∧(∀a∈Φ i,c.H0.length≤a∨a∈c.F0)∧∀j u,j≠i→σ j=some u→∀a∈Φ i,a∉Φ j
 len:c.H0.length≤H.length
 keep:∀a,a<c.H0.length→a∉c.F0→H[a]?=c.H0[a]?
 pos:0<c.H0.length
 f0:0∉c.F0
theorem St.ext{c:Ctx}{O:List Nat}{ρ:Lc}{σ:TL}{H:Hp}{Φ:Nat→List Nat}(s:St c O ρ σ H Φ)(X:Hp): St c O ρ σ (H++X) Φ:=
 ⟨fun i t e=>by obtain⟨v,h1,h2⟩:=s.slot i t e;exact⟨v,h1,h2.ext X⟩,s.src,s.own,by have:=s.len;rw[List.length_append];omega,fun a ha hn=>by
  rw[List.getElem?_append_left (Nat.lt_of_lt_of_le ha s.len)];exact s.keep a ha hn,s.pos,s.f0⟩
theorem St.less{c:Ctx}{O O':List Nat}{ρ:Lc}{σ:TL}{H:Hp}{Φ:Nat→List Nat}(s:St c O ρ σ H Φ)(h:∀i∈O',i∈O): St c O' ρ σ H Φ:=⟨s.slot,s.src,fun i hi=>s.own i (h i hi),s.len,s.keep,s.pos,s.f0⟩
noncomputable def From(H:Hp)(N:List Nat)(σ:TL)(Φ:Nat→List Nat)(a:Nat): Prop:=H.length≤a∨∃i∈N,(∃t,σ i=some t)∧a∈Φ i
theorem From.mono{H:Hp}{N N':List Nat}{σ:TL}{Φ:Nat→List Nat}{a:Nat}(f:From H N σ Φ a)(h:∀i∈N,i∈N'): From H N' σ Φ a:=f.imp id fun⟨i,hi,q⟩=>⟨i,h i hi,q⟩
theorem From.back{H X:Hp}{N:List Nat}{σ:TL}{Φ:Nat→List Nat}{a:Nat}(f:From (H++X) N σ Φ a): From H N σ Φ a:=f.imp (fun h=>by rw[List.length_append]at h;omega) id
theorem From.nil{H:Hp}{σ:TL}{Φ:Nat→List Nat}{a:Nat}(f:From H [] σ Φ a): H.length≤a:=f.elim id fun⟨_,hi,_⟩=>by cases hi
noncomputable def E(O N:List Nat)(u:Bool)(e:Ex)(p:PE): Prop:=∀(c:Ctx) (ρ:Lc) (σ:TL) (H:Hp) (Φ:Nat→List Nat) (t:T),St c O ρ σ H Φ→p σ=some t →
 ∃v X F,e ρ H=some (v,H++X)∧RF (H++X) v t F∧(∀a∈F,From H N σ Φ a)∧(u=true→F.Nodup)
noncomputable def Es(O N:List Nat)(u:Bool)(n:Nat)(e:Exs)(p:PEs): Prop:=∀(c:Ctx) (ρ:Lc) (σ:TL) (H:Hp) (Φ:Nat→List Nat) (ts:List T),St c O ρ σ H Φ→p σ=some ts →
 ts.length=n∧∃vs X F,e ρ H=some (vs,H++X)∧RFs (H++X) vs ts F∧(∀a∈F,From H N σ Φ a)∧(u=true→F.Nodup)
noncomputable def Bt(O:List Nat)(e:Ts)(p:PB): Prop:=∀(c:Ctx) (ρ:Lc) (σ:TL) (H:Hp) (Φ:Nat→List Nat) (b:Bool),St c O ρ σ H Φ→p σ=some b→∃X,e ρ H=some (b,H++X)
section
variable {O N:List Nat} {u:Bool}
theorem ZaV{O':List Nat}{e:Ex}{p:PE}(x:E O' N u e p)(h:∀i∈O',i∈O:=by decide): E O N u e p:=fun c ρ σ H Φ t s=>x c ρ σ H Φ t (s.less h)
theorem E.sh{e:Ex}{p:PE}(x:E O N u e p): E O N false e p:=fun c ρ σ H Φ t s q=>by
 obtain⟨v,X,F,a1,a2,a3,a4⟩:=x c ρ σ H Φ t s q
 exact⟨v,X,F,a1,a2,a3,by simp⟩
noncomputable def Zk(k:Int): PE:=fun _=>some (.int k)
noncomputable def ZZ: PE:=fun _=>some .none
noncomputable def Zbp(b:Bool): PE:=fun _=>some (.bool b)
noncomputable def Zb(i:Nat): PE:=fun σ=>σ i
theorem Zl(k:Int): E O [] true (Zj k) (Zk k):=fun c ρ σ H Φ t s q=>by
 cases q;exact⟨_,[],[],by simp[Zj],.int k,by simp,by simp⟩
theorem Zag: E O [] true ZU ZZ:=fun c ρ σ H Φ t s q=>by
 cases q;exact⟨_,[],[],by simp[ZU],.none,by simp,by simp⟩
theorem E.bool(k:Bool): E O [] true (Zba k) (Zbp k):=fun c ρ σ H Φ t s q=>by
 cases q;exact⟨_,[],[],by simp[Zba],.bool k,by simp,by simp⟩
theorem Zc(i:Nat): E O [i] false (Za i) (Zb i):=fun c ρ σ H Φ t s q=>by
 obtain⟨v,h1,h2⟩:=s.slot i t q
 exact⟨v,[],Φ i,by simp[Za,h1],by simpa using h2,fun a m=>.inr ⟨i,List.mem_cons_self,⟨t,q⟩,m⟩,by simp⟩
theorem E.own{i:Nat}(hi:i∈O): E O [i] true (Za i) (Zb i):=fun c ρ σ H Φ t s q=>by
 obtain⟨v,h1,h2⟩:=s.slot i t q
 exact⟨v,[],Φ i,by simp[Za,h1],by simpa using h2,fun a m=>.inr ⟨i,List.mem_cons_self,⟨t,q⟩,m⟩,fun _=>(s.own i hi t q).1⟩
noncomputable def Zbg(p:PE): PE:=fun σ=>(p σ).bind fun t=>if t.flat then some t else none
theorem E.flat{e:Ex}{p:PE}(x:E O N u e p): E O [] true e (Zbg p):=fun c ρ σ H Φ t s q=>by
 obtain⟨t',e1,e2⟩:=Zz0.mp q
 by_cases h:t'.flat=true
 ·rw[if_pos h]at e2
  cases e2
  obtain⟨v,X,F,a1,a2,a3,a4⟩:=x c ρ σ H Φ t s e1
  have:=a2.flat h
  subst this
  exact⟨v,X,[],a1,a2,by simp,by simp⟩
 ·rw[if_neg h]at e2;cases e2
noncomputable def Zm: PEs:=fun _=>some []
noncomputable def Zg(p:PE)(q:PEs): PEs:=fun σ=>(p σ).bind fun t=>(q σ).bind fun ts=>some (t::ts)
theorem Zo: Es O [] true 0 Zn Zm:=fun c ρ σ H Φ ts s q=>by
 cases q;exact⟨rfl,[],[],[],by simp[Zn],.nil,by simp,by simp⟩
theorem Zh{M:List Nat}{u':Bool}{n:Nat}{e:Ex}{p:PE}{es:Exs}{ps:PEs}(x:E O N u e p)(y:Es O M u' n es ps): Es O (N++M) false (n+1) (Zf e es) (Zg p ps):=fun c ρ σ H Φ ts s q=>by
 obtain⟨t,e1,q⟩:=Zz0.mp q
 obtain⟨rs,e2,q⟩:=Zz0.mp q
 cases q
 obtain⟨v,X,F,a1,a2,a3,a4⟩:=x c ρ σ H Φ t s e1
 obtain⟨hl,vs,Y,G,b1,b2,b3,b4⟩:=y c ρ σ (H++X) Φ rs (s.ext X) e2
 refine⟨by simp[hl],v::vs,X++Y,F++G,by simp[Zf,a1,b1],?_,fun a m=>?_,by simp⟩
 ·rw[←List.append_assoc];exact .cons (a2.ext Y) b2
 ·rcases Zz8.mp m with m | m
  ·exact(a3 a m).mono fun i hi=>List.mem_append_left _ hi
  ·exact(b3 a m).back.mono fun i hi=>List.mem_append_right _ hi
theorem Zc0{M:List Nat}{n:Nat}{e:Ex}{p:PE}{es:Exs}{ps:PEs}(x:E O N true e p)(y:Es O M true n es ps)(hN:∀i∈N,i∈O)(hM:∀i∈N,i∉M): Es O (N++M) true (n+1) (Zf e es) (Zg p ps):=fun c ρ σ H Φ ts s q=>by
 obtain⟨t,e1,q⟩:=Zz0.mp q
 obtain⟨rs,e2,q⟩:=Zz0.mp q
 cases q
 obtain⟨v,X,F,a1,a2,a3,a4⟩:=x c ρ σ H Φ t s e1
 obtain⟨hl,vs,Y,G,b1,b2,b3,b4⟩:=y c ρ σ (H++X) Φ rs (s.ext X) e2
 refine⟨by simp[hl],v::vs,X++Y,F++G,by simp[Zf,a1,b1],?_,fun a m=>?_,fun _=>?_⟩
 ·rw[←List.append_assoc];exact .cons (a2.ext Y) b2
 ·rcases Zz8.mp m with m | m
  ·exact(a3 a m).mono fun i hi=>List.mem_append_left _ hi
  ·exact(b3 a m).back.mono fun i hi=>List.mem_append_right _ hi
 ·rw[List.nodup_append]
  refine⟨a4 rfl,b4 rfl,fun a ha b hb e=>?_⟩
  subst e
  have hlt:=a2.lt a ha
  rcases b3 a hb with h | ⟨j,hj,⟨tj,ej⟩,mj⟩
  ·omega
  ·obtain⟨vj,_,rj⟩:=s.slot j tj ej
   have:=rj.lt a mj
   rcases a3 a ha with h | ⟨i,hi,⟨ti,ei⟩,mi⟩
   ·omega
   ·exact(s.own i (hN i hi) ti ei).2.2 j tj (fun q=>hM i hi (q▸hj)) ej a mi mj
noncomputable def ZaJ(p:PEs): PE:=fun σ=>(p σ).map .tup
noncomputable def ZbR(p:PEs): PE:=fun σ=>(p σ).map .lst
theorem E.tup{n:Nat}{e:Exs}{p:PEs}(x:Es O N u n e p)(hn:n≤LEN:=by decide): E O N u (Zax e) (ZaJ p):=fun c ρ σ H Φ t s q=>by
 obtain⟨ts,e1,e2⟩:=Zz1.mp q
 subst e2
 obtain⟨hl,vs,Y,G,b1,b2,b3,b4⟩:=x c ρ σ H Φ ts s e1
 have:=b2.length
 refine⟨.tup vs,Y,G,?_,.tup b2,b3,b4⟩
 simp only[Zax,b1,Option.bind_some]
 rw[if_pos (by omega)]
theorem E.list{n:Nat}{e:Exs}{p:PEs}(x:Es O N u n e p)(hn:n≤LEN:=by decide): E O N u (ZbP e) (ZbR p):=fun c ρ σ H Φ t s q=>by
 obtain⟨ts,e1,e2⟩:=Zz1.mp q
 subst e2
 obtain⟨hl,vs,Y,G,b1,b2,b3,b4⟩:=x c ρ σ H Φ ts s e1
 have:=b2.length
 refine⟨.ref (H++Y).length,Y++[vs],(H++Y).length::G,?_,?_,fun a m=>?_,fun hu=>?_⟩
 ·simp only[ZbP,b1,Option.bind_some]
  rw[if_pos (by omega),List.append_assoc]
 ·rw[←List.append_assoc];exact .ref (by simp) (b2.ext _)
 ·rcases Zz7.mp m with rfl | m
  ·exact .inl (by simp)
  ·exact b3 a m
 ·rw[List.nodup_cons]
  exact⟨fun m=>Nat.lt_irrefl _ (b2.lt _ m),b4 hu⟩
noncomputable def OA2(o:V→V→Hp→Option (V×Hp))(q:T→T→Option T): Prop:=∀(H:Hp) (v1 v2:V) (t1 t2 t:T) (F1 F2:List Nat),RF H v1 t1 F1→RF H v2 t2 F2→q t1 t2=some t→∃v,o v1 v2 H=some (v,H)∧RF H v t []
noncomputable def OI2(o:V→V→Hp→Option (V×Hp))(q:T→T→Option T): Prop:=∀(H:Hp) (v1 v2:V) (t1 t2 t:T) (F1 F2:List Nat),RF H v1 t1 F1→RF H v2 t2 F2→q t1 t2=some t→∃v F,o v1 v2 H=some (v,H)∧RF H v t F∧F.Sublist F1
noncomputable def OC2(o:V→V→Hp→Option (V×Hp))(q:T→T→Option T): Prop:=∀(H:Hp) (v1 v2:V) (t1 t2 t:T) (F1 F2:List Nat),RF H v1 t1 F1→RF H v2 t2 F2→q t1 t2=some t→∃v X F,o v1 v2 H=some (v,H++X)∧RF (H++X) v t F∧(∀a∈F,H.length≤a∨a∈F1∨a∈F2)∧(t.flatIn=true→F.Nodup∧∀a∈F,H.length≤a)
noncomputable def OA1(o:V→Hp→Option (V×Hp))(q:T→Option T): Prop:=∀(H:Hp) (v1:V) (t1 t:T) (F1:List Nat),RF H v1 t1 F1→q t1=some t→∃v,o v1 H=some (v,H)∧RF H v t []
noncomputable def OAn(o:List V→Hp→Option (V×Hp))(q:List T→Option T): Prop:=∀(H:Hp) (vs:List V) (ts:List T) (t:T) (F:List Nat),RFs H vs ts F→q ts=some t→∃v,o vs H=some (v,H)∧RF H v t []
noncomputable def OCn(o:List V→Hp→Option (V×Hp))(q:List T→Option T): Prop:=∀(H:Hp) (vs:List V) (ts:List T) (t:T) (F1:List Nat),0<H.length→RFs H vs ts F1→q ts=some t→∃v X F,o vs H=some (v,H++X)∧RF (H++X) v t F∧(∀a∈F,H.length≤a∨a∈F1)∧(t.flatIn=true→F.Nodup∧∀a∈F,H.length≤a)
noncomputable def Ze(q:T→T→Option T)(p1 p2:PE): PE:=fun σ=>(p1 σ).bind fun x=>(p2 σ).bind fun y=>q x y
noncomputable def pUn(q:T→Option T)(p1:PE): PE:=fun σ=>(p1 σ).bind fun x=>q x
noncomputable def Zt(q:List T→Option T)(ps:PEs): PE:=fun σ=>(ps σ).bind fun xs=>q xs
noncomputable def pFl(p:PE): PE:=fun σ=>(p σ).bind fun t=>if t.flatIn then some t else none
theorem Zh3{M:List Nat}{u':Bool}{e1 e2:Ex}{p1 p2:PE}{q:T→T→Option T}{o:V→V→Hp→Option (V×Hp)}{c:Ctx}{ρ:Lc}{σ:TL}{H:Hp}{Φ:Nat→List Nat}{t:T}(x:E O N u e1 p1)(y:E O M u' e2 p2)(s:St c O ρ σ H Φ)(h:Ze q p1 p2 σ=some t):
  ∃t1 t2 v1 v2 X F1 F2,q t1 t2=some t∧RF (H++X) v1 t1 F1∧RF (H++X) v2 t2 F2∧(∀a∈F1,From H N σ Φ a)∧(∀a∈F2,From H M σ Φ a)∧(u=true→F1.Nodup)∧Zd o e1 e2 ρ H=o v1 v2 (H++X):=by
 obtain⟨t1,h1,h⟩:=Zz0.mp h
 obtain⟨t2,h2,h⟩:=Zz0.mp h
 obtain⟨v,X,F,a1,a2,a3,a4⟩:=x c ρ σ H Φ t1 s h1
 obtain⟨w,Y,G,b1,b2,b3,b4⟩:=y c ρ σ (H++X) Φ t2 (s.ext X) h2
 rw[List.append_assoc]at b1 b2
 refine⟨t1,t2,v,w,X++Y,F,G,h,?_,b2,a3,fun a m=>(b3 a m).back,a4,by simp only[Zd,a1,b1,Option.bind_some]⟩
 rw[←List.append_assoc];exact a2.ext Y
theorem Zz{M:List Nat}{u':Bool}{e1 e2:Ex}{p1 p2:PE}{q:T→T→Option T}{o:V→V→Hp→Option (V×Hp)}(k:OA2 o q)(x:E O N u e1 p1)(y:E O M u' e2 p2): E O [] true (Zd o e1 e2) (Ze q p1 p2):=fun c ρ σ H Φ t s h=>by
 obtain⟨t1,t2,v1,v2,X,F1,F2,hq,r1,r2,_,_,_,e⟩:=Zh3 (o:=o) x y s h
 obtain⟨v,h1,h2⟩:=k _ v1 v2 t1 t2 t F1 F2 r1 r2 hq
 exact⟨v,X,[],e.trans h1,h2,by simp,by simp⟩
theorem ZC{M:List Nat}{u':Bool}{e1 e2:Ex}{p1 p2:PE}{q:T→T→Option T}{o:V→V→Hp→Option (V×Hp)}(k:OI2 o q)(x:E O N u e1 p1)(y:E O M u' e2 p2): E O N u (Zd o e1 e2) (Ze q p1 p2):=fun c ρ σ H Φ t s h=>by
 obtain⟨t1,t2,v1,v2,X,F1,F2,hq,r1,r2,h1,_,hu,e⟩:=Zh3 (o:=o) x y s h
 obtain⟨v,F,k1,k2,k3⟩:=k _ v1 v2 t1 t2 t F1 F2 r1 r2 hq
 exact⟨v,X,F,e.trans k1,k2,fun a m=>h1 a (k3.subset m),fun h=>(hu h).sublist k3⟩
theorem Z9{M:List Nat}{u':Bool}{e1 e2:Ex}{p1 p2:PE}{q:T→T→Option T}{o:V→V→Hp→Option (V×Hp)}(k:OC2 o q)(x:E O N u e1 p1)(y:E O M u' e2 p2): E O (N++M) false (Zd o e1 e2) (Ze q p1 p2):=fun c ρ σ H Φ t s h=>by
 obtain⟨t1,t2,v1,v2,X,F1,F2,hq,r1,r2,h1,h2,hu,e⟩:=Zh3 (o:=o) x y s h
 obtain⟨v,Y,F,k1,k2,k3,k4⟩:=k _ v1 v2 t1 t2 t F1 F2 r1 r2 hq
 rw[List.append_assoc]at k1 k2
 refine⟨v,X++Y,F,e.trans k1,k2,fun a m=>?_,by simp⟩
 rcases k3 a m with h | h | h
 ·exact .inl (by rw[List.length_append]at h;omega)
 ·exact(h1 a h).mono fun i hi=>List.mem_append_left _ hi
 ·exact(h2 a h).mono fun i hi=>List.mem_append_right _ hi
theorem Zf9{e1:Ex}{p1:PE}{q:T→Option T}{o:V→Hp→Option (V×Hp)}(k:OA1 o q)(x:E O N u e1 p1): E O [] true (eUn o e1) (pUn q p1):=fun c ρ σ H Φ t s h=>by
 obtain⟨t1,h1,h⟩:=Zz0.mp h
 obtain⟨v,X,F,a1,a2,a3,a4⟩:=x c ρ σ H Φ t1 s h1
 obtain⟨w,b1,b2⟩:=k _ v t1 t F a2 h
 exact⟨w,X,[],by simp only[eUn,a1,Option.bind_some,b1],b2,by simp,by simp⟩
theorem Zaw{n:Nat}{es:Exs}{ps:PEs}{q:List T→Option T}{o:List V→Hp→Option (V×Hp)}(k:OAn o q)(x:Es O N u n es ps): E O [] true (Zq o es) (Zt q ps):=fun c ρ σ H Φ t s h=>by
 obtain⟨ts,h1,h⟩:=Zz0.mp h
 obtain⟨_,vs,X,F,a1,a2,a3,a4⟩:=x c ρ σ H Φ ts s h1
 obtain⟨w,b1,b2⟩:=k _ vs ts t F a2 h
 exact⟨w,X,[],by simp only[Zq,a1,Option.bind_some,b1],b2,by simp,by simp⟩
theorem ZiE{n:Nat}{es:Exs}{ps:PEs}{q:List T→Option T}{o:List V→Hp→Option (V×Hp)}(k:OCn o q)(x:Es O N u n es ps): E O N false (Zq o es) (Zt q ps):=fun c ρ σ H Φ t s h=>by
 obtain⟨ts,h1,h⟩:=Zz0.mp h
 obtain⟨_,vs,X,F,a1,a2,a3,a4⟩:=x c ρ σ H Φ ts s h1
 have hp:0<(H++X).length:=by have:=s.pos;have:=s.len;rw[List.length_append];omega
 obtain⟨w,Y,G,b1,b2,b3,b4⟩:=k _ vs ts t F hp a2 h
 rw[List.append_assoc]at b1 b2
 refine⟨w,X++Y,G,by simp only[Zq,a1,Option.bind_some,b1],b2,fun a m=>?_,by simp⟩
 rcases b3 a m with h | h
 ·exact .inl (by rw[List.length_append]at h;omega)
 ·exact a3 a h
theorem ZkS{n:Nat}{es:Exs}{ps:PEs}{q:List T→Option T}{o:List V→Hp→Option (V×Hp)}(k:OCn o q)(x:Es O N u n es ps): E O [] true (Zq o es) (pFl (Zt q ps)):=fun c ρ σ H Φ t s h=>by
 obtain⟨t',h,hf⟩:=Zz0.mp h
 by_cases fl:t'.flatIn=true
 ·rw[if_pos fl]at hf
  cases hf
  obtain⟨ts,h1,h⟩:=Zz0.mp h
  obtain⟨_,vs,X,F,a1,a2,a3,a4⟩:=x c ρ σ H Φ ts s h1
  have hp:0<(H++X).length:=by have:=s.pos;have:=s.len;rw[List.length_append];omega
  obtain⟨w,Y,G,b1,b2,b3,b4⟩:=k _ vs ts t F hp a2 h
  rw[List.append_assoc]at b1 b2
  exact⟨w,X++Y,G,by simp only[Zq,a1,Option.bind_some,b1],b2,fun a m=>.inl (by have:=(b4 fl).2 a m;rw[List.length_append]at this;omega),fun _=>(b4 fl).1⟩
 ·rw[if_neg fl]at hf;cases hf
noncomputable def SimF(fr:Bool)(f:List V→Hp→Option (V×Hp))(p:List T→Option T): Prop:=∀(H:Hp) (vs:List V) (ts:List T) (t:T) (F1:List Nat),0<H.length→RFs H vs ts F1→p ts=some t→∃v X F,f vs H=some (v,H++X)∧RF (H++X) v t F∧(∀a∈F,H.length≤a∨a∈F1)∧(fr=true→F.Nodup∧∀a∈F,H.length≤a)
theorem ZQ{fr:Bool}{n:Nat}{es:Exs}{ps:PEs}{q:List T→Option T}{o:List V→Hp→Option (V×Hp)}(k:SimF fr o q)(x:Es O N u n es ps): E O N false (Zq o es) (Zt q ps):=fun c ρ σ H Φ t s h=>by
 obtain⟨ts,h1,h⟩:=Zz0.mp h
 obtain⟨_,vs,X,F,a1,a2,a3,a4⟩:=x c ρ σ H Φ ts s h1
 have hp:0<(H++X).length:=by have:=s.pos;have:=s.len;rw[List.length_append];omega
 obtain⟨w,Y,G,b1,b2,b3,b4⟩:=k _ vs ts t F hp a2 h
 rw[List.append_assoc]at b1 b2
 refine⟨w,X++Y,G,by simp only[Zq,a1,Option.bind_some,b1],b2,fun a m=>?_,by simp⟩
 rcases b3 a m with h | h
 ·exact .inl (by rw[List.length_append]at h;omega)
 ·exact a3 a h
theorem Zds{n:Nat}{es:Exs}{ps:PEs}{q:List T→Option T}{o:List V→Hp→Option (V×Hp)}(k:SimF true o q)(x:Es O N u n es ps): E O [] true (Zq o es) (Zt q ps):=fun c ρ σ H Φ t s h=>by
 obtain⟨ts,h1,h⟩:=Zz0.mp h
 obtain⟨_,vs,X,F,a1,a2,a3,a4⟩:=x c ρ σ H Φ ts s h1
 have hp:0<(H++X).length:=by have:=s.pos;have:=s.len;rw[List.length_append];omega
 obtain⟨w,Y,G,b1,b2,b3,b4⟩:=k _ vs ts t F hp a2 h
 rw[List.append_assoc]at b1 b2
 exact⟨w,X++Y,G,by simp only[Zq,a1,Option.bind_some,b1],b2,fun a m=>.inl (by have:=(b4 rfl).2 a m;rw[List.length_append]at this;omega),fun _=>(b4 rfl).1⟩
noncomputable def Zbo: T→Option Bool
 | .bool b=>some b
 | .none=>some false
 | .int i=>some (i != 0)
 | _=>none
theorem Zc1{H:Hp}{v:V}{t:T}{F:List Nat}{b:Bool}(r:RF H v t F)(h:Zbo t=some b): Zb4 v H=some b:=by
 cases r <;> first | (cases h;rfl) | cases h
noncomputable def ZG(p:PE): PB:=fun σ=>(p σ).bind Zbo
noncomputable def Zbm(p:PB): PB:=fun σ=>(p σ).map fun b=>!b
noncomputable def Zaj: PB:=fun _=>some true
noncomputable def ZbI: PB:=fun _=>some false
noncomputable def Za9(p q:PB): PB:=fun σ=>(p σ).bind fun b=>if b then q σ else some false
noncomputable def bOr(p q:PB): PB:=fun σ=>(p σ).bind fun b=>if b then some true else q σ
noncomputable def bIf(p q r:PB): PB:=fun σ=>(p σ).bind fun b=>if b then q σ else r σ
theorem ZL{e:Ex}{p:PE}(x:E O N u e p): Bt O (ZE e) (ZG p):=fun c ρ σ H Φ b s h=>by
 obtain⟨t,h1,h⟩:=Zz0.mp h
 obtain⟨v,X,F,a1,a2,a3,a4⟩:=x c ρ σ H Φ t s h1
 exact⟨X,by simp only[ZE,a1,Option.bind_some,Zc1 a2 h,Option.map_some]⟩
theorem Zbz{e:Ts}{p:PB}(x:Bt O e p): Bt O (Zbk e) (Zbm p):=fun c ρ σ H Φ b s h=>by
 obtain⟨t,h1,h⟩:=Zz1.mp h
 subst h
 obtain⟨X,a1⟩:=x c ρ σ H Φ t s h1
 exact⟨X,by simp only[Zbk,a1,Option.map_some]⟩
theorem ZaT: Bt O Zaq Zaj:=fun c ρ σ H Φ b s h=>by
 cases h;exact⟨[],by simp[Zaq]⟩
theorem Zb2: Bt O Zbx ZbI:=fun c ρ σ H Φ b s h=>by
 cases h;exact⟨[],by simp[Zbx]⟩
theorem Zbt{e f:Ts}{p q:PB}(x:Bt O e p)(y:Bt O f q): Bt O (Za7 e f) (Za9 p q):=fun c ρ σ H Φ b s h=>by
 obtain⟨t,h1,h⟩:=Zz0.mp h
 obtain⟨X,a1⟩:=x c ρ σ H Φ t s h1
 cases t with
 | true=>
  obtain⟨Y,b1⟩:=y c ρ σ (H++X) Φ b (s.ext X) (by simpa using h)
  exact⟨X++Y,by simp[Za7,a1,b1]⟩
 | false=>cases h;exact⟨X,by simp[Za7,a1]⟩
theorem ZaH{e f:Ts}{p q:PB}(x:Bt O e p)(y:Bt O f q): Bt O (tOr e f) (bOr p q):=fun c ρ σ H Φ b s h=>by
 obtain⟨t,h1,h⟩:=Zz0.mp h
 obtain⟨X,a1⟩:=x c ρ σ H Φ t s h1
 cases t with
 | false=>
  obtain⟨Y,b1⟩:=y c ρ σ (H++X) Φ b (s.ext X) (by simpa using h)
  exact⟨X++Y,by simp[tOr,a1,b1]⟩
 | true=>cases h;exact⟨X,by simp[tOr,a1]⟩
theorem ZqR{e f g:Ts}{p q r:PB}(x:Bt O e p)(y:Bt O f q)(z:Bt O g r): Bt O (tIf e f g) (bIf p q r):=fun c ρ σ H Φ b s h=>by
 obtain⟨t,h1,h⟩:=Zz0.mp h
 obtain⟨X,a1⟩:=x c ρ σ H Φ t s h1
 cases t with
 | true=>
  obtain⟨Y,b1⟩:=y c ρ σ (H++X) Φ b (s.ext X) (by simpa using h)
  exact⟨X++Y,by simp[tIf,a1,b1]⟩
 | false=>
  obtain⟨Y,b1⟩:=z c ρ σ (H++X) Φ b (s.ext X) (by simpa using h)
  exact⟨X++Y,by simp[tIf,a1,b1]⟩
noncomputable def pIf(b:PB)(p q:PE): PE:=fun σ=>(b σ).bind fun x=>if x then p σ else q σ
noncomputable def Zgl(p:PE): PE:=fun σ=>(p σ).bind fun t=>(Zbo t).map fun b=>.bool !b
noncomputable def ZcS(p q:PE): PE:=fun σ=>(p σ).bind fun t=>(Zbo t).bind fun b=>if b then q σ else some t
noncomputable def pOr(p q:PE): PE:=fun σ=>(p σ).bind fun t=>(Zbo t).bind fun b=>if b then some t else q σ
theorem ZeL{M:List Nat}{b:Ts}{pb:PB}{e f:Ex}{p q:PE}(z:Bt O b pb)(x:E O N u e p)(y:E O M u f q): E O (N++M) u (eIf b e f) (pIf pb p q):=fun c ρ σ H Φ t s h=>by
 obtain⟨b',h1,h⟩:=Zz0.mp h
 obtain⟨X,a1⟩:=z c ρ σ H Φ b' s h1
 cases b' with
 | true=>
  obtain⟨v,Y,F,b1,b2,b3,b4⟩:=x c ρ σ (H++X) Φ t (s.ext X) (by simpa using h)
  exact⟨v,X++Y,F,by simp[eIf,a1,b1],by rw[←List.append_assoc];exact b2,fun a m=>(b3 a m).back.mono fun i hi=>List.mem_append_left _ hi,b4⟩
 | false=>
  obtain⟨v,Y,F,b1,b2,b3,b4⟩:=y c ρ σ (H++X) Φ t (s.ext X) (by simpa using h)
  exact⟨v,X++Y,F,by simp[eIf,a1,b1],by rw[←List.append_assoc];exact b2,fun a m=>(b3 a m).back.mono fun i hi=>List.mem_append_right _ hi,b4⟩
theorem Zqp{e:Ex}{p:PE}(x:E O N u e p): E O [] true (Zgg e) (Zgl p):=fun c ρ σ H Φ t s h=>by
 obtain⟨t1,h1,h⟩:=Zz0.mp h
 obtain⟨b,h2,h⟩:=Zz1.mp h
 subst h
 obtain⟨v,X,F,a1,a2,a3,a4⟩:=x c ρ σ H Φ t1 s h1
 exact⟨.bool !b,X,[],by simp only[Zgg,a1,Option.bind_some,Zc1 a2 h2,Option.map_some],.bool _,by simp,by simp⟩
theorem Zga{M:List Nat}{e f:Ex}{p q:PE}(x:E O N u e p)(y:E O M u f q): E O (N++M) u (Zdd e f) (ZcS p q):=fun c ρ σ H Φ t s h=>by
 obtain⟨t1,h1,h⟩:=Zz0.mp h
 obtain⟨b,h2,h⟩:=Zz0.mp h
 obtain⟨v,X,F,a1,a2,a3,a4⟩:=x c ρ σ H Φ t1 s h1
 cases b with
 | true=>
  obtain⟨w,Y,F',b1,b2,b3,b4⟩:=y c ρ σ (H++X) Φ t (s.ext X) (by simpa using h)
  exact⟨w,X++Y,F',by simp[Zdd,a1,Zc1 a2 h2,b1],by rw[←List.append_assoc];exact b2,fun a m=>(b3 a m).back.mono fun i hi=>List.mem_append_right _ hi,b4⟩
 | false=>
  cases h
  exact⟨v,X,F,by simp[Zdd,a1,Zc1 a2 h2],a2,fun a m=>(a3 a m).mono fun i hi=>List.mem_append_left _ hi,a4⟩
theorem ZqK{M:List Nat}{e f:Ex}{p q:PE}(x:E O N u e p)(y:E O M u f q): E O (N++M) u (eOr e f) (pOr p q):=fun c ρ σ H Φ t s h=>by
 obtain⟨t1,h1,h⟩:=Zz0.mp h
 obtain⟨b,h2,h⟩:=Zz0.mp h
 obtain⟨v,X,F,a1,a2,a3,a4⟩:=x c ρ σ H Φ t1 s h1
 cases b with
 | false=>
  obtain⟨w,Y,F',b1,b2,b3,b4⟩:=y c ρ σ (H++X) Φ t (s.ext X) (by simpa using h)
  exact⟨w,X++Y,F',by simp[eOr,a1,Zc1 a2 h2,b1],by rw[←List.append_assoc];exact b2,fun a m=>(b3 a m).back.mono fun i hi=>List.mem_append_right _ hi,b4⟩
 | true=>
  cases h
  exact⟨v,X,F,by simp[eOr,a1,Zc1 a2 h2],a2,fun a m=>(a3 a m).mono fun i hi=>List.mem_append_left _ hi,a4⟩
noncomputable def ZiF: T→String
 | .none=>"NoneType"
 | .bool _=>"bool"
 | .int _=>"int"
 | .str _=>"str"
 | .tup _=>"tuple"
 | .lst _=>"list"
end
end TM
end
section
set_option autoImplicit false
namespace TM
open PySem PM
section
variable {O N:List Nat} {u:Bool}
noncomputable def ZfH(K:String)(t:T): Bool:=ZiF t == K || (K == "int" && ZiF t == "bool")
noncomputable def pIs(K:String)(p:PE): PE:=fun σ=>(p σ).map fun t=>.bool (ZfH K t)
theorem Zov{H:Hp}{v:V}{t:T}{F:List Nat}(r:RF H v t F): ZiC v=ZiF t:=by cases r <;> rfl
theorem ZcT{K:String}{e:Ex}{p:PE}(x:E O N u e p): E O [] true (eIs K e) (pIs K p):=fun c ρ σ H Φ t s h=>by
 obtain⟨t1,h1,h⟩:=Zz1.mp h
 subst h
 obtain⟨v,X,F,a1,a2,a3,a4⟩:=x c ρ σ H Φ t1 s h1
 exact⟨.bool (ZfH K t1),X,[],by simp only[eIs,a1,Option.map_some,Zi1,ZfH,Zov a2],.bool _,by simp,by simp⟩
noncomputable def ZbX: T→T→Option T
 | .int a,.int b=>some (.int (a-b))
 | _,_=>none
noncomputable def ZcE: T→T→Option T
 | .int a,.int b=>if b≠0∧Builtin.divisionGoesByPylong a b=false then some (.int (a.fdiv b))else none
 | _,_=>none
noncomputable def ZaO: T→T→Option T
 | .int a,.int b=>if b≠0 then some (.int (a.fmod b))else none
 | _,_=>none
noncomputable def Zcv: T→T→Option T
 | .int a,.int b=>if 0≤b∧(Builtin.Int.intBits a:Int)*b≤2 ^ 27 then some (.int (a ^ b.toNat))else none
 | _,_=>none
noncomputable def ZdZ: T→Option T
 | .int a=>some (.int (-a))
 | _=>none
noncomputable def Zgm(p:Int→Int→Bool): T→T→Option T
 | .int a,.int b=>some (.bool (p a b))
 | _,_=>none
noncomputable def qLt:=Zgm fun a b=>decide (a<b)
noncomputable def qLe:=Zgm fun a b=>decide (a≤b)
noncomputable def qGt:=Zgm fun a b=>decide (b<a)
theorem Zci: OA2 ZbU ZbX:=fun H v1 v2 t1 t2 t F1 F2 r1 r2 h=>by
 cases r1 <;> first | (cases h;done) | (cases r2 <;> first | (cases h;done) | (cases h;exact⟨_,rfl,.int _⟩))
theorem ZdV: OA2 oDiv ZcE:=fun H v1 v2 t1 t2 t F1 F2 r1 r2 h=>by
 cases r1 <;> first | (cases h;done) | skip
 cases r2 <;> first | (cases h;done) | skip
 simp only[ZcE]at h
 split at h
 ·rename_i hc;cases h;exact⟨_,by simp only[oDiv];rw[if_pos hc],.int _⟩
 ·cases h
theorem Za5: OA2 oMod ZaO:=fun H v1 v2 t1 t2 t F1 F2 r1 r2 h=>by
 cases r1 <;> first | (cases h;done) | skip
 cases r2 <;> first | (cases h;done) | skip
 simp only[ZaO]at h
 split at h
 ·rename_i hc;cases h;exact⟨_,by simp only[oMod];rw[if_pos hc],.int _⟩
 ·cases h
theorem Zjh: OA2 oPow Zcv:=fun H v1 v2 t1 t2 t F1 F2 r1 r2 h=>by
 cases r1 <;> first | (cases h;done) | skip
 cases r2 <;> first | (cases h;done) | skip
 simp only[Zcv]at h
 split at h
 ·rename_i hc;cases h;exact⟨_,by simp only[oPow];rw[if_pos hc],.int _⟩
 ·cases h
theorem Zgb: OA1 ZdW ZdZ:=fun H v1 t1 t F1 r1 h=>by
 cases r1 <;> first | (cases h;done) | (cases h;exact⟨_,rfl,.int _⟩)
theorem Zji(p:Int→Int→Bool): OA2 (Zgi p) (Zgm p):=fun H v1 v2 t1 t2 t F1 F2 r1 r2 h=>by
 cases r1 <;> first | (cases h;done) | (cases r2 <;> first | (cases h;done) | (cases h;exact⟨_,rfl,.bool _⟩))
theorem ZcU: OA2 oLt qLt:=Zji _
theorem Zjq: OA2 oLe qLe:=Zji _
theorem Zjr: OA2 oGt qGt:=Zji _
noncomputable def Zdt(f:T→Option PyData): List T→Option (List PyData)
 | []=>some []
 | v::vs=>(f v).bind fun d=>(Zdt f vs).bind fun ds=>some (d::ds)
noncomputable def Zb7: Nat→T→Option PyData
 | _,.none=>some .none
 | _,.bool b=>some (.bool b)
 | _,.int i=>some (.int i)
 | _,.str x=>some (.str x)
 | n+1,.tup vs=>(Zdt (Zb7 n) vs).map .tuple
 | n+1,.lst vs=>(Zdt (Zb7 n) vs).map .list
 | 0,.tup _=>none
 | 0,.lst _=>none
theorem ZiG{H:Hp}{f:V→Option PyData}{g:T→Option PyData}(h:∀v t F,RF H v t F→f v=g t): ∀{vs:List V} {ts:List T} {F:List Nat},RFs H vs ts F→ZdX f vs=Zdt g ts
 | _,_,_,.nil=>rfl
 | _,_,_,.cons a b=>by simp only[ZdX,Zdt,h _ _ _ a,ZiG h b]
theorem ZfQ{H:Hp}: ∀(n:Nat) (v:V) (t:T) (F:List Nat),RF H v t F→toD H n v=Zb7 n t:=by
 intro n
 induction n with
 | zero=>intro v t F r;cases r <;> rfl
 | succ n ih=>
  intro v t F r
  cases r with
  | none=>rfl
  | bool=>rfl
  | int=>rfl
  | str=>rfl
  | tup hs=>simp only[toD,Zb7,ZiG ih hs]
  | ref e hs=>simp only[toD,Zb7,e,Option.bind_some,ZiG ih hs]
noncomputable def Zdf(a b:T): Option Bool:=(Zb7 Zbb a).bind fun d=>(Zb7 Zbb b).bind fun e=>if SeqAt.shaped d=true∧SeqAt.shaped e=true then some (PyData.eqv d e)else none
noncomputable def qEq(a b:T): Option T:=(Zdf a b).map .bool
noncomputable def qNe(a b:T): Option T:=(Zdf a b).map fun c=>.bool !c
theorem Zle{H:Hp}{v1 v2:V}{t1 t2:T}{F1 F2:List Nat}(r1:RF H v1 t1 F1)(r2:RF H v2 t2 F2): Zgj v1 v2 H=Zdf t1 t2:=by
 simp only[Zgj,Zdf,ZfQ Zbb _ _ _ r1,ZfQ Zbb _ _ _ r2]
theorem Zbn: OA2 oEq qEq:=fun H v1 v2 t1 t2 t F1 F2 r1 r2 h=>by
 obtain⟨c,h1,h⟩:=Zz1.mp h
 subst h
 exact⟨_,by simp only[oEq,Zle r1 r2,h1,Option.map_some],.bool _⟩
theorem ZbY: OA2 oNe qNe:=fun H v1 v2 t1 t2 t F1 F2 r1 r2 h=>by
 obtain⟨c,h1,h⟩:=Zz1.mp h
 subst h
 exact⟨_,by simp only[oNe,Zle r1 r2,h1,Option.map_some],.bool _⟩
noncomputable def qIs: T→T→Option T
 | .none,.none=>some (.bool true)
 | _,.none=>some (.bool false)
 | _,_=>none
noncomputable def ZbJ: T→T→Option T
 | .none,.none=>some (.bool false)
 | _,.none=>some (.bool true)
 | _,_=>none
theorem Zb8: OA2 oIs qIs:=fun H v1 v2 t1 t2 t F1 F2 r1 r2 h=>by
 cases r1 <;> cases r2 <;> first | (cases h;done) | (cases h;exact⟨_,rfl,.bool _⟩)
theorem Zcl: OA2 Zb5 ZbJ:=fun H v1 v2 t1 t2 t F1 F2 r1 r2 h=>by
 cases r1 <;> cases r2 <;> first | (cases h;done) | (cases h;exact⟨_,rfl,.bool _⟩)
noncomputable def Zv: T→T→Option T
 | .lst ts,.int k=>(seqIndex? k ts.length).bind fun j=>ts[j]?
 | .tup ts,.int k=>(seqIndex? k ts.length).bind fun j=>ts[j]?
 | _,_=>none
theorem ZB: OI2 Zs Zv:=fun H v1 v2 t1 t2 t F1 F2 r1 r2 h=>by
 cases r1 with
 | none=>cases h
 | bool=>cases h
 | int=>cases h
 | str=>cases h
 | tup hs=>
  cases r2 <;> first | (cases h;done) | skip
  obtain⟨j,h1,h2⟩:=Zz0.mp h
  obtain⟨v,G,e1,e2,e3⟩:=hs.at h2
  exact⟨v,G,by simp only[Zs,hs.length,h1,Option.bind_some,e1,Option.map_some],e2,e3⟩
 | ref e hs=>
  cases r2 <;> first | (cases h;done) | skip
  obtain⟨j,h1,h2⟩:=Zz0.mp h
  obtain⟨v,G,e1,e2,e3⟩:=hs.at h2
  exact⟨v,G,by simp only[Zs,e,Option.bind_some,hs.length,h1,e1,Option.map_some],e2,e3.trans (List.sublist_cons_self _ _)⟩
noncomputable def Zas: List T→Option T
 | [.lst ts]=>some (.int ts.length)
 | [.tup ts]=>some (.int ts.length)
 | _=>none
theorem RFs.one_inv{H:Hp}{vs:List V}{t:T}{F:List Nat}(r:RFs H vs [t] F): ∃v,vs=[v]∧RF H v t F:=by
 cases r with
 | cons a b=>cases b;rw[List.append_nil];exact⟨_,rfl,a⟩
theorem RFs.two_inv{H:Hp}{vs:List V}{t t':T}{F:List Nat}(r:RFs H vs [t,t'] F): ∃v v' F1 F2,vs=[v,v']∧RF H v t F1∧RF H v' t' F2∧F=F1++F2:=by
 cases r with
 | cons a b=>obtain⟨v',h1,h2⟩:=b.one_inv;subst h1;exact⟨_,_,_,_,rfl,a,h2,rfl⟩
theorem ZaQ: OAn Zay Zas:=fun H vs ts t F r h=>by
 unfold Zas at h
 split at h
 ·obtain⟨v,rfl,r'⟩:=r.one_inv
  cases r' with
  | ref e hs=>cases h;exact⟨_,by simp only[Zay,e,Option.map_some,hs.length],.int _⟩
 ·obtain⟨v,rfl,r'⟩:=r.one_inv
  cases r' with
  | tup hs=>cases h;exact⟨_,by simp only[Zay,hs.length],.int _⟩
 ·cases h
noncomputable def Zdg: List T→Option T
 | [.int a]=>some (.int (if a<0 then -a else a))
 | _=>none
theorem ZeM: OAn Zde Zdg:=fun H vs ts t F r h=>by
 unfold Zdg at h
 split at h
 ·obtain⟨v,rfl,r'⟩:=r.one_inv
  cases r';cases h;exact⟨_,rfl,.int _⟩
 ·cases h
noncomputable def Zjj: List T→Option (List Int)
 | []=>some []
 | .int k::vs=>(Zjj vs).map fun ks=>k::ks
 | _::_=>none
noncomputable def ZdQ: List T→Option (List Bool)
 | []=>some []
 | .bool k::vs=>(ZdQ vs).map fun ks=>k::ks
 | _::_=>none
theorem Zkv{H:Hp}: ∀{vs:List V} {ts:List T} {F:List Nat} {ks:List Bool},RFs H vs ts F→ZdQ ts=some ks→ZdM vs=some ks
 | _,_,_,_,.nil,h=>h
 | _,_,_,_,.cons a b,h=>by
  cases a <;> first | (cases h;done) | skip
  obtain⟨js,h1,h2⟩:=Zz1.mp h
  subst h2
  simp only[ZdM,Zkv b h1,Option.map_some]
noncomputable def ZqZ: List T→Option T
 | [.lst ts]=>(Zjj ts).map fun ks=>.int ks.sum
 | _=>none
noncomputable def ZeS: List T→Option T
 | [.lst ts]=>(ZdQ ts).map fun bs=>.bool (bs.any id)
 | _=>none
theorem Zqq: OAn ZeR ZeS:=fun H vs ts t F r h=>by
 unfold ZeS at h
 split at h
 ·obtain⟨v,rfl,r'⟩:=r.one_inv
  cases r' with
  | ref e hs=>
   obtain⟨ks,h1,h2⟩:=Zz1.mp h
   subst h2
   exact⟨_,by simp only[ZeR,e,Option.bind_some,Zkv hs h1,Option.map_some],.bool _⟩
 ·cases h
theorem ZeT{H:Hp}{vs:List V}{ts:List T}{F:List Nat}(r:RFs H vs ts F): RF (H++[vs]) (.ref H.length) (.lst ts) (H.length::F):=.ref (by simp) (r.ext _)
theorem Zfv{H:Hp}{vs:List V}{ts:List T}{F:List Nat}(r:RFs H vs ts F)(h:T.flatIn (.lst ts)=true): (H.length::F).Nodup∧∀a∈H.length::F,H.length≤a:=by
 rw[r.flats (by simpa [T.flatIn]using h)]
 simp
theorem ZnJ{H:Hp}{v:V}{t:T}{F:List Nat}(r:RF H v t F)(h:F=[]): F.Nodup∧∀a∈F,H.length≤a:=by subst h;simp
noncomputable def Zjs(ts:List T): Nat→List T
 | 0=>[]
 | n+1=>Zjs ts n++ts
noncomputable def Zal: T→T→Option T
 | .int a,.int b=>some (.int (a+b))
 | .lst a,.lst b=>if(a++b).length≤LEN then some (.lst (a++b))else none
 | .tup a,.tup b=>if(a++b).length≤LEN then some (.tup (a++b))else none
 | _,_=>none
noncomputable def ZaK: T→T→Option T
 | .int a,.int b=>if mulOk a b=true then some (.int (a*b))else none
 | .lst a,.int k=>if a.length*k.toNat≤LEN∧-(2 ^ 63:Int)≤k∧k<2 ^ 63 then some (.lst (Zjs a k.toNat))else none
 | _,_=>none
theorem Zlf{H:Hp}{vs:List V}{ts:List T}{F:List Nat}(r:RFs H vs ts F): ∀n,∃G,RFs H (Zdx vs n) (Zjs ts n) G∧∀a∈G,a∈F
 | 0=>⟨_,.nil,by simp⟩
 | n+1=>by
  obtain⟨G,h1,h2⟩:=Zlf r n
  exact⟨_,h1.append r,fun a m=>(Zz8.mp m).elim (h2 a) id⟩
theorem Zav: OC2 Zak Zal:=fun H v1 v2 t1 t2 t F1 F2 r1 r2 h=>by
 cases r1 with
 | none=>cases h
 | bool=>cases h
 | str=>cases h
 | int a=>
  cases r2 <;> first | (cases h;done) | skip
  cases h;exact⟨_,[],[],by simp[Zak],.int _,by simp,by simp⟩
 | tup hs1=>
  cases r2 with
  | none=>cases h
  | bool=>cases h
  | str=>cases h
  | int=>cases h
  | ref=>cases h
  | tup hs2=>
   simp only[Zal]at h
   split at h
   ·rename_i hl
    cases h
    refine⟨_,[],_,?_,.tup (by simpa using hs1.append hs2),fun a m=>.inr (Zz8.mp m),fun hf=>ZnJ (H:=H) (.tup (hs1.append hs2)) ((RF.tup (hs1.append hs2)).flat (by simpa [T.flatIn]using hf))⟩
    simp only[Zak,List.append_nil]
    rw[if_pos (by rw[List.length_append]at hl ⊢;rw[hs1.length,hs2.length];exact hl)]
   ·cases h
 | ref e1 hs1=>
  cases r2 with
  | none=>cases h
  | bool=>cases h
  | str=>cases h
  | int=>cases h
  | tup=>cases h
  | ref e2 hs2=>
   simp only[Zal]at h
   split at h
   ·rename_i hl
    cases h
    refine⟨_,_,_,?_,ZeT (hs1.append hs2),fun a m=>?_,Zfv (hs1.append hs2)⟩
    ·simp only[Zak,e1,e2,Option.bind_some]
     rw[if_pos (by rw[List.length_append]at hl ⊢;rw[hs1.length,hs2.length];exact hl)]
    ·rcases Zz7.mp m with rfl | m
     ·exact .inl (Zz10 _)
     ·rcases Zz8.mp m with m | m
      ·exact .inr (.inl (Zz2 _ m))
      ·exact .inr (.inr (Zz2 _ m))
   ·cases h
theorem Zbh: OC2 ZaR ZaK:=fun H v1 v2 t1 t2 t F1 F2 r1 r2 h=>by
 cases r1 with
 | none=>cases h
 | bool=>cases h
 | str=>cases h
 | tup=>cases h
 | int a=>
  cases r2 <;> first | (cases h;done) | skip
  simp only[ZaK]at h
  split at h
  ·rename_i hm
   cases h;exact⟨_,[],[],by simp only[ZaR];rw[if_pos hm];simp,.int _,by simp,by simp⟩
  ·cases h
 | ref e1 hs1=>
  cases r2 with
  | none=>cases h
  | bool=>cases h
  | str=>cases h
  | tup=>cases h
  | ref=>cases h
  | int k=>
   simp only[ZaK]at h
   split at h
   ·rename_i hl
    cases h
    obtain⟨G,h1,h2⟩:=Zlf hs1 k.toNat
    refine⟨_,_,_,?_,ZeT h1,fun a m=>?_,Zfv h1⟩
    ·simp only[ZaR,e1,Option.bind_some]
     rw[if_pos (by rw[hs1.length];exact hl)]
    ·rcases Zz7.mp m with rfl | m
     ·exact .inl (Zz10 _)
     ·exact .inr (.inl (Zz2 _ (h2 a m)))
   ·cases h
noncomputable def ZcA: List T→Option T
 | [.lst ts]=>some (.lst ts)
 | [.tup ts]=>some (.lst ts)
 | _=>none
theorem Zes: OCn Zcz ZcA:=fun H vs ts t F hp r h=>by
 unfold ZcA at h
 split at h
 ·obtain⟨v,rfl,r'⟩:=r.one_inv
  cases r' with
  | ref e hs=>cases h;exact⟨_,_,_,by simp only[Zcz,e,Option.map_some],ZeT hs,fun a m=>(Zz7.mp m).imp (fun q=>Nat.le_of_eq q.symm) (Zz2 _),Zfv hs⟩
 ·obtain⟨v,rfl,r'⟩:=r.one_inv
  cases r' with
  | tup hs=>cases h;exact⟨_,_,_,by simp only[Zcz],ZeT hs,fun a m=>(Zz7.mp m).imp (fun q=>Nat.le_of_eq q.symm) id,Zfv hs⟩
 ·cases h
end
end TM
end
section
set_option autoImplicit false
namespace TM
open PySem PM
theorem St.from_src{c:Ctx}{O N:List Nat}{ρ:Lc}{σ:TL}{H:Hp}{Φ:Nat→List Nat}(s:St c O ρ σ H Φ){a:Nat}(f:From H N σ Φ a): c.H0.length≤a∨c.P a:=by
 rcases f with h | ⟨i,hi,⟨t,e⟩,m⟩
 ·exact .inl (Nat.le_trans s.len h)
 ·exact s.src i t e a m
theorem St.from_off{c:Ctx}{O N:List Nat}{ρ:Lc}{σ:TL}{H:Hp}{Φ:Nat→List Nat}(s:St c O ρ σ H Φ)(hN:∀i∈N,i∉O){a:Nat}(f:From H N σ Φ a){i:Nat}(hi:i∈O){t:T}(e:σ i=some t): a∉Φ i:=by
 intro m
 obtain⟨v,_,r⟩:=s.slot i t e
 have hl:=r.lt a m
 rcases f with h | ⟨j,hj,⟨t',e'⟩,m'⟩
 ·omega
 ·exact(s.own i hi t e).2.2 j t' (fun q=>hN j hj (q▸hi)) e' a m m'
noncomputable abbrev PPt:=TL→Option (Option Int)
noncomputable def Zpx: PPt:=fun _=>some none
noncomputable def ZqS(p:PE): PPt:=fun σ=>(p σ).bind fun t=>match t with
 | .int k=>some (some k)
 | _=>none
noncomputable def Pe(O:List Nat)(f:Pt)(p:PPt): Prop:=∀(c:Ctx) (ρ:Lc) (σ:TL) (H:Hp) (Φ:Nat→List Nat) (k:Option Int),St c O ρ σ H Φ→p σ=some k→∃o X,f ρ H=some (o,H++X)∧Zqm o=some k
section
variable {O N:List Nat} {u:Bool}
theorem Pe.none: Pe O PM.Zjf Zpx:=fun c ρ σ H Φ k s h=>by
 cases h;exact⟨Option.none,[],by simp[PM.Zjf],rfl⟩
noncomputable def ZqT(p:PE)(lo hi:PPt): PE:=fun σ=>(p σ).bind fun t=>(lo σ).bind fun a=>(hi σ).bind fun b=>match t with
 | .lst ts=>Option.some (.lst (Zql ts a b))
 | _=>Option.none
noncomputable def ZqU(p:PE)(k:Nat): PE:=fun σ=>(p σ).bind fun t=>match t with
 | .lst ts=>Option.some (.lst (ts.drop k))
 | .tup ts=>if 1≤k∧k≤ts.length then Option.some (.tup (ts.drop k))else Option.none
 | _=>Option.none
end
noncomputable def Gs(O N:List Nat)(g:Src)(q:PG): Prop:=∀(c:Ctx) (ρ:Lc) (σ:TL) (H:Hp) (Φ:Nat→List Nat) (ts:List T),St c O ρ σ H Φ→q σ=some ts →
 ∃(nx:Nx) (X:Hp) (vs:List V) (F G:List Nat),g ρ H=some (nx,ts.length+1,H++X)∧RFs (H++X) vs ts F∧(∀a∈F,a∈G)∧(∀a∈G,a<(H++X).length∧From H N σ Φ a)∧∀K:Hp,(∀a∈G,K[a]?=(H++X)[a]?)→∀i,i≤vs.length→nx i K=some vs[i]?
section
variable {O N M:List Nat} {u u':Bool}
noncomputable def ZbN(p:PE): PG:=fun σ=>(p σ).bind fun t=>match t with
 | .lst ts=>some ts
 | .tup ts=>some ts
 | _=>none
theorem Gs.seq{e:Ex}{p:PE}(x:E O N u e p): Gs O N (ZbV e) (ZbN p):=fun c ρ σ H Φ ts s h=>by
 obtain⟨t1,h1,h⟩:=Zz0.mp h
 obtain⟨v,X,F,a1,a2,a3,a4⟩:=x c ρ σ H Φ t1 s h1
 have hlt:=a2.lt
 cases a2 with
 | none=>cases h
 | bool=>cases h
 | int=>cases h
 | str=>cases h
 | @tup vs _ _ hs=>
  cases h
  exact⟨Zld vs,X,vs,F,F,by simp only[ZbV,a1,Option.bind_some,hs.length],hs,fun _ m=>m,fun a m=>⟨hlt a m,a3 a m⟩,fun K _ i hi=>rfl⟩
 | @ref b vs _ F' e1 hs=>
  cases h
  refine⟨Zi2 b,X,vs,F',b::F',by simp only[ZbV,a1,Option.bind_some,e1,Option.map_some,hs.length],hs,fun _ m=>List.mem_cons_of_mem _ m,fun a m=>⟨hlt a m,a3 a m⟩,fun K hK i hi=>?_⟩
  simp only[Zi2,hK b Zz5,e1,Option.map_some]
noncomputable def ZbD(a b c:Int): Option (List T):=if c≠0∧Builtin.Range.small a b c=true∧0≤Builtin.Range.rangeSize a b c∧rngN a b c≤LEN∧Builtin.divisionGoesByPylong (b-a) c=false then some ((List.range (rngN a b c)).map fun(i:Nat)=>.int (a+(i:Int)*c))else none
noncomputable def ZaP(p:PEs): PG:=fun σ=>(p σ).bind fun ts=>match ts with
 | [.int b]=>ZbD 0 b 1
 | [.int a,.int b]=>ZbD a b 1
 | [.int a,.int b,.int c]=>ZbD a b c
 | _=>none
theorem Zkw(H:Hp)(a c:Int): ∀(l:List Nat),RFs H (l.map fun(i:Nat)=>.int (a+(i:Int)*c)) (l.map fun(i:Nat)=>.int (a+(i:Int)*c)) []
 | []=>.nil
 | i::l=>by have:=RFs.cons (RF.int (H:=H) (a+i*c)) (Zkw H a c l);exact this
theorem Zil{a b c:Int}{H:Hp}{ts:List T}(h:ZbD a b c=some ts): ∃(nx:Nx) (vs:List V),ZbH a b c H=some (nx,ts.length+1,H)∧RFs H vs ts []∧∀K:Hp,∀i,i≤vs.length→nx i K=some vs[i]?:=by
 unfold ZbD at h
 split at h
 ·rename_i hc
  cases h
  refine⟨ZdL a c (rngN a b c),(List.range (rngN a b c)).map fun(i:Nat)=>.int (a+(i:Int)*c),?_,Zkw H a c _,fun K i hi=>?_⟩
  ·unfold ZbH
   rw[if_pos hc]
   simp
  ·simp only[ZdL,List.getElem?_map]
   by_cases q:i<rngN a b c
   ·rw[if_pos q,List.getElem?_range q];rfl
   ·rw[if_neg q,List.getElem?_eq_none (by simpa using Nat.le_of_not_lt q)];rfl
 ·cases h
theorem RFs.three_inv{H:Hp}{vs:List V}{t t' t'':T}{F:List Nat}(r:RFs H vs [t,t',t''] F): ∃v v' v'' F1 F2 F3,vs=[v,v',v'']∧RF H v t F1∧RF H v' t' F2∧RF H v'' t'' F3:=by
 cases r with
 | cons a b=>obtain⟨v',v'',F2,F3,h1,h2,h3,_⟩:=b.two_inv;subst h1;exact⟨_,_,_,_,_,_,rfl,a,h2,h3⟩
theorem Gs.range{n:Nat}{e:Exs}{p:PEs}(x:Es O N u n e p): Gs O [] (Za4 e) (ZaP p):=fun c ρ σ H Φ ts s h=>by
 obtain⟨t1,h1,h⟩:=Zz0.mp h
 obtain⟨_,vs,X,F,a1,a2,a3,a4⟩:=x c ρ σ H Φ t1 s h1
 split at h
 ·obtain⟨v,rfl,r⟩:=a2.one_inv
  cases r
  obtain⟨nx,us,q1,q2,q3⟩:=Zil (H:=H++X) h
  exact⟨nx,X,us,[],[],by simp only[Za4,a1,Option.bind_some,q1],q2,by simp,by simp,fun K _=>q3 K⟩
 ·obtain⟨v,v',F1,F2,rfl,r,r',_⟩:=a2.two_inv
  cases r;cases r'
  obtain⟨nx,us,q1,q2,q3⟩:=Zil (H:=H++X) h
  exact⟨nx,X,us,[],[],by simp only[Za4,a1,Option.bind_some,q1],q2,by simp,by simp,fun K _=>q3 K⟩
 ·obtain⟨v,v',v'',F1,F2,F3,rfl,r,r',r''⟩:=a2.three_inv
  cases r;cases r';cases r''
  obtain⟨nx,us,q1,q2,q3⟩:=Zil (H:=H++X) h
  exact⟨nx,X,us,[],[],by simp only[Za4,a1,Option.bind_some,q1],q2,by simp,by simp,fun K _=>q3 K⟩
 ·cases h
noncomputable def Zd0(p q:PE): PG:=fun σ=>(p σ).bind fun t=>(q σ).bind fun s=>match t,s with
 | .lst ts,.lst ss=>some (List.zipWith (fun x y=>.tup [x,y]) ts ss)
 | _,_=>none
theorem RFs.zip{H:Hp}: ∀{vs us:List V} {ts ss:List T} {F G:List Nat},RFs H vs ts F→RFs H us ss G→∃D,RFs H (List.zipWith (fun x y=>.tup [x,y]) vs us) (List.zipWith (fun x y=>.tup [x,y]) ts ss) D∧∀a∈D,a∈F∨a∈G
 | _,_,_,_,_,_,.nil,_=>⟨_,.nil,by simp⟩
 | _,_,_,_,_,_,.cons _ _,.nil=>⟨_,.nil,by simp⟩
 | _,_,_,_,_,_,.cons a b,.cons a' b'=>by
  obtain⟨D,h1,h2⟩:=b.zip b'
  refine⟨_,.cons (.tup (.cons a (.one a'))) h1,fun x m=>?_⟩
  rcases Zz8.mp m with m | m
  ·rcases Zz8.mp m with m | m
   ·exact .inl (Zz4 _ m)
   ·exact .inr (Zz4 _ m)
  ·exact(h2 x m).imp (Zz3 _) (Zz3 _)
theorem Gs.zip{e1 e2:Ex}{p1 p2:PE}(x:E O N u e1 p1)(y:E O M u' e2 p2): Gs O (N++M) (ZdY e1 e2) (Zd0 p1 p2):=fun c ρ σ H Φ ts s h=>by
 obtain⟨t1,h1,h⟩:=Zz0.mp h
 obtain⟨t2,h2,h⟩:=Zz0.mp h
 obtain⟨v,X,F,a1,a2,a3,a4⟩:=x c ρ σ H Φ t1 s h1
 obtain⟨w,Y,G,b1,b2,b3,b4⟩:=y c ρ σ (H++X) Φ t2 (s.ext X) h2
 have a2:=a2.ext Y
 have l1:=a2.lt
 have l2:=b2.lt
 rw[List.append_assoc]at a2 b2 l1 l2 b1
 cases a2 with
 | none=>cases h
 | bool=>cases h
 | int=>cases h
 | str=>cases h
 | tup=>cases b2 <;> cases h
 | @ref a vs _ F' e1 hs=>
  cases b2 with
  | none=>cases h
  | bool=>cases h
  | int=>cases h
  | str=>cases h
  | tup=>cases h
  | @ref b us _ G' e2 hs2=>
   cases h
   obtain⟨D,d1,d2⟩:=hs.zip hs2
   refine⟨ZeK a b,X++Y,_,D,a::b::D,?_,d1,fun q m=>List.mem_cons_of_mem _ (Zz2 _ m),fun q m=>?_,fun K hK i hi=>?_⟩
   ·simp only[ZdY,a1,Option.bind_some,b1,e1,e2,Option.map_some,List.length_zipWith,hs.length,hs2.length]
   ·rcases Zz7.mp m with rfl | m
    ·exact⟨l1 _ Zz5,(a3 _ Zz5).mono fun i hi=>List.mem_append_left _ hi⟩
    ·rcases Zz7.mp m with rfl | m
     ·exact⟨l2 _ Zz5,(b3 _ Zz5).back.mono fun i hi=>List.mem_append_right _ hi⟩
     ·rcases d2 q m with m | m
      ·exact⟨l1 _ (Zz2 _ m),(a3 _ (Zz2 _ m)).mono fun i hi=>List.mem_append_left _ hi⟩
      ·exact⟨l2 _ (Zz2 _ m),(b3 _ (Zz2 _ m)).back.mono fun i hi=>List.mem_append_right _ hi⟩
   ·simp only[ZeK,hK a Zz5,hK b (Zz2 _ Zz5),e1,e2,Option.bind_some,List.getElem?_zipWith]
    rw[List.length_zipWith]at hi
    by_cases q:i<min vs.length us.length
    ·rw[List.getElem?_eq_getElem (show i<vs.length by omega),List.getElem?_eq_getElem (show i<us.length by omega)]
    ·have q':i=min vs.length us.length:=by omega
     by_cases q2:i<vs.length
     ·rw[List.getElem?_eq_getElem q2,List.getElem?_eq_none (show us.length≤i by omega)]
      simp[q']
     ·rw[List.getElem?_eq_none (show vs.length≤i by omega)]
      simp[q']
end
noncomputable def PutOk(O J:List Nat)(put:V→Lc→Option Lc)(q:T→TL→Option TL): Prop:=∀(c:Ctx) (ρ:Lc) (σ:TL) (H:Hp) (Φ:Nat→List Nat) (v:V) (t:T) (F:List Nat) (σ1:TL),St c O ρ σ H Φ→RF H v t F→(∀a∈F,c.H0.length≤a∨c.P a)→(∀i∈O,∀t',σ i=some t'→∀a∈Φ i,a∉F)→q t σ=some σ1 →
 ∃ρ1 Φ1,put v ρ=some ρ1∧St c O ρ1 σ1 H Φ1∧(∀i,i∉J→σ1 i=σ i∧Φ1 i=Φ i)∧∀i∈J,∀a∈Φ1 i,a∈F
noncomputable def Z2(Φ:Nat→List Nat)(j:Nat)(F:List Nat): Nat→List Nat:=fun i=>if i=j then F else Φ i
theorem St.put{c:Ctx}{O:List Nat}{ρ:Lc}{σ:TL}{H:Hp}{Φ:Nat→List Nat}{v:V}{t:T}{F:List Nat}{j:Nat}(s:St c O ρ σ H Φ)(hj:j∉O)(r:RF H v t F)(hs:∀a∈F,c.H0.length≤a∨c.P a)(ho:∀i∈O,∀t',σ i=some t'→∀a∈Φ i,a∉F): St c O (upd ρ j v) (ZI σ j t) H (Z2 Φ j F):=by
 refine⟨fun i u e=>?_,fun i u e=>?_,fun i hi u e=>?_,s.len,s.keep,s.pos,s.f0⟩
 ·by_cases q:i=j
  ·subst q
   simp[ZI]at e
   subst e
   exact⟨v,by simp[upd],by simpa [Z2]using r⟩
  ·simp[ZI,q]at e
   simpa [upd,Z2,q]using s.slot i u e
 ·by_cases q:i=j
  ·subst q;simpa [Z2]using hs
  ·simp[ZI,q]at e
   simpa [Z2,q]using s.src i u e
 ·have q:i≠j:=fun q=>hj (q▸hi)
  simp[ZI,q]at e
  obtain⟨h1,h2,h3⟩:=s.own i hi u e
  refine⟨by simpa [Z2,q]using h1,by simpa [Z2,q]using h2,fun k w hk ek=>?_⟩
  by_cases q2:k=j
  ·subst q2
   simpa [Z2,q]using ho i hi u e
  ·simp[ZI,q2]at ek
   simpa [Z2,q,q2]using h3 k w hk ek
noncomputable def Zam(j:Nat): T→TL→Option TL:=fun t σ=>some (ZI σ j t)
noncomputable def Zcr(i j:Nat): T→TL→Option TL
 | .tup [a,b],σ=>some (ZI (ZI σ i a) j b)
 | _,_=>none
theorem PutOk.one{O:List Nat}{j:Nat}(hj:j∉O:=by decide): PutOk O [j] (Zap j) (Zam j):=fun c ρ σ H Φ v t F σ1 s r hs ho h=>by
 cases h
 refine⟨_,_,rfl,s.put hj r hs ho,fun i hi=>?_,fun i hi a m=>?_⟩
 ·have:i≠j:=fun q=>hi (by simp[q])
  simp[ZI,Z2,this]
 ·simp at hi;subst hi;simpa [Z2]using m
theorem PutOk.two{O:List Nat}{i j:Nat}(hi:i∉O:=by decide)(hj:j∉O:=by decide)(hij:i≠j:=by decide): PutOk O [i,j] (ZbW i j) (Zcr i j):=fun c ρ σ H Φ v t F σ1 s r hs ho h=>by
 unfold Zcr at h
 split at h
 ·cases h
  cases r with
  | tup hh=>
   obtain⟨v1,v2,F1,F2,rfl,r1,r2,rfl⟩:=hh.two_inv
   have s1:=s.put hi r1 (fun a m=>hs a (Zz4 _ m)) (fun k hk t' e a m q=>ho k hk t' e a m (Zz4 _ q))
   have s2:=s1.put hj r2 (fun a m=>hs a (Zz3 _ m)) (fun k hk t' e a m q=>by
    have:k≠i:=fun q=>hi (q▸hk)
    simp[ZI,Z2,this]at e m
    exact ho k hk t' e a m (Zz3 _ q))
   refine⟨_,_,rfl,s2,fun k hk=>?_,fun k hk a m=>?_⟩
   ·simp at hk
    simp[ZI,Z2,hk.1,hk.2]
   ·simp at hk
    rcases hk with rfl | rfl
    ·simp[Z2,hij]at m
     exact Zz4 _ m
    ·simp[Z2]at m
     exact Zz3 _ m
 ·cases h
noncomputable def ZcO(put:T→TL→Option TL)(c:PB)(f:PE)(σ:TL): List T→Option (List T)
 | []=>some []
 | t::ts=>(put t σ).bind fun σ1=>(c σ1).bind fun b=>if b then(f σ1).bind fun x=>(ZcO put c f σ ts).map fun xs=>x::xs else ZcO put c f σ ts
noncomputable def ZaA(g:PG)(put:T→TL→Option TL)(c:PB)(f:PE): PE:=fun σ=>(g σ).bind fun ts=>if ts.length≤LEN then(ZcO put c f σ ts).map .lst else none
section
variable {O Ns Ne J:List Nat} {u:Bool}
theorem comp_core{put:V→Lc→Option Lc}{pput:T→TL→Option TL}{tc:Ts}{pc:PB}{f:Ex}{pf:PE}(hj:PutOk O J put pput)(hN:∀i∈Ns,i∉O)(hc:Bt O tc pc)(hf:E O Ne u f pf)(hu:u=true→Ne=[])
  {c:Ctx} {ρ:Lc} {σ:TL} {Φ:Nat→List Nat} {H0 H1:Hp} {nx:Nx} {vs:List V} {G:List Nat} (h0:H0.length≤H1.length)
  (hG:∀a∈G,a<H1.length∧From H0 Ns σ Φ a) (hoff:∀a∈G,∀i∈O,∀t,σ i=some t→a∉Φ i) (hsrc:∀a∈G,c.H0.length≤a∨c.P a) (hnx:∀K:Hp,(∀a∈G,K[a]?=H1[a]?)→∀i,i≤vs.length→nx i K=some vs[i]?):
  ∀(rs:List T) (ws:List V) (i:Nat) (acc:List V) (K:Hp) (Fr:List Nat) (out:List T),(∀j,vs[i+j]?=ws[j]?)→i+ws.length=vs.length→St c O ρ σ K Φ→H1.length≤K.length→(∀a∈G,K[a]?=H1[a]?)→RFs K ws rs Fr→(∀a∈Fr,a∈G)→acc.length+rs.length≤LEN→ZcO pput pc pf σ rs=some out →
   ∃xs X F,Zb6 nx put tc f ρ (rs.length+1) i acc K=some (acc++xs,K++X)∧RFs (K++X) xs out F∧(∀a∈F,(u=true→K.length≤a)∧From H0 (Ns++Ne) σ Φ a)∧(u=true→F.Nodup)
 | [],ws,i,acc,K,Fr,out,hat,hlen,s,hl,hk,r,hfr,hacc,h=>by
  cases r
  cases h
  have e:=hnx K hk i (by simp at hlen;omega)
  have e2:vs[i]?=none:=by have:=hat 0;simpa using this
  refine⟨[],[],[],?_,.nil,by simp,by simp⟩
  simp[Zb6,e,e2]
 | t::rs,ws0,i,acc,K,Fr0,out,hat,hlen,s,hl,hk,r,hfr,hacc,h=>by
  cases r with
  | @cons v _ F1 ws _ F2 a b=>
  simp only[List.length_cons]at hlen hacc
  obtain⟨σ1,h1,h⟩:=Zz0.mp h
  obtain⟨bb,h2,h⟩:=Zz0.mp h
  have e:=hnx K hk i (by omega)
  have e2:vs[i]?=some v:=by have:=hat 0;simpa using this
  have hat':∀j,vs[i+1+j]?=ws[j]?:=fun j=>by have:=hat (j+1);rw[show i+1+j=i+(j+1)by omega,this];simp
  obtain⟨ρ1,Φ1,p1,s1,p3,p4⟩:=hj c ρ σ K Φ v t F1 σ1 s a (fun x m=>hsrc x (hfr x (Zz4 _ m))) (fun k hk t' e x m q=>hoff x (hfr x (Zz4 _ q)) k hk t' e m) h1
  obtain⟨X1,c1⟩:=hc c ρ1 σ1 K Φ1 bb s1 h2
  cases bb with
  | true=>
   obtain⟨y,h3,h⟩:=Zz0.mp h
   obtain⟨ys,h4,h⟩:=Zz1.mp h
   subst h
   obtain⟨w,X2,Fw,d1,d2,d3,d4⟩:=hf c ρ1 σ1 (K++X1) Φ1 y (s1.ext X1) h3
   have hext:∀a∈G,(K++X1++X2)[a]?=H1[a]?:=fun a m=>by
    have:=(hG a m).1
    rw[List.append_assoc,List.getElem?_append_left (by omega)];exact hk a m
   obtain⟨xs,X3,F3,f1,f2,f3,f4⟩:=comp_core hj hN hc hf hu h0 hG hoff hsrc hnx rs ws (i+1) (acc++[w]) (K++X1++X2) F2 ys hat' (by omega) ((s.ext X1).ext X2) (by simp;omega) hext (by rw[List.append_assoc];exact b.ext _) (fun x m=>hfr x (Zz3 _ m)) (by simp;omega) h4
   refine⟨w::xs,X1++X2++X3,Fw++F3,?_,?_,fun x m=>?_,fun hu'=>?_⟩
   ·rw[List.length_cons,Zb6,e,e2]
    simp only[Option.bind_some,p1,c1,d1,if_true]
    rw[if_pos (by omega)]
    simpa using f1
   ·have:=RFs.cons (d2.ext X3) f2
    simpa using this
   ·rcases Zz8.mp m with m | m
    ·refine⟨fun hu'=>?_,?_⟩
     ·have hne:=hu hu'
      subst hne
      have:=(d3 x m).nil
      simp at this;omega
     ·rcases d3 x m with q | ⟨k,hk1,⟨tk,ek⟩,mk⟩
      ·exact .inl (by simp at q;omega)
      ·by_cases hkJ:k∈J
       ·exact(hG x (hfr x (Zz4 _ (p4 k hkJ x mk)))).2.mono fun i hi=>List.mem_append_left _ hi
       ·obtain⟨q1,q2⟩:=p3 k hkJ
        exact .inr ⟨k,List.mem_append_right _ hk1,⟨tk,q1▸ek⟩,q2▸mk⟩
    ·obtain⟨g1,g2⟩:=f3 x m
     exact⟨fun hu'=>by have:=g1 hu';simp at this;omega,g2⟩
   ·rw[List.nodup_append]
    refine⟨d4 hu',f4 hu',fun x hx y hy e=>?_⟩
    have l1:=d2.lt x hx
    have l2:=(f3 y hy).1 hu'
    omega
  | false=>
   have hext:∀a∈G,(K++X1)[a]?=H1[a]?:=fun a m=>by
    have:=(hG a m).1
    rw[List.getElem?_append_left (by omega)];exact hk a m
   obtain⟨xs,X3,F3,f1,f2,f3,f4⟩:=comp_core hj hN hc hf hu h0 hG hoff hsrc hnx rs ws (i+1) acc (K++X1) F2 out hat' (by omega) (s.ext X1) (by simp;omega) hext (b.ext _) (fun x m=>hfr x (Zz3 _ m)) (by omega) (by simpa using h)
   refine⟨xs,X1++X3,F3,?_,by simpa using f2,fun x m=>?_,f4⟩
   ·rw[List.length_cons,Zb6,e,e2]
    simp only[Option.bind_some,p1,c1]
    simpa using f1
   ·obtain⟨g1,g2⟩:=f3 x m
    exact⟨fun hu'=>by have:=g1 hu';simp at this;omega,g2⟩
theorem Zlg{g:Src}{q:PG}{put:V→Lc→Option Lc}{pput:T→TL→Option TL}{tc:Ts}{pc:PB}{f:Ex}{pf:PE}(hg:Gs O Ns g q)(hj:PutOk O J put pput)(hN:∀i∈Ns,i∉O)(hc:Bt O tc pc)(hf:E O Ne u f pf)(hu:u=true→Ne=[]): E O (if u then []else Ns++Ne) u (ZaC g put tc f) (ZaA q pput pc pf):=fun c ρ σ H Φ t s h=>by
 obtain⟨ts,h1,h⟩:=Zz0.mp h
 split at h
 ·rename_i hl
  obtain⟨out,h2,h⟩:=Zz1.mp h
  subst h
  obtain⟨nx,X,vs,F,G,g1,g2,g3,g4,g5⟩:=hg c ρ σ H Φ ts s h1
  obtain⟨xs,Y,F',d1,d2,d3,d4⟩:=comp_core hj hN hc hf hu (H0:=H) (H1:=H++X) (by simp) g4 (fun a m i hi t e=>s.from_off hN (g4 a m).2 hi e) (fun a m=>s.from_src (g4 a m).2) g5 ts vs 0 [] (H++X) F out (by simp) (by simp) (s.ext X) (Zz10 _) (fun _ _=>rfl) g2 g3 (by simpa using hl) h2
  refine⟨.ref (H++X++Y).length,X++Y++[xs],(H++X++Y).length::F',?_,?_,fun a m=>?_,fun hu'=>?_⟩
  ·simp only[ZaC,g1,Option.bind_some,d1,Option.map_some,List.nil_append,List.append_assoc]
  ·have:=ZeT d2
   simpa using this
  ·rcases Zz7.mp m with rfl | m
   ·exact .inl (by simp)
   ·obtain⟨q1,q2⟩:=d3 a m
    cases u with
    | true=>exact .inl (by have:=q1 rfl;simp at this;omega)
    | false=>exact q2
  ·rw[List.nodup_cons]
   exact⟨fun m=>Nat.lt_irrefl _ (d2.lt _ m),d4 hu'⟩
 ·cases h
end
end TM
end
section
set_option autoImplicit false
namespace TM
open PySem PM
noncomputable abbrev PS:=TL→Option (Option T×TL)
noncomputable def ZbS(σ:TL)(N:List Nat): TL:=fun j=>if j∈N then none else σ j
noncomputable def Zb9(O:List Nat)(σ:TL)(Φ:Nat→List Nat)(a:Nat): Prop:=∃j∈O,(∃t,σ j=some t)∧a∈Φ j
noncomputable def Aft(c:Ctx)(O O' R:List Nat)(fr:Bool)(σ:TL)(H:Hp)(Φ:Nat→List Nat)(g:Option (Option V×Lc×Hp))(r:Option T×TL): Prop:=
 ∃ρ' H' Φ',H.length≤H'.length∧(∀a,a<H.length→¬Zb9 O σ Φ a→H'[a]?=H[a]?) ∧
  ((r.1=none∧g=some (none,ρ',H')∧St c O' ρ' r.2 H' Φ'∧∀a,Zb9 O' r.2 Φ' a→H.length≤a∨Zb9 O σ Φ a) ∨
  ∃t v F,r.1=some t∧g=some (some v,ρ',H')∧RF H' v t F∧St c R ρ' r.2 H' Φ'∧(∀a∈F,c.H0.length≤a∨c.P a)∧(fr=true→F.Nodup∧∀a∈F,c.H0.length≤a∨a∈c.F0))
noncomputable def S(O O' R:List Nat)(fr:Bool)(g:Sm)(q:PS): Prop:=∀(c:Ctx) (ρ:Lc) (σ:TL) (H:Hp) (Φ:Nat→List Nat) (r:Option T×TL),St c O ρ σ H Φ→q σ=some r→Aft c O O' R fr σ H Φ (g ρ H) r
section
variable {O O' R:List Nat} {fr:Bool}
noncomputable def Z4: PS:=fun σ=>some (none,σ)
theorem Zac: S O O R fr ZY Z4:=fun c ρ σ H Φ r s e=>by
 cases e
 exact⟨ρ,H,Φ,Nat.le_refl _,fun _ _ _=>rfl,.inl ⟨rfl,rfl,s,fun a m=>.inr m⟩⟩
noncomputable def Zu(a b:PS): PS:=fun σ=>(a σ).bind fun r=>match r.1 with
 | some _=>some r
 | none=>b r.2
theorem Zy{O1:List Nat}{a b:Sm}{p q:PS}(x:S O O1 R fr a p)(y:S O1 O' R fr b q): S O O' R fr (Zr a b) (Zu p q):=fun c ρ σ H Φ r s e=>by
 obtain⟨r1,e1,e⟩:=Zz0.mp e
 obtain⟨ρ1,H1,Φ1,h1,h2,h3⟩:=x c ρ σ H Φ r1 s e1
 rcases h3 with⟨k1,k2,k3,k4⟩ | ⟨t,v,F,k1,k2,k3⟩
 ·rw[k1]at e
  obtain⟨ρ2,H2,Φ2,g1,g2,g3⟩:=y c ρ1 r1.2 H1 Φ1 r k3 e
  refine⟨ρ2,H2,Φ2,Nat.le_trans h1 g1,fun a ha hn=>?_,?_⟩
  ·rw[g2 a (by omega) fun q=>(k4 a q).elim (fun q=>by omega) hn,h2 a ha hn]
  ·have eg:Zr a b ρ H=b ρ1 H1:=by simp only[Zr,k2,Option.bind_some]
   rw[eg]
   rcases g3 with⟨l1,l2,l3,l4⟩ | l
   ·refine .inl ⟨l1,l2,l3,fun a m=>?_⟩
    rcases l4 a m with q | q
    ·exact .inl (by omega)
    ·exact k4 a q
   ·exact .inr l
 ·rw[k1]at e
  cases e
  exact⟨ρ1,H1,Φ1,h1,h2,.inr ⟨t,v,F,k1,by simp only[Zr,k2,Option.bind_some],k3⟩⟩
noncomputable def ZF(p:PE): PS:=fun σ=>(p σ).map fun t=>(some t,σ)
theorem ZN{N:List Nat}{u:Bool}{e:Ex}{p:PE}(x:E O N u e p)(hR:∀i∈R,i∈O:=by decide): S O O' R false (ZD e) (ZF p):=fun c ρ σ H Φ r s q=>by
 obtain⟨t,h1,h⟩:=Zz1.mp q
 subst h
 obtain⟨v,X,F,a1,a2,a3,a4⟩:=x c ρ σ H Φ t s h1
 refine⟨ρ,H++X,Φ,by simp,fun a ha _=>List.getElem?_append_left ha,.inr ⟨t,v,F,rfl,by simp only[ZD,a1,Option.map_some],a2,(s.ext X).less hR,fun a m=>s.from_src (a3 a m),by simp⟩⟩
theorem ZcL{N:List Nat}{e:Ex}{p:PE}(x:E O N true e p)(hN:∀i∈N,i∈O:=by decide)(hR:∀i∈R,i∈O:=by decide): S O O' R fr (ZD e) (ZF p):=fun c ρ σ H Φ r s q=>by
 obtain⟨t,h1,h⟩:=Zz1.mp q
 subst h
 obtain⟨v,X,F,a1,a2,a3,a4⟩:=x c ρ σ H Φ t s h1
 refine⟨ρ,H++X,Φ,by simp,fun a ha _=>List.getElem?_append_left ha,.inr ⟨t,v,F,rfl,by simp only[ZD,a1,Option.map_some],a2,(s.ext X).less hR,fun a m=>s.from_src (a3 a m),fun _=>⟨a4 rfl,fun a m=>?_⟩⟩⟩
 rcases a3 a m with q | ⟨i,hi,⟨t',e'⟩,m'⟩
 ·exact .inl (Nat.le_trans s.len q)
 ·exact(s.own i (hN i hi) t' e').2.1 a m'
noncomputable def ZO(i:Nat)(p:PE): PS:=fun σ=>(p σ).map fun t=>(none,ZI σ i t)
theorem Z1{N:List Nat}{u:Bool}{i:Nat}{e:Ex}{p:PE}(x:E O N u e p)(hi:i∉O':=by decide)(hN:∀j∈N,j∉O':=by decide)(hO:∀j∈O',j∈O:=by decide): S O O' R fr (ZK i e) (ZO i p):=fun c ρ σ H Φ r s q=>by
 obtain⟨t,h1,h⟩:=Zz1.mp q
 subst h
 obtain⟨v,X,F,a1,a2,a3,a4⟩:=x c ρ σ H Φ t s h1
 have s':=s.less hO
 refine⟨upd ρ i v,H++X,Z2 Φ i F,by simp,fun a ha _=>List.getElem?_append_left ha,.inl ⟨rfl,by simp only[ZK,a1,Option.map_some],(s'.ext X).put hi a2 (fun a m=>s.from_src (a3 a m)) (fun k hk t' e' a m q=>?_),fun a m=>?_⟩⟩
 ·exact s'.from_off hN (a3 a q) hk e' m
 ·obtain⟨k,hk,⟨t',e'⟩,m⟩:=m
  have:k≠i:=fun q=>hi (q▸hk)
  simp[ZI,this]at e'
  simp[Z2,this]at m
  exact .inr ⟨k,hO k hk,⟨t',e'⟩,m⟩
theorem Zch{i:Nat}{e:Ex}{p:PE}(x:E O [] true e p)(hO:∀j∈O',j∈O∨j=i:=by decide): S O O' R fr (ZK i e) (ZO i p):=fun c ρ σ H Φ r s q=>by
 obtain⟨t,h1,h⟩:=Zz1.mp q
 subst h
 obtain⟨v,X,F,a1,a2,a3,a4⟩:=x c ρ σ H Φ t s h1
 have hnew:∀a∈F,H.length≤a:=fun a m=>(a3 a m).nil
 have hold:∀k t',σ k=some t'→∀a∈Φ k,a<H.length:=fun k t' e a m=>by
  obtain⟨_,_,r⟩:=s.slot k t' e
  exact r.lt a m
 refine⟨upd ρ i v,H++X,Z2 Φ i F,by simp,fun a ha _=>List.getElem?_append_left ha,.inl ⟨rfl,by simp only[ZK,a1,Option.map_some],⟨fun k t' e'=>?_,fun k t' e'=>?_,fun k hk t' e'=>?_,(s.ext X).len,(s.ext X).keep,s.pos,s.f0⟩,fun a m=>?_⟩⟩
 ·by_cases q:k=i
  ·subst q
   simp[ZI]at e'
   subst e'
   exact⟨v,by simp[upd],by simpa [Z2]using a2⟩
  ·simp[ZI,q]at e'
   simpa [upd,Z2,q]using (s.ext X).slot k t' e'
 ·by_cases q:k=i
  ·subst q;simpa [Z2]using fun a m=>s.from_src (a3 a m)
  ·simp[ZI,q]at e'
   simpa [Z2,q]using s.src k t' e'
 ·by_cases q:k=i
  ·subst q
   simp only[Z2,if_true]
   refine⟨a4 rfl,fun a m=>.inl (Nat.le_trans s.len (hnew a m)),fun j w hj ej a m q=>?_⟩
   simp[ZI,hj]at ej
   rw[if_neg hj]at q
   have:=hold j w ej a q
   have:=hnew a m
   omega
  ·have hk':=(hO k hk).resolve_right q
   simp[ZI,q]at e'
   obtain⟨o1,o2,o3⟩:=s.own k hk' t' e'
   refine⟨by simpa [Z2,q]using o1,by simpa [Z2,q]using o2,fun j w hj ej a m=>?_⟩
   simp[Z2,q]at m
   by_cases q2:j=i
   ·subst q2
    simp only[Z2,if_true]
    intro m2
    have:=hold k t' e' a m
    have:=hnew a m2
    omega
   ·simp[ZI,q2]at ej
    simpa [Z2,q2]using o3 j w hj ej a m
 ·obtain⟨k,hk,⟨t',e'⟩,m⟩:=m
  by_cases q:k=i
  ·subst q
   simp[Z2]at m
   exact .inl (hnew a m)
  ·simp[ZI,q]at e'
   simp[Z2,q]at m
   exact .inr ⟨k,(hO k hk).resolve_right q,⟨t',e'⟩,m⟩
noncomputable def ZV(b:PB)(p q:PS): PS:=fun σ=>(b σ).bind fun x=>if x then p σ else q σ
theorem Aft.grow{c:Ctx}{σ:TL}{H X:Hp}{Φ:Nat→List Nat}{g:Option (Option V×Lc×Hp)}{r:Option T×TL}(h:Aft c O O' R fr σ (H++X) Φ g r): Aft c O O' R fr σ H Φ g r:=by
 obtain⟨ρ',H',Φ',h1,h2,h3⟩:=h
 rw[List.length_append]at h1
 refine⟨ρ',H',Φ',by omega,fun a ha hn=>?_,?_⟩
 ·rw[h2 a (by rw[List.length_append];omega) hn,List.getElem?_append_left ha]
 ·rcases h3 with⟨k1,k2,k3,k4⟩ | k
  ·exact .inl ⟨k1,k2,k3,fun a m=>(k4 a m).imp (fun q=>by rw[List.length_append]at q;omega) id⟩
  ·exact .inr k
theorem Z8{t:Ts}{pb:PB}{a b:Sm}{p q:PS}(z:Bt O t pb)(x:S O O' R fr a p)(y:S O O' R fr b q): S O O' R fr (ZR t a b) (ZV pb p q):=fun c ρ σ H Φ r s e=>by
 obtain⟨bb,e1,e⟩:=Zz0.mp e
 obtain⟨X,h1⟩:=z c ρ σ H Φ bb s e1
 cases bb with
 | true=>
  have:=x c ρ σ (H++X) Φ r (s.ext X) (by simpa using e)
  have eg:ZR t a b ρ H=a ρ (H++X):=by simp[ZR,h1]
  rw[eg]
  exact this.grow
 | false=>
  have:=y c ρ σ (H++X) Φ r (s.ext X) (by simpa using e)
  have eg:ZR t a b ρ H=b ρ (H++X):=by simp[ZR,h1]
  rw[eg]
  exact this.grow
noncomputable def ZqL(p:PE): PS:=fun σ=>(p σ).map fun _=>(none,σ)
theorem ZqV{N:List Nat}{u:Bool}{e:Ex}{p:PE}(x:E O N u e p): S O O R fr (Zbl e) (ZqL p):=fun c ρ σ H Φ r s q=>by
 obtain⟨t,h1,h⟩:=Zz1.mp q
 subst h
 obtain⟨v,X,F,a1,a2,a3,a4⟩:=x c ρ σ H Φ t s h1
 exact⟨ρ,H++X,Φ,by simp,fun a ha _=>List.getElem?_append_left ha,.inl ⟨rfl,by simp only[Zbl,a1,Option.map_some],s.ext X,fun a m=>.inr m⟩⟩
noncomputable def qNo: PS:=fun _=>none
noncomputable def sNo: Sm:=fun _ _=>none
theorem ZqM{g:Sm}: S O O' R fr g qNo:=fun c ρ σ H Φ r s q=>by cases q
noncomputable def follow(H:Hp): List Int→V→Option V
 | [],v=>some v
 | k::ks,v=>(Zs v (.int k) H).bind fun q=>follow H ks q.1
theorem Lead.follow{H:Hp}{ks:List Int}{v:V}{a:Nat}(l:Lead H ks v a): follow H ks v=some (.ref a):=by
 induction l with
 | nil=>rfl
 | ref h1 h2 h3 _ ih=>simp only[TM.follow,Zs,h1,Option.bind_some,h2,h3,Option.map_some,ih]
 | tup h2 h3 _ ih=>simp only[TM.follow,Zs,Option.bind_some,h2,h3,Option.map_some,ih]
theorem Zh4{H:Hp}{v w z:V}{K:Hp}(h:Zs v z H=some (w,K))(X:Hp): K=H∧Zs v z (H++X)=some (w,H++X):=by
 unfold Zs at h
 split at h
 ·obtain⟨vs,e1,h⟩:=Zz0.mp h
  obtain⟨j,e2,h⟩:=Zz0.mp h
  obtain⟨x,e3,h⟩:=Zz1.mp h
  cases h
  exact⟨rfl,by simp only[Zs,List.getElem?_append_left (Zz6.mp e1).1,e1,Option.bind_some,e2,e3,Option.map_some]⟩
 ·obtain⟨j,e2,h⟩:=Zz0.mp h
  obtain⟨x,e3,h⟩:=Zz1.mp h
  cases h
  exact⟨rfl,by simp only[Zs,Option.bind_some,e2,e3,Option.map_some]⟩
 ·cases h
theorem ZjK{H:Hp}{k:Int}: ∀{ks:List Int} {v:V},follow H (ks++[k]) v=(follow H ks v).bind fun w=>(Zs w (.int k) H).map (·.1)
 | [],v=>by
  simp only[List.nil_append,follow,Option.bind_some]
  cases Zs v (.int k) H <;> rfl
 | j::ks,v=>by
  simp only[List.cons_append,follow]
  cases Zs v (.int j) H with
  | none=>rfl
  | some q=>simp only[Option.bind_some];exact ZjK
noncomputable abbrev PPa:=TL→Option (List Int)
noncomputable def ZaN: PPa:=fun _=>some []
noncomputable def Zc5(p:PPa)(i:PE): PPa:=fun σ=>(p σ).bind fun ks=>(i σ).bind fun t=>match t with
 | .int k=>some (ks++[k])
 | _=>none
noncomputable def Pa(O:List Nat)(x:Nat)(e:Ex)(p:PPa): Prop:=∀(c:Ctx) (ρ:Lc) (σ:TL) (H:Hp) (Φ:Nat→List Nat) (ks:List Int) (v w:V),St c O ρ σ H Φ→p σ=some ks→ρ x=some v→follow H ks v=some w→∃X,e ρ H=some (w,H++X)
theorem ZbA{x:Nat}: Pa O x (Za x) ZaN:=fun c ρ σ H Φ ks v w s h e f=>by
 cases h;cases f
 exact⟨[],by simp[Za,e]⟩
theorem ZeC{x:Nat}{N:List Nat}{u:Bool}{e i:Ex}{p:PPa}{pi:PE}(y:Pa O x e p)(z:E O N u i pi): Pa O x (Zd Zs e i) (Zc5 p pi):=fun c ρ σ H Φ ks v w s h ev f=>by
 obtain⟨ks0,h1,h⟩:=Zz0.mp h
 obtain⟨t,h2,h⟩:=Zz0.mp h
 cases t <;> first | (cases h;done) | skip
 rename_i k
 cases h
 rw[ZjK]at f
 obtain⟨w0,f1,f⟩:=Zz0.mp f
 obtain⟨⟨w1,K⟩,f2,f⟩:=Zz1.mp f
 cases f
 obtain⟨X,a1⟩:=y c ρ σ H Φ ks0 v w0 s h1 ev f1
 obtain⟨vi,Y,F,b1,b2,b3,b4⟩:=z c ρ σ (H++X) Φ _ (s.ext X) h2
 cases b2
 refine⟨X++Y,?_⟩
 simp only[Zd,a1,Option.bind_some,b1]
 have:=(Zh4 f2 (X++Y)).2
 rw[List.append_assoc]
 exact this
theorem Zlh{c:Ctx}{ρ:Lc}{σ:TL}{H:Hp}{Φ:Nat→List Nat}{N:List Nat}{x a b:Nat}{t t':T}{v:V}{Fw F':List Nat}{vs':List V}(s:St c O ρ σ H Φ)(hx:x∈O)(ex:σ x=some t)(ev:ρ x=some v)(hb:c.H0.length≤b)(hlow:∀k t,σ k=some t→∀a∈Φ k,a<b)
  (hFw:∀a∈Fw,b≤a∨∃j∈N,(∃t,σ j=some t)∧a∈Φ j) (hN:∀j∈N,j∈O∧j≠x) (ha:a∈Φ x) (r:RF (H.set a vs') v t' F') (nd:F'.Nodup) (sub:∀y∈F',y∈Φ x∨y∈Fw) (hO:∀j∈O',j∈O∧j∉N):
  St c O' ρ (ZbS (ZI σ x t') N) (H.set a vs') (Z2 Φ x F')∧(∀y,Zb9 O' (ZbS (ZI σ x t') N) (Z2 Φ x F') y→b≤y∨Zb9 O σ Φ y):=by
 obtain⟨o1,o2,o3⟩:=s.own x hx t ex
 have old:∀k u,k≠x→ZbS (ZI σ x t') N k=some u→σ k=some u∧k∉N:=fun k u hk e=>by
  unfold ZbS at e
  split at e
  ·cases e
  ·rename_i hn
   simp[ZI,hk]at e
   exact⟨e,hn⟩
 have self:∀u,ZbS (ZI σ x t') N x=some u→u=t':=fun u e=>by
  unfold ZbS at e
  split at e
  ·cases e
  ·simp[ZI]at e;exact e.symm
 have foff:∀y∈F',∀k u,k≠x→σ k=some u→k∉N→y∉Φ k:=fun y hy k u hk e hkn m=>by
  rcases sub y hy with q | q
  ·exact o3 k u hk e y q m
  ·rcases hFw y q with q | ⟨j,hj,⟨tj,ej⟩,mj⟩
   ·have:=hlow k u e y m;omega
   ·exact(s.own j (hN j hj).1 tj ej).2.2 k u (fun q=>hkn (q▸hj)) e y mj m
 refine⟨⟨fun k u e=>?_,fun k u e=>?_,fun k hk u e=>?_,by simpa using s.len,fun y hy hn=>?_,s.pos,s.f0⟩,fun y hy=>?_⟩
 ·by_cases q:k=x
  ·subst q
   have:=self u e
   subst this
   exact⟨v,ev,by simpa [Z2]using r⟩
  ·obtain⟨e1,e2⟩:=old k u q e
   obtain⟨w,h1,h2⟩:=s.slot k u e1
   refine⟨w,h1,?_⟩
   simp only[Z2,q,if_false]
   refine h2.frame fun y hy=>List.getElem?_set_ne fun q'=>?_
   exact o3 k u q e1 a ha (q'▸hy)
 ·by_cases q:k=x
  ·subst q
   simp only[Z2,if_true]
   intro y hy
   rcases sub y hy with q | q
   ·exact s.src k t ex y q
   ·rcases hFw y q with q | ⟨j,hj,⟨tj,ej⟩,mj⟩
    ·exact .inl (by omega)
    ·exact s.src j tj ej y mj
  ·obtain⟨e1,e2⟩:=old k u q e
   simpa [Z2,q]using s.src k u e1
 ·by_cases q:k=x
  ·subst q
   simp only[Z2,if_true]
   refine⟨nd,fun y hy=>?_,fun j w hj ej y hy=>?_⟩
   ·rcases sub y hy with q | q
    ·exact o2 y q
    ·rcases hFw y q with q | ⟨j,hj,⟨tj,ej⟩,mj⟩
     ·exact .inl (by omega)
     ·exact(s.own j (hN j hj).1 tj ej).2.1 y mj
   ·obtain⟨e1,e2⟩:=old j w hj ej
    simpa [hj]using foff y hy j w hj e1 e2
  ·obtain⟨e1,e2⟩:=old k u q e
   obtain⟨p1,p2,p3⟩:=s.own k (hO k hk).1 u e1
   simp only[Z2,q,if_false]
   refine⟨p1,p2,fun j w hj ej y hy=>?_⟩
   by_cases q2:j=x
   ·subst q2
    simp only[if_true]
    exact fun m=>foff y m k u q e1 e2 hy
   ·obtain⟨f1,f2⟩:=old j w q2 ej
    simpa [q2]using p3 j w hj f1 y hy
 ·have:a≠y:=fun q=>by
   subst q
   rcases o2 a ha with q | q
   ·omega
   ·exact hn q
  rw[List.getElem?_set_ne this]
  exact s.keep y hy hn
 ·obtain⟨k,hk,⟨u,e⟩,m⟩:=hy
  by_cases q:k=x
  ·subst q
   simp only[Z2,if_true]at m
   rcases sub y m with q | q
   ·exact .inr ⟨k,hx,⟨t,ex⟩,q⟩
   ·rcases hFw y q with q | ⟨j,hj,q⟩
    ·exact .inl q
    ·exact .inr ⟨j,(hN j hj).1,q⟩
  ·obtain⟨e1,e2⟩:=old k u q e
   simp only[Z2,q,if_false]at m
   exact .inr ⟨k,(hO k hk).1,⟨u,e1⟩,m⟩
theorem ZiH{c:Ctx}{ρ:Lc}{σ:TL}{H:Hp}{Φ:Nat→List Nat}{x a:Nat}{t:T}(s:St c O ρ σ H Φ)(hx:x∈O)(ex:σ x=some t)(ha:a∈Φ x): a≠0:=by
 have:=s.pos
 rcases(s.own x hx t ex).2.1 a ha with q | q
 ·omega
 ·exact fun e=>s.f0 (e▸q)
noncomputable def Zgn(w:T)(ts:List T): Option (List T):=if ts.length<LEN then some (ts++[w])else none
noncomputable def Zgo(k:Int)(w:T)(ts:List T): Option (List T):=if 0≤k∧k<ts.length then some (ts.set k.toNat w)else none
noncomputable def ZbZ(x:Nat)(N:List Nat)(po:PPa)(p:PE): PS:=fun σ=>(po σ).bind fun ks=>(p σ).bind fun w=>(σ x).bind fun t=>(ZcR (Zgn w) ks t).map fun t'=>(none,ZbS (ZI σ x t') N)
noncomputable def Zcj(x:Nat)(N:List Nat)(p:PE)(po:PPa)(pi:PE): PS:=fun σ=>(p σ).bind fun w=>(po σ).bind fun ks=>(pi σ).bind fun k=>match k with
 | .int k=>(σ x).bind fun t=>(ZcR (Zgo k w) ks t).map fun t'=>(none,ZbS (ZI σ x t') N)
 | _=>none
theorem Zee{H:Hp}(X:Hp): ∀{ks:List Int} {v w:V},follow H ks v=some w→follow (H++X) ks v=some w
 | [],_,_,h=>h
 | k::ks,v,w,h=>by
  obtain⟨⟨w1,K⟩,h1,h2⟩:=Zz0.mp h
  simp only[follow,(Zh4 h1 X).2,Option.bind_some]
  exact Zee X h2
theorem ZcP{x:Nat}{N:List Nat}{o e:Ex}{po:PPa}{p:PE}(hx:x∈O)(y:Pa O x o po)(z:E O N true e p)(hN:∀j∈N,j∈O∧j≠x)(hO:∀j∈O',j∈O∧j∉N): S O O' R fr (Zbl (Zcd o e)) (ZbZ x N po p):=fun c ρ σ H Φ r s q=>by
 obtain⟨ks,h1,q⟩:=Zz0.mp q
 obtain⟨w,h2,q⟩:=Zz0.mp q
 obtain⟨t,h3,q⟩:=Zz0.mp q
 obtain⟨t',h4,q⟩:=Zz1.mp q
 subst q
 obtain⟨v,ev,rv⟩:=s.slot x t h3
 have hlow:∀k t,σ k=some t→∀a∈Φ k,a<H.length:=fun k t e a m=>by
  obtain⟨_,_,r⟩:=s.slot k t e
  exact r.lt a m
 obtain⟨o1,o2,o3⟩:=s.own x hx t h3
 obtain⟨a,vs0,ts0,ts0',G0,l0,_⟩:=ZdP (Gn:=[]) ks rv o1 (by simp) h4
 obtain⟨X,a1⟩:=y c ρ σ H Φ ks v (.ref a) s h1 ev l0.follow
 obtain⟨vw,Y,Fw,b1,b2,b3,b4⟩:=z c ρ σ (H++X) Φ w (s.ext X) h2
 have s2:=(s.ext X).ext Y
 have rv2:RF (H++X++Y) v t (Φ x):=(rv.ext X).ext Y
 have hFw:∀a∈Fw,H.length≤a∨∃j∈N,(∃t,σ j=some t)∧a∈Φ j:=fun a m=>(b3 a m).back
 have dsj:∀a∈Fw,a∉Φ x:=fun a m q=>by
  rcases hFw a m with h | ⟨j,hj,⟨tj,ej⟩,mj⟩
  ·have:=hlow x t h3 a q;omega
  ·exact o3 j tj (hN j hj).2 ej a q mj
 obtain⟨a',vs,ts,ts',G,l,am,ea,hs,hf,gn,na,gs,go⟩:=ZdP (Gn:=Fw) ks rv2 o1 dsj h4
 have haa:a'=a:=by
  have f2:=Zee Y (Zee X l0.follow)
  rw[l.follow]at f2
  cases f2
  rfl
 subst haa
 unfold Zgn at hf
 split at hf
 ·rename_i hl
  cases hf
  obtain⟨F',r',n',sub'⟩:=go (vs++[vw]) (G++Fw) (hs.snoc b2) (by
   rw[List.nodup_append]
   exact⟨gn,b4 rfl,fun y hy z hz e=>dsj z hz (e▸gs y hy)⟩) (fun m=>(Zz8.mp m).elim na fun m=>dsj _ m am) (fun y m=>List.mem_append.mp m)
  obtain⟨st,com⟩:=Zlh (O':=O') (b:=H.length) s2 hx h3 ev s.len hlow hFw hN am r' n' sub' hO
  refine⟨ρ,(H++X++Y).set a' (vs++[vw]),Z2 Φ x F',by simp,fun y hy hn=>?_,.inl ⟨rfl,?_,st,com⟩⟩
  ·have:a'≠y:=fun q=>hn ⟨x,hx,⟨t,h3⟩,q▸am⟩
   rw[List.getElem?_set_ne this,List.append_assoc,List.getElem?_append_left hy]
  ·simp only[Zbl,Zcd,a1,Option.bind_some,b1,Zeq,ea]
   rw[if_pos ⟨ZiH s hx h3 am,by rw[hs.length];exact hl⟩]
   rfl
 ·cases hf
theorem S.put{x:Nat}{N M:List Nat}{u:Bool}{o e i:Ex}{po:PPa}{p pi:PE}(hx:x∈O)(z:E O N true e p)(y:Pa O x o po)(zi:E O M u i pi)(hN:∀j∈N,j∈O∧j≠x)(hO:∀j∈O',j∈O∧j∉N): S O O' R fr (Zcu e o i) (Zcj x N p po pi):=fun c ρ σ H Φ r s q=>by
 obtain⟨w,h2,q⟩:=Zz0.mp q
 obtain⟨ks,h1,q⟩:=Zz0.mp q
 obtain⟨tk,h5,q⟩:=Zz0.mp q
 cases tk <;> first | (cases q;done) | skip
 rename_i k
 obtain⟨t,h3,q⟩:=Zz0.mp q
 obtain⟨t',h4,q⟩:=Zz1.mp q
 subst q
 obtain⟨v,ev,rv⟩:=s.slot x t h3
 have hlow:∀k t,σ k=some t→∀a∈Φ k,a<H.length:=fun k t e a m=>by
  obtain⟨_,_,r⟩:=s.slot k t e
  exact r.lt a m
 obtain⟨o1,o2,o3⟩:=s.own x hx t h3
 obtain⟨vw,X,Fw,b1,b2,b3,b4⟩:=z c ρ σ H Φ w s h2
 obtain⟨a,vs0,ts0,ts0',G0,l0,_⟩:=ZdP (Gn:=[]) ks (rv.ext X) o1 (by simp) h4
 obtain⟨Y,a1⟩:=y c ρ σ (H++X) Φ ks v (.ref a) (s.ext X) h1 ev l0.follow
 obtain⟨vk,Z,Fk,d1,d2,d3,d4⟩:=zi c ρ σ (H++X++Y) Φ _ ((s.ext X).ext Y) h5
 cases d2
 have s2:=((s.ext X).ext Y).ext Z
 have rv2:RF (H++X++Y++Z) v t (Φ x):=((rv.ext X).ext Y).ext Z
 have hFw:∀a∈Fw,H.length≤a∨∃j∈N,(∃t,σ j=some t)∧a∈Φ j:=b3
 have dsj:∀a∈Fw,a∉Φ x:=fun a m q=>by
  rcases hFw a m with h | ⟨j,hj,⟨tj,ej⟩,mj⟩
  ·have:=hlow x t h3 a q;omega
  ·exact o3 j tj (hN j hj).2 ej a q mj
 obtain⟨a',vs,ts,ts',G,l,am,ea,hs,hf,gn,na,gs,go⟩:=ZdP (Gn:=Fw) ks rv2 o1 dsj h4
 have haa:a'=a:=by
  have f2:=Zee Z (Zee Y l0.follow)
  rw[l.follow]at f2
  cases f2
  rfl
 subst haa
 unfold Zgo at hf
 split at hf
 ·rename_i hl
  cases hf
  have hk:k.toNat<ts.length:=by omega
  obtain⟨v0,Gk,F1,F2,e0,r0,eG,rb⟩:=hs.split (List.getElem?_eq_getElem hk)
  have b2':RF (H++X++Y++Z) vw w Fw:=(b2.ext Y).ext Z
  have rs:=rb (H++X++Y++Z) vw w Fw b2' (fun _ _=>rfl) (fun _ _=>rfl)
  have sub0:∀a∈Fw,a∈Gk∨a∈Fw:=fun a m=>.inr m
  subst eG
  obtain⟨F',r',n',sub'⟩:=go _ _ rs (nd3 gn (b4 rfl) sub0 fun a m q=>dsj a m (gs a q)) (fun m=>by
   rcases in3 (G:=Gk) sub0 _ m with m | m
   ·exact na m
   ·exact dsj _ m am) (in3 sub0)
  obtain⟨st,com⟩:=Zlh (O':=O') (b:=H.length) s2 hx h3 ev s.len hlow hFw hN am r' n' sub' hO
  refine⟨ρ,(H++X++Y++Z).set a' (vs.set k.toNat vw),Z2 Φ x F',by simp,fun y hy hn=>?_,.inl ⟨rfl,?_,st,com⟩⟩
  ·have:a'≠y:=fun q=>hn ⟨x,hx,⟨t,h3⟩,q▸am⟩
   rw[List.getElem?_set_ne this,List.append_assoc,List.append_assoc,List.getElem?_append_left hy]
  ·simp only[Zcu,b1,Option.bind_some,a1,d1,Zjp,ea]
   rw[if_pos ⟨ZiH s hx h3 am,by rw[hs.length];exact hl⟩]
   rfl
 ·cases hf
noncomputable def Zdy(put:T→TL→Option TL)(b:PS): TL→List T→Option (Option T×TL)
 | σ,[]=>some (none,σ)
 | σ,t::ts=>(put t σ).bind fun σ1=>(b σ1).bind fun r=>match r.1 with
  | some _=>some r
  | none=>Zdy put b r.2 ts
noncomputable def ZaX(g:PG)(put:T→TL→Option TL)(b:PS): PS:=fun σ=>(g σ).bind fun ts=>Zdy put b σ ts
theorem Zim{J:List Nat}{put:V→Lc→Option Lc}{pput:T→TL→Option TL}{b:Sm}{qb:PS}(hj:PutOk O J put pput)(hJ:∀i∈J,i∉O)(hb:S O O R fr b qb){c:Ctx}{nx:Nx}{vs:List V}{G:List Nat}{H1:Hp}(hG:∀a∈G,a<H1.length)(hsrc:∀a∈G,c.H0.length≤a∨c.P a)(hnx:∀K:Hp,(∀a∈G,K[a]?=H1[a]?)→∀i,i≤vs.length→nx i K=some vs[i]?):
  ∀(rs:List T) (ws:List V) (i:Nat) (ρ:Lc) (σ:TL) (K:Hp) (Φ:Nat→List Nat) (Fr:List Nat) (r:Option T×TL),(∀j,vs[i+j]?=ws[j]?)→i+ws.length=vs.length→St c O ρ σ K Φ→H1.length≤K.length→(∀a∈G,K[a]?=H1[a]?)→(∀a∈G,¬Zb9 O σ Φ a)→RFs K ws rs Fr→(∀a∈Fr,a∈G)→Zdy pput qb σ rs=some r →
   Aft c O O R fr σ K Φ (ZcD nx put b (rs.length+1) i ρ K) r
 | [],ws,i,ρ,σ,K,Φ,Fr,r,hat,hlen,s,hl,hk,hoff,rr,hfr,h=>by
  cases rr
  cases h
  have e:=hnx K hk i (by simp at hlen;omega)
  have e2:vs[i]?=none:=by have:=hat 0;simpa using this
  exact⟨ρ,K,Φ,Nat.le_refl _,fun _ _ _=>rfl,.inl ⟨rfl,by simp[ZcD,e,e2],s,fun a m=>.inr m⟩⟩
 | t::rs,ws0,i,ρ,σ,K,Φ,Fr0,r,hat,hlen,s,hl,hk,hoff,rr,hfr,h=>by
  cases rr with
  | @cons v _ F1 ws _ F2 a b'=>
  simp only[List.length_cons]at hlen
  obtain⟨σ1,h1,h⟩:=Zz0.mp h
  obtain⟨r1,h2,h⟩:=Zz0.mp h
  have e:=hnx K hk i (by omega)
  have e2:vs[i]?=some v:=by have:=hat 0;simpa using this
  have hat':∀j,vs[i+1+j]?=ws[j]?:=fun j=>by have:=hat (j+1);rw[show i+1+j=i+(j+1)by omega,this];simp
  obtain⟨ρ1,Φ1,p1,s1,p3,p4⟩:=hj c ρ σ K Φ v t F1 σ1 s a (fun x m=>hsrc x (hfr x (Zz4 _ m))) (fun k hk t' e x m q=>hoff x (hfr x (Zz4 _ q)) ⟨k,hk,⟨t',e⟩,m⟩) h1
  have hh:∀x,Zb9 O σ1 Φ1 x→Zb9 O σ Φ x:=fun x ⟨k,hk,⟨t',e⟩,m⟩=>by
   obtain⟨q1,q2⟩:=p3 k fun q=>hJ k q hk
   exact⟨k,hk,⟨t',q1▸e⟩,q2▸m⟩
  obtain⟨ρ2,K2,Φ2,g1,g2,g3⟩:=hb c ρ1 σ1 K Φ1 r1 s1 h2
  have estep:ZcD nx put b ((t::rs).length+1) i ρ K=(b ρ1 K).bind fun q=>match q.1 with
    | some _=>some q
    | none=>ZcD nx put b (rs.length+1) (i+1) q.2.1 q.2.2:=by
   rw[List.length_cons]
   show(nx i K).bind _=_
   rw[e,e2]
   first | (simp only[Option.bind_some,p1];done) | (simp only[Option.bind_some,p1];rfl)
  rcases g3 with⟨k1,k2,k3,k4⟩ | ⟨t',v',F',k1,k2,k3⟩
  ·rw[k1]at h
   have hG2:∀a∈G,K2[a]?=K[a]?:=fun x m=>g2 x (by have:=hG x m;omega) fun q=>hoff x m (hh x q)
   have hoff2:∀a∈G,¬Zb9 O r1.2 Φ2 a:=fun x m q=>by
    rcases k4 x q with q | q
    ·have:=hG x m;omega
    ·exact hoff x m (hh x q)
   have ih:=Zim hj hJ hb hG hsrc hnx rs ws (i+1) ρ2 r1.2 K2 Φ2 F2 r hat' (by omega) k3 (by omega) (fun x m=>(hG2 x m).trans (hk x m)) hoff2 (b'.frame fun x m=>hG2 x (hfr x (Zz3 _ m))) (fun x m=>hfr x (Zz3 _ m)) h
   rw[estep,k2]
   simp only[Option.bind_some]
   obtain⟨ρ3,K3,Φ3,l1,l2,l3⟩:=ih
   refine⟨ρ3,K3,Φ3,by omega,fun x hx hn=>?_,?_⟩
   ·rw[l2 x (by omega) fun q=>(k4 x q).elim (fun q=>by omega) fun q=>hn (hh x q),g2 x hx fun q=>hn (hh x q)]
   ·rcases l3 with⟨m1,m2,m3,m4⟩ | l
    ·refine .inl ⟨m1,m2,m3,fun x q=>?_⟩
     rcases m4 x q with q | q
     ·exact .inl (by omega)
     ·exact(k4 x q).imp id (hh x)
    ·exact .inr l
  ·rw[k1]at h
   cases h
   refine⟨ρ2,K2,Φ2,g1,fun x hx hn=>g2 x hx fun q=>hn (hh x q),.inr ⟨t',v',F',k1,?_,k3⟩⟩
   rw[estep,k2]
   rfl
theorem ZbT{J Ns:List Nat}{g:Src}{q:PG}{put:V→Lc→Option Lc}{pput:T→TL→Option TL}{b:Sm}{qb:PS}(hg:Gs O Ns g q)(hj:PutOk O J put pput)(hJ:∀i∈J,i∉O)(hN:∀i∈Ns,i∉O)(hb:S O O R fr b qb): S O O R fr (ZaW g put b) (ZaX q pput qb):=fun c ρ σ H Φ r s h=>by
 obtain⟨ts,h1,h⟩:=Zz0.mp h
 obtain⟨nx,X,vs,F,G,g1,g2,g3,g4,g5⟩:=hg c ρ σ H Φ ts s h1
 have:=Zim hj hJ hb (H1:=H++X) (fun a m=>(g4 a m).1) (fun a m=>s.from_src (g4 a m).2) g5 ts vs 0 ρ σ (H++X) Φ F r (by simp) (by simp) (s.ext X) (Zz10 _) (fun _ _=>rfl) (fun a m ⟨k,hk,⟨t,e⟩,q⟩=>s.from_off hN (g4 a m).2 hk e q) g2 g3 h
 have eg:ZaW g put b ρ H=ZcD nx put b (ts.length+1) 0 ρ (H++X):=by simp only[ZaW,g1,Option.bind_some]
 rw[eg]
 exact this.grow
noncomputable def Zc6(t:PB)(b:PS): Nat→PS
 | 0=>fun _=>none
 | n+1=>fun σ=>(t σ).bind fun p=>if p then(b σ).bind fun q=>(match q.1 with
   | some _=>some q
   | none=>Zc6 t b n q.2)else some (none,σ)
theorem ZiI{t:Ts}{pt:PB}{b:Sm}{qb:PS}(z:Bt O t pt)(y:S O O R fr b qb): ∀n,S O O R fr (ZcK t b n) (Zc6 pt qb n)
 | 0=>fun c ρ σ H Φ r s h=>by cases h
 | n+1=>fun c ρ σ H Φ r s h=>by
  obtain⟨p,h1,h⟩:=Zz0.mp h
  obtain⟨X,a1⟩:=z c ρ σ H Φ p s h1
  cases p with
  | false=>
   cases h
   exact⟨ρ,H++X,Φ,by simp,fun a ha _=>List.getElem?_append_left ha,.inl ⟨rfl,by simp[ZcK,a1],s.ext X,fun a m=>.inr m⟩⟩
  | true=>
   simp only[if_true]at h
   obtain⟨r1,h2,h⟩:=Zz0.mp h
   have b1:=(y c ρ σ (H++X) Φ r1 (s.ext X) h2).grow
   have eg:ZcK t b (n+1) ρ H=(b ρ (H++X)).bind fun q=>(match q.1 with
    | some _=>some q
    | none=>ZcK t b n q.2.1 q.2.2):=by
    show(t ρ H).bind _=_
    rw[a1]
    rfl
   rw[eg]
   obtain⟨ρ1,H1,Φ1,g1,g2,g3⟩:=b1
   rcases g3 with⟨k1,k2,k3,k4⟩ | ⟨t',v',F',k1,k2,k3⟩
   ·rw[k1]at h
    obtain⟨ρ3,K3,Φ3,l1,l2,l3⟩:=ZiI z y n c ρ1 r1.2 H1 Φ1 r k3 h
    rw[k2]
    simp only[Option.bind_some]
    refine⟨ρ3,K3,Φ3,by omega,fun x hx hn=>?_,?_⟩
    ·rw[l2 x (by omega) fun q=>(k4 x q).elim (fun q=>by omega) hn,g2 x hx hn]
    ·rcases l3 with⟨m1,m2,m3,m4⟩ | l
     ·refine .inl ⟨m1,m2,m3,fun x q=>?_⟩
      rcases m4 x q with q | q
      ·exact .inl (by omega)
      ·exact k4 x q
     ·exact .inr l
   ·rw[k1]at h
    cases h
    exact⟨ρ1,H1,Φ1,g1,g2,.inr ⟨t',v',F',k1,by rw[k2];rfl,k3⟩⟩
end
noncomputable def Z6(n:Nat)(q:PS): List T→Option T:=fun ts=>if ts.length=n then(q fun i=>ts[i]?).map fun r=>r.1.getD .none else none
theorem RFs.slots{H:Hp}: ∀{vs:List V} {ts:List T} {F:List Nat},RFs H vs ts F→∃Φ:Nat→List Nat,∀i t,ts[i]?=some t→∃v,vs[i]?=some v∧RF H v t (Φ i)∧∀a∈Φ i,a∈F
 | _,_,_,.nil=>⟨fun _=>[],fun i t e=>by simp at e⟩
 | _,_,_,.cons (F:=F1) a b=>by
  obtain⟨Φ,h⟩:=b.slots
  refine⟨fun i=>match i with | 0=>F1 | i+1=>Φ i,fun i t e=>?_⟩
  cases i with
  | zero=>simp at e;subst e;exact⟨_,by simp,a,fun x m=>List.mem_append_left _ m⟩
  | succ i=>
   simp at e
   obtain⟨v,h1,h2,h3⟩:=h i t e
   exact⟨v,by simpa using h1,h2,fun x m=>List.mem_append_right _ (h3 x m)⟩
theorem ZjX{H H':Hp}(hl:H.length≤H'.length)(h:∀a,a<H.length→H'[a]?=H[a]?): H'=H++H'.drop H.length:=by
 conv=>lhs;rw[←List.take_append_drop H.length H']
 congr 1
 refine List.ext_getElem? fun i=>?_
 by_cases q:i<H.length
 ·rw[List.getElem?_take_of_lt q,h i q]
 ·rw[List.getElem?_eq_none (by simp;omega),List.getElem?_eq_none (by omega)]
theorem Zaf{O':List Nat}{fr:Bool}{n:Nat}{g:Sm}{q:PS}(h:S [] O' [] fr g q): SimF fr (ZX n g) (Z6 n q):=fun H vs ts t F1 hp r e=>by
 unfold Z6 at e
 split at e
 ·rename_i hl
  obtain⟨r1,e1,e2⟩:=Zz1.mp e
  obtain⟨Φ,hΦ⟩:=r.slots
  have st:St ⟨H,[],fun a=>a∈F1⟩ [] (fun i=>vs[i]?) (fun i=>ts[i]?) H Φ:=
   ⟨(fun i t e=>by obtain⟨v,h1,h2,_⟩:=hΦ i t e;exact⟨v,h1,h2⟩),fun i t e a m=>(by obtain⟨v,h1,h2,h3⟩:=hΦ i t e;exact .inr (h3 a m)),(fun i hi=>nomatch hi),Nat.le_refl _,fun a _ _=>rfl,hp,by simp⟩
  obtain⟨ρ',H',Φ',h1,h2,h3⟩:=h _ _ _ _ _ _ st e1
  rcases h3 with⟨k1,k2,k3,k4⟩ | ⟨t',v',F',k1,k2,k3,k4,k5,k6⟩
  ·have eh:=ZjX k3.len fun a ha=>k3.keep a ha (by simp)
   refine⟨.none,H'.drop H.length,[],?_,?_,by simp,by simp⟩
   ·have hv:vs.length=n:=r.length.trans hl
    simp only[ZX,hv,if_true,k2,Option.map_some,Option.getD_none]
    rw[←eh]
   ·rw[k1]at e2
    subst e2
    exact .none
  ·have eh:=ZjX k4.len fun a ha=>k4.keep a ha (by simp)
   refine⟨v',H'.drop H.length,F',?_,?_,k5,fun hf=>⟨(k6 hf).1,fun a m=>((k6 hf).2 a m).elim id fun q=>by cases q⟩⟩
   ·have hv:vs.length=n:=r.length.trans hl
    simp only[ZX,hv,if_true,k2,Option.map_some,Option.getD_some]
    rw[←eh]
   ·rw[k1]at e2
    subst e2
    rw[←eh]
    exact k3
 ·cases e
theorem Znc{f:List V→Hp→Option (V×Hp)}{p:List T→Option T}{fr:Bool}(h:SimF fr f p)(ns:List Int)(e:p [.lst (ns.map T.int)]=some (.bool true)): ∃H',f [.ref 0] [ns.map V.int]=some (.bool true,H'):=by
 have intsAre:∀l:List Int,RFs [ns.map V.int] (l.map V.int) (l.map T.int) []:=fun l=>by
  induction l with
  | nil=>exact .nil
  | cons a l ih=>exact .cons (.int a) ih
 obtain⟨v,X,F,h1,h2,_⟩:=h [ns.map V.int] [.ref 0] [.lst (ns.map T.int)] _ _ (by simp) (.one (.ref rfl (intsAre ns))) e
 cases h2
 exact⟨_,h1⟩
end TM
end
section
set_option autoImplicit false
namespace TM
open PySem PM
section
variable {O Ns Ne J:List Nat}
theorem Zc4{u:Bool}{g:Src}{q:PG}{put:V→Lc→Option Lc}{pput:T→TL→Option TL}{tc:Ts}{pc:PB}{f:Ex}{pf:PE}(hg:Gs O Ns g q)(hj:PutOk O J put pput)(hN:∀i∈Ns,i∉O)(hc:Bt O tc pc)(hf:E O Ne u f pf): E O (Ns++Ne) false (ZaC g put tc f) (ZaA q pput pc pf):=
 Zlg hg hj hN hc hf.sh (by simp)
theorem Zdm{g:Src}{q:PG}{put:V→Lc→Option Lc}{pput:T→TL→Option TL}{tc:Ts}{pc:PB}{f:Ex}{pf:PE}(hg:Gs O Ns g q)(hj:PutOk O J put pput)(hN:∀i∈Ns,i∉O)(hc:Bt O tc pc)(hf:E O [] true f pf): E O [] true (ZaC g put tc f) (ZaA q pput pc pf):=
 Zlg hg hj hN hc hf (by simp)
end
end TM
end
section
set_option autoImplicit false
/-! Forward reckoning over trees. -/
namespace TM
open PySem PM
noncomputable def dec(P:Prop): Bool:=@decide P (Classical.propDecidable P)
theorem dec_iff{P:Prop}: dec P=true↔P:=by unfold dec;exact @decide_eq_true_iff P (Classical.propDecidable P)
theorem Zbv{P:Prop}(h:P): dec P=true:=dec_iff.mpr h
theorem Zc9{P:Prop}(h:¬P): dec P=false:=by
 cases e:dec P with
 | true=>exact absurd (dec_iff.mp e) h
 | false=>rfl
theorem Zh5{P Q:Prop}(h:P↔Q): dec P=dec Q:=by
 by_cases p:P
 ·rw[Zbv p,Zbv (h.mp p)]
 ·rw[Zc9 p,Zc9 fun q=>p (h.mpr q)]
theorem Zi4{P:Prop}{b:Bool}(h:b=true↔P): dec P=b:=by
 cases b with
 | true=>exact Zbv (h.mp rfl)
 | false=>exact Zc9 fun p=>by simpa using h.mpr p
theorem Zfj{P:Prop}[i:Decidable P]: decide P=dec P:=by
 unfold dec;congr
noncomputable def tab{α:Type}(n:Nat)(f:Nat→α): List α:=(List.range n).map f
theorem Zat{α:Type}{n:Nat}{f:Nat→α}: (tab n f).length=n:=by simp[tab]
theorem Zbu{α:Type}{n:Nat}{f:Nat→α}{i:Nat}(h:i<n): (tab n f)[i]?=some (f i):=by simp[tab,h]
theorem Zpy{α:Type}{n:Nat}{f:Nat→α}{i:Nat}(h:n≤i): (tab n f)[i]?=none:=by simp[tab,h]
theorem Zdl{α:Type}{n:Nat}{f:Nat→α}: tab n f++[f n]=tab (n+1) f:=by simp[tab,List.range_succ]
theorem ZfI{α:Type}{n:Nat}{xs:List α}{f:Nat→α}(hl:xs.length=n)(h:∀i,i<n→xs[i]?=some (f i)): xs=tab n f:=by
 refine List.ext_getElem? fun i=>?_
 by_cases q:i<n
 ·rw[h i q,Zbu q]
 ·rw[List.getElem?_eq_none (by omega),Zpy (by omega)]
theorem ZbG{α:Type}{n:Nat}{f g:Nat→α}(h:∀i,i<n→f i=g i): tab n f=tab n g:=by
 refine ZfI Zat fun i hi=>?_
 rw[Zbu hi,h i hi]
theorem ZiJ{α:Type}{n k:Nat}{f:Nat→α}{v:α}: (tab n f).set k v=tab n fun i=>if i=k then v else f i:=by
 refine ZfI (by rw[List.length_set,Zat]) fun i hi=>?_
 by_cases q:i=k
 ·subst q
  rw[List.getElem?_set_self (by rw[Zat];exact hi),if_pos rfl]
 ·rw[List.getElem?_set_ne (Ne.symm q),Zbu hi,if_neg q]
theorem tab_map{α β:Type}{n:Nat}{f:Nat→α}{g:α→β}: (tab n f).map g=tab n fun i=>g (f i):=by simp[tab]
noncomputable def cn{α:Type}(a:α)(f:Nat→α): Nat→α
 | 0=>a
 | i+1=>f i
theorem ZnK{α:Type}{n:Nat}{a:α}{f:Nat→α}: a::tab n f=tab (n+1) (cn a f):=by
 refine ZfI (by rw[List.length_cons,Zat]) fun i hi=>?_
 cases i with
 | zero=>rfl
 | succ i=>rw[List.getElem?_cons_succ,Zbu (by omega)];rfl
theorem ZiK{α β γ:Type}{n m:Nat}{f:Nat→α}{g:Nat→β}{h:α→β→γ}: List.zipWith h (tab n f) (tab m g)=tab (min n m) fun i=>h (f i) (g i):=by
 refine ZfI (by rw[List.length_zipWith,Zat,Zat]) fun i hi=>?_
 rw[List.getElem?_zipWith,Zbu (show i<n by omega),Zbu (show i<m by omega)]
noncomputable def Pk(c:Option T)(Q:T→Prop): Prop:=∃t,c=some t∧Q t
noncomputable def Pl(c:Option (List T))(Q:List T→Prop): Prop:=∃t,c=some t∧Q t
noncomputable def Pb(c:Option Bool)(Q:Bool→Prop): Prop:=∃t,c=some t∧Q t
noncomputable def Psk(c:Option (Option T×TL))(R:T→Prop)(N:TL→Prop): Prop:=∃o σ,c=some (o,σ)∧(∀t,o=some t→R t)∧(o=none→N σ)
theorem ZP{c:Option T}{Q:T→Prop}{t:T}(h:c=some t)(k:Q t): Pk c Q:=⟨t,h,k⟩
theorem Pk.eq{c:Option T}{t:T}(h:Pk c fun v=>v=t): c=some t:=by obtain⟨v,e,rfl⟩:=h;exact e
theorem Pk.mono{c:Option T}{Q Q':T→Prop}(h:Pk c Q)(k:∀t,Q t→Q' t): Pk c Q':=by obtain⟨v,e,q⟩:=h;exact⟨v,e,k v q⟩
section
variable {σ:TL} {Q:T→Prop} {L:List T→Prop} {B:Bool→Prop} {R:T→Prop} {N:TL→Prop}
theorem Zpz{k:Int}(h:Q (.int k)): Pk (Zk k σ) Q:=⟨_,rfl,h⟩
theorem ZpA(h:Q .none): Pk (ZZ σ) Q:=⟨_,rfl,h⟩
theorem Zow{k:Bool}(h:Q (.bool k)): Pk (Zbp k σ) Q:=⟨_,rfl,h⟩
theorem ZpB{i:Nat}{t:T}(e:σ i=some t)(h:Q t): Pk (Zb i σ) Q:=⟨_,e,h⟩
theorem ZpC{q:T→T→Option T}{f g:PE}(h:Pk (f σ) fun x=>Pk (g σ) fun y=>Pk (q x y) Q): Pk (Ze q f g σ) Q:=by
 obtain⟨x,a,y,b,z,c,k⟩:=h
 exact⟨z,by simp only[Ze,a,b,Option.bind_some,c],k⟩
theorem Zqr{q:T→Option T}{f:PE}(h:Pk (f σ) fun x=>Pk (q x) Q): Pk (pUn q f σ) Q:=by
 obtain⟨x,a,z,c,k⟩:=h
 exact⟨z,by simp only[pUn,a,Option.bind_some,c],k⟩
theorem Zox{q:List T→Option T}{f:PEs}(h:Pl (f σ) fun x=>Pk (q x) Q): Pk (Zt q f σ) Q:=by
 obtain⟨x,a,z,c,k⟩:=h
 exact⟨z,by simp only[Zt,a,Option.bind_some,c],k⟩
theorem ZpD(h:L []): Pl (Zm σ) L:=⟨_,rfl,h⟩
theorem Zoy{f:PE}{g:PEs}(h:Pk (f σ) fun x=>Pl (g σ) fun xs=>L (x::xs)): Pl (Zg f g σ) L:=by
 obtain⟨x,a,y,b,k⟩:=h
 exact⟨_,by simp only[Zg,a,b,Option.bind_some],k⟩
theorem ZpE{g:PEs}(h:Pl (g σ) fun xs=>Q (.tup xs)): Pk (ZaJ g σ) Q:=by
 obtain⟨x,a,k⟩:=h;exact⟨_,by simp only[ZaJ,a,Option.map_some],k⟩
theorem Zoz{g:PEs}(h:Pl (g σ) fun xs=>Q (.lst xs)): Pk (ZbR g σ) Q:=by
 obtain⟨x,a,k⟩:=h;exact⟨_,by simp only[ZbR,a,Option.map_some],k⟩
theorem ZoA{f:PE}(h:Pk (f σ) fun t=>t.flat=true∧Q t): Pk (Zbg f σ) Q:=by
 obtain⟨x,a,b,k⟩:=h;exact⟨_,by simp only[Zbg,a,Option.bind_some,b,if_true],k⟩
theorem Zqs{f:PE}(h:Pk (f σ) fun t=>t.flatIn=true∧Q t): Pk (pFl f σ) Q:=by
 obtain⟨x,a,b,k⟩:=h;exact⟨_,by simp only[pFl,a,Option.bind_some,b,if_true],k⟩
theorem Zqt{b:PB}{f g:PE}(h:Pb (b σ) fun x=>(x=true→Pk (f σ) Q)∧(x=false→Pk (g σ) Q)): Pk (pIf b f g σ) Q:=by
 obtain⟨x,a,h1,h2⟩:=h
 cases x with
 | true=>obtain⟨t,c,q⟩:=h1 rfl;exact⟨t,by simp[pIf,a,c],q⟩
 | false=>obtain⟨t,c,q⟩:=h2 rfl;exact⟨t,by simp[pIf,a,c],q⟩
theorem ZpF{f:PE}(h:Pk (f σ) fun x=>Pb (Zbo x) fun b=>Q (.bool (!b))): Pk (Zgl f σ) Q:=by
 obtain⟨x,a,b,e,q⟩:=h;exact⟨_,by simp only[Zgl,a,Option.bind_some,e,Option.map_some],q⟩
theorem ZpG{f g:PE}(h:Pk (f σ) fun x=>Pb (Zbo x) fun b=>(b=true→Pk (g σ) Q)∧(b=false→Q x)): Pk (ZcS f g σ) Q:=by
 obtain⟨x,a,b,e,h1,h2⟩:=h
 cases b with
 | true=>obtain⟨t,c,q⟩:=h1 rfl;exact⟨t,by simp[ZcS,a,e,c],q⟩
 | false=>exact⟨x,by simp[ZcS,a,e],h2 rfl⟩
theorem Zqu{f g:PE}(h:Pk (f σ) fun x=>Pb (Zbo x) fun b=>(b=true→Q x)∧(b=false→Pk (g σ) Q)): Pk (pOr f g σ) Q:=by
 obtain⟨x,a,b,e,h1,h2⟩:=h
 cases b with
 | false=>obtain⟨t,c,q⟩:=h2 rfl;exact⟨t,by simp[pOr,a,e,c],q⟩
 | true=>exact⟨x,by simp[pOr,a,e],h1 rfl⟩
theorem Zqv{K:String}{f:PE}(h:Pk (f σ) fun x=>Q (.bool (ZfH K x))): Pk (pIs K f σ) Q:=by
 obtain⟨x,a,q⟩:=h;exact⟨_,by simp only[pIs,a,Option.map_some],q⟩
theorem ZpH{f:PE}(h:Pk (f σ) fun x=>Pb (Zbo x) B): Pb (ZG f σ) B:=by
 obtain⟨x,a,b,e,q⟩:=h;exact⟨_,by simp only[ZG,a,Option.bind_some,e],q⟩
theorem ZoB{f:PB}(h:Pb (f σ) fun b=>B (!b)): Pb (Zbm f σ) B:=by
 obtain⟨x,a,q⟩:=h;exact⟨_,by simp only[Zbm,a,Option.map_some],q⟩
theorem ZoC(h:B true): Pb (Zaj σ) B:=⟨_,rfl,h⟩
theorem ZnL(h:B false): Pb (ZbI σ) B:=⟨_,rfl,h⟩
theorem ZoD{f g:PB}(h:Pb (f σ) fun b=>(b=true→Pb (g σ) B)∧(b=false→B false)): Pb (Za9 f g σ) B:=by
 obtain⟨x,a,h1,h2⟩:=h
 cases x with
 | true=>obtain⟨t,c,q⟩:=h1 rfl;exact⟨t,by simp[Za9,a,c],q⟩
 | false=>exact⟨_,by simp[Za9,a],h2 rfl⟩
theorem ZpI{f g:PB}(h:Pb (f σ) fun b=>(b=true→B true)∧(b=false→Pb (g σ) B)): Pb (bOr f g σ) B:=by
 obtain⟨x,a,h1,h2⟩:=h
 cases x with
 | false=>obtain⟨t,c,q⟩:=h2 rfl;exact⟨t,by simp[bOr,a,c],q⟩
 | true=>exact⟨_,by simp[bOr,a],h1 rfl⟩
theorem ZmC{b:Bool}(h:B b): Pb (Zbo (.bool b)) B:=⟨_,rfl,h⟩
theorem ZkT(h:N σ): Psk (Z4 σ) R N:=⟨_,_,rfl,by simp,fun _=>h⟩
theorem ZpJ{f:PE}(h:Pk (f σ) R): Psk (ZF f σ) R N:=by
 obtain⟨x,a,q⟩:=h;exact⟨some x,σ,by simp only[ZF,a,Option.map_some],fun t e=>by cases e;exact q,by simp⟩
theorem ZpK{i:Nat}{f:PE}(h:Pk (f σ) fun t=>N (ZI σ i t)): Psk (ZO i f σ) R N:=by
 obtain⟨x,a,q⟩:=h;exact⟨none,ZI σ i x,by simp only[ZO,a,Option.map_some],by simp,fun _=>q⟩
theorem ZpL{a b:PS}(h:Psk (a σ) R fun σ1=>Psk (b σ1) R N): Psk (Zu a b σ) R N:=by
 obtain⟨o,σ1,e,h1,h2⟩:=h
 cases o with
 | some t=>exact⟨some t,σ1,by simp only[Zu,e,Option.bind_some],h1,by simp⟩
 | none=>
  obtain⟨o2,σ2,e2,k1,k2⟩:=h2 rfl
  exact⟨o2,σ2,by simp only[Zu,e,Option.bind_some,e2],k1,k2⟩
theorem ZpM{b:PB}{f g:PS}(h:Pb (b σ) fun x=>(x=true→Psk (f σ) R N)∧(x=false→Psk (g σ) R N)): Psk (ZV b f g σ) R N:=by
 obtain⟨x,a,h1,h2⟩:=h
 cases x with
 | true=>obtain⟨o,s,c,q⟩:=h1 rfl;exact⟨o,s,by simp[ZV,a,c],q⟩
 | false=>obtain⟨o,s,c,q⟩:=h2 rfl;exact⟨o,s,by simp[ZV,a,c],q⟩
theorem ZpN{n:Nat}{q:PS}{ts:List T}(hn:ts.length=n)(h:Psk (q fun i=>ts[i]?) Q fun _=>Q .none): Pk (Z6 n q ts) Q:=by
 obtain⟨o,s,e,h1,h2⟩:=h
 cases o with
 | some t=>exact⟨t,by simp only[Z6,hn,if_true,e,Option.map_some,Option.getD_some],h1 t rfl⟩
 | none=>exact⟨.none,by simp only[Z6,hn,if_true,e,Option.map_some,Option.getD_none],h2 rfl⟩
theorem ZpO{b:Bool}{A C:Prop}(h:b=true)(k:A): (b=true→A)∧(b=false→C):=⟨fun _=>k,fun e=>(by rw[h]at e;cases e)⟩
theorem ZpP{b:Bool}{A C:Prop}(h:b=false)(k:C): (b=true→A)∧(b=false→C):=⟨fun e=>(by rw[h]at e;cases e),fun _=>k⟩
theorem ZpQ{a b:Int}(h:Q (.int (a+b))): Pk (Zal (.int a) (.int b)) Q:=⟨_,rfl,h⟩
theorem ZpR{a b:Int}(h:Q (.int (a-b))): Pk (ZbX (.int a) (.int b)) Q:=⟨_,rfl,h⟩
theorem ZpS{a:Int}(h:Q (.int (-a))): Pk (ZdZ (.int a)) Q:=⟨_,rfl,h⟩
theorem Zqw{a b:Int}(h:Q (.bool (decide (a<b)))): Pk (qLt (.int a) (.int b)) Q:=⟨_,rfl,h⟩
theorem Zqx{a b:Int}(h:Q (.bool (decide (a≤b)))): Pk (qLe (.int a) (.int b)) Q:=⟨_,rfl,h⟩
theorem Zqy{a b:Int}(h:Q (.bool (decide (b<a)))): Pk (qGt (.int a) (.int b)) Q:=⟨_,rfl,h⟩
theorem ZpT{a b:Int}(hb:b≠0)(h:Q (.int (a.fmod b))): Pk (ZaO (.int a) (.int b)) Q:=⟨_,by simp only[ZaO];rw[if_pos hb],h⟩
theorem ZdR{a b:Int}(hb:b≠0)(hd:Builtin.divisionGoesByPylong a b=false)(h:Q (.int (a.fdiv b))): Pk (ZcE (.int a) (.int b)) Q:=⟨_,by simp only[ZcE];rw[if_pos ⟨hb,hd⟩],h⟩
theorem Zco{a b:Int}(hm:mulOk a b=true)(h:Q (.int (a*b))): Pk (ZaK (.int a) (.int b)) Q:=⟨_,by simp only[ZaK];rw[if_pos hm],h⟩
theorem ZpU{a:Int}(h:Q (.int (if a<0 then -a else a))): Pk (Zdg [.int a]) Q:=⟨_,rfl,h⟩
theorem ZkU(a b:Int): Zdf (.int a) (.int b)=some (decide (a=b)):=by
 simp[Zdf,Zb7,SeqAt.shaped,PyData.canLay0,PyData.depth,PyData.eqv]
 by_cases h:a=b <;> simp[h]
theorem Zqz{a b:Int}(h:Q (.bool (decide (a=b)))): Pk (qEq (.int a) (.int b)) Q:=⟨_,by simp only[qEq,ZkU,Option.map_some],h⟩
theorem ZqA{a b:Int}(h:Q (.bool (decide (a≠b)))): Pk (qNe (.int a) (.int b)) Q:=⟨.bool (decide (a≠b)),by simp only[qNe,ZkU,Option.map_some];simp,h⟩
theorem ZpV(h:Q (.bool true)): Pk (qIs .none .none) Q:=⟨_,rfl,h⟩
theorem ZpW{a:Int}(h:Q (.bool false)): Pk (qIs (.int a) .none) Q:=⟨_,rfl,h⟩
theorem ZpX{a:List T}(h:Q (.bool false)): Pk (qIs (.lst a) .none) Q:=⟨_,rfl,h⟩
theorem ZpY{a:List T}(h:Q (.bool false)): Pk (qIs (.tup a) .none) Q:=⟨_,rfl,h⟩
theorem ZoE(h:Q (.bool false)): Pk (ZbJ .none .none) Q:=⟨_,rfl,h⟩
theorem ZoF{a:Int}(h:Q (.bool true)): Pk (ZbJ (.int a) .none) Q:=⟨_,rfl,h⟩
theorem ZoG{a:List T}(h:Q (.bool true)): Pk (ZbJ (.tup a) .none) Q:=⟨_,rfl,h⟩
theorem ZoH{n:Nat}{f:Nat→T}(h:Q (.int n)): Pk (Zas [.lst (tab n f)]) Q:=⟨_,by simp only[Zas,Zat],h⟩
theorem ZpZ{ts:List T}(h:Q (.int ts.length)): Pk (Zas [.lst ts]) Q:=⟨_,rfl,h⟩
theorem ZoI{ts:List T}(h:Q (.int ts.length)): Pk (Zas [.tup ts]) Q:=⟨_,rfl,h⟩
theorem ZeN{k:Int}{n:Nat}(h0:0≤k)(h1:k<n): seqIndex? k n=some k.toNat:=by
 unfold seqIndex?
 have:¬k<0:=by omega
 simp[this]
 omega
theorem ZoJ{n i:Nat}{f:Nat→T}(hi:i<n)(h:Q (f i)): Pk (Zv (.lst (tab n f)) (.int (i:Nat))) Q:=⟨_,by
 simp only[Zv,Zat,ZeN (show(0:Int)≤(i:Int)by omega) (show(i:Int)<(n:Int)by omega),Option.bind_some,Int.toNat_natCast]
 exact Zbu hi,h⟩
theorem ZoK{n:Nat}{k:Int}{f:Nat→T}(h0:0≤k)(h1:k<n)(h:Q (f k.toNat)): Pk (Zv (.lst (tab n f)) (.int k)) Q:=⟨_,by
 simp only[Zv,Zat,ZeN h0 h1,Option.bind_some]
 exact Zbu (by omega),h⟩
theorem ZiL{ts:List T}{k:Int}{t:T}(h0:0≤k)(e:ts[k.toNat]?=some t)(h:Q t): Pk (Zv (.lst ts) (.int k)) Q:=⟨_,by
 simp only[Zv]
 rw[ZeN h0 (by have:=(Zz6.mp e).1;omega)]
 exact e,h⟩
theorem ZoL{ts:List T}{k:Int}{t:T}(h0:0≤k)(e:ts[k.toNat]?=some t)(h:Q t): Pk (Zv (.tup ts) (.int k)) Q:=⟨_,by
 simp only[Zv]
 rw[ZeN h0 (by have:=(Zz6.mp e).1;omega)]
 exact e,h⟩
theorem ZoM{n:Nat}{a:T}{f:Nat→T}(hn:n<10000)(h:Q (.lst (tab (n+1) (cn a f)))): Pk (Zal (.lst [a]) (.lst (tab n f))) Q:=⟨_,by
 simp only[Zal]
 rw[if_pos (by rw[Zbs,List.length_append,Zat];simp;omega),List.singleton_append,ZnK],h⟩
theorem ZnM{ts:List T}(h:Q (.lst ts)): Pk (ZcA [.lst ts]) Q:=⟨_,rfl,h⟩
theorem Znd{n:Nat}{f:Nat→Bool}: ZdQ (tab n fun i=>.bool (f i))=some (tab n f):=by
 have:∀l:List Bool,ZdQ (l.map T.bool)=some l:=fun l=>by
  induction l with
  | nil=>rfl
  | cons a l ih=>simp only[List.map_cons,ZdQ,ih,Option.map_some]
 rw[show(tab n fun i=>T.bool (f i))=(tab n f).map T.bool from tab_map.symm]
 exact this _
theorem Zp0{n:Nat}{P:Nat→Prop}(h:Q (.bool (dec (∃i,i<n∧P i)))): Pk (ZeS [.lst (tab n fun i=>.bool (dec (P i)))]) Q:=⟨_,by
 simp only[ZeS,Znd,Option.map_some]
 congr 2
 symm
 apply Zi4
 rw[List.any_eq_true]
 constructor
 ·rintro⟨x,hx,h⟩
  obtain⟨i,hi,e⟩:=List.getElem_of_mem hx
  rw[Zat]at hi
  have:=Zbu (f:=fun i=>dec (P i)) hi
  rw[List.getElem?_eq_getElem (by rw[Zat];exact hi)]at this
  rw[←e,Option.some.inj this]at h
  exact⟨i,hi,dec_iff.mp h⟩
 ·rintro⟨i,hi,h⟩
  exact⟨_,List.mem_of_getElem? (Zbu hi),Zbv h⟩,h⟩
noncomputable def SqP(x:T)(L:List T→Prop): Prop:=∃ts,(x=.lst ts∨x=.tup ts)∧L ts
theorem ZiM{f:PE}(h:Pk (f σ) fun t=>SqP t L): Pl (ZbN f σ) L:=by
 obtain⟨t,a,ts,rfl | rfl,q⟩:=h <;> exact⟨_,by simp only[ZbN,a,Option.bind_some],q⟩
theorem Sq.lst{ts:List T}(h:L ts): SqP (.lst ts) L:=⟨ts,.inl rfl,h⟩
theorem Sq.tup{ts:List T}(h:L ts): SqP (.tup ts) L:=⟨ts,.inr rfl,h⟩
theorem Zli{a b c:Int}{H:Hp}{z:Nx×Nat×Hp}(h:ZbH a b c H=some z): ZbD a b c=some ((List.range (rngN a b c)).map fun(i:Nat)=>.int (a+(i:Int)*c)):=by
 unfold ZbH at h
 split at h
 ·rename_i hc
  unfold ZbD
  rw[if_pos hc]
 ·cases h
theorem ZnN{n:Nat}(hn:n≤1000): ZbD 0 n 1=some (tab n fun i=>.int i):=by
 rw[Zli (Zpt (H:=[]) (b:=n) (by omega) (by omega))]
 have e:rngN 0 n 1=n:=by
  unfold rngN Builtin.Range.rangeSize
  by_cases q:(0:Int)<n
  ·rw[if_pos (by decide),if_pos (by omega)];omega
  ·rw[if_pos (by decide),if_neg (by omega)];omega
 rw[e]
 simp[tab]
theorem ZkV{a n:Nat}(ha:0<n)(hn:a+n≤1000): ZbD a (a+n) 1=some (tab n fun i=>.int (a+i)):=by
 rw[Zli (Zpu (H:=[]) (a:=a) (b:=a+n) (c:=1) (by omega) (by omega) (by omega) (by omega) (by omega))]
 have e:rngN a (a+n) 1=n:=by
  unfold rngN
  rw[Zlv (by omega) (by omega)]
  omega
 rw[e]
 simp[tab]
theorem ZoN{g:PEs}{b:Int}{o:Option (List T)}(e:g σ=some [.int b])(h:ZbD 0 b 1=o): ZaP g σ=o:=by
 subst h;unfold ZaP;rw[e];rfl
theorem Zet{g:PEs}{a b:Int}{o:Option (List T)}(e:g σ=some [.int a,.int b])(h:ZbD a b 1=o): ZaP g σ=o:=by
 subst h;unfold ZaP;rw[e];rfl
noncomputable def RnP(xs:List T)(L:List T→Prop): Prop:=(∃n:Nat,xs=[.int n]∧n≤1000∧L (tab n fun i=>.int i))∨∃(a:Nat) (n:Nat),xs=[.int a,.int (a+n)]∧0<n∧a+n≤1000∧L (tab n fun i=>.int (a+i))
theorem ZnO{g:PEs}(h:Pl (g σ) fun xs=>RnP xs L): Pl (ZaP g σ) L:=by
 obtain⟨xs,e,h⟩:=h
 rcases h with⟨n,h0,h1,q⟩ | ⟨a,n,h0,h1,h2,q⟩
 ·subst h0;exact⟨_,ZoN e (ZnN h1),q⟩
 ·subst h0;exact⟨_,Zet e (ZkV h1 h2),q⟩
theorem Rn.one{n:Nat}(hn:n≤1000)(h:L (tab n fun i=>.int i)): RnP [.int n] L:=.inl ⟨n,rfl,hn,h⟩
theorem Zjk{k:Int}(n:Nat)(e:k=n)(hn:n≤1000)(h:L (tab n fun i=>.int i)): RnP [.int k] L:=.inl ⟨n,by rw[e],hn,h⟩
theorem Rn.two{k l:Int}(a n:Nat)(e0:l=a)(e:k=a+n)(ha:0<n)(hn:a+n≤1000)(h:L (tab n fun i=>.int (a+i))): RnP [.int l,.int k] L:=.inr ⟨a,n,by rw[e,e0],ha,hn,h⟩
noncomputable def ZiP(x y:T)(L:List T→Prop): Prop:=∃xs ys,x=.lst xs∧y=.lst ys∧L (List.zipWith (fun a b=>.tup [a,b]) xs ys)
theorem Zp1{f g:PE}(h:Pk (f σ) fun x=>Pk (g σ) fun y=>ZiP x y L): Pl (Zd0 f g σ) L:=by
 obtain⟨x,a,y,b,xs,ys,rfl,rfl,q⟩:=h;exact⟨_,by simp only[Zd0,a,b,Option.bind_some],q⟩
theorem Zi.eq{n:Nat}{f g:Nat→T}(h:L (tab n fun i=>.tup [f i,g i])): ZiP (.lst (tab n f)) (.lst (tab n g)) L:=⟨_,_,rfl,rfl,by rw[ZiK,Nat.min_self];exact h⟩
theorem ZiN{put:T→TL→Option TL}{f:PE}: ∀{ts us:List T},us.length=ts.length→(∀(i:Nat) t u,ts[i]?=some t→us[i]?=some u→∃σ1,put t σ=some σ1∧f σ1=some u)→ZcO put Zaj f σ ts=some us
 | [],us,hl,_=>by cases us with
  | nil=>rfl
  | cons _ _=>simp at hl
 | t::ts,us,hl,k=>by
  cases us with
  | nil=>simp at hl
  | cons u us=>
   obtain⟨σ1,h1,h2⟩:=k 0 t u (by simp) (by simp)
   have:=ZiN (ts:=ts) (us:=us) (f:=f) (put:=put) (by simpa using hl) fun i t' u' h3 h4=>k (i+1) t' u' (by simpa using h3) (by simpa using h4)
   simp only[ZcO,h1,Zaj,Option.bind_some,if_true,h2,this,Option.map_some]
theorem Zce{g:PG}{j n:Nat}{a b:Nat→T}{f:PE}(hn:n<10000)(hg:Pl (g σ) fun ts=>ts=tab n a)(hf:∀i,i<n→Pk (f (ZI σ j (a i))) fun t=>t=b i)(h:Q (.lst (tab n b))): Pk (ZaA g (Zam j) Zaj f σ) Q:=by
 obtain⟨ts,e,rfl⟩:=hg
 refine⟨_,?_,h⟩
 simp only[ZaA,e,Option.bind_some,Zat]
 rw[if_pos (by rw[Zbs];omega),ZiN (us:=tab n b) (by rw[Zat,Zat]) fun i t u h1 h2=>?_]
 ·rfl
 ·have hi:i<n:=by have:=(Zz6.mp h1).1;rwa [Zat]at this
  rw[Zbu hi]at h1 h2
  cases h1;cases h2
  exact⟨_,rfl,(hf i hi).eq⟩
theorem Zkx{g:PG}{j k n:Nat}{a b c:Nat→T}{f:PE}(hn:n<10000)(hg:Pl (g σ) fun ts=>ts=tab n fun i=>.tup [a i,b i])(hf:∀i,i<n→Pk (f (ZI (ZI σ j (a i)) k (b i))) fun t=>t=c i)(h:Q (.lst (tab n c))): Pk (ZaA g (Zcr j k) Zaj f σ) Q:=by
 obtain⟨ts,e,rfl⟩:=hg
 refine⟨_,?_,h⟩
 simp only[ZaA,e,Option.bind_some,Zat]
 rw[if_pos (by rw[Zbs];omega),ZiN (us:=tab n c) (by rw[Zat,Zat]) fun i t u h1 h2=>?_]
 ·rfl
 ·have hi:i<n:=by have:=(Zz6.mp h1).1;rwa [Zat]at this
  rw[Zbu hi]at h1 h2
  cases h1;cases h2
  exact⟨_,rfl,(hf i hi).eq⟩
theorem ZfR{put:T→TL→Option TL}{b:PS}: ∀{ts:List T} (P:Nat→TL→Prop) {σ:TL},P 0 σ→(∀(i:Nat) t σ,ts[i]?=some t→P i σ→∃σ1,put t σ=some σ1∧Psk (b σ1) R (P (i+1)))→(∀σ,P ts.length σ→N σ)→Psk (Zdy put b σ ts) R N
 | [],P,σ,h0,_,h2=>⟨_,_,rfl,by simp,fun _=>h2 _ h0⟩
 | t::ts,P,σ,h0,h1,h2=>by
  obtain⟨σ1,e1,o,σ2,e2,k1,k2⟩:=h1 0 t σ (by simp) h0
  cases o with
  | some v=>exact⟨some v,σ2,by simp only[Zdy,e1,Option.bind_some,e2],k1,by simp⟩
  | none=>
   obtain⟨o3,σ3,e3,l1,l2⟩:=ZfR (ts:=ts) (fun i=>P (i+1)) (k2 rfl) (fun i t' σ' h3 h4=>h1 (i+1) t' σ' (by simpa using h3) h4) (fun σ' h=>h2 σ' (by simpa using h))
   exact⟨o3,σ3,by simp only[Zdy,e1,Option.bind_some,e2,e3],l1,l2⟩
theorem Zcp{g:PG}{j n:Nat}{a:Nat→T}{b:PS}(hg:Pl (g σ) fun ts=>ts=tab n a)(P:Nat→TL→Prop)(h0:P 0 σ)(h1:∀i σ,i<n→P i σ→Psk (b (ZI σ j (a i))) R (P (i+1)))(h2:∀σ,P n σ→N σ): Psk (ZaX g (Zam j) b σ) R N:=by
 obtain⟨ts,e,rfl⟩:=hg
 have:=ZfR (R:=R) (N:=N) (put:=Zam j) (b:=b) (ts:=tab n a) P h0 (fun i t σ' h3 h4=>by
  have hi:i<n:=by have:=(Zz6.mp h3).1;rwa [Zat]at this
  rw[Zbu hi]at h3
  cases h3
  exact⟨_,rfl,h1 i σ' hi h4⟩) (by rw[Zat];exact h2)
 obtain⟨o,s,e2,q⟩:=this
 exact⟨o,s,by simp only[ZaX,e,Option.bind_some,e2],q⟩
theorem ZiO{g:PG}{j k n:Nat}{a c:Nat→T}{b:PS}(hg:Pl (g σ) fun ts=>ts=tab n fun i=>.tup [a i,c i])(P:Nat→TL→Prop)(h0:P 0 σ)(h1:∀i σ,i<n→P i σ→Psk (b (ZI (ZI σ j (a i)) k (c i))) R (P (i+1)))(h2:∀σ,P n σ→N σ): Psk (ZaX g (Zcr j k) b σ) R N:=by
 obtain⟨ts,e,rfl⟩:=hg
 have:=ZfR (R:=R) (N:=N) (put:=Zcr j k) (b:=b) (ts:=tab n fun i=>.tup [a i,c i]) P h0 (fun i t σ' h3 h4=>by
  have hi:i<n:=by have:=(Zz6.mp h3).1;rwa [Zat]at this
  rw[Zbu hi]at h3
  cases h3
  exact⟨_,rfl,h1 i σ' hi h4⟩) (by rw[Zat];exact h2)
 obtain⟨o,s,e2,q⟩:=this
 exact⟨o,s,by simp only[ZaX,e,Option.bind_some,e2],q⟩
theorem ZoO{g:PG}{j:Nat}{ts:List T}{b:PS}(hg:Pl (g σ) fun us=>us=ts)(P:Nat→TL→Prop)(h0:P 0 σ)(h1:∀(i:Nat) t σ,ts[i]?=some t→P i σ→Psk (b (ZI σ j t)) R (P (i+1)))(h2:∀σ,P ts.length σ→N σ): Psk (ZaX g (Zam j) b σ) R N:=by
 obtain⟨us,e,rfl⟩:=hg
 obtain⟨o,s,e2,q⟩:=ZfR (R:=R) (N:=N) (put:=Zam j) (b:=b) (ts:=us) P h0 (fun i t σ' h3 h4=>⟨_,rfl,h1 i t σ' h3 h4⟩) h2
 exact⟨o,s,by simp only[ZaX,e,Option.bind_some,e2],q⟩
theorem Zin{t:PB}{b:PS}(P:Nat→TL→Prop)(R:T→Prop)(N:TL→Prop)(h:∀m σ,P m σ→Pb (t σ) fun x=>(x=true→Psk (b σ) R fun σ1=>∃m',m'<m∧P m' σ1)∧(x=false→N σ)): ∀(n:Nat) {m:Nat} {σ:TL},P m σ→m<n→Psk (Zc6 t b n σ) R N
 | 0,_,_,_,hm=>by omega
 | n+1,m,σ,hp,hm=>by
  obtain⟨x,e,h1,h2⟩:=h m σ hp
  cases x with
  | false=>exact⟨none,σ,by simp[Zc6,e],by simp,fun _=>h2 rfl⟩
  | true=>
   obtain⟨o,σ1,e1,k1,k2⟩:=h1 rfl
   cases o with
   | some v=>exact⟨some v,σ1,by simp[Zc6,e,e1],k1,by simp⟩
   | none=>
    obtain⟨m',hm',hp'⟩:=k2 rfl
    obtain⟨o2,σ2,e2,l1,l2⟩:=Zin P R N h n hp' (by omega)
    exact⟨o2,σ2,by simp[Zc6,e,e1,e2],l1,l2⟩
theorem Zh6: ZbS σ []=σ:=by funext i;simp[ZbS]
noncomputable def AppP(σ:TL)(x:Nat)(w:T)(N:TL→Prop): Prop:=∃ts,σ x=some (.lst ts)∧ts.length<10000∧N (ZI σ x (.lst (ts++[w])))
theorem ZoP{x:Nat}{w:T}{ts:List T}(e:σ x=some (.lst ts))(hl:ts.length<10000)(h:N (ZI σ x (.lst (ts++[w])))): AppP σ x w N:=⟨ts,e,hl,h⟩
theorem Zp2{x:Nat}{f:PE}(h:Pk (f σ) fun w=>AppP σ x w N): Psk (ZbZ x [] ZaN f σ) R N:=by
 obtain⟨w,e,ts,h1,h2,q⟩:=h
 refine⟨none,_,?_,by simp,fun _=>q⟩
 simp only[ZbZ,ZaN,Option.bind_some,e,h1,ZcR,Zgn]
 rw[if_pos (by rw[Zbs];omega)]
 simp only[Option.map_some,Zh6]
noncomputable def AppQ(σ:TL)(x y:Nat)(w:T)(N:TL→Prop): Prop:=∃ts,σ x=some (.lst ts)∧ts.length<10000∧N (ZbS (ZI σ x (.lst (ts++[w]))) [y])
theorem ZoQ{x y:Nat}{w:T}{ts:List T}(e:σ x=some (.lst ts))(hl:ts.length<10000)(h:N (ZbS (ZI σ x (.lst (ts++[w]))) [y])): AppQ σ x y w N:=⟨ts,e,hl,h⟩
theorem ZoR{x y:Nat}{f:PE}(h:Pk (f σ) fun w=>AppQ σ x y w N): Psk (ZbZ x [y] ZaN f σ) R N:=by
 obtain⟨w,e,ts,h1,h2,q⟩:=h
 refine⟨none,_,?_,by simp,fun _=>q⟩
 simp only[ZbZ,ZaN,Option.bind_some,e,h1,ZcR,Zgn]
 rw[if_pos (by rw[Zbs];omega)]
 simp only[Option.map_some]
noncomputable def PutP(σ:TL)(x:Nat)(w k:T)(N:TL→Prop): Prop:=∃ts m,k=.int m∧σ x=some (.lst ts)∧0≤m∧m<ts.length∧N (ZI σ x (.lst (ts.set m.toNat w)))
theorem ZnP{x n i:Nat}{w:T}{f:Nat→T}(e:σ x=some (.lst (TM.tab n f)))(hi:i<n)(h:N (ZI σ x (.lst (TM.tab n fun k=>if k=i then w else f k)))): PutP σ x w (.int i) N:=⟨_,_,rfl,e,by omega,by rw[Zat];omega,by rw[Int.toNat_natCast,ZiJ];exact h⟩
theorem Zp3{x:Nat}{f i:PE}(h:Pk (f σ) fun w=>Pk (i σ) fun k=>PutP σ x w k N): Psk (Zcj x [] f ZaN i σ) R N:=by
 obtain⟨w,e,k,e2,ts,m,rfl,h1,h2,h3,q⟩:=h
 refine⟨none,_,?_,by simp,fun _=>q⟩
 simp only[Zcj,ZaN,Option.bind_some,e,e2,h1,ZcR,Zgo]
 rw[if_pos ⟨h2,h3⟩]
 simp only[Option.map_some,Zh6]
noncomputable def Put2(σ:TL)(x:Nat)(w a k:T)(N:TL→Prop): Prop:=∃ts us l m,a=.int l∧k=.int m∧σ x=some (.lst ts)∧0≤l∧ts[l.toNat]?=some (.lst us)∧0≤m∧m<us.length∧N (ZI σ x (.lst (ts.set l.toNat (.lst (us.set m.toNat w)))))
theorem Zky{x n m i j:Nat}{w:T}{f:Nat→Nat→T}(e:σ x=some (.lst (TM.tab n fun a=>.lst (TM.tab m (f a)))))(hi:i<n)(hj:j<m)(h:N (ZI σ x (.lst (TM.tab n fun a=>.lst (TM.tab m fun b=>if a=i∧b=j then w else f a b))))): Put2 σ x w (.int i) (.int j) N:=by
 refine⟨_,TM.tab m (f i),i,j,rfl,rfl,e,by omega,?_,by omega,by rw[Zat];omega,?_⟩
 ·rw[Int.toNat_natCast,Zbu hi]
 ·rw[Int.toNat_natCast,Int.toNat_natCast,ZiJ,ZiJ]
  have:(TM.tab n fun a=>if a=i then T.lst (TM.tab m fun b=>if b=j then w else f i b)else T.lst (TM.tab m (f a)))=TM.tab n fun a=>.lst (TM.tab m fun b=>if a=i∧b=j then w else f a b):=ZbG fun a _=>by
   by_cases q:a=i
   ·subst q;simp
   ·simp[q]
  rw[this];exact h
theorem ZoS{x:Nat}{f i j:PE}(h:Pk (f σ) fun w=>Pk (i σ) fun a=>Pk (j σ) fun k=>Put2 σ x w a k N): Psk (Zcj x [] f (Zc5 ZaN i) j σ) R N:=by
 obtain⟨w,e,a,e1,k,e2,ts,us,l,m,rfl,rfl,h1,h0,h4,h2,h3,q⟩:=h
 refine⟨none,_,?_,by simp,fun _=>q⟩
 have hl:=(Zz6.mp h4).1
 simp only[Zcj,ZaN,Zc5,Option.bind_some,e,e1,e2,h1,List.nil_append,ZcR,Zgo,ZeN h0 (show l<ts.length by omega),h4]
 rw[if_pos ⟨h2,h3⟩]
 simp only[Option.map_some,Zh6]
theorem Zeu{i j:Nat}{t:T}{o:Option T}(h:j≠i)(e:σ j=o): ZI σ i t j=o:=by simp[ZI,h,e]
theorem ZnQ{j:Nat}{J:List Nat}{o:Option T}(h:j∉J)(e:σ j=o): ZbS σ J j=o:=by simp[ZbS,h,e]
end
end TM
end
section
set_option autoImplicit false
namespace TM
open PySem PM
inductive Pln: Nat→T→Prop where
 | none {n:Nat}:Pln n .none
 | int {n:Nat} {i:Int}:Pln n (.int i)
 | str {n:Nat} {x:Str}:PyData.strOk x=true→Pln n (.str x)
 | tup {n:Nat} {ts:List T}:(∀t∈ts,Pln n t)→Pln (n+1) (.tup ts)
 | lst {n:Nat} {ts:List T}:(∀t∈ts,Pln n t)→Pln (n+1) (.lst ts)
mutual
noncomputable def dd: T→PyData
 | .none=>.none
 | .bool b=>.bool b
 | .int i=>.int i
 | .str x=>.str x
 | .tup ts=>.tuple (dds ts)
 | .lst ts=>.list (dds ts)
noncomputable def dds: List T→List PyData
 | []=>[]
 | t::ts=>dd t::dds ts
end
theorem Zio{f:T→Option PyData}: ∀{ts:List T},(∀t∈ts,f t=some (dd t))→Zdt f ts=some (dds ts)
 | [],_=>rfl
 | t::ts,h=>by simp only[Zdt,h t Zz5,Zio fun t m=>h t (Zz2 _ m),Option.bind_some,dds]
theorem ZiQ: ∀{ts:List T},(∀t∈ts,PyData.canLay0 (dd t)=true)→PyData.canLayAll0 (dds ts)=true
 | [],_=>rfl
 | t::ts,h=>by simp only[dds,PyData.canLayAll0,h t Zz5,ZiQ fun t m=>h t (Zz2 _ m),Bool.and_self]
theorem ZiR{n:Nat}: ∀{ts:List T},(∀t∈ts,PyData.depth (dd t)≤n)→PyData.depthAll (dds ts)≤n
 | [],_=>by simp[dds,PyData.depthAll]
 | t::ts,h=>by
  have h1:=h t Zz5
  have h2:=ZiR fun t m=>h t (Zz2 _ m)
  simp only[dds,PyData.depthAll]
  omega
theorem Pln.dat{n:Nat}{t:T}(h:Pln n t): Zb7 n t=some (dd t)∧PyData.canLay0 (dd t)=true∧PyData.depth (dd t)≤n:=by
 induction h with
 | @none n=>cases n <;> exact⟨rfl,rfl,by simp[dd,PyData.depth]⟩
 | @int n i=>cases n <;> exact⟨rfl,rfl,by simp[dd,PyData.depth]⟩
 | @str n x h=>cases n <;> exact⟨rfl,by simpa [dd,PyData.canLay0]using h,by simp[dd,PyData.depth]⟩
 | @tup n ts _ ih=>
  refine⟨?_,?_,?_⟩
  ·simp only[Zb7,Zio fun t m=>(ih t m).1,Option.map_some,dd]
  ·simp only[dd,PyData.canLay0];exact ZiQ fun t m=>(ih t m).2.1
  ·simp only[dd,PyData.depth]
   have:=ZiR fun t m=>(ih t m).2.2
   omega
 | @lst n ts _ ih=>
  refine⟨?_,?_,?_⟩
  ·simp only[Zb7,Zio fun t m=>(ih t m).1,Option.map_some,dd]
  ·simp only[dd,PyData.canLay0];exact ZiQ fun t m=>(ih t m).2.1
  ·simp only[dd,PyData.depth]
   have:=ZiR fun t m=>(ih t m).2.2
   omega
theorem ZiS: ∀{ts us:List T},(∀t∈ts,∀u∈us,(PyData.eqv (dd t) (dd u)=true↔t=u))→(PyData.eqvAll (dds ts) (dds us)=true↔ts=us)
 | [],[],_=>by simp[dds,PyData.eqvAll]
 | [],_::_,_=>by simp[dds,PyData.eqvAll]
 | _::_,[],_=>by simp[dds,PyData.eqvAll]
 | t::ts,u::us,h=>by
  simp only[dds,PyData.eqvAll,Bool.and_eq_true,h t Zz5 u Zz5,ZiS fun t m u n=>h t (Zz2 _ m) u (Zz2 _ n),List.cons.injEq]
theorem Pln.eqv{n:Nat}{t:T}(h:Pln n t): ∀{m:Nat} {u:T},Pln m u→(PyData.eqv (dd t) (dd u)=true↔t=u):=by
 induction h with
 | none=>intro m u h;cases h <;> simp[dd,PyData.eqv]
 | int=>intro m u h;cases h <;> simp[dd,PyData.eqv]
 | str _=>intro m u h;cases h <;> simp[dd,PyData.eqv]
 | tup hs ih=>
  intro m u h
  cases h with
  | tup hu=>simp only[dd,PyData.eqv,T.tup.injEq];exact ZiS fun t a u b=>ih t a (hu u b)
  | none=>simp[dd,PyData.eqv]
  | int=>simp[dd,PyData.eqv]
  | str=>simp[dd,PyData.eqv]
  | lst=>simp[dd,PyData.eqv]
 | lst hs ih=>
  intro m u h
  cases h with
  | lst hu=>simp only[dd,PyData.eqv,T.lst.injEq];exact ZiS fun t a u b=>ih t a (hu u b)
  | none=>simp[dd,PyData.eqv]
  | int=>simp[dd,PyData.eqv]
  | str=>simp[dd,PyData.eqv]
  | tup=>simp[dd,PyData.eqv]
theorem Pln.mono{n:Nat}{t:T}(h:Pln n t): ∀{m:Nat},n≤m→Pln m t:=by
 induction h with
 | none=>intro m _;exact .none
 | int=>intro m _;exact .int
 | str h=>intro m _;exact .str h
 | tup hs ih=>
  intro m hm
  cases m with
  | zero=>omega
  | succ m=>exact .tup fun t a=>ih t a (by omega)
 | lst hs ih=>
  intro m hm
  cases m with
  | zero=>omega
  | succ m=>exact .lst fun t a=>ih t a (by omega)
theorem ZkW{n m:Nat}{a b:T}(ha:Pln n a)(hb:Pln m b)(hn:n≤8:=by decide)(hm:m≤8:=by decide): Zdf a b=some (dec (a=b)):=by
 have ha:=ha.mono hn
 have hb:=hb.mono hm
 obtain⟨a1,a2,a3⟩:=ha.dat
 obtain⟨b1,b2,b3⟩:=hb.dat
 unfold Zdf Zbb
 rw[a1,b1]
 simp only[Option.bind_some]
 rw[if_pos ⟨by simp only[SeqAt.shaped,a2,Bool.true_and,decide_eq_true_eq];omega,by simp only[SeqAt.shaped,b2,Bool.true_and,decide_eq_true_eq];omega⟩,Zi4 (ha.eqv hb)]
section
variable {Q:T→Prop}
theorem ZeD{n m:Nat}{a b:T}(ha:Pln n a)(hb:Pln m b)(h:Q (.bool (dec (a=b))))(hn:n≤8:=by decide)(hm:m≤8:=by decide): Pk (qEq a b) Q:=⟨_,by simp only[qEq,ZkW ha hb hn hm,Option.map_some],h⟩
theorem Zp4{n m:Nat}{a b:T}(ha:Pln n a)(hb:Pln m b)(h:Q (.bool (!dec (a=b))))(hn:n≤8:=by decide)(hm:m≤8:=by decide): Pk (qNe a b) Q:=⟨_,by simp only[qNe,ZkW ha hb hn hm,Option.map_some],h⟩
end
theorem ZfJ{α:Type}{n:Nat}{f:Nat→α}{x:α}(h:x∈tab n f): ∃i,i<n∧x=f i:=by
 obtain⟨i,hi,e⟩:=Zz11.mp h
 exact⟨i,List.mem_range.mp hi,e.symm⟩
theorem Zka{n:Nat}{f:Nat→T}(h:∀i,i<n→(f i).flat=true): T.flats (tab n f)=true:=by
 have key:∀l:List T,(∀t∈l,t.flat=true)→T.flats l=true:=fun l=>by
  induction l with
  | nil=>intro _;rfl
  | cons t l ih=>intro h;simp only[T.flats,h t Zz5,ih fun t m=>h t (Zz2 _ m),Bool.and_self]
 exact key _ fun t m=>by obtain⟨i,hi,rfl⟩:=ZfJ m;exact h i hi
theorem ZmD{n:Nat}{f:Nat→T}(h:∀i,i<n→(f i).flat=true): T.flatIn (.lst (tab n f))=true:=Zka h
noncomputable def oT: Option Int→T
 | none=>.none
 | some x=>.int x
noncomputable def Z5(q:Int×Int): T:=.tup [.int q.1,.int q.2]
noncomputable def ZlC(n:Nat)(x:Nat→Int): T:=.lst (tab n fun i=>.int (x i))
noncomputable def Zaa(n:Nat)(b:Nat→Option Int): T:=.lst (tab n fun j=>oT (b j))
noncomputable def Zae(n:Nat)(G:Nat→Nat→Option Int): T:=.lst (tab n fun i=>Zaa n (G i))
noncomputable def Za6(n:Nat)(R:Nat→Int×Int): T:=.lst (tab n fun i=>Z5 (R i))
noncomputable def Zad(n:Nat)(G:Nat→Nat→Option Int)(R:Nat→Int×Int): T:=.tup [Zae (n+1) G,Za6 n R]
theorem Za2: oT none=.none:=rfl
theorem Zao{c:Int}: oT (some c)=.int c:=rfl
theorem ZfK{b:Option Int}: (oT b).flat=true:=by cases b <;> rfl
theorem ZfC{q:Int×Int}: (Z5 q).flat=true:=rfl
theorem Zp5{a b:Option Int}: oT a=oT b↔a=b:=by cases a <;> cases b <;> simp[oT]
theorem ZeE{n k:Nat}{f:Nat→T}(h:∀i,i<k→Pln n (f i)): Pln (n+1) (.lst (tab k f)):=.lst fun t m=>by obtain⟨i,hi,rfl⟩:=ZfJ m;exact h i hi
theorem Zjl{n:Nat}{b:Option Int}: Pln n (oT b):=by cases b;exact .none;exact .int
theorem Zlj{n:Nat}{q:Int×Int}: Pln (n+1) (Z5 q):=.tup fun t m=>by
 simp at m;rcases m with rfl | rfl <;> exact .int
theorem ZkX{n:Nat}{b:Nat→Option Int}: Pln 1 (Zaa n b):=ZeE fun _ _=>Zjl
theorem ZnR{n:Nat}{G:Nat→Nat→Option Int}: Pln 2 (Zae n G):=ZeE fun _ _=>ZkX
theorem ZnS{n:Nat}{R:Nat→Int×Int}: Pln 2 (Za6 n R):=ZeE fun _ _=>Zlj
theorem Zip{n:Nat}{G:Nat→Nat→Option Int}{R:Nat→Int×Int}: Pln 3 (Zad n G R):=.tup fun t m=>by
 simp at m;rcases m with rfl | rfl
 ·exact ZnR
 ·exact ZnS
theorem Zdk{σ:TL}{i:Nat}{t:T}: ZI σ i t i=some t:=by simp[ZI]
end TM
end
section
set_option autoImplicit false
namespace PM
open PySem PySem.W PySem.Calls PyProof.Rows PyProof PyProof.Rows.LCg PyProof.Rows.LCp
noncomputable def sNo: Sm:=fun _ _=>none
noncomputable def inD(d:PyData): PyData→Option Bool
 | .list xs=>if PyData.canLayAll0 xs=true∧d.canLay0=true∧d.depth≤64 then some (xs.any fun y=>PyData.eqv y d)else none
 | .tuple xs=>if PyData.canLayAll0 xs=true∧d.canLay0=true∧d.depth≤64 then some (xs.any fun y=>PyData.eqv y d)else none
 | _=>none
noncomputable def Zjt(a b:V)(H:Hp): Option Bool:=(toD H Zbb a).bind fun d=>(toD H Zbb b).bind fun e=>inD d e
noncomputable def oIn(a b:V)(H:Hp): Option (V×Hp):=(Zjt a b H).map fun c=>(.bool c,H)
noncomputable def ZeF(a:Nat): Nx:=fun i H=>H[a]?.bind fun vs=>match vs[i]? with
 | some x=>some (some (.tup [.int i,x]))
 | none=>if i=vs.length then some none else none
noncomputable def Zgc(f:Ex): Src:=fun ρ H=>(f ρ H).bind fun p=>match p.1 with
 | .ref a=>p.2[a]?.map fun vs=>(ZeF a,vs.length+1,p.2)
 | _=>none
section
variable {prog:Program} {w:World} {Γ:Cx}
theorem ZqB{st:Stmt}: S1 prog w Γ st sNo:=fun W ρ H fr s Q E r rp hf post=>by cases hf
theorem Zlw: Op2 prog w (compareOp .In) oIn:=by
 intro Γ W ρ H fr s Q E a b x y v H' r hx hy ho post
 obtain⟨c,e1,e2⟩:=Zz1.mp ho
 cases e2
 obtain⟨d,h1,e1⟩:=Zz0.mp e1
 obtain⟨e,h2,e1⟩:=Zz0.mp e1
 obtain⟨as,R1⟩:=ZdG r Zbb a x d hx h1
 obtain⟨bs,R2⟩:=ZdG r Zbb b y e hy h2
 have hu:=Γ.hu
 unfold inD at e1
 split at e1
 ·split at e1
  ·rename_i hs
   cases e1
   exact SeqAt.in_list_reads R2 R1 hs.1 hs.2.1 (by omega) (post W s.heap s.toks _ (.refl W) r (.bool _))
  ·cases e1
 ·split at e1
  ·rename_i hs
   cases e1
   exact SeqAt.in_tuple_reads R2 R1 hs.1 hs.2.1 (by omega) (post W s.heap s.toks _ (.refl W) r (.bool _))
  ·cases e1
 ·cases e1
noncomputable def ES(e it l:Addr)(i:Nat)(h:Heap): Prop:=(∃old,IsEnum h e it i old)∧h.IsListIter it l i
theorem ES.at{e it l:Addr}{i:Nat}{h h':Heap}(x:ES e it l i h)(k:∀a∈[e,it],∀o,h.get? a=some o→h'.get? a=some o): ES e it l i h':=by
 obtain⟨⟨old,h1⟩,h2⟩:=x
 exact⟨⟨old,k e (by simp) _ h1⟩,h2.at fun o x=>k it (by simp) o x⟩
theorem ES.have{e it l:Addr}{i:Nat}{h:Heap}(x:ES e it l i h): ∀a∈[e,it],∃o,h.get? a=some o:=by
 obtain⟨⟨old,h1⟩,o,h2,_⟩:=x
 intro a ha
 simp at ha
 rcases ha with rfl | rfl
 ·exact⟨_,h1⟩
 ·exact⟨_,h2⟩
noncomputable def EIt(e it l:Addr)(i:Nat)(fs:List (Addr×Obj)): Prop:=fs.map (·.1)=[e,it]∧∀h:Heap,(∀q∈fs,h.get? q.1=some q.2)→ES e it l i h
theorem ZkY{e it l:Addr}{i:Nat}{h:Heap}(x:ES e it l i h): ∃fs,EIt e it l i fs∧∀q∈fs,h.get? q.1=some q.2:=by
 obtain⟨fs,h1,h2⟩:=Zgk h [e,it] x.have
 refine⟨fs,⟨h1,fun h' k=>x.at fun a ha o ho=>?_⟩,h2⟩
 rw[←h1]at ha
 obtain⟨q,hq,eq⟩:=Zz11.mp ha
 have:=h2 q hq
 rw[eq,ho]at this
 cases this
 exact eq▸k q hq
theorem ZoT{W0:Wd}{e it l:Addr}{a:Nat}(ea:W0.pi[a]?=some l)(hei:e≠it)(hle:l≠e)(hli:l≠it):
  Itr2 prog w Γ W0 (.ref e) [e,it] (EIt e it l) (ZeF a):=by
 refine⟨fun i fs h=>h.1,?_,?_,?_,?_⟩
 ·intro i H v hh
  obtain⟨vs,e1,hh⟩:=Zz0.mp hh
  split at hh
  ·cases hh
   exact⟨_,_,rfl⟩
  ·split at hh <;> cases hh
 ·intro i W ρ H fr fs s Q E va vb le r ap hit hn post
  obtain⟨vs,e1,hh⟩:=Zz0.mp hn
  have hv:va=.int i∧vs[i]?=some vb:=by
   split at hh
   ·rename_i x h1
    cases hh
    exact⟨rfl,h1⟩
   ·split at hh <;> cases hh
  obtain⟨_,xs,k1,g1,v1⟩:=r.at e1 (le.at ea)
  obtain⟨x,hx,rx⟩:=v1.at hv.2
  have st:ES e it l i s.heap:=hit.2 _ fun q hq=>r.frAt (Zz4 _ hq)
  have Wk:=WalksT.enumerate (prog:=prog) (w:=w) (A:=Γ.A) Γ.hh e it l hei hle hli xs.toArray
  have isl1:s.heap.IsList l xs.toArray:=⟨_,g1,rfl,k1,rfl⟩
  have hi:i<xs.toArray.size:=by
   have h1:=(Zz6.mp hx).1
   simpa using h1
  refine Wk.item i s Q E hi ⟨st.1,st.2,isl1⟩ fun T vals h1 t1 hp hT hTup hmid keep1=>post T h1 t1 ?_
  intro elts k pos s1 Q1 E1 es1 q1
  subst es1
  have hTw:=Wk.apart i T _ hmid
  refine Wk.go elts k pos i T _ Q1 E1 hmid fun h2 st2 keep2=>?_
  obtain⟨tk,x',hx',ev⟩:=hp
  have ex:x'=x:=by
   have:xs[i]?=some x':=by simpa using hx'
   rw[hx]at this
   exact(Option.some.inj this).symm
  subst ex ev
  obtain⟨fs',hit',at'⟩:=ZkY (h:=h2) (⟨st2.1,st2.2.1⟩:ES e it l (i+1) h2)
  obtain⟨oT,gT,cT,nT,dT⟩:=hTup
  refine q1 fs' h2 (.int i tk) x' hit' ?_ ⟨oT,keep2 T oT hTw gT,cT,nT,dT⟩ (by rw[hv.1];exact .int _ _) rx
  refine r.swap (fs':=fs') (fun q hq t ht=>?_) (fun c o hc e=>?_) fun q hq=>⟨at' q hq,?_⟩
  ·exact ap _ (hit.1▸List.mem_map_of_mem hq) t ht
  ·rw[hit.1]at hc
   exact keep2 c o hc (keep1 c o hc e)
  ·rw[hit.1,←hit'.1]
   exact List.mem_map_of_mem hq
 ·intro i W ρ H fr fs s Q E le r ap hit hn post
  obtain⟨vs,e1,hh⟩:=Zz0.mp hn
  obtain⟨_,xs,k1,g1,v1⟩:=r.at e1 (le.at ea)
  have hi:i=vs.length:=by
   split at hh
   ·cases hh
   ·split at hh
    ·assumption
    ·cases hh
  have st:ES e it l i s.heap:=hit.2 _ fun q hq=>r.frAt (Zz4 _ hq)
  have Wk:=WalksT.enumerate (prog:=prog) (w:=w) (A:=Γ.A) Γ.hh e it l hei hle hli xs.toArray
  have hm:xs.toArray.size=i:=by simp[v1.length,hi]
  refine Wk.done s Q E (by rw[hm];exact⟨st.1,st.2,⟨_,g1,rfl,k1,rfl⟩⟩) fun h' tk keep=>post h' tk ?_
  have:=r.swap (fs':=[]) (fun q hq t ht=>ap _ (hit.1▸List.mem_map_of_mem hq) t ht) (fun c o hc e=>keep c o (by rw[hit.1]at hc;exact hc) e) (fun q hq=>nomatch hq)
  exact this
 ·intro i W ρ H fr fs s Q E o le r hit hn q
  obtain⟨vs,e1,hh⟩:=Zz0.mp hn
  obtain⟨_,xs,k1,g1,v1⟩:=r.at e1 (le.at ea)
  have st:ES e it l i s.heap:=hit.2 _ fun q hq=>r.frAt (Zz4 _ hq)
  have Wk:=WalksT.enumerate (prog:=prog) (w:=w) (A:=Γ.A) Γ.hh e it l hei hle hli xs.toArray
  exact Wk.self i s Q E ⟨st.1,st.2,⟨_,g1,rfl,k1,rfl⟩⟩ q
theorem ZnT{x:Str}{np pos:Pos}{e1:Expr}{f:Ex}(hn:Nm prog w Γ x (.type "enumerate"))(h1:J prog w Γ e1 f)
  (he:starEach [e1] Γ.env=(false,eval e1 Γ.env)::starEach [] Γ.env:=by rfl) (hp:∀pos,(backTo pos (starEach [] Γ.env)).any (·.1)=false:=by intro _;rfl):JI2 prog w Γ (.Call (.Name x np) [e1] [] pos) (Zgc f):=by
 intro W ρ H fr s Q E nx n H' r hf post
 obtain⟨p,a1,hf⟩:=Zz0.mp hf
 refine wpAny_Call_ofName (hn.use r ?_)
 refine PySem.Pv.callWith_type1 (wpAny_items_cons (h1 W ρ H fr s _ E _ _ r a1 fun W1 k1 t1 y1 l1 r1 v1=>wpAny_items_nil ?_) he) he (hp pos)
 obtain⟨u1,H1⟩:=p
 simp only at hf v1 r1
 cases u1 <;> first | (cases hf;done) | skip
 rename_i b1
 obtain⟨vs,c1,c3⟩:=Zz1.mp hf
 cases c3
 cases v1 with
 | @ref _ m1 ea=>
 obtain⟨_,xs,n1,g1,w1⟩:=r1.at c1 ea
 have isl1:k1.IsList m1 xs.toArray:=⟨_,g1,rfl,n1,rfl⟩
 refine call_enumerate_list (s:={ s with heap:=k1,toks:=t1 }) isl1 fun h₁ hE hI hsz up=>?_
 have hlt:m1<k1.objs.size:=Heap.lt_size g1
 have Wk:=WalksT.enumerate (prog:=prog) (w:=w) (A:=Γ.A) Γ.hh (k1.objs.size+1) k1.objs.size m1 (Nat.succ_ne_self _) (Nat.ne_of_lt (Nat.lt_succ_of_lt hlt)) (Nat.ne_of_lt hlt) xs.toArray
 have zs:ES (k1.objs.size+1) k1.objs.size m1 0 h₁:=⟨⟨_,hE⟩,hI⟩
 refine Wk.self 0 _ _ _ ⟨⟨_,hE⟩,hI,isl1.at fun o e=>up _ o e⟩ ?_
 obtain⟨fs,hit,at'⟩:=ZkY zs
 obtain⟨r3,ap3⟩:=r1.more (fs:=fs) (h':=h₁) (fun b o e=>up b o e) (fun q hq=>⟨at' q hq,by
  have:q.1∈fs.map (·.1):=List.mem_map_of_mem hq
  rw[hit.1]at this
  simp at this
  rcases this with e | e <;> rw[e] <;> omega⟩)
 refine post W1 h₁ t1 _ _ _ fs l1 hit r3 (fun b hb t ht=>?_) (ZoT ea (Nat.succ_ne_self _) (Nat.ne_of_lt (Nat.lt_succ_of_lt hlt)) (Nat.ne_of_lt hlt)) ?_
 ·rw[←hit.1]at hb
  obtain⟨q,hq,e⟩:=Zz11.mp hb
  exact e▸ap3 q hq t ht
 ·simp only[ZeF,c1,Option.bind_some]
  cases q:vs[0]? with
  | some x=>exact⟨_,rfl⟩
  | none=>
   have:vs.length=0:=by simpa using q
   simp[this]
end
end PM
end
section
set_option autoImplicit false
namespace TM
open PySem PM
noncomputable def ZeU(a b:T): Option Bool:=(Zb7 Zbb a).bind fun d=>(Zb7 Zbb b).bind fun e=>inD d e
noncomputable def qIn(a b:T): Option T:=(ZeU a b).map .bool
theorem Zp6{H:Hp}{v1 v2:V}{t1 t2:T}{F1 F2:List Nat}(r1:RF H v1 t1 F1)(r2:RF H v2 t2 F2): Zjt v1 v2 H=ZeU t1 t2:=by
 simp only[Zjt,ZeU,ZfQ Zbb _ _ _ r1,ZfQ Zbb _ _ _ r2]
theorem Zju: OA2 oIn qIn:=fun H v1 v2 t1 t2 t F1 F2 r1 r2 h=>by
 obtain⟨c,h1,h⟩:=Zz1.mp h
 subst h
 exact⟨_,by simp only[oIn,Zp6 r1 r2,h1,Option.map_some],.bool _⟩
theorem Zlk{d:T}: ∀{ts:List T},(∀t∈ts,(PyData.eqv (dd t) (dd d)=true↔t=d))→((dds ts).any fun y=>PyData.eqv y (dd d))=dec (d∈ts)
 | [],_=>by simp[dds,Zc9]
 | t::ts,h=>by
  have ih:=Zlk (d:=d) (ts:=ts) fun t m=>h t (Zz2 _ m)
  simp only[dds,List.any_cons,ih]
  symm
  apply Zi4
  rw[Bool.or_eq_true,h t Zz5,dec_iff]
  simp[eq_comm]
theorem Zp7{n m:Nat}{a:T}{ts:List T}(ha:Pln n a)(hb:Pln m (.lst ts))(hn:n≤8:=by decide)(hm:m≤8:=by decide): ZeU a (.lst ts)=some (dec (a∈ts)):=by
 have ha:=ha.mono hn
 have hb:=hb.mono hm
 obtain⟨a1,a2,a3⟩:=ha.dat
 obtain⟨b1,b2,b3⟩:=hb.dat
 unfold ZeU Zbb
 rw[a1,b1]
 simp only[Option.bind_some,dd,inD]
 simp only[dd,PyData.canLay0]at b2
 rw[if_pos ⟨b2,a2,by omega⟩,Zlk]
 intro t m
 cases hb with
 | lst hs=>exact(hs t m).eqv ha
section
variable {Q:T→Prop}
theorem Zlx{n m:Nat}{a:T}{ts:List T}(ha:Pln n a)(hb:Pln m (.lst ts))(h:Q (.bool (dec (a∈ts))))(hn:n≤8:=by decide)(hm:m≤8:=by decide): Pk (qIn a (.lst ts)) Q:=⟨_,by simp only[qIn,Zp7 ha hb hn hm,Option.map_some],h⟩
end
noncomputable def Zdu(ts:List T): List T:=List.zipWith (fun i t=>.tup [.int (i:Nat),t]) (List.range ts.length) ts
noncomputable def Zgd(p:PE): PG:=fun σ=>(p σ).bind fun t=>match t with
 | .lst ts=>some (Zdu ts)
 | _=>none
theorem ZnU{ts:List T}: (Zdu ts).length=ts.length:=by simp[Zdu]
theorem Zkz{H:Hp}: ∀{vs:List V} {ts:List T} {F:List Nat} (k:Nat),RFs H vs ts F→RFs H (List.zipWith (fun i v=>V.tup [.int (i:Nat),v]) (List.range' k ts.length) vs) (List.zipWith (fun i t=>T.tup [.int (i:Nat),t]) (List.range' k ts.length) ts) F
 | _,_,_,_,.nil=>.nil
 | _,_,_,k,.cons a b=>by
  rw[List.length_cons,List.range'_succ]
  have h1:RF H (V.tup [.int (k:Nat),_]) (T.tup [.int (k:Nat),_]) _:=.tup (.cons (.int _) (.one a))
  simpa using RFs.cons h1 (Zkz (k+1) b)
theorem ZoU{O N:List Nat}{u:Bool}{e:Ex}{p:PE}(x:E O N u e p): Gs O N (Zgc e) (Zgd p):=fun c ρ σ H Φ ts s h=>by
 obtain⟨t1,h1,h⟩:=Zz0.mp h
 obtain⟨v,X,F,a1,a2,a3,a4⟩:=x c ρ σ H Φ t1 s h1
 have hlt:=a2.lt
 cases a2 with
 | none=>cases h
 | bool=>cases h
 | int=>cases h
 | str=>cases h
 | tup=>cases h
 | @ref b vs us F' e1 hs=>
  cases h
  have hl:=hs.length
  refine⟨ZeF b,X,List.zipWith (fun i v=>V.tup [.int (i:Nat),v]) (List.range us.length) vs,F',b::F',by simp only[Zgc,a1,Option.bind_some,e1,Option.map_some,ZnU,hl],?_,fun _ m=>List.mem_cons_of_mem _ m,fun a m=>⟨hlt a m,a3 a m⟩,fun K hK i hi=>?_⟩
  ·have:=Zkz 0 hs
   unfold Zdu
   rw[List.range_eq_range']
   exact this
  ·simp only[ZeF,hK b Zz5,e1,Option.bind_some,List.getElem?_zipWith]
   simp only[List.length_zipWith,List.length_range]at hi
   by_cases q:i<vs.length
   ·rw[List.getElem?_eq_getElem q,List.getElem?_range (by omega)]
   ·rw[List.getElem?_eq_none (by omega),List.getElem?_eq_none (by simp;omega)]
    simp
    omega
theorem ZnV{n:Nat}{f:Nat→T}: Zdu (tab n f)=tab n fun i=>.tup [.int (i:Nat),f i]:=by
 unfold Zdu
 rw[Zat]
 have:List.range n=tab n fun i=>i:=by simp[tab]
 rw[this,ZiK,Nat.min_self]
section
variable {σ:TL} {L:List T→Prop}
noncomputable def EnP(x:T)(L:List T→Prop): Prop:=∃ts,x=.lst ts∧L (Zdu ts)
theorem ZoV{f:PE}(h:Pk (f σ) fun t=>EnP t L): Pl (Zgd f σ) L:=by
 obtain⟨t,a,ts,rfl,q⟩:=h;exact⟨_,by simp only[Zgd,a,Option.bind_some],q⟩
theorem ZoW{n:Nat}{f:Nat→T}(h:L (TM.tab n fun i=>.tup [.int (i:Nat),f i])): EnP (.lst (TM.tab n f)) L:=⟨_,rfl,by rw[ZnV];exact h⟩
end
noncomputable def Zge(g:PG)(put:T→TL→Option TL)(b:PS): PS:=fun σ=>(g σ).bind fun ts=>if ts=[]then none else Zdy put b σ ts
end TM
end
section
set_option autoImplicit false
namespace PM
open PySem PySem.W PySem.Calls PyProof.Rows PyProof
noncomputable def ZeG(o1 o2:V→V→Hp→Option (V×Hp))(f g h:Ex): Ts:=fun ρ H=>(f ρ H).bind fun p=>(g ρ p.2).bind fun q=>(o1 p.1 q.1 q.2).bind fun u=>(Zb4 u.1 u.2).bind fun b=>if b then(h ρ u.2).bind fun x=>(o2 q.1 x.1 x.2).bind fun y=>(Zb4 y.1 y.2).map fun c=>(c,y.2)else some (false,u.2)
section
variable {prog:Program} {w:World} {Γ:Cx}
theorem ZnW{e1 e2 e3:Expr}{op1 op2:CmpOp}{pos:Pos}{f g h:Ex}{o1 o2:V→V→Hp→Option (V×Hp)}(h1:J prog w Γ e1 f)(h2:J prog w Γ e2 g)(h3:J prog w Γ e3 h)(k1:Op2 prog w (compareOp op1) o1)(k2:Op2 prog w (compareOp op2) o2)(hm:lastMarks [op1,op2] [e2,e3]=false:=by with_unfolding_all rfl): JT prog w Γ (.Compare e1 [op1,op2] [e2,e3] pos) (ZeG o1 o2 f g h):=by
 intro W ρ H fr s Q E b H' r hf post
 obtain⟨p,a1,hf⟩:=Zz0.mp hf
 obtain⟨q,a2,hf⟩:=Zz0.mp hf
 obtain⟨u,a3,hf⟩:=Zz0.mp hf
 obtain⟨c,a4,hf⟩:=Zz0.mp hf
 refine isTrue_chain (h1 W ρ H fr s _ E _ _ r a1 fun W1 n1 t1 x l1 r1 x1=>?_) hm
 refine test_link (h2 W1 ρ _ fr _ _ E _ _ r1 a2 fun W2 n2 t2 y l2 r2 y2=>?_)
 refine k1 Γ W2 ρ _ fr _ _ E _ _ x y _ _ r2 (x1.mono l2) y2 a3 fun W3 n3 t3 z l3 r3 z3=>?_
 refine Zdr Γ W3 ρ _ fr _ _ E _ z c r3 z3 a4 fun W4 n4 t4 l4 r4=>?_
 cases c with
 | false=>
  cases hf
  exact post W4 n4 t4 (((l1.trans l2).trans l3).trans l4) r4
 | true=>
  simp only[if_true]at hf
  obtain⟨v,a5,hf⟩:=Zz0.mp hf
  obtain⟨v2,a6,hf⟩:=Zz0.mp hf
  obtain⟨d,a7,a8⟩:=Zz1.mp hf
  cases a8
  refine test_last (h3 W4 ρ _ fr _ _ E _ _ r4 a5 fun W5 n5 t5 y5 l5 r5 x5=>?_)
  refine k2 Γ W5 ρ _ fr _ _ E _ _ y y5 _ _ r5 (((y2.mono l3).mono l4).mono l5) x5 a6 fun W6 n6 t6 z6 l6 r6 x6=>?_
  exact Zdr Γ W6 ρ _ fr _ _ E _ z6 b r6 x6 a7 fun W7 n7 t7 l7 r7=>post W7 n7 t7 ((((((l1.trans l2).trans l3).trans l4).trans l5).trans l6).trans l7) r7
end
end PM
end
section
set_option autoImplicit false
namespace TM
open PySem PM
section
variable {O N M K:List Nat} {u u' u'':Bool}
noncomputable def ZeH(q1 q2:T→T→Option T)(p1 p2 p3:PE): PB:=fun σ=>(p1 σ).bind fun x=>(p2 σ).bind fun y=>(q1 x y).bind fun z=>(Zbo z).bind fun b=>if b then(p3 σ).bind fun v=>(q2 y v).bind Zbo else some false
theorem ZnX{e1 e2 e3:Ex}{p1 p2 p3:PE}{q1 q2:T→T→Option T}{o1 o2:V→V→Hp→Option (V×Hp)}(k1:OA2 o1 q1)(k2:OA2 o2 q2)(x:E O N u e1 p1)(y:E O M u' e2 p2)(z:E O K u'' e3 p3): Bt O (ZeG o1 o2 e1 e2 e3) (ZeH q1 q2 p1 p2 p3):=fun c ρ σ H Φ b s h=>by
 obtain⟨t1,h1,h⟩:=Zz0.mp h
 obtain⟨t2,h2,h⟩:=Zz0.mp h
 obtain⟨t3,h3,h⟩:=Zz0.mp h
 obtain⟨b0,h4,h⟩:=Zz0.mp h
 obtain⟨v1,X,F,a1,a2,_,_⟩:=x c ρ σ H Φ t1 s h1
 obtain⟨v2,Y,G,b1,b2,_,_⟩:=y c ρ σ (H++X) Φ t2 (s.ext X) h2
 obtain⟨v3,c1,c2⟩:=k1 _ v1 v2 t1 t2 t3 F G (a2.ext Y) b2 h3
 have d1:=Zc1 c2 h4
 cases b0 with
 | false=>
  cases h
  exact⟨X++Y,by simp only[ZeG,a1,b1,Option.bind_some,c1,d1];simp⟩
 | true=>
  simp only[if_true]at h
  obtain⟨t5,h5,h⟩:=Zz0.mp h
  obtain⟨t6,h6,h⟩:=Zz0.mp h
  obtain⟨v5,Z,F5,e1,e2,_,_⟩:=z c ρ σ (H++X++Y) Φ t5 ((s.ext X).ext Y) h5
  obtain⟨v6,f1,f2⟩:=k2 _ v2 v5 t2 t5 t6 G F5 (b2.ext Z) e2 h6
  have g1:=Zc1 f2 h
  exact⟨X++Y++Z,by simp only[ZeG,a1,b1,Option.bind_some,c1,d1,if_true,e1,f1,g1,Option.map_some];simp⟩
end
theorem Zp8{O O1 R J Ns:List Nat}{fr:Bool}{g:Src}{q:PG}{put:V→Lc→Option Lc}{pput:T→TL→Option TL}{b:Sm}{qb:PS}(hg:Gs O Ns g q)(hj:PutOk O J put pput)(hj1:PutOk O1 J put pput)(hJ:∀i∈J,i∉O)(hJ1:∀i∈J,i∉O1)(hN:∀i∈Ns,i∉O)(hb:S O O1 R fr b qb)(hb1:S O1 O1 R fr b qb): S O O1 R fr (ZaW g put b) (Zge q pput qb):=fun c ρ σ H Φ r s h=>by
 obtain⟨ts,h1,h⟩:=Zz0.mp h
 obtain⟨nx,X,vs,F,G,g1,g2,g3,g4,g5⟩:=hg c ρ σ H Φ ts s h1
 split at h
 ·cases h
 ·rename_i hne
  cases ts with
  | nil=>exact absurd rfl hne
  | cons t rs=>
   cases g2 with
   | @cons v _ F1 ws _ F2 a b'=>
   have sx:=s.ext X
   have hsrc:∀a∈G,c.H0.length≤a∨c.P a:=fun a m=>s.from_src (g4 a m).2
   have hoff:∀a∈G,¬Zb9 O σ Φ a:=fun a m ⟨k,hk,⟨t,e⟩,q⟩=>s.from_off hN (g4 a m).2 hk e q
   obtain⟨σ1,p0,h⟩:=Zz0.mp h
   obtain⟨r1,h2,h⟩:=Zz0.mp h
   obtain⟨ρ1,Φ1,p1,s1,p3,p4⟩:=hj c ρ σ (H++X) Φ v t F1 σ1 sx a (fun x m=>hsrc x (g3 x (Zz4 _ m))) (fun k hk t' e x m q=>hoff x (g3 x (Zz4 _ q)) ⟨k,hk,⟨t',e⟩,m⟩) p0
   have hh:∀x,Zb9 O σ1 Φ1 x→Zb9 O σ Φ x:=fun x ⟨k,hk,⟨t',e⟩,m⟩=>by
    obtain⟨q1,q2⟩:=p3 k fun q=>hJ k q hk
    exact⟨k,hk,⟨t',q1▸e⟩,q2▸m⟩
   obtain⟨ρ2,K2,Φ2,w1,w2,w3⟩:=hb c ρ1 σ1 (H++X) Φ1 r1 s1 h2
   have e0:nx 0 (H++X)=some (some v):=by have:=g5 (H++X) (fun _ _=>rfl) 0 (Nat.zero_le _);simpa using this
   have estep:ZaW g put b ρ H=(b ρ1 (H++X)).bind fun q=>match q.1 with
     | some _=>some q
     | none=>ZcD nx put b (rs.length+1) 1 q.2.1 q.2.2:=by
    simp only[ZaW,g1,Option.bind_some,List.length_cons]
    show(nx 0 (H++X)).bind _=_
    rw[e0]
    first | (simp only[Option.bind_some,p1];done) | (simp only[Option.bind_some,p1];rfl)
   rw[estep]
   refine Aft.grow (X:=X) ?_
   rcases w3 with⟨k1,k2,k3,k4⟩ | ⟨t',v',F',k1,k2,k3⟩
   ·rw[k1]at h
    have hG2:∀a∈G,K2[a]?=(H++X)[a]?:=fun x m=>w2 x (g4 x m).1 fun q=>hoff x m (hh x q)
    have hoff2:∀a∈G,¬Zb9 O1 r1.2 Φ2 a:=fun x m q=>by
     rcases k4 x q with q | q
     ·have:=(g4 x m).1;omega
     ·exact hoff x m (hh x q)
    have ih:=Zim hj1 hJ1 hb1 (H1:=H++X) (fun a m=>(g4 a m).1) hsrc g5 rs ws 1 ρ2 r1.2 K2 Φ2 F2 r (fun j=>by rw[Nat.add_comm];simp) (by simp;omega) k3 w1 hG2 hoff2 (b'.frame fun x m=>hG2 x (g3 x (Zz3 _ m))) (fun x m=>g3 x (Zz3 _ m)) h
    rw[k2]
    simp only[Option.bind_some]
    obtain⟨ρ3,K3,Φ3,l1,l2,l3⟩:=ih
    refine⟨ρ3,K3,Φ3,by omega,fun x hx hn=>?_,?_⟩
    ·rw[l2 x (by omega) fun q=>(k4 x q).elim (fun q=>by omega) fun q=>hn (hh x q),w2 x hx fun q=>hn (hh x q)]
    ·rcases l3 with⟨m1,m2,m3,m4⟩ | l
     ·refine .inl ⟨m1,m2,m3,fun x q=>?_⟩
      rcases m4 x q with q | q
      ·exact .inl (by omega)
      ·exact(k4 x q).imp id (hh x)
     ·exact .inr l
   ·rw[k1]at h
    cases h
    refine⟨ρ2,K2,Φ2,w1,fun x hx hn=>w2 x hx fun q=>hn (hh x q),.inr ⟨t',v',F',k1,?_,k3⟩⟩
    rw[k2]
    rfl
section
variable {σ:TL} {Q:T→Prop} {B:Bool→Prop} {R:T→Prop} {N:TL→Prop}
theorem ZnY{q1 q2:T→T→Option T}{f g h:PE}(k:Pk (f σ) fun x=>Pk (g σ) fun y=>Pk (q1 x y) fun z=>Pb (Zbo z) fun b=>(b=true→Pk (h σ) fun v=>Pk (q2 y v) fun w=>Pb (Zbo w) B)∧(b=false→B false)): Pb (ZeH q1 q2 f g h σ) B:=by
 obtain⟨x,a1,y,a2,z,a3,b,a4,k1,k2⟩:=k
 cases b with
 | false=>exact⟨false,by simp[ZeH,a1,a2,a3,a4],k2 rfl⟩
 | true=>
  obtain⟨v,b1,w,b2,c,b3,q⟩:=k1 rfl
  exact⟨c,by simp[ZeH,a1,a2,a3,a4,b1,b2,b3],q⟩
theorem ZoX{g:PG}{j n:Nat}{a:Nat→T}{b:PS}(hn:0<n)(hg:Pl (g σ) fun ts=>ts=tab n a)(P:Nat→TL→Prop)(h0:P 0 σ)(h1:∀i σ,i<n→P i σ→Psk (b (ZI σ j (a i))) R (P (i+1)))(h2:∀σ,P n σ→N σ): Psk (Zge g (Zam j) b σ) R N:=by
 obtain⟨o,s,e,q⟩:=Zcp (R:=R) (N:=N) (b:=b) (j:=j) hg P h0 h1 h2
 obtain⟨ts,e1,rfl⟩:=hg
 refine⟨o,s,?_,q⟩
 have hne:tab n a≠[]:=fun h=>by have:=congrArg List.length h;rw[Zat]at this;simp at this;omega
 simp only[Zge,e1,Option.bind_some,hne,if_false]
 simpa only[ZaX,e1,Option.bind_some]using e
end
end TM
end
section
set_option autoImplicit false
namespace TM
open PySem PM
noncomputable def Keep0(g:Sm): Prop:=∀ρ H r,g ρ H=some r→r.2.1 0=ρ 0
theorem Keep0.next: Keep0 ZY:=fun ρ H r h=>by cases h;rfl
theorem Zne{e:Ex}: Keep0 (Zbl e):=fun ρ H r h=>by
 obtain⟨_,_,q⟩:=Zz1.mp h
 subst q;rfl
theorem Keep0.ret{e:Ex}: Keep0 (ZD e):=fun ρ H r h=>by
 obtain⟨_,_,q⟩:=Zz1.mp h
 subst q;rfl
theorem Keep0.put{f o i:Ex}: Keep0 (Zcu f o i):=fun ρ H r h=>by
 obtain⟨_,_,h⟩:=Zz0.mp h
 obtain⟨_,_,h⟩:=Zz0.mp h
 obtain⟨_,_,h⟩:=Zz0.mp h
 obtain⟨_,_,q⟩:=Zz1.mp h
 subst q;rfl
theorem Keep0.seq{a b:Sm}(x:Keep0 a)(y:Keep0 b): Keep0 (Zr a b):=fun ρ H r h=>by
 obtain⟨r1,e1,h⟩:=Zz0.mp h
 have h1:=x ρ H r1 e1
 split at h
 ·cases h;exact h1
 ·exact(y _ _ _ h).trans h1
theorem Znf{t:Ts}{a b:Sm}(x:Keep0 a)(y:Keep0 b): Keep0 (ZR t a b):=fun ρ H r h=>by
 obtain⟨p,_,h⟩:=Zz0.mp h
 split at h
 ·exact x _ _ _ h
 ·exact y _ _ _ h
theorem Keep0.set{i:Nat}{e:Ex}(hi:0≠i): Keep0 (ZK i e):=fun ρ H r h=>by
 obtain⟨_,_,q⟩:=Zz1.mp h
 subst q
 simp[upd,hi]
noncomputable def SimM(f:List V→Hp→Option (V×Hp))(p:List T→Option T): Prop:=∀(H:Hp) (v:V) (vs:List V) (t:T) (ts:List T) (t':T) (F0 F1:List Nat),0<H.length→RF H v t F0→F0.Nodup→0∉F0→RFs H vs ts F1→(∀a∈F0,a∉F1)→p (t::ts)=some t' →
 ∃w H' F',f (v::vs) H=some (w,H')∧H.length≤H'.length∧(∀a,a<H.length→a∉F0→H'[a]?=H[a]?)∧RF H' v t' F'∧F'.Nodup∧∀a∈F',H.length≤a∨a∈F0
noncomputable def ZeV(n:Nat)(q:PS): List T→Option T:=fun ts=>if ts.length=n then(q fun i=>ts[i]?).bind fun r=>r.2 0 else none
theorem ZoY{O':List Nat}{n:Nat}{g:Sm}{q:PS}(h:S [0] O' [0] false g q)(h0:0∈O')(hk:Keep0 g): SimM (ZX n g) (ZeV n q):=fun H v vs t ts t' F0 F1 hp r0 nd n0 rs dj e=>by
 unfold ZeV at e
 split at e
 ·rename_i hl
  obtain⟨r1,e1,e2⟩:=Zz0.mp e
  obtain⟨Φ,hΦ⟩:=rs.slots
  have st:St ⟨H,F0,fun a=>a∈F0∨a∈F1⟩ [0] (fun i=>(v::vs)[i]?) (fun i=>(t::ts)[i]?) H (fun i=>match i with | 0=>F0 | i+1=>Φ i):=by
   refine⟨fun i u e=>?_,fun i u e a m=>?_,fun i hi u e=>?_,Nat.le_refl _,fun a _ _=>rfl,hp,n0⟩
   ·cases i with
    | zero=>simp at e;subst e;exact⟨v,rfl,r0⟩
    | succ i=>
     simp at e
     obtain⟨w,h1,h2,_⟩:=hΦ i u e
     exact⟨w,by simpa using h1,h2⟩
   ·cases i with
    | zero=>exact .inr (.inl m)
    | succ i=>
     simp at e
     obtain⟨w,h1,h2,h3⟩:=hΦ i u e
     exact .inr (.inr (h3 a m))
   ·have:i=0:=by simpa using hi
    subst this
    refine⟨nd,fun a m=>.inr m,fun j u' hj ej a m=>?_⟩
    cases j with
    | zero=>exact absurd rfl hj
    | succ j=>
     simp at ej
     obtain⟨w,h1,h2,h3⟩:=hΦ j u' ej
     exact fun q=>dj a m (h3 a q)
  obtain⟨ρ',H',Φ',h1,h2,h3⟩:=h _ _ _ _ _ _ st e1
  have hv:(v::vs).length=n:=by rw[←hl];simp[rs.length]
  have go:∀(o:Option V) (O2:List Nat),0∈O2→g (fun i=>(v::vs)[i]?) H=some (o,ρ',H')→St ⟨H,F0,fun a=>a∈F0∨a∈F1⟩ O2 ρ' r1.2 H' Φ'→∃w H' F',ZX n g (v::vs) H=some (w,H')∧H.length≤H'.length∧(∀a,a<H.length→a∉F0→H'[a]?=H[a]?)∧RF H' v t' F'∧F'.Nodup∧∀a∈F',H.length≤a∨a∈F0:=by
   intro o O2 hO eg s2
   obtain⟨v',ev,rv⟩:=s2.slot 0 t' e2
   have kk:=hk _ _ _ eg
   have:v'=v:=by
    have k2:ρ' 0=some v:=kk
    rw[ev]at k2
    cases k2
    rfl
   subst this
   obtain⟨o1,o2,_⟩:=s2.own 0 hO t' e2
   exact⟨o.getD .none,H',Φ' 0,by simp only[ZX,hv,if_true,eg,Option.map_some],h1,s2.keep,rv,o1,o2⟩
  rcases h3 with⟨k1,k2,k3,k4⟩ | ⟨u,v',F',k1,k2,k3,k4,k5,k6⟩
  ·exact go none O' h0 k2 k3
  ·exact go (some v') [0] List.mem_cons_self k2 k4
 ·cases e
noncomputable def Zgp(x:Nat)(p:List T→Option T)(ps:PEs): PS:=fun σ=>(ps σ).bind fun ts=>(σ x).bind fun t=>(p (t::ts)).map fun t'=>(none,ZI σ x t')
section
variable {O O' R N:List Nat} {fr u:Bool}
theorem Zp9{x n:Nat}{f:List V→Hp→Option (V×Hp)}{p:List T→Option T}{es:Exs}{ps:PEs}(hx:x∈O)(k:SimM f p)(y:Es O N u n es ps)(hN:x∉N)(hO:∀j∈O',j∈O): S O O' R fr (Zbl (Zq f (Zf (Za x) es))) (Zgp x p ps):=fun c ρ σ H Φ r s q=>by
 obtain⟨ts,h1,q⟩:=Zz0.mp q
 obtain⟨t,h2,q⟩:=Zz0.mp q
 obtain⟨t',h3,q⟩:=Zz1.mp q
 subst q
 obtain⟨v,ev,rv⟩:=s.slot x t h2
 obtain⟨o1,o2,o3⟩:=s.own x hx t h2
 have hlow:∀k t,σ k=some t→∀a∈Φ k,a<H.length:=fun k t e a m=>by
  obtain⟨_,_,r⟩:=s.slot k t e
  exact r.lt a m
 obtain⟨_,vs,X,F,a1,a2,a3,_⟩:=y c ρ σ H Φ ts s h1
 have hp:0<(H++X).length:=by have:=s.pos;have:=s.len;rw[List.length_append];omega
 have hlen:(H++X).length=H.length+X.length:=List.length_append
 have dj:∀a∈Φ x,a∉F:=fun a m q=>by
  rcases a3 a q with h | ⟨j,hj,⟨tj,ej⟩,mj⟩
  ·have:=hlow x t h2 a m;omega
  ·exact o3 j tj (fun e=>hN (e▸hj)) ej a m mj
 obtain⟨w,H',F',b1,b2,b3,b4,b5,b6⟩:=k (H++X) v vs t ts t' (Φ x) F hp (rv.ext X) o1 (fun m=>ZiH s hx h2 m rfl) a2 dj h3
 have same:∀a,a<H.length→a∉Φ x→H'[a]?=H[a]?:=fun a ha hn=>by
  rw[b3 a (by omega) hn,List.getElem?_append_left ha]
 have eg:Zbl (Zq f (Zf (Za x) es)) ρ H=some (none,ρ,H'):=by
  simp only[Zbl,Zq,Zf,Za,ev,Option.map_some,Option.bind_some,a1,b1]
 refine⟨ρ,H',Z2 Φ x F',by omega,fun a ha hn=>same a ha fun m=>hn ⟨x,hx,⟨t,h2⟩,m⟩,.inl ⟨rfl,eg,⟨fun i u' e=>?_,fun i u' e a m=>?_,fun i hi u' e=>?_,by have:=s.len;omega,fun a ha hn=>?_,s.pos,s.f0⟩,fun a hh=>?_⟩⟩
 ·by_cases c1:i=x
  ·subst c1
   simp only[ZI,if_true,Option.some.injEq]at e
   subst e
   exact⟨v,ev,by simpa [Z2]using b4⟩
  ·simp only[ZI,c1,if_false]at e
   obtain⟨v2,e2,r2⟩:=s.slot i u' e
   refine⟨v2,e2,?_⟩
   simp only[Z2,c1,if_false]
   exact r2.frame fun a m=>same a (hlow i u' e a m) fun q=>o3 i u' c1 e a q m
 ·by_cases c1:i=x
  ·subst c1
   simp only[Z2,if_true]at m
   rcases b6 a m with h | h
   ·exact .inl (by have:=s.len;omega)
   ·exact s.src i t h2 a h
  ·simp only[ZI,c1,if_false]at e
   simp only[Z2,c1,if_false]at m
   exact s.src i u' e a m
 ·by_cases c1:i=x
  ·subst c1
   refine⟨by simpa [Z2]using b5,fun a m=>?_,fun j u2 hj ej a m=>?_⟩
   ·simp only[Z2,if_true]at m
    rcases b6 a m with h | h
    ·exact .inl (by have:=s.len;omega)
    ·exact o2 a h
   ·simp only[Z2,if_true]at m
    simp only[ZI,hj,if_false]at ej
    simp only[Z2,hj,if_false]
    intro q
    have hq:=hlow j u2 ej a q
    rcases b6 a m with h | h
    ·omega
    ·exact o3 j u2 hj ej a h q
  ·simp only[ZI,c1,if_false]at e
   obtain⟨q1,q2,q3⟩:=s.own i (hO i hi) u' e
   refine⟨by simpa [Z2,c1]using q1,fun a m=>?_,fun j u2 hj ej a m=>?_⟩
   ·simp only[Z2,c1,if_false]at m
    exact q2 a m
   ·simp only[Z2,c1,if_false]at m
    by_cases c2:j=x
    ·subst c2
     simp only[Z2,if_true]
     intro q
     have hm:=hlow i u' e a m
     rcases b6 a q with h | h
     ·omega
     ·exact q3 j t hj h2 a m h
    ·simp only[ZI,c2,if_false]at ej
     simp only[Z2,c2,if_false]
     exact q3 j u2 hj ej a m
 ·have hs:=s.keep a ha hn
  rw[same a (by have:=s.len;omega) fun m=>?_]
  ·exact hs
  ·rcases o2 a m with h | h
   ·omega
   ·exact hn h
 ·obtain⟨j,hj,⟨u',e⟩,m⟩:=hh
  by_cases c1:j=x
  ·subst c1
   simp only[Z2,if_true]at m
   rcases b6 a m with h | h
   ·exact .inl (by omega)
   ·exact .inr ⟨j,hx,⟨t,h2⟩,h⟩
  ·simp only[ZI,c1,if_false]at e
   simp only[Z2,c1,if_false]at m
   exact .inr ⟨j,hO j hj,⟨u',e⟩,m⟩
end
section
variable {σ:TL} {R:T→Prop} {N:TL→Prop}
theorem Zqa{x:Nat}{p:List T→Option T}{ps:PEs}{t:T}(e:σ x=some t)(h:Pl (ps σ) fun ts=>Pk (p (t::ts)) fun t'=>N (ZI σ x t')): Psk (Zgp x p ps σ) R N:=by
 obtain⟨ts,e1,t',e2,q⟩:=h
 exact⟨none,ZI σ x t',by simp only[Zgp,e1,e,Option.bind_some,e2,Option.map_some],by simp,fun _=>q⟩
theorem ZoZ{n:Nat}{q:PS}{ts:List T}{Q:T→Prop}(hn:ts.length=n)(h:Psk (q fun i=>ts[i]?) (fun _=>False) fun σ=>∃t,σ 0=some t∧Q t): Pk (ZeV n q ts) Q:=by
 obtain⟨o,s,e,h1,h2⟩:=h
 cases o with
 | none=>
  obtain⟨t,e2,q2⟩:=h2 rfl
  exact⟨t,by simp only[ZeV,hn,if_true,e,Option.bind_some,e2],q2⟩
 | some u=>exact absurd (h1 u rfl) (by simp)
end
end TM
end
section
set_option autoImplicit false
namespace PM
open PySem PySem.W PySem.Calls PyProof.Rows PyProof PyProof.Rows.LCg PyProof.Rows.LCp
section
variable {prog:Program} {w:World} {Γ:Cx}
theorem Zmj{elt iter:Expr}{x x₂ y:Str}{px px₂ tp py pos spos:Pos}{kt:Nat}{scope:Scope}{cl:List (Str×Addr)}{t t₂ i:Nat}{g:Src}{f:Ex}(hy:Sto prog w Γ y i)(hg:JI2 prog w Γ iter g)(hel:∀C ρ,J prog w (ZaI Γ scope cl C [(x,t),(x₂,t₂)] ρ) elt f)
  (hsw:swapsWith (.ListComp elt [⟨.Tuple [.Name x px,.Name x₂ px₂] kt tp,iter,[],0⟩] scope pos) (some (.Name y py)) spos.line Γ.env=pure true)
  (hclos:closureFor scope Γ.env=pure cl) (hcell:∀y∈scope.names,y.2≠.cell) (hkind:scope.kind=.function) (hnames:∀y∈scope.names,y.2=.local→scope.names.lookup y.1=some .local) (hx:scope.names.lookup x=some .local) (hx₂:scope.names.lookup x₂=some .local) (hxx:x≠x₂) (htt:t≠t₂) (hs:∀x,foldedSetIterable iter Γ.env x=pure x:=by intro _;rfl):
  S1 prog w Γ (.Assign [.Name y py] (.ListComp elt [⟨.Tuple [.Name x px,.Name x₂ px₂] kt tp,iter,[],0⟩] scope pos) spos) (ZK i (ZaC g (ZbW t t₂) Zaq f)):=by
 intro W ρ H fr s Q E r rp hf post
 obtain⟨p,e0,e9⟩:=Zz1.mp hf
 cases e9
 obtain⟨z,e1,hf⟩:=Zz0.mp e0
 obtain⟨q,e2,e3⟩:=Zz1.mp hf
 cases e3
 rw[exec_Assign_Name_used _ _ _ _ hsw]
 refine wpAny_bind (wpAny_standAt (wpAny_bind ?_))
 show wpAny _ Γ.A (do let _ ←comprehension (.ListComp elt [⟨.Tuple [.Name x px,.Name x₂ px₂] kt tp,iter,[],0⟩] scope pos) scope Γ.env _ (newList []) false (eval iter Γ.env) (some (assign (.Name y py) Γ.env))) _ _ s
 refine wpAny_bind (wpAny_mono (wpAny_comprehension_free (use:=some (assign (.Name y py) Γ.env)) (Q:=fun _ s'=>Q .next s') rfl hs hclos hkind hnames ?_) (fun _ s' h'=>wpAny_pure (wpAny_pure h')) fun _ _ e=>e)
 refine ZjW (RR:=fun acc C=>compPost (model prog w) Γ.A E (some (assign (.Name y py) Γ.env)) (fun _ s'=>Q .next s') acc C) hg hel hcell hkind hx hx₂ hxx htt rp (q:=q) (by rw[e1];exact e2) fun W2 h' tk' C D oC m₂ ys l2 hC hv hl aD aC cd r3=>?_
 have r4:Rep Γ W2 ρ q.2 ((D,lst ys)::(C,oC)::fr) h':=r3.less fun t ht=>by
  rcases Zz7.mp ht with e | ht
  ·exact e▸List.mem_cons_of_mem _ Zz5
  ·rcases Zz7.mp ht with e | ht
   ·exact e▸List.mem_cons_self
   ·exact Zz2 _ (Zz2 _ ht)
 obtain⟨W5,l5,r5,v5⟩:=Zfu r4 (fun t ht=>by
  rcases Zz7.mp ht with e | ht
  ·rw[e]
   exact cd.symm
  ·exact aD t ht) hv hl
 refine wpAny_assign_Name (hy W5 ρ _ _ _ _ _ _ _ r5 v5 fun h6 t6 r6=>?_)
 refine⟨m₂,hC.ns (r6.frAt (q:=(C,oC)) Zz5),fun h'' sb=>?_⟩
 have r7:Rep Γ W5 (upd ρ i (.ref q.2.length)) (q.2++[q.1]) ([]++fr) h'':=
  Rep.swap (fs:=[(C,oC)]) (fs':=[]) r6 (fun q hq t ht=>by rw[List.mem_singleton.mp hq];exact aC t ht) (fun b o hb e=>sb.extBut b o (fun z=>hb (by simp[z])) e) fun q hq=>nomatch hq
 exact post W5 h'' t6 (l2.trans l5) r7
end
end PM
end
section
set_option autoImplicit false
namespace PM
open PySem PySem.W PySem.Calls PyProof.Rows PyProof PyProof.Rows.LCg PyProof.Rows.LCp
open AutoSeq1 (wpAny_loadPart')
noncomputable abbrev kwS(t:Tok): List (Str×Value):=[(Str.ofString "start",.int 1 t)]
theorem Zng(l:Addr)(xs:Array Value)(n:Nat)(dc:Option Addr)(sl:Array (Option Value))(t:Tok):
  Meets (Builtin.«enumerate.__new__» ⟨[.type "enumerate",.ref l],kwS t⟩) (fun _ R s=>s.heap.get? l=some { cls:=.type "list",dict:=dc,data:=.seq xs n,slots:=sl } ∧
   ∀tk,R (.ok (.ret (.ref (s.heap.objs.size+1)))) { s with heap:=(s.heap.push { cls:=.type "list_iterator",data:=.fields #[.ref l,.int 0 0] }).push { cls:=.type "enumerate",data:=.fields #[.none,.bool false,.ref s.heap.objs.size,rawInt 1,.none,.none] },toks:=tk }):=
 .of_wp fun prog w A R s q=>by
  obtain⟨hp,g,d,tk,os⟩:=s;obtain⟨hl,q⟩:=q
  have hsub:=sub_enumerate
  have isl:Heap.IsList (Shared.heap ⟨hp,g,d,tk,os⟩) l xs:=⟨_,hl,rfl,n,rfl⟩
  wp_walk using wpAny_loadPart' hl
  refine wpAny_stack_any fun st=>wpAny_pure ?_
  split
  ·rename_i c _ _ _ _ _
   cases (c == Value.type "enumerate") <;> (refine wpAny_bind (wpAny_of_eq (a:=(.ref l,some (.int 1 t))) (by rfl) ?_);wp_walk using wpAny_loadPart' hl,wpAny_pyIter_list isl;exact⟨_,rfl,by rw[show(Shared.mk hp g d tk os).heap.objs.size+1=((Shared.mk hp g d tk os).heap.push { cls:=Value.type "list_iterator",data:=Data.fields #[Value.ref l,Value.int 0 0] }).objs.size from(Heap.size_push ..).symm]at q;exact q tk⟩)
  ·refine wpAny_bind (wpAny_of_eq (a:=(.ref l,some (.int 1 t))) (by rfl) ?_)
   wp_walk using wpAny_loadPart' hl,wpAny_pyIter_list isl
   exact⟨_,rfl,by rw[show(Shared.mk hp g d tk os).heap.objs.size+1=((Shared.mk hp g d tk os).heap.push { cls:=Value.type "list_iterator",data:=Data.fields #[Value.ref l,Value.int 0 0] }).objs.size from(Heap.size_push ..).symm]at q;exact q tk⟩
section
variable {prog:Program} {w:World} {A:Around} {E:Value→Shared→Prop} {s:Shared}
theorem Zo0{T newId:String}{Bn:Builtin}{args:List Value}{kw:List (Str×Value)}{S:PySem.Spec}{Q:Value→Shared→Prop}(ft:TypeCalled T newId "object.__init__")(ne:(some newId != some "object.__new__")=true)
  (c1:checkTypeCall T ⟨args,kw⟩=pure ()) (c2:checkBuiltinCall newId ⟨.type T::args,kw⟩=pure ()) (c3:∀o,argsOk "object.__init__" ⟨o::args,kw⟩)
  (eN:entryFor table newId=some Bn) (mt:Meets (Bn ⟨.type T::args,kw⟩) S)
  (h:S A.in1 (wants (fun o s₁=>s₁.TypeIs o T∧Q o s₁) E) s):wpAny (model prog w) A (call (.type T) args kw) Q E s:=by
 obtain⟨k1,k2,e1⟩:=ft.mro
 have e2:=ft.made
 have e3:=ft.sub
 have e4:=ft.notType
 have e5:=ft.canCreate
 have e6:=ft.init.lookup
 refine wpAny_call (codeAny_of_tree ?_)
 refine wpAny_pure ⟨Code.quiet_builtin _ (by decide +kernel),codeAny_builtin F.entry_type_call ?_⟩
 rw[Around.under_plain (weight_type_call_type T args kw) (units_type_call_type T args kw)]
 repeat (any_goals (first | assumption | wp_step))
 refine codeAny_mono (codeAny_call_builtin ft.plain eN (wpAny_of_eq c2 (mt prog w A.in1 _ s h))) fun r1 s1 q1=>?_
 cases r1 with
 | error e=>exact q1
 | ok f1=>
  cases f1 with
  | ret o=>
   obtain⟨hT,hq⟩:=q1
   have e7:=ft.init.bind o
   repeat (any_goals (first | assumption | wp_step))
   have mi:Meets (Builtin.«object.__init__» ⟨o::args,kw⟩) (fun _ R s=>s.TypeIs o T∧R (.ok (.ret .none)) s):=by
    refine Meets.of_wp fun prog w A R s hs=>?_
    obtain⟨hT,hq⟩:=hs
    cases args with
    | nil=>
     cases kw with
     | nil=>exact wpAny_pure ⟨_,rfl,hq⟩
     | cons b bs=>
      repeat (any_goals (first | assumption | wp_step))
      exact⟨_,rfl,hq⟩
    | cons a as=>
     repeat (any_goals (first | assumption | wp_step))
     exact⟨_,rfl,hq⟩
   refine codeAny_mono (codeAny_call_builtin ft.init.plain F.entry_object_init (ft.init.check _ _ _ _ _ _ _ _ hT (c3 o) (mi prog w A.in1 (wants (fun r s₂=>r=.none∧Q o s₂) E) s1 ⟨hT,rfl,hq⟩))) fun r2 s2 q2=>?_
   cases r2 with
   | error e=>exact q2
   | ok f2=>
    cases f2 with
    | ret r=>
     obtain⟨rfl,hq⟩:=q2
     repeat (any_goals (first | assumption | wp_step))
    | _=>exact q2.elim
  | _=>exact q1.elim
end
end PM
end
section
set_option autoImplicit false
namespace PM
open PySem PySem.W PySem.Calls PyProof.Rows PyProof PyProof.Rows.LCg PyProof.Rows.LCp
noncomputable def Zev(a:Nat): Nx:=fun i H=>H[a]?.bind fun vs=>match vs[i]? with
 | some x=>some (some (.tup [.int ((i+1:Nat):Int),x]))
 | none=>if i=vs.length then some none else none
noncomputable def ZfS(f:Ex): Src:=fun ρ H=>(f ρ H).bind fun p=>match p.1 with
 | .ref a=>p.2[a]?.map fun vs=>(Zev a,vs.length+1,p.2)
 | _=>none
theorem Zqb{prog:Program}{w:World}{A:Around}{it:Addr}{fp:List Addr}{n:Nat}{P:Nat→Value→Prop}{St:Nat→Heap→Prop}(D:Draws prog w A it fp n P St):
  Draws prog w A it fp (n+1) (fun i v=>∃j,i=j+1∧P j v) (fun i h=>∃j,i=j+1∧St j h) where
 live:=fun i h ⟨j,_,s⟩=>D.live j h s
 frame:=fun i h h' ⟨j,e,s⟩ k=>⟨j,e,D.frame j h h' s k⟩
 item:=fun i s Q E hi ⟨j,e,st⟩ k=>D.item j s Q E (by omega) st fun x h' tk p q r=>k x h' tk ⟨j,e,p⟩ ⟨j+1,by omega,q⟩ r
 done:=fun s Q E ⟨j,e,st⟩ k=>by
  have:j=n:=by omega
  subst this
  exact D.done s Q E st k
theorem Zqc{prog:Program}{w:World}{A:Around}{I:Addr}{fp wr:List Addr}{n:Nat}{Pt:Nat→Array Value→Prop}{St:Nat→Heap→Prop}{Mid:Nat→Addr→Heap→Prop}(W:WalksT prog w A I fp wr (n+1) Pt St Mid):
  WalksT prog w A I fp wr n (fun i=>Pt (i+1)) (fun i=>St (i+1)) (fun i=>Mid (i+1)) where
 sub:=W.sub
 frame:=fun i=>W.frame (i+1)
 item:=fun i s Q E hi=>W.item (i+1) s Q E (by omega)
 go:=fun elts k pos i=>W.go elts k pos (i+1)
 apart:=fun i=>W.apart (i+1)
 done:=W.done
 self:=fun i=>W.self (i+1)
theorem Zll{P:Nat→Prop}{i:Nat}: (∃j,i+1=j+1∧P j)↔P i:=by
 constructor
 ·rintro⟨j,e,p⟩
  have:j=i:=by omega
  exact this▸p
 ·exact fun p=>⟨i,rfl,p⟩
theorem Zgf{prog:Program}{w:World}{A:Around}(hh:A.handled=none)(e it l:Addr)(hei:e≠it)(hle:l≠e)(hli:l≠it)(xs:Array Value):
  WalksT prog w A e [e,it,l] [e,it] xs.size
   (fun i vals=>∃t x,xs[i]?=some x∧vals = #[.int ((i+1:Nat):Int) t,x])
   (fun i h=>(∃old,IsEnum h e it ((i+1:Nat):Int) old)∧h.IsListIter it l i∧h.IsList l xs)
   (fun i T h=>(∃x,IsEnumOut h e it (((i+1:Nat):Int)+1) x T)∧(h.IsListIter it l (i+1)∧h.IsList l xs)∧T≠e∧T≠it):=by
 have:=Zqc (WalksT.enumerateD (prog:=prog) (w:=w) (A:=A) (Zqb (Draws.list (A:=A.in1) hh it l hli xs)) e hei (by simp[hei,Ne.symm hle]) (by simp))
 simp only[Zll (P:=fun j=>xs[j]?=some _),Zll (P:=fun j=>_∧_)]at this
 exact this
section
variable {M:Model} {A:Around} {E:Value→Shared→Prop} {s:Shared} {env:Env}
theorem ZnZ{pos:Pos}{T:String}{e:Expr}{rest:List Expr}{kws:List Keyword}{Q:Value→Shared→Prop}
  (h:wpAny M A (spliced (backTo pos (starEach (e::rest) env))) (fun vs s1=>wpAny M A (evalAll ((backToKw pos (keywordEach kws env)).map (·.2))) (fun ks s2=>wpAny M A (call (.type T) vs (((backToKw pos (keywordEach kws env)).filterMap (·.1)).zip ks)) Q E s2) E s1) E s)
  (e1:backTo pos (starEach (e::rest) env)=(false,eval e env)::backTo pos (starEach rest env):=by rfl) (e2:(backTo pos (starEach (e::rest) env)).any (·.1)=false:=by rfl)
  (e3:(backToKw pos (keywordEach kws env)).all (·.1.isSome)=true:=by rfl) (e4:(backToKw pos (keywordEach kws env)).any (·.1.isNone)=false:=by rfl):
  wpAny M A (callWith pos (.type T) [] (backTo pos (starEach (e::rest) env)) (backToKw pos (keywordEach kws env))) Q E s:=by
 unfold callWith
 rw[e1]at h e2 ⊢
 refine wpAny_bind (wpAny_holding (wpAny_mono (evalArgs_kwB (Q:=fun a s1=>wpAny M A (call (.type T) ([]++a.pos) a.kw) Q E s1) e3 h) (fun a s1 q1=>wpAny_bind (wpAny_standAt ?_)) fun _ _ x=>x))
 simp only[e2,e4,Bool.or_false]
 exact wpAny_bind (wpAny_pure (wpAny_bind (wpAny_mono q1 (fun r s2 q2=>wpAny_bind (wpAny_holding (wpAny_point (wpAny_pure q2)))) fun _ _ x=>x)))
end
theorem Zmk{prog:Program}{w:World}{A:Around}{E:Value→Shared→Prop}{s:Shared}{l:Addr}{xs:Array Value}{t:Tok}{Q:Value→Shared→Prop}(isl:s.heap.IsList l xs)
  (h:∀h' tk,IsEnum h' (s.heap.objs.size+1) s.heap.objs.size ((0+1:Nat):Int) .none→h'.IsListIter s.heap.objs.size l 0→h'.objs.size=s.heap.objs.size+2→(∀b o,s.heap.get? b=some o→h'.get? b=some o)→Q (.ref (s.heap.objs.size+1)) { s with heap:=h',toks:=tk }):
  wpAny (model prog w) A (call (.type "enumerate") [.ref l] (kwS t)) Q E s:=by
 obtain⟨⟨c,dc,dt,sl⟩,g1,g2,n,g3⟩:=isl
 simp only at g2 g3
 subst g2 g3
 refine Zo0 F.called_enumerate (by decide) (by kernel_rfl) (by kernel_rfl) (fun o=>by unfold argsOk;kernel_rfl) F.entry_enumerate_new (Zng l xs n dc sl t) ⟨g1,fun tk=>?_⟩
 have z:(s.heap.push { cls:=.type "list_iterator",data:=.fields #[.ref l,.int 0 0] }).objs.size=s.heap.objs.size+1:=Heap.size_push ..
 have at2:=Heap.get?_push_size (s.heap.push { cls:=.type "list_iterator",data:=.fields #[.ref l,.int 0 0] }) (o:={ cls:=.type "enumerate",data:=.fields #[.none,.bool false,.ref s.heap.objs.size,rawInt 1,.none,.none] }) rfl
 rw[z]at at2
 exact⟨⟨_,at2,rfl⟩,h _ tk at2 ⟨_,Heap.get?_push_of_some _ (Heap.get?_push_size _ rfl),rfl,rfl⟩ (by rw[Heap.size_push,z]) fun b o x=>Heap.get?_push_of_some _ (Heap.get?_push_of_some _ x)⟩
section
variable {prog:Program} {w:World} {Γ:Cx}
noncomputable def ES1(e it l:Addr)(i:Nat)(h:Heap): Prop:=(∃old,IsEnum h e it ((i+1:Nat):Int) old)∧h.IsListIter it l i
theorem ES1.at{e it l:Addr}{i:Nat}{h h':Heap}(x:ES1 e it l i h)(k:∀a∈[e,it],∀o,h.get? a=some o→h'.get? a=some o): ES1 e it l i h':=by
 obtain⟨⟨old,h1⟩,h2⟩:=x
 exact⟨⟨old,k e (by simp) _ h1⟩,h2.at fun o x=>k it (by simp) o x⟩
theorem ES1.have{e it l:Addr}{i:Nat}{h:Heap}(x:ES1 e it l i h): ∀a∈[e,it],∃o,h.get? a=some o:=by
 obtain⟨⟨old,h1⟩,o,h2,_⟩:=x
 intro a ha
 simp at ha
 rcases ha with rfl | rfl
 ·exact⟨_,h1⟩
 ·exact⟨_,h2⟩
noncomputable def EJt(e it l:Addr)(i:Nat)(fs:List (Addr×Obj)): Prop:=fs.map (·.1)=[e,it]∧∀h:Heap,(∀q∈fs,h.get? q.1=some q.2)→ES1 e it l i h
theorem ZkZ{e it l:Addr}{i:Nat}{h:Heap}(x:ES1 e it l i h): ∃fs,EJt e it l i fs∧∀q∈fs,h.get? q.1=some q.2:=by
 obtain⟨fs,h1,h2⟩:=Zgk h [e,it] x.have
 refine⟨fs,⟨h1,fun h' k=>x.at fun a ha o ho=>?_⟩,h2⟩
 rw[←h1]at ha
 obtain⟨q,hq,eq⟩:=Zz11.mp ha
 have:=h2 q hq
 rw[eq,ho]at this
 cases this
 exact eq▸k q hq
theorem Zn0{W0:Wd}{e it l:Addr}{a:Nat}(ea:W0.pi[a]?=some l)(hei:e≠it)(hle:l≠e)(hli:l≠it):
  Itr2 prog w Γ W0 (.ref e) [e,it] (EJt e it l) (Zev a):=by
 refine⟨fun i fs h=>h.1,?_,?_,?_,?_⟩
 ·intro i H v hh
  obtain⟨vs,e1,hh⟩:=Zz0.mp hh
  split at hh
  ·cases hh
   exact⟨_,_,rfl⟩
  ·split at hh <;> cases hh
 ·intro i W ρ H fr fs s Q E va vb le r ap hit hn post
  obtain⟨vs,e1,hh⟩:=Zz0.mp hn
  have hv:va=.int ((i+1:Nat):Int)∧vs[i]?=some vb:=by
   split at hh
   ·rename_i x h1
    cases hh
    exact⟨rfl,h1⟩
   ·split at hh <;> cases hh
  obtain⟨_,xs,k1,g1,v1⟩:=r.at e1 (le.at ea)
  obtain⟨x,hx,rx⟩:=v1.at hv.2
  have st:ES1 e it l i s.heap:=hit.2 _ fun q hq=>r.frAt (Zz4 _ hq)
  have Wk:=Zgf (prog:=prog) (w:=w) (A:=Γ.A) Γ.hh e it l hei hle hli xs.toArray
  have isl1:s.heap.IsList l xs.toArray:=⟨_,g1,rfl,k1,rfl⟩
  have hi:i<xs.toArray.size:=by
   have h1:=(Zz6.mp hx).1
   simpa using h1
  refine Wk.item i s Q E hi ⟨st.1,st.2,isl1⟩ fun T vals h1 t1 hp hT hTup hmid keep1=>post T h1 t1 ?_
  intro elts k pos s1 Q1 E1 es1 q1
  subst es1
  have hTw:=Wk.apart i T _ hmid
  refine Wk.go elts k pos i T _ Q1 E1 hmid fun h2 st2 keep2=>?_
  obtain⟨tk,x',hx',ev⟩:=hp
  have ex:x'=x:=by
   have:xs[i]?=some x':=by simpa using hx'
   rw[hx]at this
   exact(Option.some.inj this).symm
  subst ex ev
  obtain⟨fs',hit',at'⟩:=ZkZ (h:=h2) (⟨st2.1,st2.2.1⟩:ES1 e it l (i+1) h2)
  obtain⟨oT,gT,cT,nT,dT⟩:=hTup
  refine q1 fs' h2 (.int ((i+1:Nat):Int) tk) x' hit' ?_ ⟨oT,keep2 T oT hTw gT,cT,nT,dT⟩ (by rw[hv.1];exact .int _ _) rx
  refine r.swap (fs':=fs') (fun q hq t ht=>?_) (fun c o hc e=>?_) fun q hq=>⟨at' q hq,?_⟩
  ·exact ap _ (hit.1▸List.mem_map_of_mem hq) t ht
  ·rw[hit.1]at hc
   exact keep2 c o hc (keep1 c o hc e)
  ·rw[hit.1,←hit'.1]
   exact List.mem_map_of_mem hq
 ·intro i W ρ H fr fs s Q E le r ap hit hn post
  obtain⟨vs,e1,hh⟩:=Zz0.mp hn
  obtain⟨_,xs,k1,g1,v1⟩:=r.at e1 (le.at ea)
  have hi:i=vs.length:=by
   split at hh
   ·cases hh
   ·split at hh
    ·assumption
    ·cases hh
  have st:ES1 e it l i s.heap:=hit.2 _ fun q hq=>r.frAt (Zz4 _ hq)
  have Wk:=Zgf (prog:=prog) (w:=w) (A:=Γ.A) Γ.hh e it l hei hle hli xs.toArray
  have hm:xs.toArray.size=i:=by simp[v1.length,hi]
  refine Wk.done s Q E (by rw[hm];exact⟨st.1,st.2,⟨_,g1,rfl,k1,rfl⟩⟩) fun h' tk keep=>post h' tk ?_
  have:=r.swap (fs':=[]) (fun q hq t ht=>ap _ (hit.1▸List.mem_map_of_mem hq) t ht) (fun c o hc e=>keep c o (by rw[hit.1]at hc;exact hc) e) (fun q hq=>nomatch hq)
  exact this
 ·intro i W ρ H fr fs s Q E o le r hit hn q
  obtain⟨vs,e1,hh⟩:=Zz0.mp hn
  obtain⟨_,xs,k1,g1,v1⟩:=r.at e1 (le.at ea)
  have st:ES1 e it l i s.heap:=hit.2 _ fun q hq=>r.frAt (Zz4 _ hq)
  have Wk:=Zgf (prog:=prog) (w:=w) (A:=Γ.A) Γ.hh e it l hei hle hli xs.toArray
  exact Wk.self i s Q E ⟨st.1,st.2,⟨_,g1,rfl,k1,rfl⟩⟩ q
theorem Znh{x:Str}{np pos kp p2:Pos}{n2:Nat}{e1:Expr}{f:Ex}(hn:Nm prog w Γ x (.type "enumerate"))(h1:J prog w Γ e1 f)
  (he0:backTo pos (starEach [e1] Γ.env)=(false,eval e1 Γ.env)::backTo pos (starEach [] Γ.env):=by rfl) (hp:(backTo pos (starEach [e1] Γ.env)).any (·.1)=false:=by rfl)
  (he:starEach [e1] Γ.env=(false,eval e1 Γ.env)::starEach [] Γ.env:=by rfl):JI2 prog w Γ (.Call (.Name x np) [e1] [⟨some (Str.ofString "start"),.Constant (.int 1) n2 p2,kp⟩] pos) (ZfS f):=by
 intro W ρ H fr s Q E nx n H' r hf post
 obtain⟨p,a1,hf⟩:=Zz0.mp hf
 refine wpAny_Call_ofName (hn.use r ?_)
 refine ZnZ (wpAny_items_cons (h1 W ρ H fr s _ E _ _ r a1 fun W1 k1 t1 y1 l1 r1 v1=>wpAny_items_nil ?_) he) he0 hp rfl rfl
 refine kws_cons (wpAny_Constant_int (kws_nil ?_))
 obtain⟨u1,H1⟩:=p
 simp only at hf v1 r1
 cases u1 <;> first | (cases hf;done) | skip
 rename_i b1
 obtain⟨vs,c1,c3⟩:=Zz1.mp hf
 cases c3
 cases v1 with
 | @ref _ m1 ea=>
 obtain⟨_,xs,n1,g1,w1⟩:=r1.at c1 ea
 have isl1:k1.IsList m1 xs.toArray:=⟨_,g1,rfl,n1,rfl⟩
 refine Zmk (s:={ s with heap:=k1,toks:=_ }) isl1 fun h₁ tk1 hE hI hsz up=>?_
 have hlt:m1<k1.objs.size:=Heap.lt_size g1
 have Wk:=Zgf (prog:=prog) (w:=w) (A:=Γ.A) Γ.hh (k1.objs.size+1) k1.objs.size m1 (Nat.succ_ne_self _) (Nat.ne_of_lt (Nat.lt_succ_of_lt hlt)) (Nat.ne_of_lt hlt) xs.toArray
 have zs:ES1 (k1.objs.size+1) k1.objs.size m1 0 h₁:=⟨⟨_,hE⟩,hI⟩
 refine Wk.self 0 _ _ _ ⟨⟨_,hE⟩,hI,isl1.at fun o e=>up _ o e⟩ ?_
 obtain⟨fs,hit,at'⟩:=ZkZ zs
 obtain⟨r3,ap3⟩:=r1.more (fs:=fs) (h':=h₁) (fun b o e=>up b o e) (fun q hq=>⟨at' q hq,by
  have:q.1∈fs.map (·.1):=List.mem_map_of_mem hq
  rw[hit.1]at this
  simp at this
  rcases this with e | e <;> rw[e] <;> omega⟩)
 refine post W1 h₁ tk1 _ _ _ fs l1 hit r3 (fun b hb t ht=>?_) (Zn0 ea (Nat.succ_ne_self _) (Nat.ne_of_lt (Nat.lt_succ_of_lt hlt)) (Nat.ne_of_lt hlt)) ?_
 ·rw[←hit.1]at hb
  obtain⟨q,hq,e⟩:=Zz11.mp hb
  exact e▸ap3 q hq t ht
 ·simp only[Zev,c1,Option.bind_some]
  cases q:vs[0]? with
  | some x=>exact⟨_,rfl⟩
  | none=>
   have:vs.length=0:=by simpa using q
   simp[this]
end
end PM
end
section
set_option autoImplicit false
namespace TM
open PySem PM
noncomputable def ZqN: Option Int→T
 | some k=>.int k
 | none=>.none
noncomputable def ZqW: List T→Option T
 | [.lst ts]=>(Zjj ts).map fun ks=>ZqN ks.min?
 | _=>none
noncomputable def enumS(ts:List T): List T:=List.zipWith (fun i t=>.tup [.int ((i+1:Nat):Int),t]) (List.range ts.length) ts
noncomputable def ZfT(p:PE): PG:=fun σ=>(p σ).bind fun t=>match t with
 | .lst ts=>some (enumS ts)
 | _=>none
theorem Zni{ts:List T}: (enumS ts).length=ts.length:=by simp[enumS]
theorem Zkb{H:Hp}: ∀{vs:List V} {ts:List T} {F:List Nat} (k:Nat),RFs H vs ts F→RFs H (List.zipWith (fun i v=>V.tup [.int ((i+1:Nat):Int),v]) (List.range' k ts.length) vs) (List.zipWith (fun i t=>T.tup [.int ((i+1:Nat):Int),t]) (List.range' k ts.length) ts) F
 | _,_,_,_,.nil=>.nil
 | _,_,_,k,.cons a b=>by
  rw[List.length_cons,List.range'_succ]
  have h1:RF H (V.tup [.int ((k+1:Nat):Int),_]) (T.tup [.int ((k+1:Nat):Int),_]) _:=.tup (.cons (.int _) (.one a))
  simpa using RFs.cons h1 (Zkb (k+1) b)
theorem Zn1{O N:List Nat}{u:Bool}{e:Ex}{p:PE}(x:E O N u e p): Gs O N (ZfS e) (ZfT p):=fun c ρ σ H Φ ts s h=>by
 obtain⟨t1,h1,h⟩:=Zz0.mp h
 obtain⟨v,X,F,a1,a2,a3,a4⟩:=x c ρ σ H Φ t1 s h1
 have hlt:=a2.lt
 cases a2 with
 | none=>cases h
 | bool=>cases h
 | int=>cases h
 | str=>cases h
 | tup=>cases h
 | @ref b vs us F' e1 hs=>
  cases h
  have hl:=hs.length
  refine⟨Zev b,X,List.zipWith (fun i v=>V.tup [.int ((i+1:Nat):Int),v]) (List.range us.length) vs,F',b::F',by simp only[ZfS,a1,Option.bind_some,e1,Option.map_some,Zni,hl],?_,fun _ m=>List.mem_cons_of_mem _ m,fun a m=>⟨hlt a m,a3 a m⟩,fun K hK i hi=>?_⟩
  ·have:=Zkb 0 hs
   unfold TM.enumS
   rw[List.range_eq_range']
   exact this
  ·simp only[Zev,hK b Zz5,e1,Option.bind_some,List.getElem?_zipWith]
   simp only[List.length_zipWith,List.length_range]at hi
   by_cases q:i<vs.length
   ·rw[List.getElem?_eq_getElem q,List.getElem?_range (by omega)]
   ·rw[List.getElem?_eq_none (by omega),List.getElem?_eq_none (by simp;omega)]
    simp
    omega
theorem Znj{n:Nat}{f:Nat→T}: enumS (tab n f)=tab n fun i=>.tup [.int ((i+1:Nat):Int),f i]:=by
 unfold enumS
 rw[Zat]
 have:List.range n=tab n fun i=>i:=by simp[tab]
 rw[this,ZiK,Nat.min_self]
section
variable {σ:TL} {L:List T→Prop}
theorem Zn2{f:PE}{n:Nat}{g:Nat→T}(h:f σ=some (.lst (tab n g)))(q:L (TM.tab n fun i=>.tup [.int ((i+1:Nat):Int),g i])): Pl (ZfT f σ) L:=
 ⟨_,by simp only[ZfT,h,Option.bind_some,Znj],q⟩
end
end TM
end
section
set_option autoImplicit false
namespace PM
open PySem PySem.W PySem.Calls PyProof.Rows PyProof PySem.Spec
noncomputable def ZfU: Expr→Bool
 | .Starred _ _=>true
 | _=>false
theorem starE{e:Expr}{es:List Expr}{env:Env}(h:ZfU e=false): starEach (e::es) env=(false,eval e env)::starEach es env:=by
 cases e <;> first | rfl | cases h
noncomputable def ZfV: List Expr→Bool
 | []=>true
 | e::es=>!ZfU e && ZfV es
theorem Zly{env:Env}: ∀{es:List Expr} (pos:Pos),ZfV es=true→(backTo pos (starEach es env)).any (·.1)=false
 | [],pos,_=>by rfl
 | e::es,pos,h=>by
  simp only[ZfV,Bool.and_eq_true,Bool.not_eq_true']at h
  have ih:=Zly (env:=env) (es:=es) pos h.2
  rw[starE h.1]
  unfold backTo at ih ⊢
  simp only[List.map_cons,List.any_cons,Bool.false_or]
  exact ih
section
variable {prog:Program} {w:World} {Γ:Cx}
theorem jc{e:Expr}{es:List Expr}{f:Ex}{g:Exs}(h1:J prog w Γ e f)(h2:Js prog w Γ es g)(hs:ZfU e=false:=by exact rfl): Js prog w Γ (e::es) (Zf f g):=Zol h1 h2 (starE hs)
end
section
variable {prog:Program} {w:World} {K:Frag} {p:Program} {loose:List Str} {mean:ExcName→Option Value} {mg mb:Str→Option Value}
end
end PM
end
section
set_option autoImplicit false
namespace PM
open PySem PySem.W PySem.Calls PyProof.Rows PyProof PySem.Spec
section
variable {prog:Program} {w:World} {Γ:Cx}
theorem ln1{α:Type _}: ∀{xs:List α},xs.length=1→∃x0,xs=[x0]
 | [x0],_=>⟨x0,rfl⟩
theorem ln2{α:Type _}: ∀{xs:List α},xs.length=2→∃x0 x1,xs=[x0,x1]
 | [x0,x1],_=>⟨x0,x1,rfl⟩
theorem ln3{α:Type _}: ∀{xs:List α},xs.length=3→∃x0 x1 x2,xs=[x0,x1,x2]
 | [x0,x1,x2],_=>⟨x0,x1,x2,rfl⟩
theorem ln4{α:Type _}: ∀{xs:List α},xs.length=4→∃x0 x1 x2 x3,xs=[x0,x1,x2,x3]
 | [x0,x1,x2,x3],_=>⟨x0,x1,x2,x3,rfl⟩
theorem ln5{α:Type _}: ∀{xs:List α},xs.length=5→∃x0 x1 x2 x3 x4,xs=[x0,x1,x2,x3,x4]
 | [x0,x1,x2,x3,x4],_=>⟨x0,x1,x2,x3,x4,rfl⟩
theorem ln6{α:Type _}: ∀{xs:List α},xs.length=6→∃x0 x1 x2 x3 x4 x5,xs=[x0,x1,x2,x3,x4,x5]
 | [x0,x1,x2,x3,x4,x5],_=>⟨x0,x1,x2,x3,x4,x5,rfl⟩
theorem ln7{α:Type _}: ∀{xs:List α},xs.length=7→∃x0 x1 x2 x3 x4 x5 x6,xs=[x0,x1,x2,x3,x4,x5,x6]
 | [x0,x1,x2,x3,x4,x5,x6],_=>⟨x0,x1,x2,x3,x4,x5,x6,rfl⟩
theorem jI{k:Int}{n:Nat}{pos:Pos}: J prog w Γ (.Constant (.int k) n pos) (Zj k):=J.int _ _ _
theorem jN{n:Nat}{pos:Pos}: J prog w Γ (.Constant .none n pos) ZU:=J.none _ _
theorem jB{b:Bool}{n:Nat}{pos:Pos}: J prog w Γ (.Constant (.bool b) n pos) (Zba b):=J.bool _ _ _
theorem cO{elt iter:Expr}{x:Str}{px:Pos}{ifs:List Expr}{scope:Scope}{pos:Pos}{cl:List (Str×Addr)}{t:Nat}{g:Src}{c:Ts}{f:Ex}(hg:JI prog w Γ iter g)(hel:∀C ρ,J prog w (ZaI Γ scope cl C [(x,t)] ρ) elt f)(hif:∀C ρ,JF prog w (ZaI Γ scope cl C [(x,t)] ρ) ifs c)
  (hclos:closureFor scope Γ.env=pure cl:=by with_unfolding_all rfl) (hcell:∀y∈scope.names,y.2≠.cell:=by decide) (hkind:scope.kind=.function:=by exact rfl) (hnames:∀y∈scope.names,y.2=.local→scope.names.lookup y.1=some .local:=by decide) (hx:scope.names.lookup x=some .local:=by exact rfl) (hs:∀x,foldedSetIterable iter Γ.env x=pure x:=by intro _;rfl):
  J prog w Γ (.ListComp elt [⟨.Name x px,iter,ifs,0⟩] scope pos) (ZaC g (Zap t) c f):=Zpn hg hel hif hclos hcell hkind hnames hx hs
theorem cT{elt iter:Expr}{x x₂:Str}{px px₂ tp:Pos}{kt:Nat}{scope:Scope}{pos:Pos}{cl:List (Str×Addr)}{t t₂:Nat}{g:Src}{f:Ex}(hg:JI2 prog w Γ iter g)(hel:∀C ρ,J prog w (ZaI Γ scope cl C [(x,t),(x₂,t₂)] ρ) elt f)
  (hclos:closureFor scope Γ.env=pure cl:=by with_unfolding_all rfl) (hcell:∀y∈scope.names,y.2≠.cell:=by decide) (hkind:scope.kind=.function:=by exact rfl) (hnames:∀y∈scope.names,y.2=.local→scope.names.lookup y.1=some .local:=by decide) (hx:scope.names.lookup x=some .local:=by exact rfl) (hx₂:scope.names.lookup x₂=some .local:=by exact rfl) (hxx:x≠x₂:=by decide) (htt:t≠t₂:=by decide) (hs:∀x,foldedSetIterable iter Γ.env x=pure x:=by intro _;rfl):
  J prog w Γ (.ListComp elt [⟨.Tuple [.Name x px,.Name x₂ px₂] kt tp,iter,[],0⟩] scope pos) (ZaC g (ZbW t t₂) Zaq f):=Zop hg hel hclos hcell hkind hnames hx hx₂ hxx htt hs
theorem sO{elt iter:Expr}{x y:Str}{px py pos spos:Pos}{ifs:List Expr}{scope:Scope}{cl:List (Str×Addr)}{t i:Nat}{g:Src}{c:Ts}{f:Ex}(hy:Sto prog w Γ y i)(hg:JI prog w Γ iter g)(hel:∀C ρ,J prog w (ZaI Γ scope cl C [(x,t)] ρ) elt f)(hif:∀C ρ,JF prog w (ZaI Γ scope cl C [(x,t)] ρ) ifs c)
  (hsw:swapsWith (.ListComp elt [⟨.Name x px,iter,ifs,0⟩] scope pos) (some (.Name y py)) spos.line Γ.env=pure true:=by rfl)
  (hclos:closureFor scope Γ.env=pure cl:=by with_unfolding_all rfl) (hcell:∀y∈scope.names,y.2≠.cell:=by decide) (hkind:scope.kind=.function:=by exact rfl) (hnames:∀y∈scope.names,y.2=.local→scope.names.lookup y.1=some .local:=by decide) (hx:scope.names.lookup x=some .local:=by exact rfl) (hs:∀x,foldedSetIterable iter Γ.env x=pure x:=by intro _;rfl):
  S1 prog w Γ (.Assign [.Name y py] (.ListComp elt [⟨.Name x px,iter,ifs,0⟩] scope pos) spos) (ZK i (ZaC g (Zap t) c f)):=ZmA hy hg hel hif hsw hclos hcell hkind hnames hx hs
theorem sT{elt iter:Expr}{x x₂ y:Str}{px px₂ tp py pos spos:Pos}{kt:Nat}{scope:Scope}{cl:List (Str×Addr)}{t t₂ i:Nat}{g:Src}{f:Ex}(hy:Sto prog w Γ y i)(hg:JI2 prog w Γ iter g)(hel:∀C ρ,J prog w (ZaI Γ scope cl C [(x,t),(x₂,t₂)] ρ) elt f)
  (hsw:swapsWith (.ListComp elt [⟨.Tuple [.Name x px,.Name x₂ px₂] kt tp,iter,[],0⟩] scope pos) (some (.Name y py)) spos.line Γ.env=pure true:=by rfl)
  (hclos:closureFor scope Γ.env=pure cl:=by with_unfolding_all rfl) (hcell:∀y∈scope.names,y.2≠.cell:=by decide) (hkind:scope.kind=.function:=by exact rfl) (hnames:∀y∈scope.names,y.2=.local→scope.names.lookup y.1=some .local:=by decide) (hx:scope.names.lookup x=some .local:=by exact rfl) (hx₂:scope.names.lookup x₂=some .local:=by exact rfl) (hxx:x≠x₂:=by decide) (htt:t≠t₂:=by decide) (hs:∀x,foldedSetIterable iter Γ.env x=pure x:=by intro _;rfl):
  S1 prog w Γ (.Assign [.Name y py] (.ListComp elt [⟨.Tuple [.Name x px,.Name x₂ px₂] kt tp,iter,[],0⟩] scope pos) spos) (ZK i (ZaC g (ZbW t t₂) Zaq f)):=Zmj hy hg hel hsw hclos hcell hkind hnames hx hx₂ hxx htt hs
end
section
variable {prog:Program} {w:World} {dp un:Nat} {gd:Option (List Code)} {cn:Str} {cs:Scope} {L a:Addr} {ccd:Value} {cl:List (Str×Addr)} {outer:List Env} {h₀:Heap} {hu:un+200<cLine} {names:List Str}
theorem vL{x:Str}{i:Nat}{pos:Pos}(hi:names[i]?=some x:=by rfl)(hx:cs.names.lookup x=some .local:=by exact rfl)(hk:cs.kind=.function:=by exact rfl)(hd:(x == ("__debug__":Str))=false:=by exact rfl): J prog w (Za8 dp un gd cn cs L a ccd cl outer h₀ hu names) (.Name x pos) (Za i):=Zf8 (Zpl hi hx hk hd)
theorem vC{x:Str}{i:Nat}{pos:Pos}(hi:names[i]?=some x:=by rfl)(hx:cs.names.lookup x=some .cell:=by exact rfl)(hk:cs.kind=.function:=by exact rfl)(hd:(x == ("__debug__":Str))=false:=by exact rfl): J prog w (Za8 dp un gd cn cs L a ccd cl outer h₀ hu names) (.Name x pos) (Za i):=Zf8 (Zpm hi hx hk hd)
theorem sL{x:Str}{i:Nat}(nd:names.Nodup:=by decide)(hi:names[i]?=some x:=by rfl)(hx:cs.names.lookup x=some .local:=by exact rfl)(hk:cs.kind=.function:=by exact rfl): Sto prog w (Za8 dp un gd cn cs L a ccd cl outer h₀ hu names) x i:=Zom nd hi hx hk
theorem sC{x:Str}{i:Nat}(nd:names.Nodup:=by decide)(hi:names[i]?=some x:=by rfl)(hx:cs.names.lookup x=some .cell:=by exact rfl)(hk:cs.kind=.function:=by exact rfl)(hcl:(cl.lookup x).isSome=true:=by exact rfl): Sto prog w (Za8 dp un gd cn cs L a ccd cl outer h₀ hu names) x i:=Zon nd hi hx hk hcl
end
section
variable {prog:Program} {w:World} {K:Frag} {p:Program} {loose:List Str} {mean:ExcName→Option Value} {mg mb:Str→Option Value} {Γ:Cx} {dp un:Nat}
theorem nB{x:Str}{v:Value}(clr:Clr K p loose mean mg mb Γ dp un)(e:nsIn K mainGlobals x=some Option.none:=by k_is)(hv:bootBuiltins x=some v:=by boot_by_name)(hn:x≠"__name__":=by decide)(hg:Γ.env.globals=mainGlobals:=by exact rfl)(hb:Γ.env.builtins=builtinsNs:=by exact rfl)(hk:Γ.env.scope.kind=.function:=by exact rfl)(hx:Γ.env.kindOf x=some .globalImplicit:=by exact rfl)(hd:(x == ("__debug__":Str))=false:=by exact rfl): Nm prog w Γ x v:=ZnH clr e hv hn hg hb hk hx hd
theorem cF{x:Str}{np pos:Pos}{f:Addr}{room:Nat}{e:Expr}{es:List Expr}{g:Exs}{o:List V→Hp→Option (V×Hp)}(clr:Clr K p loose mean mg mb Γ dp un)(D:Def prog w K p loose mean mg mb f room o)(h:Js prog w Γ (e::es) g)
  (en:nsIn K mainGlobals x=some (some (.ref f)):=by k_is) (hg:Γ.env.globals=mainGlobals:=by exact rfl) (hk:Γ.env.scope.kind=.function:=by exact rfl) (hx:Γ.env.kindOf x=some .globalImplicit:=by exact rfl) (hd0:(x == ("__debug__":Str))=false:=by exact rfl)
  (hkeep:keepIn K (.ref f)=true:=by k_is) (hd:dp+room<recursionLimit:=by omega) (hu:un+10*room+300<cLine:=by omega)
  (he:ZfU e=false:=by exact rfl) (hp:ZfV es=true:=by exact rfl):J prog w Γ (.Call (.Name x np) (e::es) [] pos) (Zq o g):=Zoq clr (Zps clr en hg hk hx hd0) hkeep D hd hu h (starE he) (fun pos=>Zly pos hp)
theorem Dof{name qual:Str}{params:Arguments}{body:List Stmt}{scope:Scope}{dV kV doc pm cdv ct oc:Value}{an od:Option Addr}{osl:Array (Option Value)}{f:Addr}{names:List Str}{n room:Nat}{g:Sm}
  (hbody:∀(dp un:Nat) (gd:Option (List Code)) (L:Addr) (outer:List Env) (h₀:Heap) (hu:un+200<cLine),Clr K p loose mean mg mb (Za8 dp un gd qual scope L f cdv (cellsFrom (L+1) scope.names []) outer h₀ hu names) dp un→dp+room<recursionLimit→un+10*room+300<cLine →
   Ss prog w (Za8 dp un gd qual scope L f cdv (cellsFrom (L+1) scope.names []) outer h₀ hu names) body g)
  (ho:K.lookup f=some ⟨oc,od,.func (fnOf name qual params body scope dV kV doc pm an cdv ct),osl⟩:=by k_is) (hcd:codeIn K cdv qual=true:=by k_is) (nd:names.Nodup:=by decide) (hn:n≤names.length:=by decide)
  (hbind:∀s xs,xs.length=n→BindsTo s (fnOf name qual params body scope dV kV doc pm an cdv ct) ⟨xs,[]⟩ ((names.take n).zip xs):=by
   intro s xs hx
   first
   | (obtain⟨x0,rfl⟩:=ln1 hx;exact BindsTo.of_eq rfl)
   | (obtain⟨x0,x1,rfl⟩:=ln2 hx;exact BindsTo.of_eq rfl)
   | (obtain⟨x0,x1,x2,rfl⟩:=ln3 hx;exact BindsTo.of_eq rfl)
   | (obtain⟨x0,x1,x2,x3,rfl⟩:=ln4 hx;exact BindsTo.of_eq rfl)
   | (obtain⟨x0,x1,x2,x3,x4,rfl⟩:=ln5 hx;exact BindsTo.of_eq rfl)
   | (obtain⟨x0,x1,x2,x3,x4,x5,rfl⟩:=ln6 hx;exact BindsTo.of_eq rfl)
   | (obtain⟨x0,x1,x2,x3,x4,x5,x6,rfl⟩:=ln7 hx;exact BindsTo.of_eq rfl)) (hkinds:∀x∈names.take n,scope.names.lookup x=some .local∨scope.names.lookup x=some .cell:=by decide) (hone:((cellsFrom 0 scope.names []).map (·.1)).Nodup:=by decide +kernel)
  (hco:scope.isCoroutine=false:=by exact rfl) (hgen:scope.isGenerator=false:=by exact rfl) (hk:scope.kind=.function:=by exact rfl):
  Def prog w K p loose mean mg mb f (room+1) (ZX n g):=Zpq ho hcd nd hn hbind hkinds hone hco hgen hk hbody
end
section
variable {prog:Program} {w:World} {Γ:Cx} {scope:Scope} {cl:List (Str×Addr)} {C:Addr} {ts:List (Str×Nat)} {ρ0:Lc}
theorem vO{x:Str}{t:Nat}{pos:Pos}(hm:(x,t)∈ts:=by first | exact Zz5 | exact Zz2 _ Zz5)(hk:scope.kind=.function:=by exact rfl)(hl:(compEnvC scope cl C Γ.env).kindOf x=some .local:=by exact rfl)(hd:(x == ("__debug__":Str))=false:=by exact rfl): J prog w (ZaI Γ scope cl C ts ρ0) (.Name x pos) (Za t):=Zf8 (Zos hm hk hl hd)
end
section
variable {prog:Program} {w:World} {dp un:Nat} {gd:Option (List Code)} {cn:Str} {cs:Scope} {L a:Addr} {ccd:Value} {clf:List (Str×Addr)} {outer:List Env} {h₀:Heap} {hu:un+200<cLine} {names:List Str} {scope:Scope} {cl:List (Str×Addr)} {C:Addr} {ts:List (Str×Nat)} {ρ0:Lc}
theorem vD{x:Str}{i:Nat}{pos:Pos}(hi:names[i]?=some x:=by rfl)(hx:cs.names.lookup x=some .cell:=by exact rfl)(hne:∀p∈ts,p.2≠i:=by decide)(hcl:cl.lookup x=clf.lookup x:=by exact rfl)(hk:scope.kind=.function:=by exact rfl)(hl:(compEnvC scope cl C (envX cn cs L a ccd clf)).kindOf x=some .cell:=by exact rfl)(hd:(x == ("__debug__":Str))=false:=by exact rfl):
  J prog w (ZaI (Za8 dp un gd cn cs L a ccd clf outer h₀ hu names) scope cl C ts ρ0) (.Name x pos) (Za i):=Zf8 (Zot hi hx hne hcl hk hl hd)
end
end PM
end
section
open PySem PM TM
namespace L
variable {H:Hp} {a:V} {t:T} {F:List Nat} {ρ:Lc} {σ:TL}
noncomputable def Zhe: Sm:=Zr (ZK 2 (Zd Zak (Zd ZaR (Zd ZaR (Za 1) (Za 1)) (Zj 7919)) (Zj 11))) (Zr (ZR (ZE (Zd oGt (Zq Zay (Zf (Za 0) Zn)) (Zj 0))) (ZK 2 (Zd Zak (Za 2) (Zd Zs (Za 0) (Zd oMod (Za 1) (Zq Zay (Zf (Za 0) Zn)))))) ZY) (ZD (Za 2)))
noncomputable def Zfb:=ZX 2 Zhe
noncomputable def Zhf: PS:=(Zu (ZO 2 (Ze Zal (Ze ZaK (Ze ZaK (Zb 1) (Zb 1)) (Zk 7919)) (Zk 11))) (Zu (ZV (ZG (Ze qGt (Zt Zas (Zg (Zb 0) Zm)) (Zk 0))) (ZO 2 (Ze Zal (Zb 2) (Ze Zv (Zb 0) (Ze ZaO (Zb 1) (Zt Zas (Zg (Zb 0) Zm)))))) Z4) (ZF (Zb 2))))
noncomputable def Zea:=Z6 2 Zhf
theorem ZjL: SimF false Zfb Zea:=Zaf (show S [] [] [] false Zhe Zhf from(Zy (Z1 (O':=[]) (Z9 Zav (Z9 Zbh (Z9 Zbh (Zc 1) (Zc 1)) (Zl _)) (Zl _))) (Zy (Z8 (ZL (Zz Zjr (Zaw ZaQ (Zh (Zc 0) Zo)) (Zl _))) (Z1 (O':=[]) (Z9 Zav (Zc 2) (ZC ZB (Zc 0) (Zz Za5 (Zc 1) (Zaw ZaQ (Zh (Zc 0) Zo)))))) Zac) (ZN (Zc 2)))))
noncomputable def ZhB: Sm:=ZD (Zd oMod (Zd oMod (Zd ZaR (Zq Zfb (Zf (Za 0) (Zf (Za 1) Zn))) (Zj 48271)) (Zj 2147483647)) (Za 2))
noncomputable def Zcb:=ZX 3 ZhB
noncomputable def ZhC: PS:=(ZF (Ze ZaO (Ze ZaO (Ze ZaK (Zt Zea (Zg (Zb 0) (Zg (Zb 1) Zm))) (Zk 48271)) (Zk 2147483647)) (Zb 2)))
noncomputable def Zb0:=Z6 3 ZhC
theorem Zcw: SimF false Zcb Zb0:=Zaf (show S [] [] [] false ZhB ZhC from(ZN (Zz Za5 (Zz Za5 (Z9 Zbh (ZQ ZjL (Zh (Zc 0) (Zh (Zc 1) Zo))) (Zl _)) (Zl _)) (Zc 2))))
noncomputable def Zg2: Sm:=Zr (ZK 2 (Zq Zfb (Zf (Za 0) (Zf (Za 1) Zn)))) (Zr (ZK 3 (Zd Zs (ZbP (Zf (Zj 3) (Zf (Zj 9) (Zf (Zd oPow (Zj 10) (Zj 9)) (Zf (Zd oPow (Zj 10) (Zj 40)) Zn))))) (Zd oMod (Zd oMod (Zd ZaR (Za 2) (Zj 69621)) (Zj 2147483629)) (Zj 4)))) (ZD (Zd ZbU (Zd oMod (Zd ZaR (Za 2) (Zd oPow (Zj 48271) (Zj 9))) (Zd Zak (Zd ZaR (Zj 2) (Za 3)) (Zj 1))) (Za 3))))
noncomputable def Zdi:=ZX 2 Zg2
noncomputable def Zg3: PS:=(Zu (ZO 2 (Zt Zea (Zg (Zb 0) (Zg (Zb 1) Zm)))) (Zu (ZO 3 (Ze Zv (ZbR (Zg (Zk 3) (Zg (Zk 9) (Zg (Ze Zcv (Zk 10) (Zk 9)) (Zg (Ze Zcv (Zk 10) (Zk 40)) Zm))))) (Ze ZaO (Ze ZaO (Ze ZaK (Zb 2) (Zk 69621)) (Zk 2147483629)) (Zk 4)))) (ZF (Ze ZbX (Ze ZaO (Ze ZaK (Zb 2) (Ze Zcv (Zk 48271) (Zk 9))) (Ze Zal (Ze ZaK (Zk 2) (Zb 3)) (Zk 1))) (Zb 3)))))
noncomputable def ZcX:=Z6 2 Zg3
theorem Zd8: SimF false Zdi ZcX:=Zaf (show S [] [] [] false Zg2 Zg3 from(Zy (Z1 (O':=[]) (ZQ ZjL (Zh (Zc 0) (Zh (Zc 1) Zo)))) (Zy (Z1 (O':=[]) (ZC ZB (E.list (Zh (Zl _) (Zh (Zl _) (Zh (Zz Zjh (Zl _) (Zl _)) (Zh (Zz Zjh (Zl _) (Zl _)) Zo))))) (Zz Za5 (Zz Za5 (Z9 Zbh (Zc 2) (Zl _)) (Zl _)) (Zl _)))) (ZN (Zz Zci (Zz Za5 (Z9 Zbh (Zc 2) (Zz Zjh (Zl _) (Zl _))) (Z9 Zav (Z9 Zbh (Zl _) (Zc 3)) (Zl _))) (Zc 3))))))
noncomputable def Zhg: Sm:=Zr (ZK 2 (Zq Zcb (Zf (Za 0) (Zf (Za 1) (Zf (Zj 42) Zn))))) (Zr (ZR (ZE (Zd oLt (Zd oMod (Za 2) (Zj 6)) (Zj 2))) (ZD (ZU)) ZY) (Zr (ZR (ZE (Zd oLt (Zd oMod (Za 2) (Zj 6)) (Zj 4))) (ZD (Zj 0)) ZY) (Zr (ZR (ZE (Zd oEq (Zd oMod (Za 2) (Zj 6)) (Zj 4))) (ZD (Zd oDiv (Za 2) (Zj 6))) ZY) (ZD (Zq Zde (Zf (Zq Zdi (Zf (Za 0) (Zf (Za 1) Zn))) Zn))))))
noncomputable def Zeb:=ZX 2 Zhg
noncomputable def Zhh: PS:=(Zu (ZO 2 (Zt Zb0 (Zg (Zb 0) (Zg (Zb 1) (Zg (Zk 42) Zm))))) (Zu (ZV (ZG (Ze qLt (Ze ZaO (Zb 2) (Zk 6)) (Zk 2))) (ZF (ZZ)) Z4) (Zu (ZV (ZG (Ze qLt (Ze ZaO (Zb 2) (Zk 6)) (Zk 4))) (ZF (Zk 0)) Z4) (Zu (ZV (ZG (Ze qEq (Ze ZaO (Zb 2) (Zk 6)) (Zk 4))) (ZF (Ze ZcE (Zb 2) (Zk 6))) Z4) (ZF (Zt Zdg (Zg (Zt ZcX (Zg (Zb 0) (Zg (Zb 1) Zm))) Zm)))))))
noncomputable def ZdC:=Z6 2 Zhh
theorem Zhi: SimF false Zeb ZdC:=Zaf (show S [] [] [] false Zhg Zhh from(Zy (Z1 (O':=[]) (ZQ Zcw (Zh (Zc 0) (Zh (Zc 1) (Zh (Zl _) Zo))))) (Zy (Z8 (ZL (Zz ZcU (Zz Za5 (Zc 2) (Zl _)) (Zl _))) (ZN (Zag)) Zac) (Zy (Z8 (ZL (Zz ZcU (Zz Za5 (Zc 2) (Zl _)) (Zl _))) (ZN (Zl _)) Zac) (Zy (Z8 (ZL (Zz Zbn (Zz Za5 (Zc 2) (Zl _)) (Zl _))) (ZN (Zz ZdV (Zc 2) (Zl _))) Zac) (ZN (Zaw ZeM (Zh (ZQ Zd8 (Zh (Zc 0) (Zh (Zc 1) Zo))) Zo))))))))
noncomputable def ZgJ: Sm:=Zr (ZR (ZE (Zd oEq (Za 0) (Zj 0))) (ZD (Zax (Zf (Zj 0) (Zf (Za 1) Zn)))) ZY) (ZD (Zax (Zf (Za 0) (Zf (Zd oMod (Za 1) (Za 0)) Zn))))
noncomputable def Zd4:=ZX 2 ZgJ
noncomputable def ZgK: PS:=(Zu (ZV (ZG (Ze qEq (Zb 0) (Zk 0))) (ZF (ZaJ (Zg (Zk 0) (Zg (Zb 1) Zm)))) Z4) (ZF (ZaJ (Zg (Zb 0) (Zg (Ze ZaO (Zb 1) (Zb 0)) Zm)))))
noncomputable def Zdz:=Z6 2 ZgK
theorem ZgL: SimF false Zd4 Zdz:=Zaf (show S [] [] [] false ZgJ ZgK from(Zy (Z8 (ZL (Zz Zbn (Zc 0) (Zl _))) (ZN (E.tup (Zh (Zl _) (Zh (Zc 1) Zo)))) Zac) (ZN (E.tup (Zh (Zc 0) (Zh (Zz Za5 (Zc 1) (Zc 0)) Zo))))))
noncomputable def ZhD: Sm:=Zr (ZK 3 (Zq Zcb (Zf (Za 0) (Zf (Za 1) (Zf (Zj 60) Zn))))) (Zr (ZR (ZE (Zd oLt (Zd oMod (Za 3) (Zj 5)) (Zj 2))) (ZD (Zax (Zf (Zj 1) (Zf (Zj 0) Zn)))) ZY) (Zr (ZR (ZE (Zd oEq (Zd oMod (Za 3) (Zj 5)) (Zj 2))) (ZD (Zax (Zf (Zj 0) (Zf (Za 2) Zn)))) ZY) (Zr (ZR (ZE (Zd oEq (Zd oMod (Za 3) (Zj 5)) (Zj 3))) (ZD (Zq Zd4 (Zf (Zd Zak (Zd oDiv (Za 3) (Zj 5)) (Zj 1)) (Zf (Za 2) Zn)))) ZY) (ZD (Zq Zd4 (Zf (Zq Zde (Zf (Zq Zdi (Zf (Za 0) (Zf (Za 1) Zn))) Zn)) (Zf (Za 2) Zn)))))))
noncomputable def ZhE:=ZX 3 ZhD
noncomputable def ZhF: PS:=(Zu (ZO 3 (Zt Zb0 (Zg (Zb 0) (Zg (Zb 1) (Zg (Zk 60) Zm))))) (Zu (ZV (ZG (Ze qLt (Ze ZaO (Zb 3) (Zk 5)) (Zk 2))) (ZF (ZaJ (Zg (Zk 1) (Zg (Zk 0) Zm)))) Z4) (Zu (ZV (ZG (Ze qEq (Ze ZaO (Zb 3) (Zk 5)) (Zk 2))) (ZF (ZaJ (Zg (Zk 0) (Zg (Zb 2) Zm)))) Z4) (Zu (ZV (ZG (Ze qEq (Ze ZaO (Zb 3) (Zk 5)) (Zk 3))) (ZF (Zt Zdz (Zg (Ze Zal (Ze ZcE (Zb 3) (Zk 5)) (Zk 1)) (Zg (Zb 2) Zm)))) Z4) (ZF (Zt Zdz (Zg (Zt Zdg (Zg (Zt ZcX (Zg (Zb 0) (Zg (Zb 1) Zm))) Zm)) (Zg (Zb 2) Zm))))))))
noncomputable def Zfk:=Z6 3 ZhF
theorem ZmE: SimF false ZhE Zfk:=Zaf (show S [] [] [] false ZhD ZhF from(Zy (Z1 (O':=[]) (ZQ Zcw (Zh (Zc 0) (Zh (Zc 1) (Zh (Zl _) Zo))))) (Zy (Z8 (ZL (Zz ZcU (Zz Za5 (Zc 3) (Zl _)) (Zl _))) (ZN (E.tup (Zh (Zl _) (Zh (Zl _) Zo)))) Zac) (Zy (Z8 (ZL (Zz Zbn (Zz Za5 (Zc 3) (Zl _)) (Zl _))) (ZN (E.tup (Zh (Zl _) (Zh (Zc 2) Zo)))) Zac) (Zy (Z8 (ZL (Zz Zbn (Zz Za5 (Zc 3) (Zl _)) (Zl _))) (ZN (ZQ ZgL (Zh (Z9 Zav (Zz ZdV (Zc 3) (Zl _)) (Zl _)) (Zh (Zc 2) Zo)))) Zac) (ZN (ZQ ZgL (Zh (Zaw ZeM (Zh (ZQ Zd8 (Zh (Zc 0) (Zh (Zc 1) Zo))) Zo)) (Zh (Zc 2) Zo)))))))))
noncomputable def ZhG: Sm:=Zr (ZK 3 (Zd Zak (ZbP (Zf (Zj 0) Zn)) (Za 2))) (Zr (ZK 4 (Zq Zay (Zf (Za 3) Zn))) (Zr (ZK 5 (ZbP Zn)) (Zr (ZaW (Za4 (Zf (Za 4) Zn)) (Zap 6) (Zr (ZK 7 (ZbP Zn)) (Zr (ZaW (Za4 (Zf (Za 4) Zn)) (Zap 8) (Zr (ZK 9 (Zq Zeb (Zf (Za 0) (Zf (Zd Zak (Zd Zak (Za 1) (Zd ZaR (Za 6) (Za 4))) (Za 8)) Zn)))) (Zr (ZR (ZE (Zd Zb5 (Za 9) (ZU))) (ZK 9 (Zd Zak (Zd ZbU (Zd Zs (Za 3) (Za 6)) (Zd Zs (Za 3) (Za 8))) (Za 9))) ZY) (Zbl (Zcd (Za 7) (Za 9)))))) (Zr (Zcu (Zj 0) (Za 7) (Za 6)) (Zbl (Zcd (Za 5) (Za 7))))))) (ZD (Zax (Zf (Za 5) (Zf (ZaC (Za4 (Zf (Zd ZbU (Za 4) (Zj 1)) Zn)) (Zap 100) Zaq (Zq ZhE (Zf (Za 0) (Zf (Zd Zak (Zd Zak (Za 1) (Zd ZaR (Za 4) (Za 4))) (Za 100)) (Zf (Zd Zs (Za 2) (Za 100)) Zn))))) Zn)))))))
noncomputable def ZhH:=ZX 3 ZhG
noncomputable def ZhI: PS:=(Zu (ZO 3 (Ze Zal (ZbR (Zg (Zk 0) Zm)) (Zb 2))) (Zu (ZO 4 (Zt Zas (Zg (Zb 3) Zm))) (Zu (ZO 5 (ZbR Zm)) (Zu (ZaX (ZaP (Zg (Zb 4) Zm)) (Zam 6) (Zu (ZO 7 (ZbR Zm)) (Zu (ZaX (ZaP (Zg (Zb 4) Zm)) (Zam 8) (Zu (ZO 9 (Zt ZdC (Zg (Zb 0) (Zg (Ze Zal (Ze Zal (Zb 1) (Ze ZaK (Zb 6) (Zb 4))) (Zb 8)) Zm)))) (Zu (ZV (ZG (Ze ZbJ (Zb 9) (ZZ))) (ZO 9 (Ze Zal (Ze ZbX (Ze Zv (Zb 3) (Zb 6)) (Ze Zv (Zb 3) (Zb 8))) (Zb 9))) Z4) (ZbZ 7 [] ZaN (Zbg (Zb 9)))))) (Zu (Zcj 7 [] (Zk 0) ZaN (Zb 6)) (ZbZ 5 [7] ZaN (Zb 7)))))) (ZF (ZaJ (Zg (Zb 5) (Zg (ZaA (ZaP (Zg (Ze ZbX (Zb 4) (Zk 1)) Zm)) (Zam 100) Zaj (Zbg (Zt Zfk (Zg (Zb 0) (Zg (Ze Zal (Ze Zal (Zb 1) (Ze ZaK (Zb 4) (Zb 4))) (Zb 100)) (Zg (Ze Zv (Zb 2) (Zb 100)) Zm)))))) Zm))))))))
noncomputable def Zfl:=Z6 3 ZhI
theorem ZmF: SimF true ZhH Zfl:=Zaf (show S [] [5] [] true ZhG ZhI from(Zy (Z1 (O':=[]) (Z9 Zav (E.list (Zh (Zl _) Zo)) (Zc 2))) (Zy (Z1 (O':=[]) (Zaw ZaQ (Zh (Zc 3) Zo))) (Zy (Zch (O':=[5]) (E.list Zo)) (Zy (ZbT (Gs.range (Zh (Zc 4) Zo)) PutOk.one (by decide) (by decide) (Zy (Zch (O':=[5,7]) (ZaV (O':=[]) (E.list Zo))) (Zy (ZbT (Gs.range (Zh (Zc 4) Zo)) PutOk.one (by decide) (by decide) (Zy (Z1 (O':=[5,7]) (ZQ Zhi (Zh (Zc 0) (Zh (Z9 Zav (Z9 Zav (Zc 1) (Z9 Zbh (Zc 6) (Zc 4))) (Zc 8)) Zo)))) (Zy (Z8 (ZL (Zz Zcl (Zc 9) (Zag))) (Z1 (O':=[5,7]) (Z9 Zav (Zz Zci (ZC ZB (Zc 3) (Zc 6)) (ZC ZB (Zc 3) (Zc 8))) (Zc 9))) Zac) (ZcP (O':=[5,7]) (by decide) ZbA (ZaV (O':=[5]) (E.flat (Zc 9))) (by decide) (by decide))))) (Zy (S.put (O':=[5,7]) (by decide) (ZaV (O':=[5]) (Zl _)) ZbA (Zc 6) (by decide) (by decide)) (ZcP (O':=[5]) (by decide) ZbA (ZaV (O':=[7]) (E.own (by decide))) (by decide) (by decide)))))) (ZcL (E.tup (Zc0 (E.own (by decide)) (Zc0 (Zdm (Gs.range (Zh (Zz Zci (Zc 4) (Zl _)) Zo)) PutOk.one (by decide) ZaT (ZaV (O':=[]) (E.flat (ZQ ZmE (Zh (Zc 0) (Zh (Z9 Zav (Z9 Zav (Zc 1) (Z9 Zbh (Zc 4) (Zc 4))) (Zc 100)) (Zh (ZC ZB (Zc 2) (Zc 100)) Zo))))))) Zo (by decide) (by decide)) (by decide) (by decide)))))))))
noncomputable def ZhJ: Sm:=Zr (ZR (ZE (Zd oIs (Za 0) (ZU))) (ZD (ZU)) ZY) (ZD (Zax (Zf (ZaC (ZbV (Zd Zs (Za 0) (Zj 0))) (Zap 100) Zaq (Zq Zcz (Zf (Za 100) Zn))) (Zf (Zq Zcz (Zf (Zd Zs (Za 0) (Zj 1)) Zn)) Zn))))
noncomputable def ZhK:=ZX 1 ZhJ
noncomputable def ZhL: PS:=(Zu (ZV (ZG (Ze qIs (Zb 0) (ZZ))) (ZF (ZZ)) Z4) (ZF (ZaJ (Zg (ZaA (ZbN (Ze Zv (Zb 0) (Zk 0))) (Zam 100) Zaj (Zt ZcA (Zg (Zb 100) Zm))) (Zg (Zt ZcA (Zg (Ze Zv (Zb 0) (Zk 1)) Zm)) Zm)))))
noncomputable def Zef:=Z6 1 ZhL
theorem ZmG: SimF false ZhK Zef:=Zaf (show S [] [] [] false ZhJ ZhL from(Zy (Z8 (ZL (Zz Zb8 (Zc 0) (Zag))) (ZN (Zag)) Zac) (ZN (E.tup (Zh (Zc4 (Gs.seq (ZC ZB (Zc 0) (Zl _))) PutOk.one (by decide) ZaT (ZiE Zes (Zh (Zc 100) Zo))) (Zh (ZiE Zes (Zh (ZC ZB (Zc 0) (Zl _)) Zo)) Zo))))))
noncomputable def Zhj: Sm:=ZD (eOr (Zd oIs (Za 1) (ZU)) (Zdd (Zd Zb5 (Za 0) (ZU)) (Zd oLe (Za 0) (Za 1))))
noncomputable def Zhk:=ZX 2 Zhj
noncomputable def Zhl: PS:=(ZF ((pOr (Ze qIs (Zb 1) (ZZ)) ((ZcS (Ze ZbJ (Zb 0) (ZZ)) (Ze qLe (Zb 0) (Zb 1)))))))
noncomputable def Zfc:=Z6 2 Zhl
theorem Zml: SimF false Zhk Zfc:=Zaf (show S [] [] [] false Zhj Zhl from(ZN ((ZqK (E.sh (Zz Zb8 (Zc 1) (Zag))) (E.sh ((Zga (E.sh (Zz Zcl (Zc 0) (Zag))) (E.sh (Zz Zjq (Zc 0) (Zc 1))))))))))
noncomputable def ZhM: Sm:=Zr (ZR (ZE (Zd oEq (Zd Zs (Za 0) (Zj 0)) (Zj 0))) (ZD (Zd oEq (Za 1) (Zd Zs (Za 0) (Zj 1)))) ZY) (ZD (Zd oEq (Zd oMod (Za 1) (Zd Zs (Za 0) (Zj 0))) (Zd Zs (Za 0) (Zj 1))))
noncomputable def Zfm:=ZX 2 ZhM
noncomputable def ZhN: PS:=(Zu (ZV (ZG (Ze qEq (Ze Zv (Zb 0) (Zk 0)) (Zk 0))) (ZF (Ze qEq (Zb 1) (Ze Zv (Zb 0) (Zk 1)))) Z4) (ZF (Ze qEq (Ze ZaO (Zb 1) (Ze Zv (Zb 0) (Zk 0))) (Ze Zv (Zb 0) (Zk 1)))))
noncomputable def Zeg:=Z6 2 ZhN
theorem ZjY: SimF false Zfm Zeg:=Zaf (show S [] [] [] false ZhM ZhN from(Zy (Z8 (ZL (Zz Zbn (ZC ZB (Zc 0) (Zl _)) (Zl _))) (ZN (Zz Zbn (Zc 1) (ZC ZB (Zc 0) (Zl _)))) Zac) (ZN (Zz Zbn (Zz Za5 (Zc 1) (ZC ZB (Zc 0) (Zl _))) (ZC ZB (Zc 0) (Zl _))))))
noncomputable def Zg4: Sm:=Zr (ZK 3 (ZaC (ZbV (Zd Zs (Za 2) (Zj 0))) (Zap 100) Zaq (Zq Zcz (Zf (Za 100) Zn)))) (Zr (ZK 4 (Zq Zcz (Zf (Zd Zs (Za 2) (Zj 1)) Zn))) (Zr (ZK 5 (Zq Zcb (Zf (Za 0) (Zf (Za 1) (Zf (Zq Zay (Zf (Za 3) Zn)) Zn))))) (Zr (ZK 6 (Zq Zcb (Zf (Za 0) (Zf (Zd Zak (Za 1) (Zj 1)) (Zf (Zq Zay (Zf (Za 3) Zn)) Zn))))) (Zr (ZK 7 (Zq Zcb (Zf (Za 0) (Zf (Zd Zak (Za 1) (Zj 2)) (Zf (Zj 5) Zn))))) (Zr (ZR (Za7 (ZE (Zd oLt (Za 7) (Zj 3))) (Za7 (ZE (Zd oNe (Za 5) (Za 6))) (Za7 (ZE (Zd oIs (Zd Zs (Zd Zs (Za 3) (Za 5)) (Za 6)) (ZU))) Zaq))) (Zcu (Zq Zdi (Zf (Za 0) (Zf (Zd Zak (Za 1) (Zj 3)) Zn))) (Zd Zs (Za 3) (Za 5)) (Za 6)) (ZR (Za7 (ZE (Zd oLt (Za 7) (Zj 3))) (Za7 (ZE (Zd oNe (Za 5) (Za 6))) Zaq)) (Zcu (Zd ZbU (Zd ZbU (Zd Zs (Zd Zs (Za 3) (Za 5)) (Za 6)) (Zj 1)) (Zq Zcb (Zf (Za 0) (Zf (Zd Zak (Za 1) (Zj 3)) (Zf (Zj 4) Zn))))) (Zd Zs (Za 3) (Za 5)) (Za 6)) (ZR (ZE (Zd oGt (Zq Zay (Zf (Za 4) Zn)) (Zj 0))) (Zr (ZK 8 (Zq Zcb (Zf (Za 0) (Zf (Za 1) (Zf (Zq Zay (Zf (Za 4) Zn)) Zn))))) (Zr (ZK 9 (Zd Zs (Za 4) (Za 8))) (Zcu (Zq Zd4 (Zf (Zd ZaR (Zd Zs (Za 9) (Zj 0)) (Zd Zak (Zj 1) (Zd oMod (Za 7) (Zj 2)))) (Zf (Zd Zak (Zd Zs (Za 9) (Zj 1)) (Zq Zcb (Zf (Za 0) (Zf (Zd Zak (Za 1) (Zj 3)) (Zf (Zj 3) Zn))))) Zn))) (Za 4) (Za 8)))) ZY))) (ZD (Zax (Zf (Za 3) (Zf (Za 4) Zn)))))))))
noncomputable def Zg5:=ZX 3 Zg4
noncomputable def Zg6: PS:=(Zu (ZO 3 (ZaA (ZbN (Ze Zv (Zb 2) (Zk 0))) (Zam 100) Zaj (pFl (Zt ZcA (Zg (Zb 100) Zm))))) (Zu (ZO 4 (pFl (Zt ZcA (Zg (Ze Zv (Zb 2) (Zk 1)) Zm)))) (Zu (ZO 5 (Zt Zb0 (Zg (Zb 0) (Zg (Zb 1) (Zg (Zt Zas (Zg (Zb 3) Zm)) Zm))))) (Zu (ZO 6 (Zt Zb0 (Zg (Zb 0) (Zg (Ze Zal (Zb 1) (Zk 1)) (Zg (Zt Zas (Zg (Zb 3) Zm)) Zm))))) (Zu (ZO 7 (Zt Zb0 (Zg (Zb 0) (Zg (Ze Zal (Zb 1) (Zk 2)) (Zg (Zk 5) Zm))))) (Zu (ZV (Za9 (ZG (Ze qLt (Zb 7) (Zk 3))) (Za9 (ZG (Ze qNe (Zb 5) (Zb 6))) (Za9 (ZG (Ze qIs (Ze Zv (Ze Zv (Zb 3) (Zb 5)) (Zb 6)) (ZZ))) Zaj))) (Zcj 3 [] (Zbg (Zt ZcX (Zg (Zb 0) (Zg (Ze Zal (Zb 1) (Zk 3)) Zm)))) (Zc5 ZaN (Zb 5)) (Zb 6)) (ZV (Za9 (ZG (Ze qLt (Zb 7) (Zk 3))) (Za9 (ZG (Ze qNe (Zb 5) (Zb 6))) Zaj)) (Zcj 3 [] (Ze ZbX (Ze ZbX (Ze Zv (Ze Zv (Zb 3) (Zb 5)) (Zb 6)) (Zk 1)) (Zt Zb0 (Zg (Zb 0) (Zg (Ze Zal (Zb 1) (Zk 3)) (Zg (Zk 4) Zm))))) (Zc5 ZaN (Zb 5)) (Zb 6)) (ZV (ZG (Ze qGt (Zt Zas (Zg (Zb 4) Zm)) (Zk 0))) (Zu (ZO 8 (Zt Zb0 (Zg (Zb 0) (Zg (Zb 1) (Zg (Zt Zas (Zg (Zb 4) Zm)) Zm))))) (Zu (ZO 9 (Zbg (Ze Zv (Zb 4) (Zb 8)))) (Zcj 4 [] (Zbg (Zt Zdz (Zg (Ze ZaK (Ze Zv (Zb 9) (Zk 0)) (Ze Zal (Zk 1) (Ze ZaO (Zb 7) (Zk 2)))) (Zg (Ze Zal (Ze Zv (Zb 9) (Zk 1)) (Zt Zb0 (Zg (Zb 0) (Zg (Ze Zal (Zb 1) (Zk 3)) (Zg (Zk 3) Zm))))) Zm)))) ZaN (Zb 8)))) Z4))) (ZF (ZaJ (Zg (Zb 3) (Zg (Zb 4) Zm))))))))))
noncomputable def Ze7:=Z6 3 Zg6
theorem Zl7: SimF false Zg5 Ze7:=Zaf (show S [] [3,4] [] false Zg4 Zg6 from(Zy (Zch (O':=[3]) (Zdm (Gs.seq (ZC ZB (Zc 2) (Zl _))) PutOk.one (by decide) ZaT (ZkS Zes (Zh (Zc 100) Zo)))) (Zy (Zch (O':=[3,4]) (ZaV (O':=[]) (ZkS Zes (Zh (ZC ZB (Zc 2) (Zl _)) Zo)))) (Zy (Z1 (O':=[3,4]) (ZQ Zcw (Zh (Zc 0) (Zh (Zc 1) (Zh (Zaw ZaQ (Zh (Zc 3) Zo)) Zo))))) (Zy (Z1 (O':=[3,4]) (ZQ Zcw (Zh (Zc 0) (Zh (Z9 Zav (Zc 1) (Zl _)) (Zh (Zaw ZaQ (Zh (Zc 3) Zo)) Zo))))) (Zy (Z1 (O':=[3,4]) (ZQ Zcw (Zh (Zc 0) (Zh (Z9 Zav (Zc 1) (Zl _)) (Zh (Zl _) Zo))))) (Zy (Z8 (Zbt (ZL (Zz ZcU (Zc 7) (Zl _))) (Zbt (ZL (Zz ZbY (Zc 5) (Zc 6))) (Zbt (ZL (Zz Zb8 (ZC ZB (ZC ZB (Zc 3) (Zc 5)) (Zc 6)) (Zag))) ZaT))) (S.put (O':=[3,4]) (by decide) (ZaV (O':=[4]) (E.flat (ZQ Zd8 (Zh (Zc 0) (Zh (Z9 Zav (Zc 1) (Zl _)) Zo))))) (ZeC ZbA (Zc 5)) (Zc 6) (by decide) (by decide)) (Z8 (Zbt (ZL (Zz ZcU (Zc 7) (Zl _))) (Zbt (ZL (Zz ZbY (Zc 5) (Zc 6))) ZaT)) (S.put (O':=[3,4]) (by decide) (ZaV (O':=[4]) (Zz Zci (Zz Zci (ZC ZB (ZC ZB (Zc 3) (Zc 5)) (Zc 6)) (Zl _)) (ZQ Zcw (Zh (Zc 0) (Zh (Z9 Zav (Zc 1) (Zl _)) (Zh (Zl _) Zo)))))) (ZeC ZbA (Zc 5)) (Zc 6) (by decide) (by decide)) (Z8 (ZL (Zz Zjr (Zaw ZaQ (Zh (Zc 4) Zo)) (Zl _))) (Zy (Z1 (O':=[3,4]) (ZQ Zcw (Zh (Zc 0) (Zh (Zc 1) (Zh (Zaw ZaQ (Zh (Zc 4) Zo)) Zo))))) (Zy (Z1 (O':=[3,4]) (ZaV (O':=[]) (E.flat (ZC ZB (Zc 4) (Zc 8))))) (S.put (O':=[3,4]) (by decide) (ZaV (O':=[3]) (E.flat (ZQ ZgL (Zh (Z9 Zbh (ZC ZB (Zc 9) (Zl _)) (Z9 Zav (Zl _) (Zz Za5 (Zc 7) (Zl _)))) (Zh (Z9 Zav (ZC ZB (Zc 9) (Zl _)) (ZQ Zcw (Zh (Zc 0) (Zh (Z9 Zav (Zc 1) (Zl _)) (Zh (Zl _) Zo))))) Zo))))) ZbA (Zc 8) (by decide) (by decide)))) Zac))) (ZN (E.tup (Zh (Zc 3) (Zh (Zc 4) Zo)))))))))))
noncomputable def Zh7: Sm:=Zr (ZK 2 (Zq Zde (Zf (Za 0) Zn))) (Zr (ZK 3 (Zq Zde (Zf (Za 1) Zn))) (Zr (ZcK (ZE (Zd oNe (Za 3) (Zj 0))) (Zr (ZK 4 (Zd oMod (Za 2) (Za 3))) (Zr (ZK 2 (Za 3)) (ZK 3 (Za 4)))) 1000000) (ZD (Za 2))))
noncomputable def Zfw:=ZX 2 Zh7
noncomputable def Zh8: PS:=(Zu (ZO 2 (Zt Zdg (Zg (Zb 0) Zm))) (Zu (ZO 3 (Zt Zdg (Zg (Zb 1) Zm))) (Zu (Zc6 (ZG (Ze qNe (Zb 3) (Zk 0))) (Zu (ZO 4 (Ze ZaO (Zb 2) (Zb 3))) (Zu (ZO 2 (Zb 3)) (ZO 3 (Zb 4)))) 1000000) (ZF (Zb 2)))))
noncomputable def Zej:=Z6 2 Zh8
theorem Zkc: SimF false Zfw Zej:=Zaf (show S [] [] [] false Zh7 Zh8 from(Zy (Z1 (O':=[]) (Zaw ZeM (Zh (Zc 0) Zo))) (Zy (Z1 (O':=[]) (Zaw ZeM (Zh (Zc 1) Zo))) (Zy (ZiI (ZL (Zz ZbY (Zc 3) (Zl _))) (Zy (Z1 (O':=[]) (Zz Za5 (Zc 2) (Zc 3))) (Zy (Z1 (O':=[]) (Zc 3)) (Z1 (O':=[]) (Zc 4)))) 1000000) (ZN (Zc 2))))))
noncomputable def Zi5: Sm:=Zr (ZR (ZE (Zd oLt (Za 0) (Zj 0))) (PM.sNo) ZY) (Zr (ZR (ZE (Zd oEq (Za 0) (Zj 0))) (ZD (Zax (Zf (Zj 0) (Zf (Za 1) Zn)))) ZY) (ZD (Zax (Zf (Za 0) (Zf (Zd oMod (Za 1) (Za 0)) Zn)))))
noncomputable def ZeI:=ZX 2 Zi5
noncomputable def Zi6: PS:=(Zu (ZV (ZG (Ze qLt (Zb 0) (Zk 0))) (qNo) Z4) (Zu (ZV (ZG (Ze qEq (Zb 0) (Zk 0))) (ZF (ZaJ (Zg (Zk 0) (Zg (Zb 1) Zm)))) Z4) (ZF (ZaJ (Zg (Zb 0) (Zg (Ze ZaO (Zb 1) (Zb 0)) Zm))))))
noncomputable def ZdS:=Z6 2 Zi6
theorem Zi7: SimF false ZeI ZdS:=Zaf (show S [] [] [] false Zi5 Zi6 from(Zy (Z8 (ZL (Zz ZcU (Zc 0) (Zl _))) (ZqM (O':=[])) Zac) (Zy (Z8 (ZL (Zz Zbn (Zc 0) (Zl _))) (ZN (E.tup (Zh (Zl _) (Zh (Zc 1) Zo)))) Zac) (ZN (E.tup (Zh (Zc 0) (Zh (Zz Za5 (Zc 1) (Zc 0)) Zo)))))))
noncomputable def Zh9: Sm:=Zr (ZK 2 (Zd oMod (Za 0) (Za 1))) (Zr (ZK 3 (Za 1)) (Zr (ZK 4 (Zj 1)) (Zr (ZK 5 (Zj 0)) (Zr (ZcK (ZE (Zd oNe (Za 3) (Zj 0))) (Zr (ZK 6 (Zd oDiv (Za 2) (Za 3))) (Zr (ZK 7 (Zd ZbU (Za 2) (Zd ZaR (Za 6) (Za 3)))) (Zr (ZK 8 (Zd ZbU (Za 4) (Zd ZaR (Za 6) (Za 5)))) (Zr (ZK 2 (Za 3)) (Zr (ZK 4 (Za 5)) (Zr (ZK 3 (Za 7)) (ZK 5 (Za 8)))))))) 1000000) (ZD (Zd oMod (Za 4) (Za 1)))))))
noncomputable def Zia:=ZX 2 Zh9
noncomputable def Zib: PS:=(Zu (ZO 2 (Ze ZaO (Zb 0) (Zb 1))) (Zu (ZO 3 (Zb 1)) (Zu (ZO 4 (Zk 1)) (Zu (ZO 5 (Zk 0)) (Zu (Zc6 (ZG (Ze qNe (Zb 3) (Zk 0))) (Zu (ZO 6 (Ze ZcE (Zb 2) (Zb 3))) (Zu (ZO 7 (Ze ZbX (Zb 2) (Ze ZaK (Zb 6) (Zb 3)))) (Zu (ZO 8 (Ze ZbX (Zb 4) (Ze ZaK (Zb 6) (Zb 5)))) (Zu (ZO 2 (Zb 3)) (Zu (ZO 4 (Zb 5)) (Zu (ZO 3 (Zb 7)) (ZO 5 (Zb 8)))))))) 1000000) (ZF (Ze ZaO (Zb 4) (Zb 1))))))))
noncomputable def Zfx:=Z6 2 Zib
theorem Znk: SimF false Zia Zfx:=Zaf (show S [] [] [] false Zh9 Zib from(Zy (Z1 (O':=[]) (Zz Za5 (Zc 0) (Zc 1))) (Zy (Z1 (O':=[]) (Zc 1)) (Zy (Z1 (O':=[]) (Zl _)) (Zy (Z1 (O':=[]) (Zl _)) (Zy (ZiI (ZL (Zz ZbY (Zc 3) (Zl _))) (Zy (Z1 (O':=[]) (Zz ZdV (Zc 2) (Zc 3))) (Zy (Z1 (O':=[]) (Zz Zci (Zc 2) (Z9 Zbh (Zc 6) (Zc 3)))) (Zy (Z1 (O':=[]) (Zz Zci (Zc 4) (Z9 Zbh (Zc 6) (Zc 5)))) (Zy (Z1 (O':=[]) (Zc 3)) (Zy (Z1 (O':=[]) (Zc 5)) (Zy (Z1 (O':=[]) (Zc 7)) (Z1 (O':=[]) (Zc 8)))))))) 1000000) (ZN (Zz Za5 (Zc 4) (Zc 1)))))))))
noncomputable def ZhO: Sm:=Zr (ZR (ZE (Zd oEq (Zd Zs (Za 0) (Zj 0)) (Zj 0))) (ZD (eIf (ZE (Zq Zfm (Zf (Za 1) (Zf (Zd Zs (Za 0) (Zj 1)) Zn)))) (Za 0) (ZU))) ZY) (Zr (ZR (ZE (Zd oEq (Zd Zs (Za 1) (Zj 0)) (Zj 0))) (ZD (eIf (ZE (Zq Zfm (Zf (Za 0) (Zf (Zd Zs (Za 1) (Zj 1)) Zn)))) (Za 1) (ZU))) ZY) (Zr (ZK 2 (Zq Zfw (Zf (Zd Zs (Za 0) (Zj 0)) (Zf (Zd Zs (Za 1) (Zj 0)) Zn)))) (Zr (ZK 3 (Zd ZbU (Zd Zs (Za 1) (Zj 1)) (Zd Zs (Za 0) (Zj 1)))) (Zr (ZR (ZE (Zd oNe (Zd oMod (Za 3) (Za 2)) (Zj 0))) (ZD (ZU)) ZY) (Zr (ZK 4 (Zd oDiv (Zd Zs (Za 1) (Zj 0)) (Za 2))) (Zr (ZK 5 (Zd ZaR (Zd oDiv (Za 3) (Za 2)) (Zq Zia (Zf (Zd oDiv (Zd Zs (Za 0) (Zj 0)) (Za 2)) (Zf (Za 4) Zn))))) (ZD (Zq ZeI (Zf (Zd ZaR (Zd Zs (Za 0) (Zj 0)) (Za 4)) (Zf (Zd Zak (Zd Zs (Za 0) (Zj 1)) (Zd ZaR (Zd Zs (Za 0) (Zj 0)) (Za 5))) Zn))))))))))
noncomputable def ZhP:=ZX 2 ZhO
noncomputable def ZhQ: PS:=(Zu (ZV (ZG (Ze qEq (Ze Zv (Zb 0) (Zk 0)) (Zk 0))) (ZF (pIf (ZG (Zt Zeg (Zg (Zb 1) (Zg (Ze Zv (Zb 0) (Zk 1)) Zm)))) (Zb 0) (ZZ))) Z4) (Zu (ZV (ZG (Ze qEq (Ze Zv (Zb 1) (Zk 0)) (Zk 0))) (ZF (pIf (ZG (Zt Zeg (Zg (Zb 0) (Zg (Ze Zv (Zb 1) (Zk 1)) Zm)))) (Zb 1) (ZZ))) Z4) (Zu (ZO 2 (Zt Zej (Zg (Ze Zv (Zb 0) (Zk 0)) (Zg (Ze Zv (Zb 1) (Zk 0)) Zm)))) (Zu (ZO 3 (Ze ZbX (Ze Zv (Zb 1) (Zk 1)) (Ze Zv (Zb 0) (Zk 1)))) (Zu (ZV (ZG (Ze qNe (Ze ZaO (Zb 3) (Zb 2)) (Zk 0))) (ZF (ZZ)) Z4) (Zu (ZO 4 (Ze ZcE (Ze Zv (Zb 1) (Zk 0)) (Zb 2))) (Zu (ZO 5 (Ze ZaK (Ze ZcE (Zb 3) (Zb 2)) (Zt Zfx (Zg (Ze ZcE (Ze Zv (Zb 0) (Zk 0)) (Zb 2)) (Zg (Zb 4) Zm))))) (ZF (Zt ZdS (Zg (Ze ZaK (Ze Zv (Zb 0) (Zk 0)) (Zb 4)) (Zg (Ze Zal (Ze Zv (Zb 0) (Zk 1)) (Ze ZaK (Ze Zv (Zb 0) (Zk 0)) (Zb 5))) Zm)))))))))))
noncomputable def Zfn:=Z6 2 ZhQ
theorem ZmH: SimF false ZhP Zfn:=Zaf (show S [] [] [] false ZhO ZhQ from(Zy (Z8 (ZL (Zz Zbn (ZC ZB (Zc 0) (Zl _)) (Zl _))) (ZN (ZeL (ZL (ZQ ZjY (Zh (Zc 1) (Zh (ZC ZB (Zc 0) (Zl _)) Zo)))) (E.sh (Zc 0)) (E.sh (Zag)))) Zac) (Zy (Z8 (ZL (Zz Zbn (ZC ZB (Zc 1) (Zl _)) (Zl _))) (ZN (ZeL (ZL (ZQ ZjY (Zh (Zc 0) (Zh (ZC ZB (Zc 1) (Zl _)) Zo)))) (E.sh (Zc 1)) (E.sh (Zag)))) Zac) (Zy (Z1 (O':=[]) (ZQ Zkc (Zh (ZC ZB (Zc 0) (Zl _)) (Zh (ZC ZB (Zc 1) (Zl _)) Zo)))) (Zy (Z1 (O':=[]) (Zz Zci (ZC ZB (Zc 1) (Zl _)) (ZC ZB (Zc 0) (Zl _)))) (Zy (Z8 (ZL (Zz ZbY (Zz Za5 (Zc 3) (Zc 2)) (Zl _))) (ZN (Zag)) Zac) (Zy (Z1 (O':=[]) (Zz ZdV (ZC ZB (Zc 1) (Zl _)) (Zc 2))) (Zy (Z1 (O':=[]) (Z9 Zbh (Zz ZdV (Zc 3) (Zc 2)) (ZQ Znk (Zh (Zz ZdV (ZC ZB (Zc 0) (Zl _)) (Zc 2)) (Zh (Zc 4) Zo))))) (ZN (ZQ Zi7 (Zh (Z9 Zbh (ZC ZB (Zc 0) (Zl _)) (Zc 4)) (Zh (Z9 Zav (ZC ZB (Zc 0) (Zl _)) (Z9 Zbh (ZC ZB (Zc 0) (Zl _)) (Zc 5))) Zo))))))))))))
noncomputable def Zhm: Sm:=ZD (Zq ZeI (Zf (Zq Zfw (Zf (Zd Zs (Za 0) (Zj 0)) (Zf (Zd Zs (Za 1) (Zj 0)) Zn))) (Zf (Zd Zak (Zd Zs (Za 0) (Zj 1)) (Zd Zs (Za 1) (Zj 1))) Zn)))
noncomputable def Zfd:=ZX 2 Zhm
noncomputable def Zhn: PS:=(ZF (Zt ZdS (Zg (Zt Zej (Zg (Ze Zv (Zb 0) (Zk 0)) (Zg (Ze Zv (Zb 1) (Zk 0)) Zm))) (Zg (Ze Zal (Ze Zv (Zb 0) (Zk 1)) (Ze Zv (Zb 1) (Zk 1))) Zm))))
noncomputable def Zec:=Z6 2 Zhn
theorem ZjM: SimF false Zfd Zec:=Zaf (show S [] [] [] false Zhm Zhn from(ZN (ZQ Zi7 (Zh (ZQ Zkc (Zh (ZC ZB (Zc 0) (Zl _)) (Zh (ZC ZB (Zc 1) (Zl _)) Zo))) (Zh (Z9 Zav (ZC ZB (Zc 0) (Zl _)) (ZC ZB (Zc 1) (Zl _))) Zo)))))
noncomputable def Zg7: Sm:=ZD (Zq ZeI (Zf (Zd ZaR (Zd Zs (Za 0) (Zj 0)) (Zq Zde (Zf (Za 1) Zn))) (Zf (Zd ZaR (Zd Zs (Za 0) (Zj 1)) (Za 1)) Zn)))
noncomputable def Zg8:=ZX 2 Zg7
noncomputable def Zg9: PS:=(ZF (Zt ZdS (Zg (Ze ZaK (Ze Zv (Zb 0) (Zk 0)) (Zt Zdg (Zg (Zb 1) Zm))) (Zg (Ze ZaK (Ze Zv (Zb 0) (Zk 1)) (Zb 1)) Zm))))
noncomputable def Ze8:=Z6 2 Zg9
theorem Zl8: SimF false Zg8 Ze8:=Zaf (show S [] [] [] false Zg7 Zg9 from(ZN (ZQ Zi7 (Zh (Z9 Zbh (ZC ZB (Zc 0) (Zl _)) (Zaw ZeM (Zh (Zc 1) Zo))) (Zh (Z9 Zbh (ZC ZB (Zc 0) (Zl _)) (Zc 1)) Zo)))))
noncomputable def Zha: Sm:=Zr (ZR (ZE (Zd oEq (Zd Zs (Za 0) (Zj 0)) (Zj 0))) (ZD (eIf (ZE (Zd oLe (Zd Zs (Za 0) (Zj 1)) (Za 1))) (Zd Zs (Za 0) (Zj 1)) (ZU))) ZY) (ZD (Zd ZbU (Za 1) (Zd oMod (Zd ZbU (Za 1) (Zd Zs (Za 0) (Zj 1))) (Zd Zs (Za 0) (Zj 0)))))
noncomputable def Zhb:=ZX 2 Zha
noncomputable def Zhc: PS:=(Zu (ZV (ZG (Ze qEq (Ze Zv (Zb 0) (Zk 0)) (Zk 0))) (ZF (pIf (ZG (Ze qLe (Ze Zv (Zb 0) (Zk 1)) (Zb 1))) (Ze Zv (Zb 0) (Zk 1)) (ZZ))) Z4) (ZF (Ze ZbX (Zb 1) (Ze ZaO (Ze ZbX (Zb 1) (Ze Zv (Zb 0) (Zk 1))) (Ze Zv (Zb 0) (Zk 0))))))
noncomputable def Ze9:=Z6 2 Zhc
theorem Zl9: SimF false Zhb Ze9:=Zaf (show S [] [] [] false Zha Zhc from(Zy (Z8 (ZL (Zz Zbn (ZC ZB (Zc 0) (Zl _)) (Zl _))) (ZN (ZeL (ZL (Zz Zjq (ZC ZB (Zc 0) (Zl _)) (Zc 1))) (E.sh (ZC ZB (Zc 0) (Zl _))) (E.sh (Zag)))) Zac) (ZN (Zz Zci (Zc 1) (Zz Za5 (Zz Zci (Zc 1) (ZC ZB (Zc 0) (Zl _))) (ZC ZB (Zc 0) (Zl _)))))))
noncomputable def Ziq: Sm:=ZD (eIf (ZE (Zq Zhk (Zf (Za 0) (Zf (Za 1) Zn)))) (Za 0) (Za 1))
noncomputable def Zir:=ZX 2 Ziq
noncomputable def Zis: PS:=(ZF (pIf (ZG (Zt Zfc (Zg (Zb 0) (Zg (Zb 1) Zm)))) (Zb 0) (Zb 1)))
noncomputable def ZfD:=Z6 2 Zis
theorem Zn3: SimF false Zir ZfD:=Zaf (show S [] [] [] false Ziq Zis from(ZN (ZeL (ZL (ZQ Zml (Zh (Zc 0) (Zh (Zc 1) Zo)))) (E.sh (Zc 0)) (E.sh (Zc 1)))))
noncomputable def ZhR: Sm:=Zr (ZR (tOr (ZE (Zd oIs (Za 0) (ZU))) (tOr (ZE (Zd oIs (Za 1) (ZU))) Zbx)) (ZD (ZU)) ZY) (ZD (Zd Zak (Za 0) (Za 1)))
noncomputable def Zfo:=ZX 2 ZhR
noncomputable def ZhS: PS:=(Zu (ZV (bOr (ZG (Ze qIs (Zb 0) (ZZ))) (bOr (ZG (Ze qIs (Zb 1) (ZZ))) ZbI)) (ZF (ZZ)) Z4) (ZF (Ze Zal (Zb 0) (Zb 1))))
noncomputable def Zeh:=Z6 2 ZhS
theorem ZjZ: SimF false Zfo Zeh:=Zaf (show S [] [] [] false ZhR ZhS from(Zy (Z8 (ZaH (ZL (Zz Zb8 (Zc 0) (Zag))) (ZaH (ZL (Zz Zb8 (Zc 1) (Zag))) Zb2)) (ZN (Zag)) Zac) (ZN (Z9 Zav (Zc 0) (Zc 1)))))
noncomputable def Zgq: Sm:=ZD (ZaC (ZdY (Za 0) (Za 2)) (ZbW 100 101) Zaq (Zq Zir (Zf (Za 100) (Zf (Zq Zfo (Zf (Za 1) (Zf (Za 101) Zn))) Zn))))
noncomputable def Zgr:=ZX 3 Zgq
noncomputable def Zgs: PS:=(ZF (ZaA (Zd0 (Zb 0) (Zb 2)) (Zcr 100 101) Zaj (Zbg (Zt ZfD (Zg (Zb 100) (Zg (Zt Zeh (Zg (Zb 1) (Zg (Zb 101) Zm))) Zm))))))
noncomputable def ZeY:=Z6 3 Zgs
theorem ZlG: SimF true Zgr ZeY:=Zaf (show S [] [] [] true Zgq Zgs from(ZcL (Zdm (Gs.zip (Zc 0) (Zc 2)) PutOk.two (by decide) ZaT (E.flat (ZQ Zn3 (Zh (Zc 100) (Zh (ZQ ZjZ (Zh (Zc 1) (Zh (Zc 101) Zo))) Zo)))))))
noncomputable def Zho: Sm:=ZD (ZaC (ZbV (Za 0)) (Zap 100) Zaq (Zq Zgr (Zf (Za 100) (Zf (Zd Zs (Za 100) (Za 1)) (Zf (Zd Zs (Za 0) (Za 1)) Zn)))))
noncomputable def Zhp:=ZX 2 Zho
noncomputable def Zhq: PS:=(ZF (ZaA (ZbN (Zb 0)) (Zam 100) Zaj (Zt ZeY (Zg (Zb 100) (Zg (Ze Zv (Zb 100) (Zb 1)) (Zg (Ze Zv (Zb 0) (Zb 1)) Zm))))))
noncomputable def Zfe:=Z6 2 Zhq
theorem ZjN: SimF true Zhp Zfe:=Zaf (show S [] [] [] true Zho Zhq from(ZcL (Zdm (Gs.seq (Zc 0)) PutOk.one (by decide) ZaT (Zds ZlG (Zh (Zc 100) (Zh (ZC ZB (Zc 100) (Zc 1)) (Zh (ZC ZB (Zc 0) (Zc 1)) Zo)))))))
noncomputable def Zgw: Sm:=ZD (Zq ZeR (Zf (ZaC (Za4 (Zf (Zq Zay (Zf (Za 0) Zn)) Zn)) (Zap 100) Zaq (Zd oLt (Zd Zs (Zd Zs (Za 0) (Za 100)) (Za 100)) (Zj 0))) Zn))
noncomputable def Zgx:=ZX 1 Zgw
noncomputable def Zgy: PS:=(ZF (Zt ZeS (Zg (ZaA (ZaP (Zg (Zt Zas (Zg (Zb 0) Zm)) Zm)) (Zam 100) Zaj (Ze qLt (Ze Zv (Ze Zv (Zb 0) (Zb 100)) (Zb 100)) (Zk 0))) Zm)))
noncomputable def Ze0:=Z6 1 Zgy
theorem Zjy: SimF false Zgx Ze0:=Zaf (show S [] [] [] false Zgw Zgy from(ZN (Zaw Zqq (Zh (Zc4 (Gs.range (Zh (Zaw ZaQ (Zh (Zc 0) Zo)) Zo)) PutOk.one (by decide) ZaT (Zz ZcU (ZC ZB (ZC ZB (Zc 0) (Zc 100)) (Zc 100)) (Zl _))) Zo))))
noncomputable def Zit: Sm:=Zr (ZK 1 (Za 0)) (Zr (ZaW (Za4 (Zf (Zq Zay (Zf (Za 0) Zn)) Zn)) (Zap 2) (Zr (ZK 1 (Zq Zhp (Zf (Za 1) (Zf (Za 2) Zn)))) (ZR (ZE (Zq Zgx (Zf (Za 1) Zn))) (ZD (ZU)) ZY))) (ZD (Za 1)))
noncomputable def ZdJ:=ZX 1 Zit
noncomputable def Ziu: PS:=(Zu (ZO 1 (Zb 0)) (Zu (Zge (ZaP (Zg (Zt Zas (Zg (Zb 0) Zm)) Zm)) (Zam 2) (Zu (ZO 1 (Zt Zfe (Zg (Zb 1) (Zg (Zb 2) Zm)))) (ZV (ZG (Zt Ze0 (Zg (Zb 1) Zm))) (ZF (ZZ)) Z4))) (ZF (Zb 1))))
noncomputable def Zen:=Z6 1 Ziu
theorem Zn4: SimF true ZdJ Zen:=Zaf (show S [] [1] [] true Zit Ziu from(Zy (Z1 (O':=[]) (Zc 0)) (Zy (Zp8 (Gs.range (Zh (Zaw ZaQ (Zh (Zc 0) Zo)) Zo)) PutOk.one PutOk.one (by decide) (by decide) (by decide) (Zy (Zch (O':=[1]) (Zds ZjN (Zh (Zc 1) (Zh (Zc 2) Zo)))) (Z8 (ZL (ZQ Zjy (Zh (Zc 1) Zo))) (ZcL (Zag)) Zac)) (Zy (Zch (O':=[1]) (ZaV (O':=[]) (Zds ZjN (Zh (Zc 1) (Zh (Zc 2) Zo))))) (Z8 (ZL (ZQ Zjy (Zh (Zc 1) Zo))) (ZcL (Zag)) Zac))) (ZcL (E.own (by decide))))))
noncomputable def Zhr: Sm:=ZD (Zdd (eIs "int" (Za 0)) (Zgg (eIs "bool" (Za 0))))
noncomputable def ZdD:=ZX 1 Zhr
noncomputable def Zhs: PS:=(ZF ((ZcS (pIs "int" (Zb 0)) (Zgl (pIs "bool" (Zb 0))))))
noncomputable def Zdj:=Z6 1 Zhs
theorem Zff: SimF false ZdD Zdj:=Zaf (show S [] [] [] false Zhr Zhs from(ZN ((Zga (E.sh (ZcT (Zc 0))) (E.sh (Zqp (ZcT (Zc 0))))))))
noncomputable def ZhT: Sm:=Zr (ZR (tOr (Zbk (ZE (eIs "list" (Za 0)))) (tOr (ZE (Zd oNe (Zq Zay (Zf (Za 0) Zn)) (Za 1))) Zbx)) (ZD (Zba false)) ZY) (Zr (ZaW (Za4 (Zf (Za 1) Zn)) (Zap 2) (Zr (ZR (tOr (Zbk (ZE (eIs "list" (Zd Zs (Za 0) (Za 2))))) (tOr (ZE (Zd oNe (Zq Zay (Zf (Zd Zs (Za 0) (Za 2)) Zn)) (Za 1))) Zbx)) (ZD (Zba false)) ZY) (Zr (ZaW (ZbV (Zd Zs (Za 0) (Za 2))) (Zap 3) (ZR (Za7 (ZE (Zd Zb5 (Za 3) (ZU))) (Za7 (Zbk (ZE (Zq ZdD (Zf (Za 3) Zn)))) Zaq)) (ZD (Zba false)) ZY)) (ZR (ZE (Zd oNe (Zd Zs (Zd Zs (Za 0) (Za 2)) (Za 2)) (Zj 0))) (ZD (Zba false)) ZY)))) (ZD (Zba true)))
noncomputable def ZhU:=ZX 2 ZhT
noncomputable def ZhV: PS:=(Zu (ZV (bOr (Zbm (ZG (pIs "list" (Zb 0)))) (bOr (ZG (Ze qNe (Zt Zas (Zg (Zb 0) Zm)) (Zb 1))) ZbI)) (ZF (Zbp false)) Z4) (Zu (ZaX (ZaP (Zg (Zb 1) Zm)) (Zam 2) (Zu (ZV (bOr (Zbm (ZG (pIs "list" (Ze Zv (Zb 0) (Zb 2))))) (bOr (ZG (Ze qNe (Zt Zas (Zg (Ze Zv (Zb 0) (Zb 2)) Zm)) (Zb 1))) ZbI)) (ZF (Zbp false)) Z4) (Zu (ZaX (ZbN (Ze Zv (Zb 0) (Zb 2))) (Zam 3) (ZV (Za9 (ZG (Ze ZbJ (Zb 3) (ZZ))) (Za9 (Zbm (ZG (Zt Zdj (Zg (Zb 3) Zm)))) Zaj)) (ZF (Zbp false)) Z4)) (ZV (ZG (Ze qNe (Ze Zv (Ze Zv (Zb 0) (Zb 2)) (Zb 2)) (Zk 0))) (ZF (Zbp false)) Z4)))) (ZF (Zbp true))))
noncomputable def Zfp:=Z6 2 ZhV
theorem ZmI: SimF false ZhU Zfp:=Zaf (show S [] [] [] false ZhT ZhV from(Zy (Z8 (ZaH (Zbz (ZL (ZcT (Zc 0)))) (ZaH (ZL (Zz ZbY (Zaw ZaQ (Zh (Zc 0) Zo)) (Zc 1))) Zb2)) (ZN (E.bool _)) Zac) (Zy (ZbT (Gs.range (Zh (Zc 1) Zo)) PutOk.one (by decide) (by decide) (Zy (Z8 (ZaH (Zbz (ZL (ZcT (ZC ZB (Zc 0) (Zc 2))))) (ZaH (ZL (Zz ZbY (Zaw ZaQ (Zh (ZC ZB (Zc 0) (Zc 2)) Zo)) (Zc 1))) Zb2)) (ZN (E.bool _)) Zac) (Zy (ZbT (Gs.seq (ZC ZB (Zc 0) (Zc 2))) PutOk.one (by decide) (by decide) (Z8 (Zbt (ZL (Zz Zcl (Zc 3) (Zag))) (Zbt (Zbz (ZL (ZQ Zff (Zh (Zc 3) Zo)))) ZaT)) (ZN (E.bool _)) Zac)) (Z8 (ZL (Zz ZbY (ZC ZB (ZC ZB (Zc 0) (Zc 2)) (Zc 2)) (Zl _))) (ZN (E.bool _)) Zac)))) (ZN (E.bool _)))))
noncomputable def Zht: Sm:=Zr (ZR (ZE (Zd oIs (Za 0) (ZU))) (ZD (ZU)) ZY) (ZD (Zd ZaR (Za 0) (Za 1)))
noncomputable def Zfg:=ZX 2 Zht
noncomputable def Zhu: PS:=(Zu (ZV (ZG (Ze qIs (Zb 0) (ZZ))) (ZF (ZZ)) Z4) (ZF (Ze ZaK (Zb 0) (Zb 1))))
noncomputable def Zed:=Z6 2 Zhu
theorem ZjO: SimF false Zfg Zed:=Zaf (show S [] [] [] false Zht Zhu from(Zy (Z8 (ZL (Zz Zb8 (Zc 0) (Zag))) (ZN (Zag)) Zac) (ZN (Z9 Zbh (Zc 0) (Zc 1)))))
noncomputable def ZgM: Sm:=ZD (Zd Zak (ZbP (Zf (Zax (Zf (Zj 0) (Zf (Zj 0) Zn))) Zn)) (Za 0))
noncomputable def ZdA:=ZX 1 ZgM
noncomputable def ZgN: PS:=(ZF (Ze Zal (ZbR (Zg (ZaJ (Zg (Zk 0) (Zg (Zk 0) Zm))) Zm)) (Zb 0)))
noncomputable def ZdB:=Z6 1 ZgN
theorem ZgO: SimF false ZdA ZdB:=Zaf (show S [] [] [] false ZgM ZgN from(ZN (Z9 Zav (E.list (Zh (E.tup (Zh (Zl _) (Zh (Zl _) Zo))) Zo)) (Zc 0))))
noncomputable def Zgz: Sm:=Zr (ZK 3 (Zd Zs (Za 1) (Za 2))) (Zr (ZaW (Zgc (Za 1)) (ZbW 4 5) (ZR (Za7 (ZE (Zd Zb5 (Za 3) (ZU))) (Za7 (ZE (Zd oEq (Zq Zfo (Zf (Zd Zs (Zd Zs (Za 0) (Za 2)) (Za 4)) (Zf (Zd Zs (Zd Zs (Za 0) (Za 4)) (Za 2)) Zn))) (Zj 0))) Zaq)) (ZK 3 (Zq ZhP (Zf (Za 3) (Zf (Zq Zfd (Zf (Za 5) (Zf (Zax (Zf (Zj 0) (Zf (Zd Zs (Zd Zs (Za 0) (Za 2)) (Za 4)) Zn))) Zn))) Zn)))) ZY)) (ZD (Za 3)))
noncomputable def Zd2:=ZX 3 Zgz
noncomputable def ZgA: PS:=(Zu (ZO 3 (Ze Zv (Zb 1) (Zb 2))) (Zu (ZaX (Zgd (Zb 1)) (Zcr 4 5) (ZV (Za9 (ZG (Ze ZbJ (Zb 3) (ZZ))) (Za9 (ZG (Ze qEq (Zt Zeh (Zg (Ze Zv (Ze Zv (Zb 0) (Zb 2)) (Zb 4)) (Zg (Ze Zv (Ze Zv (Zb 0) (Zb 4)) (Zb 2)) Zm))) (Zk 0))) Zaj)) (ZO 3 (Zt Zfn (Zg (Zb 3) (Zg (Zt Zec (Zg (Zb 5) (Zg (ZaJ (Zg (Zk 0) (Zg (Ze Zv (Ze Zv (Zb 0) (Zb 2)) (Zb 4)) Zm))) Zm))) Zm)))) Z4)) (ZF (Zb 3))))
noncomputable def Zdh:=Z6 3 ZgA
theorem Zjz: SimF false Zd2 Zdh:=Zaf (show S [] [] [] false Zgz ZgA from(Zy (Z1 (O':=[]) (ZC ZB (Zc 1) (Zc 2))) (Zy (ZbT (ZoU (Zc 1)) PutOk.two (by decide) (by decide) (Z8 (Zbt (ZL (Zz Zcl (Zc 3) (Zag))) (Zbt (ZL (Zz Zbn (ZQ ZjZ (Zh (ZC ZB (ZC ZB (Zc 0) (Zc 2)) (Zc 4)) (Zh (ZC ZB (ZC ZB (Zc 0) (Zc 4)) (Zc 2)) Zo))) (Zl _))) ZaT)) (Z1 (O':=[]) (ZQ ZmH (Zh (Zc 3) (Zh (ZQ ZjM (Zh (Zc 5) (Zh (E.tup (Zh (Zl _) (Zh (ZC ZB (ZC ZB (Zc 0) (Zc 2)) (Zc 4)) Zo))) Zo))) Zo)))) Zac)) (ZN (Zc 3)))))
noncomputable def Zd5: Sm:=Zr (ZR (ZE (Zd oIs (Za 0) (ZU))) (ZD (ZU)) ZY) (Zr (ZK 1 (Zq ZdA (Zf (Zd Zs (Za 0) (Zj 1)) Zn))) (Zr (ZK 2 (ZaC (Za4 (Zf (Zj 1) (Zf (Zq Zay (Zf (Za 1) Zn)) Zn))) (Zap 100) Zaq (Zq Zd2 (Zf (Zd Zs (Za 0) (Zj 0)) (Zf (Za 1) (Zf (Za 100) Zn)))))) (Zr (ZR (ZE (Zd oIn (ZU) (Za 2))) (ZD (ZU)) ZY) (ZD (Zax (Zf (Zd Zs (Za 0) (Zj 0)) (Zf (Za 2) Zn)))))))
noncomputable def ZcW:=ZX 1 Zd5
noncomputable def Zd6: PS:=(Zu (ZV (ZG (Ze qIs (Zb 0) (ZZ))) (ZF (ZZ)) Z4) (Zu (ZO 1 (Zt ZdB (Zg (Ze Zv (Zb 0) (Zk 1)) Zm))) (Zu (ZO 2 (ZaA (ZaP (Zg (Zk 1) (Zg (Zt Zas (Zg (Zb 1) Zm)) Zm))) (Zam 100) Zaj (Zt Zdh (Zg (Ze Zv (Zb 0) (Zk 0)) (Zg (Zb 1) (Zg (Zb 100) Zm)))))) (Zu (ZV (ZG (Ze qIn (ZZ) (Zb 2))) (ZF (ZZ)) Z4) (ZF (ZaJ (Zg (Ze Zv (Zb 0) (Zk 0)) (Zg (Zb 2) Zm))))))))
noncomputable def ZcH:=Z6 1 Zd6
theorem ZlT: SimF false ZcW ZcH:=Zaf (show S [] [] [] false Zd5 Zd6 from(Zy (Z8 (ZL (Zz Zb8 (Zc 0) (Zag))) (ZN (Zag)) Zac) (Zy (Z1 (O':=[]) (ZQ ZgO (Zh (ZC ZB (Zc 0) (Zl _)) Zo))) (Zy (Z1 (O':=[]) (Zc4 (Gs.range (Zh (Zl _) (Zh (Zaw ZaQ (Zh (Zc 1) Zo)) Zo))) PutOk.one (by decide) ZaT (ZQ Zjz (Zh (ZC ZB (Zc 0) (Zl _)) (Zh (Zc 1) (Zh (Zc 100) Zo)))))) (Zy (Z8 (ZL (Zz Zju (Zag) (Zc 2))) (ZN (Zag)) Zac) (ZN (E.tup (Zh (ZC ZB (Zc 0) (Zl _)) (Zh (Zc 2) Zo)))))))))
noncomputable def ZfW: Sm:=Zr (ZR (ZE (Zd oIs (Za 0) (ZU))) (ZD (ZU)) ZY) (Zr (ZK 1 (Zq ZdJ (Zf (Zd Zs (Za 0) (Zj 0)) Zn))) (Zr (ZR (ZE (Zd oIs (Za 1) (ZU))) (ZD (ZU)) ZY) (ZD (Zax (Zf (Za 1) (Zf (Zd Zs (Za 0) (Zj 1)) Zn))))))
noncomputable def Zc7:=ZX 1 ZfW
noncomputable def ZfX: PS:=(Zu (ZV (ZG (Ze qIs (Zb 0) (ZZ))) (ZF (ZZ)) Z4) (Zu (ZO 1 (Zt Zen (Zg (Ze Zv (Zb 0) (Zk 0)) Zm))) (Zu (ZV (ZG (Ze qIs (Zb 1) (ZZ))) (ZF (ZZ)) Z4) (ZF (ZaJ (Zg (Zb 1) (Zg (Ze Zv (Zb 0) (Zk 1)) Zm)))))))
noncomputable def Zc8:=Z6 1 ZfX
noncomputable def Zi8: Sm:=ZD (Zq ZcW (Zf (Zq Zc7 (Zf (Za 0) Zn)) Zn))
noncomputable def ZdT:=ZX 1 Zi8
noncomputable def ZfY: PS:=(ZF (Zt ZcH (Zg (Zt Zc8 (Zg (Zb 0) Zm)) Zm)))
noncomputable def Zew: T→Bool
 | .none=>true
 | .tup [_,.lst ts]=>T.flats ts
 | _=>false
noncomputable def Zdq: List T→Option T:=fun ts=>(Z6 1 ZfY ts).bind fun t=>if Zew t then some t else none
theorem Zlm(hp:0<H.length)(r:RF H a t F): St ⟨H,[],fun x=>x∈F⟩ [] (fun i=>[a][i]?) (fun i=>[t][i]?) H (fun _=>F):=by
 refine⟨fun i u e=>?_,fun i u e x m=>.inr m,fun i hi=>(nomatch hi),Nat.le_refl _,fun x _ _=>rfl,hp,by simp⟩
 cases i with
 | zero=>cases e;exact⟨a,rfl,r⟩
 | succ i=>simp at e
theorem Zk0(e:ρ 0=some a)(r:RF H a t F)(ht:t≠.none): ZR (ZE (Zd oIs (Za 0) (ZU))) (ZD (ZU)) ZY ρ H=some (none,ρ,H):=by
 cases r <;> first | exact absurd rfl ht | simp[ZR,ZE,Zd,Za,e,ZU,oIs,Zb4,ZY]
theorem Zk1(e:σ 0=some t)(ht:t≠.none): ZV (ZG (Ze qIs (Zb 0) (ZZ))) (ZF (ZZ)) Z4 σ=some (none,σ):=by
 cases t <;> first | exact absurd rfl ht | simp[ZV,ZG,Ze,Zb,e,ZZ,qIs,Zbo,Z4]
theorem Zk2(e:σ 0=some .none): ZV (ZG (Ze qIs (Zb 0) (ZZ))) (ZF (ZZ)) Z4 σ=some (some .none,σ):=by
 simp[ZV,ZG,Ze,Zb,e,ZZ,qIs,Zbo,ZF]
theorem Zjv{a b:PS}{σ1:TL}(h:a σ=some (none,σ1)): Zu a b σ=b σ1:=by simp only[Zu,h,Option.bind_some]
theorem ZlD{a b:PS}{σ1:TL}(h:a σ=some (some t,σ1)): Zu a b σ=some (some t,σ1):=by simp only[Zu,h,Option.bind_some]
theorem Zdv{a b:Sm}{ρ1:Lc}{H1:Hp}(h:a ρ H=some (none,ρ1,H1)): Zr a b ρ H=b ρ1 H1:=by simp only[Zr,h,Option.bind_some]
theorem ZqC{a b:Sm}{ρ1:Lc}{H1:Hp}{v:V}(h:a ρ H=some (some v,ρ1,H1)): Zr a b ρ H=some (some v,ρ1,H1):=by simp only[Zr,h,Option.bind_some]
theorem ZmJ{u:T}(hp:0<H.length)(r:RF H a t F)(h:Zc8 [t]=some u):
  (u=.none∧∃X,Zc7 [a] H=some (.none,H++X))∨∃w0 v1 u0 u1 X F0 F1,u=.tup [u0,u1]∧Zc7 [a] H=some (.tup [w0,v1],H++X)∧RF (H++X) w0 u0 F0∧F0.Nodup∧(∀x∈F0,H.length≤x)∧RF (H++X) v1 u1 F1:=by
 have st:=Zlm hp r
 unfold Zc8 Z6 at h
 simp only[List.length_cons,List.length_nil,Nat.zero_add,if_true]at h
 obtain⟨r1,h,h0⟩:=Zz1.mp h
 unfold ZfX at h
 by_cases hn:t=.none
 ·subst hn
  rw[ZlD (Zk2 rfl)]at h
  cases h
  cases h0
  cases r
  exact .inl ⟨rfl,[],by simp[Zc7,ZX,ZfW,Zr,ZR,ZE,Zd,Za,ZU,oIs,Zb4,ZD]⟩
 ·rw[Zjv (Zk1 (σ:=fun i=>[t][i]?) rfl hn)]at h
  have ev:∀b:Sm,Zr (ZR (ZE (Zd oIs (Za 0) (ZU))) (ZD (ZU)) ZY) b (fun i=>[a][i]?) H=b (fun i=>[a][i]?) H:=fun b=>Zdv (Zk0 rfl r hn)
  obtain⟨r2,h1',h⟩:=Zz0.mp h
  obtain⟨u0,h1,e1⟩:=Zz1.mp h1'
  subst e1
  have x1:E [] [] true (Zq ZdJ (Zf (Zd Zs (Za 0) (Zj 0)) Zn)) (Zt Zen (Zg (Ze Zv (Zb 0) (Zk 0)) Zm)):=Zds Zn4 (Zh (ZC ZB (Zc 0) (Zl _)) Zo)
  obtain⟨w0,X,F0,a1,a2,a3,a4⟩:=x1 _ _ _ _ _ _ st h1
  have new:∀x∈F0,H.length≤x:=fun x m=>(a3 x m).nil
  have e2:ZK 1 (Zq ZdJ (Zf (Zd Zs (Za 0) (Zj 0)) Zn)) (fun i=>[a][i]?) H=some (none,upd (fun i=>[a][i]?) 1 w0,H++X):=by simp only[ZK,a1,Option.map_some]
  simp only at h
  have ev2:∀b:Sm,Zr (ZK 1 (Zq ZdJ (Zf (Zd Zs (Za 0) (Zj 0)) Zn))) b (fun i=>[a][i]?) H=b (upd (fun i=>[a][i]?) 1 w0) (H++X):=fun b=>Zdv e2
  have fin:∀o,Zr (ZR (ZE (Zd oIs (Za 1) (ZU))) (ZD (ZU)) ZY) (ZD (Zax (Zf (Za 1) (Zf (Zd Zs (Za 0) (Zj 1)) Zn)))) (upd (fun i=>[a][i]?) 1 w0) (H++X)=some o→Zc7 [a] H=some (o.1.getD .none,o.2.2):=fun o ho=>by
   unfold Zc7 ZX ZfW
   simp only[List.length_cons,List.length_nil,Nat.zero_add,if_true]
   rw[ev,ev2,ho]
   rfl
  by_cases hu:u0=.none
  ·subst hu
   cases a2
   obtain⟨r3,h2,h⟩:=Zz0.mp h
   have:r3=(some .none,ZI (fun i=>[t][i]?) 1 .none):=by
    have:=h2
    simp[ZV,ZG,Ze,Zb,ZI,ZZ,qIs,Zbo,ZF]at this
    exact this.symm
   subst this
   cases h
   cases h0
   refine .inl ⟨rfl,X,fin (some .none,upd (fun i=>[a][i]?) 1 .none,H++X) ?_⟩
   exact ZqC (by simp[ZR,ZE,Zd,Za,upd,ZU,oIs,Zb4,ZD])
  ·have e3:ZR (ZE (Zd oIs (Za 1) (ZU))) (ZD (ZU)) ZY (upd (fun i=>[a][i]?) 1 w0) (H++X)=some (none,upd (fun i=>[a][i]?) 1 w0,H++X):=by
    cases a2 <;> first | exact(hu rfl).elim | simp[ZR,ZE,Zd,Za,upd,ZU,oIs,Zb4,ZY]
   have e4:ZV (ZG (Ze qIs (Zb 1) (ZZ))) (ZF (ZZ)) Z4 (ZI (fun i=>[t][i]?) 1 u0)=some (none,ZI (fun i=>[t][i]?) 1 u0):=by
    cases u0 <;> first | exact(hu rfl).elim | simp[ZV,ZG,Ze,Zb,ZI,ZZ,qIs,Zbo,Z4]
   rw[Zjv e4]at h
   obtain⟨u',h5,h6⟩:=Zz1.mp h
   subst h6
   obtain⟨us,h7,h8⟩:=Zz1.mp h5
   subst h8
   obtain⟨q0,g1,h9⟩:=Zz0.mp h7
   obtain⟨qs,g2,h10⟩:=Zz0.mp h9
   cases h10
   obtain⟨q1,g3,g6⟩:=Zz0.mp g2
   obtain⟨qs',g4,g7⟩:=Zz0.mp g6
   cases g7
   cases g4
   have eq0:q0=u0:=by
    have:ZI (fun i=>[t][i]?) 1 u0 1=some q0:=g1
    simp[ZI]at this
    exact this.symm
   subst eq0
   have g5:Zv t (.int 1)=some q1:=by
    have:=g3
    simpa [Ze,Zb,ZI,Zk]using this
   obtain⟨v1,F1,b1,b2,b3⟩:=ZB _ _ _ _ _ _ _ _ (r.ext X) (RF.int (H:=H++X) 1) g5
   cases h0
   refine .inr ⟨w0,v1,q0,q1,X,F0,F1,rfl,fin (some (.tup [w0,v1]),upd (fun i=>[a][i]?) 1 w0,H++X) ?_,a2,a4 rfl,new,b2⟩
   rw[Zdv e3]
   simp[ZD,Zax,Zf,Za,upd,Zd,Zj,b1,Zn,Zbs]
theorem Zkd{put:T→TL→Option TL}{f:PE}{σ:TL}: ∀{ts us:List T},ZcO put Zaj f σ ts=some us→T.flats us=true→ZcO put Zaj (Zbg f) σ ts=some us
 | [],_,h,_=>h
 | t::ts,us,h,hf=>by
  obtain⟨σ1,h1,h⟩:=Zz0.mp h
  simp only[Zaj,Option.bind_some,if_true]at h
  obtain⟨x,h2,h⟩:=Zz0.mp h
  obtain⟨xs,h3,h⟩:=Zz1.mp h
  subst h
  simp only[T.flats,Bool.and_eq_true]at hf
  simp only[ZcO,h1,Option.bind_some,Zaj,if_true,Zbg,h2,hf.1,Zkd h3 hf.2,Option.map_some]
theorem Zj0{u:T}(hp:0<H.length)(r:RF H a t F)(h:ZcH [t]=some u)(ok:Zew u=true):
  (u=.none∧∃X,ZcW [a] H=some (.none,H++X))∨∃w0 w1 u0 u1 X F1,u=.tup [u0,u1]∧Zs a (.int 0) H=some (w0,H)∧Zv t (.int 0)=some u0∧ZcW [a] H=some (.tup [w0,w1],H++X)∧RF (H++X) w1 u1 F1∧F1.Nodup∧(∀x∈F1,H.length≤x):=by
 have st:=Zlm hp r
 have hfull:=h
 unfold ZcH Z6 at h
 simp only[List.length_cons,List.length_nil,Nat.zero_add,if_true]at h
 obtain⟨r1,h,h0⟩:=Zz1.mp h
 unfold Zd6 at h
 by_cases hn:t=.none
 ·subst hn
  rw[ZlD (Zk2 rfl)]at h
  cases h
  cases h0
  cases r
  exact .inl ⟨rfl,[],by simp[ZcW,ZX,Zd5,Zr,ZR,ZE,Zd,Za,ZU,oIs,Zb4,ZD]⟩
 ·rw[Zjv (Zk1 (σ:=fun i=>[t][i]?) rfl hn)]at h
  have ev:∀b:Sm,Zr (ZR (ZE (Zd oIs (Za 0) (ZU))) (ZD (ZU)) ZY) b (fun i=>[a][i]?) H=b (fun i=>[a][i]?) H:=fun b=>Zdv (Zk0 rfl r hn)
  obtain⟨r2,h1',h⟩:=Zz0.mp h
  obtain⟨t1,h1,e1⟩:=Zz1.mp h1'
  subst e1
  have x1:E [] ([0]++[]) false (Zq ZdA (Zf (Zd Zs (Za 0) (Zj 1)) Zn)) (Zt ZdB (Zg (Ze Zv (Zb 0) (Zk 1)) Zm)):=ZQ ZgO (Zh (ZC ZB (Zc 0) (Zl _)) Zo)
  obtain⟨v1,X1,Fr,a1,a2,a3,_⟩:=x1 _ _ _ _ _ _ st h1
  have st1:=(st.ext X1).put (j:=1) (by simp) a2 (fun x m=>st.from_src (a3 x m)) (fun i hi=>(nomatch hi))
  have ev1:∀b:Sm,Zr (ZK 1 (Zq ZdA (Zf (Zd Zs (Za 0) (Zj 1)) Zn))) b (fun i=>[a][i]?) H=b (upd (fun i=>[a][i]?) 1 v1) (H++X1):=fun b=>Zdv (by simp only[ZK,a1,Option.map_some])
  simp only at h
  obtain⟨r3,h2',h⟩:=Zz0.mp h
  obtain⟨t2,h2,e2⟩:=Zz1.mp h2'
  subst e2
  simp only at h
  generalize hσ:ZI (fun i=>[t][i]?) 1 t1=σ1 at *
  generalize hρ:upd (fun i=>[a][i]?) 1 v1=ρ1 at *
  have hρ0:ρ1 0=some a:=by rw[←hρ];simp[upd]
  have hσ0:σ1 0=some t:=by rw[←hσ];simp[ZI]
  have x2:∀ts,T.flats ts=true→ZaA (ZaP (Zg (Zk 1) (Zg (Zt Zas (Zg (Zb 1) Zm)) Zm))) (Zam 100) Zaj (Zt Zdh (Zg (Ze Zv (Zb 0) (Zk 0)) (Zg (Zb 1) (Zg (Zb 100) Zm)))) σ1=some (.lst ts)→∃w X G,ZaC (Za4 (Zf (Zj 1) (Zf (Zq Zay (Zf (Za 1) Zn)) Zn))) (Zap 100) Zaq (Zq Zd2 (Zf (Zd Zs (Za 0) (Zj 0)) (Zf (Za 1) (Zf (Za 100) Zn)))) ρ1 (H++X1)=some (w,H++X1++X)∧RF (H++X1++X) w (.lst ts) G∧G.Nodup∧∀x∈G,(H++X1).length≤x:=fun ts hf he=>by
   have y:E [] [] true (ZaC (Za4 (Zf (Zj 1) (Zf (Zq Zay (Zf (Za 1) Zn)) Zn))) (Zap 100) Zaq (Zq Zd2 (Zf (Zd Zs (Za 0) (Zj 0)) (Zf (Za 1) (Zf (Za 100) Zn))))) (ZaA (ZaP (Zg (Zk 1) (Zg (Zt Zas (Zg (Zb 1) Zm)) Zm))) (Zam 100) Zaj (Zbg (Zt Zdh (Zg (Ze Zv (Zb 0) (Zk 0)) (Zg (Zb 1) (Zg (Zb 100) Zm)))))):=Zdm (Gs.range (Zh (Zl _) (Zh (Zaw ZaQ (Zh (Zc 1) Zo)) Zo))) PutOk.one (by decide) ZaT (E.flat (ZQ Zjz (Zh (ZC ZB (Zc 0) (Zl _)) (Zh (Zc 1) (Zh (Zc 100) Zo)))))
   have he2:ZaA (ZaP (Zg (Zk 1) (Zg (Zt Zas (Zg (Zb 1) Zm)) Zm))) (Zam 100) Zaj (Zbg (Zt Zdh (Zg (Ze Zv (Zb 0) (Zk 0)) (Zg (Zb 1) (Zg (Zb 100) Zm))))) σ1=some (.lst ts):=by
    obtain⟨zs,g1,g2⟩:=Zz0.mp he
    split at g2
    ·rename_i hl
     obtain⟨us,g3,g4⟩:=Zz1.mp g2
     cases g4
     simp only[ZaA,g1,Option.bind_some]
     rw[if_pos hl,Zkd g3 hf]
     rfl
    ·cases g2
   obtain⟨w,X,G,b1,b2,b3,b4⟩:=y _ _ _ _ _ _ st1 he2
   exact⟨w,X,G,b1,b2,b4 rfl,fun x m=>(b3 x m).nil⟩
  obtain⟨ts,rfl⟩:∃ts,t2=.lst ts:=by
   obtain⟨zs,g1,g2⟩:=Zz0.mp h2
   split at g2
   ·obtain⟨us,g3,g4⟩:=Zz1.mp g2
    exact⟨us,g4.symm⟩
   ·cases g2
  by_cases hu:u=.none
  ·subst hu
   obtain⟨v,X,G,c1,c2,_⟩:=ZlT H [a] [t] .none F hp (RFs.one r) hfull
   cases c2
   exact .inl ⟨rfl,X,c1⟩
  ·obtain⟨r4,h3,h⟩:=Zz0.mp h
   obtain⟨b,h4,h5⟩:=Zz0.mp h3
   cases b with
   | true=>
    simp only[if_true]at h5
    cases h5
    cases h
    cases h0
    exact absurd rfl hu
   | false=>
    cases h5
    simp only at h
    obtain⟨u',h6,h7⟩:=Zz1.mp h
    subst h7
    obtain⟨us,h8,h9⟩:=Zz1.mp h6
    subst h9
    obtain⟨q0,g1,h10⟩:=Zz0.mp h8
    obtain⟨qs,g2,h11⟩:=Zz0.mp h10
    cases h11
    obtain⟨q1,g3,g6⟩:=Zz0.mp g2
    obtain⟨qs',g4,g7⟩:=Zz0.mp g6
    cases g7
    cases g4
    have eq1:q1=.lst ts:=by
     have:ZI σ1 2 (.lst ts) 2=some q1:=g3
     simp[ZI]at this
     exact this.symm
    subst eq1
    have g5:Zv t (.int 0)=some q0:=by
     have:=g1
     simpa [Ze,Zb,ZI,Zk,hσ0]using this
    cases h0
    obtain⟨w,X,G,b1,b2,b3,b4⟩:=x2 ts ok h2
    obtain⟨w0,F0,i1,i2,i3⟩:=ZB _ _ _ _ _ _ _ _ r (RF.int (H:=H) 0) g5
    have st2:=(st1.ext X).put (j:=2) (by simp) b2 (fun x m=>.inl (by have:=b4 x m;simp at this;show H.length≤x;omega)) (fun i hi=>(nomatch hi))
    have bt:Bt [] (ZE (Zd oIn (ZU) (Za 2))) (ZG (Ze qIn (ZZ) (Zb 2))):=ZL (Zz Zju Zag (Zc 2))
    obtain⟨Y,k1⟩:=bt _ _ _ _ _ _ st2 h4
    refine .inr ⟨w0,w,q0,.lst ts,X1++X++Y,G,rfl,i1,g5,?_,by rw[←List.append_assoc,←List.append_assoc];exact b2.ext Y,b3,fun x m=>by have:=b4 x m;simp at this;omega⟩
    unfold ZcW ZX Zd5
    simp only[List.length_cons,List.length_nil,Nat.zero_add,if_true]
    rw[ev,ev1,Zdv (ρ1:=upd ρ1 2 w) (H1:=H++X1++X) (by simp only[ZK,b1,Option.map_some]),Zdv (ρ1:=upd ρ1 2 w) (H1:=H++X1++X++Y) (by simp only[ZR,k1,Option.bind_some];rfl)]
    have hidx:=(Zh4 i1 (X1++X++Y)).2
    have hr:(upd ρ1 2 w) 0=some a:=by simp[upd,hρ0]
    have h2w:(upd ρ1 2 w) 2=some w:=by simp[upd]
    simp only[←List.append_assoc]at hidx ⊢
    generalize H++X1++X++Y=K at *
    have e5:Zax (Zf (Zd Zs (Za 0) (Zj 0)) (Zf (Za 2) Zn)) (upd ρ1 2 w) K=some (.tup [w0,w],K):=by
     simp only[Zax,Zf,Zd,Za,hr,h2w,Zj,Zn,Option.map_some,Option.bind_some,hidx]
     rw[if_pos (by rw[Zbs];simp)]
    simp only[ZD,e5,Option.map_some]
    rfl
theorem Zln: SimF true ZdT Zdq:=fun H vs ts t F1 hp r h=>by
 obtain⟨t',h1,h2⟩:=Zz0.mp h
 by_cases ok:Zew t'=true
 ·rw[if_pos ok]at h2
  cases h2
  unfold Z6 at h1
  split at h1
  ·rename_i hl
   obtain⟨t0,rfl⟩:∃t0,ts=[t0]:=List.length_eq_one_iff.mp hl
   obtain⟨a,rfl,r0⟩:=r.one_inv
   obtain⟨r1,h3,h4⟩:=Zz1.mp h1
   obtain⟨u,h5,h6⟩:=Zz1.mp h3
   subst h6
   cases h4
   obtain⟨us,h7,h8⟩:=Zz0.mp h5
   obtain⟨q0,g1,h9⟩:=Zz0.mp h7
   obtain⟨qs,g2,h10⟩:=Zz0.mp h9
   cases h10
   cases g2
   have g3:Zc8 [t0]=some q0:=by
    have:=g1
    simpa [Zt,Zg,Zb,Zm]using this
   have g4:ZcH [q0]=some u:=h8
   have run:∀v1 X1 v2 X2,Zc7 [a] H=some (v1,H++X1)→ZcW [v1] (H++X1)=some (v2,H++X1++X2)→ZdT [a] H=some (v2,H++(X1++X2)):=fun v1 X1 v2 X2 e1 e2=>by
    simp[ZdT,ZX,Zi8,ZD,Zq,Zf,Za,Zn,e1,e2]
   rcases ZmJ hp r0 g3 with⟨rfl,X,e1⟩ | ⟨w0,v1,u0,u1,X,F0,F2,rfl,e1,a1,a2,a3,a4⟩
   ·have hp2:0<(H++X).length:=by rw[List.length_append];omega
    rcases Zj0 hp2 (.none (H:=H++X)) g4 ok with⟨rfl,Y,e2⟩ | ⟨_,_,_,_,_,_,_,e2,_⟩
    ·exact⟨.none,X++Y,[],run _ _ _ _ e1 e2,.none,by simp,by simp⟩
    ·cases e2
   ·have hp2:0<(H++X).length:=by rw[List.length_append];omega
    rcases Zj0 hp2 (.tup (.cons a1 (.one a4))) g4 ok with⟨rfl,Y,e2⟩ | ⟨x0,w1,y0,y1,Y,F1',rfl,e3,e4,e2,b1,b2,b3⟩
    ·exact⟨.none,X++Y,[],run _ _ _ _ e1 e2,.none,by simp,by simp⟩
    ·have ex:x0=w0:=by
      have:Zs (.tup [w0,v1]) (.int 0) (H++X)=some (w0,H++X):=by simp[Zs,seqIndex?]
      rw[this]at e3
      cases e3
      rfl
     have ey:y0=u0:=by
      have:Zv (.tup [u0,u1]) (.int 0)=some u0:=by simp[Zv,seqIndex?]
      rw[this]at e4
      cases e4
      rfl
     subst ex ey
     have nd:(F0++F1').Nodup:=by
      rw[List.nodup_append]
      refine⟨a2,b2,fun x hx y hy e=>?_⟩
      have:=a1.lt x hx
      have:=b3 y hy
      omega
     have nw:∀x∈F0++F1',H.length≤x:=fun x m=>by
      rcases Zz8.mp m with m | m
      ·exact a3 x m
      ·have:=b3 x m;rw[List.length_append]at this;omega
     exact⟨.tup [x0,w1],X++Y,F0++F1',run _ _ _ _ e1 e2,by rw[←List.append_assoc];exact .tup (.cons (a1.ext Y) (.one b1)),fun x m=>.inl (nw x m),fun _=>⟨nd,nw⟩⟩
  ·cases h1
 ·rw[if_neg ok]at h2
  cases h2
noncomputable def Zgt: Sm:=Zr (ZR (ZE (Zd Zb5 (Za 0) (ZU))) (ZD (Zq Zhb (Zf (Za 1) (Zf (Za 0) Zn)))) ZY) (Zr (ZR (ZE (Zd oEq (Zd Zs (Za 1) (Zj 0)) (Zj 0))) (ZD (Zd Zs (Za 1) (Zj 1))) ZY) (ZD (ZU)))
noncomputable def Zgu:=ZX 2 Zgt
noncomputable def Zgv: PS:=(Zu (ZV (ZG (Ze ZbJ (Zb 0) (ZZ))) (ZF (Zt Ze9 (Zg (Zb 1) (Zg (Zb 0) Zm)))) Z4) (Zu (ZV (ZG (Ze qEq (Ze Zv (Zb 1) (Zk 0)) (Zk 0))) (ZF (Ze Zv (Zb 1) (Zk 1))) Z4) (ZF (ZZ))))
noncomputable def ZeZ:=Z6 2 Zgv
theorem ZlH: SimF false Zgu ZeZ:=Zaf (show S [] [] [] false Zgt Zgv from(Zy (Z8 (ZL (Zz Zcl (Zc 0) (Zag))) (ZN (ZQ Zl9 (Zh (Zc 1) (Zh (Zc 0) Zo)))) Zac) (Zy (Z8 (ZL (Zz Zbn (ZC ZB (Zc 1) (Zl _)) (Zl _))) (ZN (ZC ZB (Zc 1) (Zl _))) Zac) (ZN (Zag)))))
noncomputable def ZgP: Sm:=Zr (ZK 3 (ZbP Zn)) (Zr (ZaW (ZdY (Za 0) (Za 2)) (ZbW 4 5) (Zr (ZK 6 (Zq Zgu (Zf (Za 4) (Zf (Zq Zfd (Zf (Za 1) (Zf (Zq Zg8 (Zf (Za 5) (Zf (eUn ZdW (Zj 1)) Zn))) Zn))) Zn)))) (Zr (ZR (Za7 (ZE (Zd oIs (Za 6) (ZU))) (Za7 (ZE (Zd Zb5 (Za 4) (ZU))) Zaq)) (ZD (ZU)) ZY) (Zbl (Zcd (Za 3) (Za 6)))))) (ZD (Za 3)))
noncomputable def ZgQ:=ZX 3 ZgP
noncomputable def ZgR: PS:=(Zu (ZO 3 (ZbR Zm)) (Zu (ZaX (Zd0 (Zb 0) (Zb 2)) (Zcr 4 5) (Zu (ZO 6 (Zt ZeZ (Zg (Zb 4) (Zg (Zt Zec (Zg (Zb 1) (Zg (Zt Ze8 (Zg (Zb 5) (Zg (pUn ZdZ (Zk 1)) Zm))) Zm))) Zm)))) (Zu (ZV (Za9 (ZG (Ze qIs (Zb 6) (ZZ))) (Za9 (ZG (Ze ZbJ (Zb 4) (ZZ))) Zaj)) (ZF (ZZ)) Z4) (ZbZ 3 [] ZaN (Zbg (Zb 6)))))) (ZF (Zb 3))))
noncomputable def Ze4:=Z6 3 ZgR
theorem ZlU: SimF false ZgQ Ze4:=Zaf (show S [] [3] [] false ZgP ZgR from(Zy (Zch (O':=[3]) (E.list Zo)) (Zy (ZbT (Gs.zip (Zc 0) (Zc 2)) PutOk.two (by decide) (by decide) (Zy (Z1 (O':=[3]) (ZQ ZlH (Zh (Zc 4) (Zh (ZQ ZjM (Zh (Zc 1) (Zh (ZQ Zl8 (Zh (Zc 5) (Zh (Zf9 Zgb (Zl _)) Zo))) Zo))) Zo)))) (Zy (Z8 (Zbt (ZL (Zz Zb8 (Zc 6) (Zag))) (Zbt (ZL (Zz Zcl (Zc 4) (Zag))) ZaT)) (ZN (Zag)) Zac) (ZcP (O':=[3]) (by decide) ZbA (ZaV (O':=[]) (E.flat (Zc 6))) (by decide) (by decide))))) (ZN (Zc 3)))))
noncomputable def Zic: Sm:=Zr (ZR (ZE (Zd oIs (Za 0) (ZU))) (ZD (ZU)) ZY) (Zr (ZK 1 (Zq ZdA (Zf (Zd Zs (Za 0) (Zj 1)) Zn))) (Zr (ZK 2 (ZaC (ZdY (Zd Zs (Za 0) (Zj 0)) (Za 1)) (ZbW 100 101) Zaq (Zq ZgQ (Zf (Za 100) (Zf (Za 101) (Zf (Za 1) Zn)))))) (Zr (ZR (ZE (Zd oIn (ZU) (Za 2))) (ZD (ZU)) ZY) (ZD (Zax (Zf (Za 2) (Zf (Zd Zs (Za 0) (Zj 1)) Zn)))))))
noncomputable def Zid:=ZX 1 Zic
noncomputable def Zfy: PS:=(Zu (ZV (ZG (Ze qIs (Zb 0) (ZZ))) (ZF (ZZ)) Z4) (Zu (ZO 1 (Zt ZdB (Zg (Ze Zv (Zb 0) (Zk 1)) Zm))) (Zu (ZO 2 (ZaA (Zd0 (Ze Zv (Zb 0) (Zk 0)) (Zb 1)) (Zcr 100 101) Zaj (Zt Ze4 (Zg (Zb 100) (Zg (Zb 101) (Zg (Zb 1) Zm)))))) (Zu (ZV (ZG (Ze qIn (ZZ) (Zb 2))) (ZF (ZZ)) Z4) (ZF (ZaJ (Zg (Zb 2) (Zg (Ze Zv (Zb 0) (Zk 1)) Zm))))))))
noncomputable def ZdH:=Z6 1 Zfy
theorem Znl: SimF false Zid ZdH:=Zaf (show S [] [] [] false Zic Zfy from(Zy (Z8 (ZL (Zz Zb8 (Zc 0) (Zag))) (ZN (Zag)) Zac) (Zy (Z1 (O':=[]) (ZQ ZgO (Zh (ZC ZB (Zc 0) (Zl _)) Zo))) (Zy (Z1 (O':=[]) (Zc4 (Gs.zip (ZC ZB (Zc 0) (Zl _)) (Zc 1)) PutOk.two (by decide) ZaT (ZQ ZlU (Zh (Zc 100) (Zh (Zc 101) (Zh (Zc 1) Zo)))))) (Zy (Z8 (ZL (Zz Zju (Zag) (Zc 2))) (ZN (Zag)) Zac) (ZN (E.tup (Zh (Zc 2) (Zh (ZC ZB (Zc 0) (Zl _)) Zo)))))))))
noncomputable def ZiT: Sm:=ZD (Zq ZdT (Zf (Zq Zid (Zf (Zq ZdT (Zf (Za 0) Zn)) Zn)) Zn))
noncomputable def ZiU:=ZX 1 ZiT
noncomputable def ZiV: PS:=(ZF (Zt Zdq (Zg (Zt ZdH (Zg (Zt Zdq (Zg (Zb 0) Zm)) Zm)) Zm)))
noncomputable def Zex:=Z6 1 ZiV
theorem Zo1: SimF true ZiU Zex:=Zaf (show S [] [] [] true ZiT ZiV from(ZcL (Zds Zln (Zh (ZQ Znl (Zh (ZQ Zln (Zh (Zc 0) Zo)) Zo)) Zo))))
noncomputable def Zhv: Sm:=Zr (ZR (tOr (Zbk (ZE (eIs "tuple" (Za 0)))) (tOr (ZE (Zd oNe (Zq Zay (Zf (Za 0) Zn)) (Zj 2))) (tOr (Zbk (ZE (Zq ZhU (Zf (Zd Zs (Za 0) (Zj 0)) (Zf (Zd Zak (Za 1) (Zj 1)) Zn))))) Zbx))) (ZD (Zba false)) ZY) (Zr (ZR (tOr (Zbk (ZE (eIs "list" (Zd Zs (Za 0) (Zj 1))))) (tOr (ZE (Zd oNe (Zq Zay (Zf (Zd Zs (Za 0) (Zj 1)) Zn)) (Za 1))) Zbx)) (ZD (Zba false)) ZY) (Zr (ZaW (ZbV (Zd Zs (Za 0) (Zj 1))) (Zap 2) (Zr (ZR (tOr (Zbk (ZE (eIs "tuple" (Za 2)))) (tOr (ZE (Zd oNe (Zq Zay (Zf (Za 2) Zn)) (Zj 2))) Zbx)) (ZD (Zba false)) ZY) (Zr (ZR (tOr (Zbk (ZE (Zq ZdD (Zf (Zd Zs (Za 2) (Zj 0)) Zn)))) (tOr (Zbk (ZE (Zq ZdD (Zf (Zd Zs (Za 2) (Zj 1)) Zn)))) Zbx)) (ZD (Zba false)) ZY) (ZR (tOr (ZE (Zd oLt (Zd Zs (Za 2) (Zj 0)) (Zj 0))) (tOr (Za7 (ZE (Zd oGt (Zd Zs (Za 2) (Zj 0)) (Zj 0))) (Za7 (Zbk (ZeG oLe oLt (Zj 0) (Zd Zs (Za 2) (Zj 1)) (Zd Zs (Za 2) (Zj 0)))) Zaq)) Zbx)) (ZD (Zba false)) ZY)))) (ZD (Zba true))))
noncomputable def Zhw:=ZX 2 Zhv
noncomputable def Zhx: PS:=(Zu (ZV (bOr (Zbm (ZG (pIs "tuple" (Zb 0)))) (bOr (ZG (Ze qNe (Zt Zas (Zg (Zb 0) Zm)) (Zk 2))) (bOr (Zbm (ZG (Zt Zfp (Zg (Ze Zv (Zb 0) (Zk 0)) (Zg (Ze Zal (Zb 1) (Zk 1)) Zm))))) ZbI))) (ZF (Zbp false)) Z4) (Zu (ZV (bOr (Zbm (ZG (pIs "list" (Ze Zv (Zb 0) (Zk 1))))) (bOr (ZG (Ze qNe (Zt Zas (Zg (Ze Zv (Zb 0) (Zk 1)) Zm)) (Zb 1))) ZbI)) (ZF (Zbp false)) Z4) (Zu (ZaX (ZbN (Ze Zv (Zb 0) (Zk 1))) (Zam 2) (Zu (ZV (bOr (Zbm (ZG (pIs "tuple" (Zb 2)))) (bOr (ZG (Ze qNe (Zt Zas (Zg (Zb 2) Zm)) (Zk 2))) ZbI)) (ZF (Zbp false)) Z4) (Zu (ZV (bOr (Zbm (ZG (Zt Zdj (Zg (Ze Zv (Zb 2) (Zk 0)) Zm)))) (bOr (Zbm (ZG (Zt Zdj (Zg (Ze Zv (Zb 2) (Zk 1)) Zm)))) ZbI)) (ZF (Zbp false)) Z4) (ZV (bOr (ZG (Ze qLt (Ze Zv (Zb 2) (Zk 0)) (Zk 0))) (bOr (Za9 (ZG (Ze qGt (Ze Zv (Zb 2) (Zk 0)) (Zk 0))) (Za9 (Zbm (ZeH qLe qLt (Zk 0) (Ze Zv (Zb 2) (Zk 1)) (Ze Zv (Zb 2) (Zk 0)))) Zaj)) ZbI)) (ZF (Zbp false)) Z4)))) (ZF (Zbp true)))))
noncomputable def Zfh:=Z6 2 Zhx
theorem Zmm: SimF false Zhw Zfh:=Zaf (show S [] [] [] false Zhv Zhx from(Zy (Z8 (ZaH (Zbz (ZL (ZcT (Zc 0)))) (ZaH (ZL (Zz ZbY (Zaw ZaQ (Zh (Zc 0) Zo)) (Zl _))) (ZaH (Zbz (ZL (ZQ ZmI (Zh (ZC ZB (Zc 0) (Zl _)) (Zh (Z9 Zav (Zc 1) (Zl _)) Zo))))) Zb2))) (ZN (E.bool _)) Zac) (Zy (Z8 (ZaH (Zbz (ZL (ZcT (ZC ZB (Zc 0) (Zl _))))) (ZaH (ZL (Zz ZbY (Zaw ZaQ (Zh (ZC ZB (Zc 0) (Zl _)) Zo)) (Zc 1))) Zb2)) (ZN (E.bool _)) Zac) (Zy (ZbT (Gs.seq (ZC ZB (Zc 0) (Zl _))) PutOk.one (by decide) (by decide) (Zy (Z8 (ZaH (Zbz (ZL (ZcT (Zc 2)))) (ZaH (ZL (Zz ZbY (Zaw ZaQ (Zh (Zc 2) Zo)) (Zl _))) Zb2)) (ZN (E.bool _)) Zac) (Zy (Z8 (ZaH (Zbz (ZL (ZQ Zff (Zh (ZC ZB (Zc 2) (Zl _)) Zo)))) (ZaH (Zbz (ZL (ZQ Zff (Zh (ZC ZB (Zc 2) (Zl _)) Zo)))) Zb2)) (ZN (E.bool _)) Zac) (Z8 (ZaH (ZL (Zz ZcU (ZC ZB (Zc 2) (Zl _)) (Zl _))) (ZaH (Zbt (ZL (Zz Zjr (ZC ZB (Zc 2) (Zl _)) (Zl _))) (Zbt (Zbz (ZnX Zjq ZcU (Zl _) (ZC ZB (Zc 2) (Zl _)) (ZC ZB (Zc 2) (Zl _)))) ZaT)) Zb2)) (ZN (E.bool _)) Zac)))) (ZN (E.bool _))))))
noncomputable def ZgS: Sm:=ZD (ZaC (Za4 (Zf (Zd Zak (Za 1) (Zj 1)) Zn)) (Zap 100) Zaq (eIf (ZE (Zd oEq (Za 0) (Za 100))) (Zj 0) (ZU)))
noncomputable def ZgT:=ZX 2 ZgS
noncomputable def ZgU: PS:=(ZF (ZaA (ZaP (Zg (Ze Zal (Zb 1) (Zk 1)) Zm)) (Zam 100) Zaj (pIf (ZG (Ze qEq (Zb 0) (Zb 100))) (Zk 0) (ZZ))))
noncomputable def Ze5:=Z6 2 ZgU
theorem ZlV: SimF true ZgT Ze5:=Zaf (show S [] [] [] true ZgS ZgU from(ZcL (Zdm (Gs.range (Zh (Z9 Zav (Zc 1) (Zl _)) Zo)) PutOk.one (by decide) ZaT (ZeL (ZL (Zz Zbn (Zc 0) (Zc 100))) (Zl _) (Zag)))))
noncomputable def Zfq: Sm:=Zr (Zcu (Zd Zs (Za 2) (Zj 1)) (Zd Zs (Za 0) (Za 1)) (Zj 0)) (Zcu (Zq Zfg (Zf (Zd Zs (Za 2) (Zj 0)) (Zf (eUn ZdW (Zj 1)) Zn))) (Zd Zs (Za 0) (Zj 0)) (Za 1))
noncomputable def ZhW:=ZX 3 Zfq
noncomputable def ZhX: PS:=(Zu (Zcj 0 [] (Zbg (Ze Zv (Zb 2) (Zk 1))) (Zc5 ZaN (Zb 1)) (Zk 0)) (Zcj 0 [] (Zbg (Zt Zed (Zg (Ze Zv (Zb 2) (Zk 0)) (Zg (pUn ZdZ (Zk 1)) Zm)))) (Zc5 ZaN (Zk 0)) (Zb 1)))
noncomputable def Zfr:=ZeV 3 ZhX
theorem ZmK: SimM ZhW Zfr:=ZoY (show S [0] [0] [0] false Zfq ZhX from(Zy (S.put (O':=[0]) (by decide) (ZaV (O':=[]) (E.flat (ZC ZB (Zc 2) (Zl _)))) (ZeC ZbA (Zc 1)) (Zl _) (by decide) (by decide)) (S.put (O':=[0]) (by decide) (ZaV (O':=[]) (E.flat (ZQ ZjO (Zh (ZC ZB (Zc 2) (Zl _)) (Zh (Zf9 Zgb (Zl _)) Zo))))) (ZeC ZbA (Zl _)) (Zc 1) (by decide) (by decide)))) (by decide) (by unfold Zfq;repeat' first | exact Keep0.next | exact Zne | exact Keep0.ret | exact Keep0.put | apply Keep0.seq | apply Znf | exact Keep0.set (by decide))
noncomputable def ZgB: Sm:=Zr (ZK 1 (Zd Zs (Za 0) (Zj 0))) (ZD (ZaC (Za4 (Zf (Zj 1) (Zf (Zq Zay (Zf (Za 1) Zn)) Zn))) (Zap 100) Zaq (Zax (Zf (Zq Zfg (Zf (Zd Zs (Zd Zs (Za 1) (Zj 0)) (Za 100)) (Zf (eUn ZdW (Zj 1)) Zn))) (Zf (Zd Zs (Zd Zs (Za 1) (Za 100)) (Zj 0)) Zn)))))
noncomputable def Ze1:=ZX 1 ZgB
noncomputable def ZgC: PS:=(Zu (ZO 1 (Ze Zv (Zb 0) (Zk 0))) (ZF (ZaA (ZaP (Zg (Zk 1) (Zg (Zt Zas (Zg (Zb 1) Zm)) Zm))) (Zam 100) Zaj (ZaJ (Zg (Zt Zed (Zg (Ze Zv (Ze Zv (Zb 1) (Zk 0)) (Zb 100)) (Zg (pUn ZdZ (Zk 1)) Zm))) (Zg (Ze Zv (Ze Zv (Zb 1) (Zb 100)) (Zk 0)) Zm))))))
noncomputable def ZcV:=Z6 1 ZgC
theorem ZjA: SimF false Ze1 ZcV:=Zaf (show S [] [] [] false ZgB ZgC from(Zy (Z1 (O':=[]) (ZC ZB (Zc 0) (Zl _))) (ZN (Zc4 (Gs.range (Zh (Zl _) (Zh (Zaw ZaQ (Zh (Zc 1) Zo)) Zo))) PutOk.one (by decide) ZaT (E.tup (Zh (ZQ ZjO (Zh (ZC ZB (ZC ZB (Zc 1) (Zl _)) (Zc 100)) (Zh (Zf9 Zgb (Zl _)) Zo))) (Zh (ZC ZB (ZC ZB (Zc 1) (Zc 100)) (Zl _)) Zo)))))))
noncomputable def Zie: Sm:=ZD (ZaC (Za4 (Zf (Zd Zak (Za 0) (Zj 1)) Zn)) (Zap 100) Zaq (Zq ZgT (Zf (Za 100) (Zf (Za 0) Zn))))
noncomputable def Zif:=ZX 1 Zie
noncomputable def Zig: PS:=(ZF (ZaA (ZaP (Zg (Ze Zal (Zb 0) (Zk 1)) Zm)) (Zam 100) Zaj (Zt Ze5 (Zg (Zb 100) (Zg (Zb 0) Zm)))))
noncomputable def Zfz:=Z6 1 Zig
theorem Znm: SimF true Zif Zfz:=Zaf (show S [] [] [] true Zie Zig from(ZcL (Zdm (Gs.range (Zh (Z9 Zav (Zc 0) (Zl _)) Zo)) PutOk.one (by decide) ZaT (Zds ZlV (Zh (Zc 100) (Zh (Zc 0) Zo))))))
noncomputable def ZgD: Sm:=Zr (ZK 1 (Zq Zif (Zf (Zq Zay (Zf (Za 0) Zn)) Zn))) (Zr (ZaW (ZfS (Za 0)) (ZbW 2 3) (Zbl (Zq ZhW (Zf (Za 1) (Zf (Za 2) (Zf (Za 3) Zn)))))) (ZD (Zq ZiU (Zf (Zax (Zf (Za 1) (Zf (ZaC (ZbV (Za 0)) (Zap 100) Zaq (Zax (Zf (Zj 1) (Zf (Zj 0) Zn)))) Zn))) Zn))))
noncomputable def ZgE:=ZX 1 ZgD
noncomputable def ZgF: PS:=(Zu (ZO 1 (Zt Zfz (Zg (Zt Zas (Zg (Zb 0) Zm)) Zm))) (Zu (ZaX (ZfT (Zb 0)) (Zcr 2 3) (Zgp 1 Zfr (Zg (Zb 2) (Zg (Zb 3) Zm)))) (ZF (Zt Zex (Zg (ZaJ (Zg (Zb 1) (Zg (ZaA (ZbN (Zb 0)) (Zam 100) Zaj (ZaJ (Zg (Zk 1) (Zg (Zk 0) Zm)))) Zm))) Zm)))))
noncomputable def Ze2:=Z6 1 ZgF
theorem ZlM: SimF false ZgE Ze2:=Zaf (show S [] [1] [] false ZgD ZgF from(Zy (Zch (O':=[1]) (Zds Znm (Zh (Zaw ZaQ (Zh (Zc 0) Zo)) Zo))) (Zy (ZbT (Zn1 (Zc 0)) PutOk.two (by decide) (by decide) (Zp9 (O':=[1]) (by decide) ZmK (Zh (Zc 2) (Zh (Zc 3) Zo)) (by decide) (by decide))) (ZN (ZQ Zo1 (Zh (E.tup (Zh (Zc 1) (Zh (Zc4 (Gs.seq (Zc 0)) PutOk.one (by decide) ZaT (E.tup (Zh (Zl _) (Zh (Zl _) Zo)))) Zo))) Zo))))))
noncomputable def ZgV: Sm:=Zr (ZK 2 (Zq Zdi (Zf (Za 0) (Zf (Za 1) Zn)))) (Zr (ZK 3 (Zq Zeb (Zf (Za 0) (Zf (Zd Zak (Za 1) (Zj 1)) Zn)))) (Zr (ZK 4 (Zq Zeb (Zf (Za 0) (Zf (Zd Zak (Za 1) (Zj 2)) Zn)))) (Zr (ZR (ZE (Zd Zb5 (Za 3) (ZU))) (ZK 3 (Zd ZbU (Za 2) (Za 3))) ZY) (Zr (ZR (ZE (Zd Zb5 (Za 4) (ZU))) (ZK 4 (Zd Zak (Za 2) (Za 4))) ZY) (ZD (Zax (Zf (Za 3) (Zf (Za 4) Zn))))))))
noncomputable def ZgW:=ZX 2 ZgV
noncomputable def ZgX: PS:=(Zu (ZO 2 (Zt ZcX (Zg (Zb 0) (Zg (Zb 1) Zm)))) (Zu (ZO 3 (Zt ZdC (Zg (Zb 0) (Zg (Ze Zal (Zb 1) (Zk 1)) Zm)))) (Zu (ZO 4 (Zt ZdC (Zg (Zb 0) (Zg (Ze Zal (Zb 1) (Zk 2)) Zm)))) (Zu (ZV (ZG (Ze ZbJ (Zb 3) (ZZ))) (ZO 3 (Ze ZbX (Zb 2) (Zb 3))) Z4) (Zu (ZV (ZG (Ze ZbJ (Zb 4) (ZZ))) (ZO 4 (Ze Zal (Zb 2) (Zb 4))) Z4) (ZF (ZaJ (Zg (Zb 3) (Zg (Zb 4) Zm)))))))))
noncomputable def Ze6:=Z6 2 ZgX
theorem ZlW: SimF false ZgW Ze6:=Zaf (show S [] [] [] false ZgV ZgX from(Zy (Z1 (O':=[]) (ZQ Zd8 (Zh (Zc 0) (Zh (Zc 1) Zo)))) (Zy (Z1 (O':=[]) (ZQ Zhi (Zh (Zc 0) (Zh (Z9 Zav (Zc 1) (Zl _)) Zo)))) (Zy (Z1 (O':=[]) (ZQ Zhi (Zh (Zc 0) (Zh (Z9 Zav (Zc 1) (Zl _)) Zo)))) (Zy (Z8 (ZL (Zz Zcl (Zc 3) (Zag))) (Z1 (O':=[]) (Zz Zci (Zc 2) (Zc 3))) Zac) (Zy (Z8 (ZL (Zz Zcl (Zc 4) (Zag))) (Z1 (O':=[]) (Z9 Zav (Zc 2) (Zc 4))) Zac) (ZN (E.tup (Zh (Zc 3) (Zh (Zc 4) Zo))))))))))
noncomputable def ZhY: Sm:=Zr (ZR (tOr (Zbk (ZE (eIs "list" (Za 0)))) (tOr (ZE (Zd oNe (Zq Zay (Zf (Za 0) Zn)) (Zq Zay (Zf (Za 1) Zn)))) Zbx)) (ZD (Zba false)) ZY) (Zr (ZaW (ZbV (Za 0)) (Zap 2) (Zr (ZR (tOr (Zbk (ZE (eIs "tuple" (Za 2)))) (tOr (ZE (Zd oNe (Zq Zay (Zf (Za 2) Zn)) (Zj 2))) Zbx)) (ZD (Zba false)) ZY) (ZaW (ZbV (Za 2)) (Zap 3) (ZR (Za7 (ZE (Zd Zb5 (Za 3) (ZU))) (Za7 (Zbk (ZE (Zq ZdD (Zf (Za 3) Zn)))) Zaq)) (ZD (Zba false)) ZY)))) (ZD (Zd oEq (Za 0) (Za 1))))
noncomputable def Zfs:=ZX 2 ZhY
noncomputable def ZhZ: PS:=(Zu (ZV (bOr (Zbm (ZG (pIs "list" (Zb 0)))) (bOr (ZG (Ze qNe (Zt Zas (Zg (Zb 0) Zm)) (Zt Zas (Zg (Zb 1) Zm)))) ZbI)) (ZF (Zbp false)) Z4) (Zu (ZaX (ZbN (Zb 0)) (Zam 2) (Zu (ZV (bOr (Zbm (ZG (pIs "tuple" (Zb 2)))) (bOr (ZG (Ze qNe (Zt Zas (Zg (Zb 2) Zm)) (Zk 2))) ZbI)) (ZF (Zbp false)) Z4) (ZaX (ZbN (Zb 2)) (Zam 3) (ZV (Za9 (ZG (Ze ZbJ (Zb 3) (ZZ))) (Za9 (Zbm (ZG (Zt Zdj (Zg (Zb 3) Zm)))) Zaj)) (ZF (Zbp false)) Z4)))) (ZF (Ze qEq (Zb 0) (Zb 1)))))
noncomputable def ZdE:=Z6 2 ZhZ
theorem Zj1: SimF false Zfs ZdE:=Zaf (show S [] [] [] false ZhY ZhZ from(Zy (Z8 (ZaH (Zbz (ZL (ZcT (Zc 0)))) (ZaH (ZL (Zz ZbY (Zaw ZaQ (Zh (Zc 0) Zo)) (Zaw ZaQ (Zh (Zc 1) Zo)))) Zb2)) (ZN (E.bool _)) Zac) (Zy (ZbT (Gs.seq (Zc 0)) PutOk.one (by decide) (by decide) (Zy (Z8 (ZaH (Zbz (ZL (ZcT (Zc 2)))) (ZaH (ZL (Zz ZbY (Zaw ZaQ (Zh (Zc 2) Zo)) (Zl _))) Zb2)) (ZN (E.bool _)) Zac) (ZbT (Gs.seq (Zc 2)) PutOk.one (by decide) (by decide) (Z8 (Zbt (ZL (Zz Zcl (Zc 3) (Zag))) (Zbt (Zbz (ZL (ZQ Zff (Zh (Zc 3) Zo)))) ZaT)) (ZN (E.bool _)) Zac)))) (ZN (Zz Zbn (Zc 0) (Zc 1))))))
noncomputable def ZgG: Sm:=Zr (ZR (ZE (Zd oIs (Za 1) (ZU))) (ZD (Zd oIs (Za 0) (ZU))) ZY) (ZD (Zdd (Zq Zhw (Zf (Za 0) (Zf (Zq Zay (Zf (Zd Zs (Za 1) (Zj 1)) Zn)) Zn))) (Zd oEq (Za 0) (Za 1))))
noncomputable def Ze3:=ZX 2 ZgG
noncomputable def ZgH: PS:=(Zu (ZV (ZG (Ze qIs (Zb 1) (ZZ))) (ZF (Ze qIs (Zb 0) (ZZ))) Z4) (ZF ((ZcS (Zt Zfh (Zg (Zb 0) (Zg (Zt Zas (Zg (Ze Zv (Zb 1) (Zk 1)) Zm)) Zm))) (Ze qEq (Zb 0) (Zb 1))))))
noncomputable def Zd3:=Z6 2 ZgH
theorem ZjB: SimF false Ze3 Zd3:=Zaf (show S [] [] [] false ZgG ZgH from(Zy (Z8 (ZL (Zz Zb8 (Zc 1) (Zag))) (ZN (Zz Zb8 (Zc 0) (Zag))) Zac) (ZN ((Zga (E.sh (ZQ Zmm (Zh (Zc 0) (Zh (Zaw ZaQ (Zh (ZC ZB (Zc 1) (Zl _)) Zo)) Zo)))) (E.sh (Zz Zbn (Zc 0) (Zc 1))))))))
noncomputable def ZgY: Sm:=Zr (ZK 1 (ZbP Zn)) (Zr (ZaW (Za4 (Zf (Zj 1) (Zf (Zq Zay (Zf (Zd Zs (Za 0) (Zj 0)) Zn)) Zn))) (Zap 2) (Zr (ZK 3 (Zd Zs (Zd Zs (Zd Zs (Za 0) (Zj 0)) (Zj 0)) (Za 2))) (Zr (ZR (ZE (Zd Zb5 (Za 3) (ZU))) (ZK 3 (eUn ZdW (Za 3))) ZY) (Zbl (Zcd (Za 1) (Zax (Zf (Za 3) (Zf (Zd Zs (Zd Zs (Zd Zs (Za 0) (Zj 0)) (Za 2)) (Zj 0)) Zn)))))))) (ZD (Za 1)))
noncomputable def ZgZ:=ZX 1 ZgY
noncomputable def Zg0: PS:=(Zu (ZO 1 (ZbR Zm)) (Zu (ZaX (ZaP (Zg (Zk 1) (Zg (Zt Zas (Zg (Ze Zv (Zb 0) (Zk 0)) Zm)) Zm))) (Zam 2) (Zu (ZO 3 (Ze Zv (Ze Zv (Ze Zv (Zb 0) (Zk 0)) (Zk 0)) (Zb 2))) (Zu (ZV (ZG (Ze ZbJ (Zb 3) (ZZ))) (ZO 3 (pUn ZdZ (Zb 3))) Z4) (ZbZ 1 [] ZaN (ZaJ (Zg (Zbg (Zb 3)) (Zg (Zbg (Ze Zv (Ze Zv (Ze Zv (Zb 0) (Zk 0)) (Zb 2)) (Zk 0))) Zm))))))) (ZF (Zb 1))))
noncomputable def Zd7:=Z6 1 Zg0
theorem ZlX: SimF false ZgZ Zd7:=Zaf (show S [] [1] [] false ZgY Zg0 from(Zy (Zch (O':=[1]) (E.list Zo)) (Zy (ZbT (Gs.range (Zh (Zl _) (Zh (Zaw ZaQ (Zh (ZC ZB (Zc 0) (Zl _)) Zo)) Zo))) PutOk.one (by decide) (by decide) (Zy (Z1 (O':=[1]) (ZC ZB (ZC ZB (ZC ZB (Zc 0) (Zl _)) (Zl _)) (Zc 2))) (Zy (Z8 (ZL (Zz Zcl (Zc 3) (Zag))) (Z1 (O':=[1]) (Zf9 Zgb (Zc 3))) Zac) (ZcP (O':=[1]) (by decide) ZbA (ZaV (O':=[]) (E.tup (Zc0 (E.flat (Zc 3)) (Zc0 (E.flat (ZC ZB (ZC ZB (ZC ZB (Zc 0) (Zl _)) (Zc 2)) (Zl _))) Zo (by decide) (by decide)) (by decide) (by decide)))) (by decide) (by decide))))) (ZN (Zc 1)))))
noncomputable def Zih: Sm:=Zr (ZK 1 (Zd Zak (ZbP (Zf (Zax (Zf (Zj 0) (Zf (Zj 0) Zn))) Zn)) (Za 0))) (Zr (ZK 2 (ZbP Zn)) (Zr (ZaW (ZbV (Za 1)) (Zap 3) (Zr (ZK 4 (ZbP Zn)) (Zr (ZaW (ZbV (Za 1)) (Zap 5) (ZR (tOr (ZE (Zd oIs (Zd Zs (Za 3) (Zj 1)) (ZU))) (tOr (ZE (Zd oIs (Zd Zs (Za 5) (Zj 0)) (ZU))) Zbx)) (Zbl (Zcd (Za 4) (ZU))) (Zbl (Zcd (Za 4) (Zd ZbU (Zd Zs (Za 3) (Zj 1)) (Zd Zs (Za 5) (Zj 0))))))) (Zbl (Zcd (Za 2) (Za 4)))))) (Zr (ZK 6 (ZbP Zn)) (Zr (ZaW (Za4 (Zf (Zq Zay (Zf (Za 0) Zn)) Zn)) (Zap 7) (Zr (Zcu (Zj 0) (Zd Zs (Za 2) (Zd Zak (Za 7) (Zj 1))) (Zd Zak (Za 7) (Zj 1))) (ZR (Za7 (ZE (Zd Zb5 (Zd Zs (Zd Zs (Za 0) (Za 7)) (Zj 0)) (ZU))) (Za7 (ZE (Zd oEq (Zd Zs (Zd Zs (Za 0) (Za 7)) (Zj 0)) (Zd Zs (Zd Zs (Za 0) (Za 7)) (Zj 1)))) Zaq)) (Zbl (Zcd (Za 6) (Zax (Zf (Zj 0) (Zf (Zd Zs (Zd Zs (Za 0) (Za 7)) (Zj 0)) Zn))))) (Zbl (Zcd (Za 6) (Zax (Zf (Zj 1) (Zf (Zj 0) Zn)))))))) (ZD (Zax (Zf (Za 2) (Zf (Za 6) Zn))))))))
noncomputable def ZfA:=ZX 1 Zih
noncomputable def Zii: PS:=(Zu (ZO 1 (Ze Zal (ZbR (Zg (ZaJ (Zg (Zk 0) (Zg (Zk 0) Zm))) Zm)) (Zb 0))) (Zu (ZO 2 (ZbR Zm)) (Zu (ZaX (ZbN (Zb 1)) (Zam 3) (Zu (ZO 4 (ZbR Zm)) (Zu (ZaX (ZbN (Zb 1)) (Zam 5) (ZV (bOr (ZG (Ze qIs (Ze Zv (Zb 3) (Zk 1)) (ZZ))) (bOr (ZG (Ze qIs (Ze Zv (Zb 5) (Zk 0)) (ZZ))) ZbI)) (ZbZ 4 [] ZaN (ZZ)) (ZbZ 4 [] ZaN (Ze ZbX (Ze Zv (Zb 3) (Zk 1)) (Ze Zv (Zb 5) (Zk 0)))))) (ZbZ 2 [4] ZaN (Zb 4))))) (Zu (ZO 6 (ZbR Zm)) (Zu (ZaX (ZaP (Zg (Zt Zas (Zg (Zb 0) Zm)) Zm)) (Zam 7) (Zu (Zcj 2 [] (Zk 0) (Zc5 ZaN (Ze Zal (Zb 7) (Zk 1))) (Ze Zal (Zb 7) (Zk 1))) (ZV (Za9 (ZG (Ze ZbJ (Ze Zv (Ze Zv (Zb 0) (Zb 7)) (Zk 0)) (ZZ))) (Za9 (ZG (Ze qEq (Ze Zv (Ze Zv (Zb 0) (Zb 7)) (Zk 0)) (Ze Zv (Ze Zv (Zb 0) (Zb 7)) (Zk 1)))) Zaj)) (ZbZ 6 [] ZaN (ZaJ (Zg (Zk 0) (Zg (Zbg (Ze Zv (Ze Zv (Zb 0) (Zb 7)) (Zk 0))) Zm)))) (ZbZ 6 [] ZaN (ZaJ (Zg (Zk 1) (Zg (Zk 0) Zm))))))) (ZF (ZaJ (Zg (Zb 2) (Zg (Zb 6) Zm)))))))))
noncomputable def Zek:=Z6 1 Zii
theorem Zke: SimF false ZfA Zek:=Zaf (show S [] [2,6] [] false Zih Zii from(Zy (Z1 (O':=[]) (Z9 Zav (E.list (Zh (E.tup (Zh (Zl _) (Zh (Zl _) Zo))) Zo)) (Zc 0))) (Zy (Zch (O':=[2]) (E.list Zo)) (Zy (ZbT (Gs.seq (Zc 1)) PutOk.one (by decide) (by decide) (Zy (Zch (O':=[2,4]) (ZaV (O':=[]) (E.list Zo))) (Zy (ZbT (Gs.seq (Zc 1)) PutOk.one (by decide) (by decide) (Z8 (ZaH (ZL (Zz Zb8 (ZC ZB (Zc 3) (Zl _)) (Zag))) (ZaH (ZL (Zz Zb8 (ZC ZB (Zc 5) (Zl _)) (Zag))) Zb2)) (ZcP (O':=[2,4]) (by decide) ZbA (ZaV (O':=[2]) (Zag)) (by decide) (by decide)) (ZcP (O':=[2,4]) (by decide) ZbA (ZaV (O':=[2]) (Zz Zci (ZC ZB (Zc 3) (Zl _)) (ZC ZB (Zc 5) (Zl _)))) (by decide) (by decide)))) (ZcP (O':=[2]) (by decide) ZbA (ZaV (O':=[4]) (E.own (by decide))) (by decide) (by decide))))) (Zy (Zch (O':=[2,6]) (ZaV (O':=[]) (E.list Zo))) (Zy (ZbT (Gs.range (Zh (Zaw ZaQ (Zh (Zc 0) Zo)) Zo)) PutOk.one (by decide) (by decide) (Zy (S.put (O':=[2,6]) (by decide) (ZaV (O':=[6]) (Zl _)) (ZeC ZbA (Z9 Zav (Zc 7) (Zl _))) (Z9 Zav (Zc 7) (Zl _)) (by decide) (by decide)) (Z8 (Zbt (ZL (Zz Zcl (ZC ZB (ZC ZB (Zc 0) (Zc 7)) (Zl _)) (Zag))) (Zbt (ZL (Zz Zbn (ZC ZB (ZC ZB (Zc 0) (Zc 7)) (Zl _)) (ZC ZB (ZC ZB (Zc 0) (Zc 7)) (Zl _)))) ZaT)) (ZcP (O':=[2,6]) (by decide) ZbA (ZaV (O':=[2]) (E.tup (Zc0 (Zl _) (Zc0 (E.flat (ZC ZB (ZC ZB (Zc 0) (Zc 7)) (Zl _))) Zo (by decide) (by decide)) (by decide) (by decide)))) (by decide) (by decide)) (ZcP (O':=[2,6]) (by decide) ZbA (ZaV (O':=[2]) (E.tup (Zc0 (Zl _) (Zc0 (Zl _) Zo (by decide) (by decide)) (by decide) (by decide)))) (by decide) (by decide))))) (ZN (E.tup (Zh (Zc 2) (Zh (Zc 6) Zo))))))))))
noncomputable def Ziv: Sm:=Zr (ZK 1 (Zq Zcb (Zf (Za 0) (Zf (Zj 0) (Zf (Zj 5) Zn))))) (Zr (ZK 2 (ZaC (Za4 (Zf (Za 1) Zn)) (Zap 100) Zaq (Zq ZgW (Zf (Za 0) (Zf (Zd Zak (Zj 2) (Zd ZaR (Zj 3) (Za 100))) Zn))))) (Zr (ZK 3 (Zq Zcz (Zf (Za 2) Zn))) (Zr (ZK 4 (Zq ZgE (Zf (Za 3) Zn))) (Zr (ZR (tOr (ZE (Zd oNe (Za 3) (Za 2))) (tOr (Zbk (ZE (Zq Ze3 (Zf (Za 4) (Zf (Zq ZfA (Zf (Za 2) Zn)) Zn))))) Zbx)) (ZD (Zba false)) ZY) (Zr (ZR (tOr (Zbk (ZE (Zq Zfs (Zf (Zq Ze1 (Zf (Za 4) Zn)) (Zf (Za 2) Zn))))) (tOr (Zbk (ZE (Zq Ze3 (Zf (Za 4) (Zf (Zq ZfA (Zf (Za 2) Zn)) Zn))))) Zbx)) (ZD (Zba false)) ZY) (Zr (ZK 5 (Zq ZhH (Zf (Za 0) (Zf (Zj 14) (Zf (ZaC (Za4 (Zf (Za 1) Zn)) (Zap 102) Zaq (Zq Zdi (Zf (Za 0) (Zf (Zd Zak (Zj 2) (Zd ZaR (Zj 3) (Za 102))) Zn)))) Zn))))) (Zr (ZR (ZE (Zd oEq (Zq Zcb (Zf (Za 0) (Zf (Zj 1) (Zf (Zj 2) Zn)))) (Zj 1))) (ZK 5 (Zq Zg5 (Zf (Za 0) (Zf (Zj 45) (Zf (Za 5) Zn))))) ZY) (Zr (ZK 6 (Zq ZhK (Zf (Za 5) Zn))) (ZD (Zdd (Zq Zfs (Zf (Zq Ze1 (Zf (Za 5) Zn)) (Zf (Zq ZgZ (Zf (Za 6) Zn)) Zn))) (Zd oEq (Za 5) (Za 6))))))))))))
noncomputable def ZkA:=ZX 1 Ziv
noncomputable def Ziw: PS:=(Zu (ZO 1 (Zt Zb0 (Zg (Zb 0) (Zg (Zk 0) (Zg (Zk 5) Zm))))) (Zu (ZO 2 (ZaA (ZaP (Zg (Zb 1) Zm)) (Zam 100) Zaj (Zt Ze6 (Zg (Zb 0) (Zg (Ze Zal (Zk 2) (Ze ZaK (Zk 3) (Zb 100))) Zm))))) (Zu (ZO 3 (Zt ZcA (Zg (Zb 2) Zm))) (Zu (ZO 4 (Zt Ze2 (Zg (Zb 3) Zm))) (Zu (ZV (bOr (ZG (Ze qNe (Zb 3) (Zb 2))) (bOr (Zbm (ZG (Zt Zd3 (Zg (Zb 4) (Zg (Zt Zek (Zg (Zb 2) Zm)) Zm))))) ZbI)) (ZF (Zbp false)) Z4) (Zu (ZV (bOr (Zbm (ZG (Zt ZdE (Zg (Zt ZcV (Zg (Zb 4) Zm)) (Zg (Zb 2) Zm))))) (bOr (Zbm (ZG (Zt Zd3 (Zg (Zb 4) (Zg (Zt Zek (Zg (Zb 2) Zm)) Zm))))) ZbI)) (ZF (Zbp false)) Z4) (Zu (ZO 5 (Zt Zfl (Zg (Zb 0) (Zg (Zk 14) (Zg (ZaA (ZaP (Zg (Zb 1) Zm)) (Zam 102) Zaj (Zt ZcX (Zg (Zb 0) (Zg (Ze Zal (Zk 2) (Ze ZaK (Zk 3) (Zb 102))) Zm)))) Zm))))) (Zu (ZV (ZG (Ze qEq (Zt Zb0 (Zg (Zb 0) (Zg (Zk 1) (Zg (Zk 2) Zm)))) (Zk 1))) (ZO 5 (Zt Ze7 (Zg (Zb 0) (Zg (Zk 45) (Zg (Zb 5) Zm))))) Z4) (Zu (ZO 6 (Zt Zef (Zg (Zb 5) Zm))) (ZF ((ZcS (Zt ZdE (Zg (Zt ZcV (Zg (Zb 5) Zm)) (Zg (Zt Zd7 (Zg (Zb 6) Zm)) Zm))) (Ze qEq (Zb 5) (Zb 6))))))))))))))
noncomputable def Zix:=Z6 1 Ziw
theorem Zn5: SimF false ZkA Zix:=Zaf (show S [] [] [] false Ziv Ziw from(Zy (Z1 (O':=[]) (ZQ Zcw (Zh (Zc 0) (Zh (Zl _) (Zh (Zl _) Zo))))) (Zy (Z1 (O':=[]) (Zc4 (Gs.range (Zh (Zc 1) Zo)) PutOk.one (by decide) ZaT (ZQ ZlW (Zh (Zc 0) (Zh (Z9 Zav (Zl _) (Z9 Zbh (Zl _) (Zc 100))) Zo))))) (Zy (Z1 (O':=[]) (ZiE Zes (Zh (Zc 2) Zo))) (Zy (Z1 (O':=[]) (ZQ ZlM (Zh (Zc 3) Zo))) (Zy (Z8 (ZaH (ZL (Zz ZbY (Zc 3) (Zc 2))) (ZaH (Zbz (ZL (ZQ ZjB (Zh (Zc 4) (Zh (ZQ Zke (Zh (Zc 2) Zo)) Zo))))) Zb2)) (ZN (E.bool _)) Zac) (Zy (Z8 (ZaH (Zbz (ZL (ZQ Zj1 (Zh (ZQ ZjA (Zh (Zc 4) Zo)) (Zh (Zc 2) Zo))))) (ZaH (Zbz (ZL (ZQ ZjB (Zh (Zc 4) (Zh (ZQ Zke (Zh (Zc 2) Zo)) Zo))))) Zb2)) (ZN (E.bool _)) Zac) (Zy (Z1 (O':=[]) (ZQ ZmF (Zh (Zc 0) (Zh (Zl _) (Zh (Zc4 (Gs.range (Zh (Zc 1) Zo)) PutOk.one (by decide) ZaT (ZQ Zd8 (Zh (Zc 0) (Zh (Z9 Zav (Zl _) (Z9 Zbh (Zl _) (Zc 102))) Zo)))) Zo))))) (Zy (Z8 (ZL (Zz Zbn (ZQ Zcw (Zh (Zc 0) (Zh (Zl _) (Zh (Zl _) Zo)))) (Zl _))) (Z1 (O':=[]) (ZQ Zl7 (Zh (Zc 0) (Zh (Zl _) (Zh (Zc 5) Zo))))) Zac) (Zy (Z1 (O':=[]) (ZQ ZmG (Zh (Zc 5) Zo))) (ZN ((Zga (E.sh (ZQ Zj1 (Zh (ZQ ZjA (Zh (Zc 5) Zo)) (Zh (ZQ ZlX (Zh (Zc 6) Zo)) Zo)))) (E.sh (Zz Zbn (Zc 5) (Zc 6))))))))))))))))
end L
end
section
set_option autoImplicit false
open PySem PySem.W PyProof.Rows PM TM My
local macro_rules | `(tactic| walk_at "tkrd") => `(tactic| first | with_reducible assumption | with_reducible exact Zdk | ((with_reducible apply Zeu); decide; walk_at "tkrd") | ((with_reducible apply ZnQ); decide; walk_at "tkrd") | exact rfl | assumption)
local macro_rules | `(tactic| walk_at "tkyes") => `(tactic| first | rfl | (with_reducible assumption) | (simp only [Bool.not_eq_true', Bool.not_eq_false', decide_eq_true_eq, decide_eq_false_iff_not, beq_iff_eq, beq_eq_false_iff_ne, ne_eq, Bool.not_true, Bool.not_false, not_false_eq_true, not_true_eq_false, bne_iff_ne, Decidable.not_not, List.length_map] <;> first | done | omega | assumption))
local macro_rules | `(tactic| walk_at "tkflat") => `(tactic| first | rfl | exact ZfK | exact ZfC | exact ZmD fun i hi => by first | rfl | exact ZfK | exact ZfC)
local macro_rules | `(tactic| walk_at "tkop") => `(tactic| first | with_reducible refine ZpQ ?_ | with_reducible refine ZpR ?_ | with_reducible refine ZpS ?_ | with_reducible refine Zqw ?_ | with_reducible refine Zqx ?_ | with_reducible refine Zqy ?_ | with_reducible refine tk_ge ?_ | with_reducible refine ZpU ?_ | with_reducible refine tk_max ?_ | with_reducible refine tk_min ?_ | with_reducible refine Zqz ?_ | with_reducible refine ZqA ?_ | with_reducible refine tk_eqb ?_ | with_reducible refine tk_neb ?_ | with_reducible refine ZpV ?_ | with_reducible refine ZpW ?_ | with_reducible refine ZpX ?_ | with_reducible refine ZpY ?_ | with_reducible refine ZoE ?_ | with_reducible refine ZoF ?_ | with_reducible refine tk_notl ?_ | with_reducible refine ZoG ?_ | with_reducible refine ZoH ?_ | with_reducible refine ZpZ ?_ | with_reducible refine ZoI ?_ | ((with_reducible apply ZoJ); (first | assumption | omega)) | ((with_reducible apply ZoK); (first | decide | omega); (first | decide | omega)) | ((with_reducible apply ZoL); (first | decide | omega); rfl) | ((with_reducible apply ZiL); (first | decide | omega); rfl) | ((with_reducible apply ZoM); omega) | with_reducible refine ZnM ?_ | with_reducible refine tk_list1t ?_ | with_reducible refine tk_tup1 ?_ | with_reducible refine tk_all ?_ | with_reducible refine Zp0 ?_ | ((with_reducible apply ZpT); (first | decide | omega)))
local macro_rules | `(tactic| walk_at "tk1") => `(tactic| first | with_reducible refine ZpC ?_ | with_reducible refine Zqr ?_ | with_reducible refine Zoy ?_ | with_reducible refine ZpD ?_ | with_reducible refine ZpE ?_ | with_reducible refine Zoz ?_ | with_reducible refine Zox ?_ | with_reducible refine ZoA ?_ | with_reducible refine Zqs ?_ | with_reducible refine Zqt ?_ | with_reducible refine ZpF ?_ | with_reducible refine ZpG ?_ | with_reducible refine Zqu ?_ | with_reducible refine Zqv ?_ | with_reducible refine ZpH ?_ | with_reducible refine ZoB ?_ | with_reducible refine ZoC ?_ | with_reducible refine ZnL ?_ | with_reducible refine ZoD ?_ | with_reducible refine ZpI ?_ | with_reducible refine ZmC ?_ | with_reducible refine tk_truth_n ?_ | with_reducible refine ZkT ?_ | with_reducible refine ZpJ ?_ | with_reducible refine ZpK ?_ | with_reducible refine tk_exp ?_ | with_reducible refine ZpL ?_ | with_reducible refine ZpM ?_ | with_reducible refine Zpz ?_ | with_reducible refine ZpA ?_ | with_reducible refine Zow ?_ | with_reducible refine tk_str ?_ | ((with_reducible apply ZpB); walk_at "tkrd") | ((with_reducible apply ZpO); walk_at "tkyes") | ((with_reducible apply ZpP); walk_at "tkyes") | ((with_reducible apply ZpN); rfl) | (refine And.intro (show T.flat _ = true by walk_at "tkflat") ?_) | (refine And.intro (show T.flatIn _ = true by walk_at "tkflat") ?_) | with_reducible refine ZiM ?_ | with_reducible refine Sq.lst ?_ | with_reducible refine Sq.tup ?_ | with_reducible refine ZnO ?_ | ((with_reducible apply Rn.one); omega) | with_reducible refine Zp1 ?_ | with_reducible refine ZoV ?_ | with_reducible refine ZoW ?_ | with_reducible refine ZnY ?_ | with_reducible refine Zi.eq ?_ | with_reducible refine Zi.mn ?_ | with_reducible refine Zp2 ?_ | with_reducible refine ZoR ?_ | with_reducible refine Zp3 ?_ | with_reducible refine ZoS ?_ | ((with_reducible apply ZoP); walk_at "tkrd"; (first | (rw [Zat]; omega) | (simp; done))) | ((with_reducible apply ZoQ); walk_at "tkrd"; (first | (rw [Zat]; omega) | (simp; done))) | ((with_reducible apply ZnP); walk_at "tkrd"; (first | assumption | omega)) | ((with_reducible apply Zky); walk_at "tkrd"; (first | assumption | omega); (first | assumption | omega)) | walk_at "tkop")
local macro_rules | `(tactic| walk_at "zz") => `(tactic| repeat' walk_at "tk1")
local macro_rules | `(tactic| walk_at "zr") => `(tactic| walk_at "tkrd")
namespace L
open PySem PySem.W PyProof.Rows PM TM My
variable {a v:Option Int} {M b c m r y:Int} {ns:List Int} {i j k n:Nat} {x:Nat→Int} {G:Nat→Nat→Option Int} {σ:TL} {Q:T→Prop} {R:Nat→Int×Int} {p q:Int×Int} {β:Type}
section
variable {Q:T→Prop}
theorem ZqO(h:Q (.int T9)): Pk (Zcv (.int 10) (.int 9)) Q:=by
 have:=Zqo []
 simp only[oPow]at this
 split at this
 ·rename_i hc
  refine⟨_,by simp only[Zcv];rw[if_pos hc],?_⟩
  simp only[Option.some.injEq,Prod.mk.injEq,V.int.injEq,and_true]at this
  rw[this];exact h
 ·cases this
theorem ZqD(h:Q (.int T40)): Pk (Zcv (.int 10) (.int 40)) Q:=by
 have:=Zpw []
 simp only[oPow]at this
 split at this
 ·rename_i hc
  refine⟨_,by simp only[Zcv];rw[if_pos hc],?_⟩
  simp only[Option.some.injEq,Prod.mk.injEq,V.int.injEq,and_true]at this
  rw[this];exact h
 ·cases this
theorem ZqE(h:Q (.int M9)): Pk (Zcv (.int 48271) (.int 9)) Q:=by
 have:=Zpv []
 simp only[oPow]at this
 split at this
 ·rename_i hc
  refine⟨_,by simp only[Zcv];rw[if_pos hc],?_⟩
  simp only[Option.some.injEq,Prod.mk.injEq,V.int.injEq,and_true]at this
  rw[this];exact h
 ·cases this
theorem Zcm{a:Int}(h1:-(2 ^ 64)<b)(h2:b<2 ^ 64)(h:Q (.int (a*b))): Pk (ZaK (.int a) (.int b)) Q:=Zco (Znb h1 h2) h
theorem Zo2{a:Int}(h1:-(2 ^ 64)<a)(h2:a<2 ^ 64)(h:Q (.int (a*b))): Pk (ZaK (.int a) (.int b)) Q:=Zco (ZmB h1 h2) h
end
noncomputable def scr(ns:List Int): T:=.lst (ns.map T.int)
noncomputable def Lay(ns:List Int): Prop:=PyData.layable0 (.list (ns.map .int))=true
noncomputable def ZbB(ns:List Int)(k:Int): Int:=k*k*7919+11+(if 0<ns.length then cellAt ns (k.fmod ns.length) 0 else 0)
theorem ZkB{k:Int}(h0:0≤k)(h9:k≤10000): Zea [scr ns,.int k]=some (.int (ZbB ns k)):=by
 apply Pk.eq
 unfold Zea Zhf ZbB scr
 by_cases hl:0<ns.length
 ·have a:=Int.fmod_nonneg_of_pos k (show(0:Int)<ns.length by omega)
  have b:=Int.fmod_lt_of_pos k (show(0:Int)<ns.length by omega)
  have e:(ns.map T.int).length=ns.length:=by simp
  walk_at "zz"
  refine Zcm (by omega) (by omega) ?_
  walk_at "zz"
  refine Zcm (by omega) (by omega) ?_
  walk_at "zz"
  refine ZiL (t:=.int (cellAt ns (k.fmod ns.length) 0)) (by rw[e];omega) ?_ ?_
  ·rw[e,List.getElem?_map,List.getElem?_eq_getElem (by omega),cellAt_def]
   simp only[Option.map_some,T.int.injEq,Option.some.injEq]
   rw[List.getD_eq_getElem?_getD,List.getElem?_eq_getElem (by omega)]
   rfl
  walk_at "zz"
  rw[if_pos hl]
 ·walk_at "zz"
  refine Zcm (by omega) (by omega) ?_
  walk_at "zz"
  refine Zcm (by omega) (by omega) ?_
  walk_at "zz"
  rw[if_neg hl]
  simp
theorem ZmL{k:Int}(hL:Lay ns)(h0:0≤k)(h9:k≤10000): Builtin.Int.intBits (ZbB ns k)≤2 ^ 21:=by
 unfold ZbB
 have h1:0≤k*k:=Int.mul_nonneg h0 h0
 have h2:k*k≤10000*10000:=Int.mul_le_mul h9 h9 h0 (by decide)
 have hb:Builtin.Int.intBits (k*k*7919+11)≤2 ^ 20:=Nat.le_trans (intBits_le_64 (by omega) (by omega)) (by decide)
 have hc:Builtin.Int.intBits (if 0<ns.length then cellAt ns (k.fmod ns.length) 0 else 0)≤2 ^ 20:=by
  split
  ·exact(cell_at hL _).bits
  ·exact bits_zero
 exact Nat.le_trans (PM.ZnI hb hc) (by decide)
noncomputable def Zbq(ns:List Int)(k many:Int): Int:=((ZbB ns k*48271).fmod 2147483647).fmod many
theorem Zcn(ns:List Int)(k:Int){many:Int}(h:0<many): 0≤Zbq ns k many∧Zbq ns k many<many:=⟨Int.fmod_nonneg_of_pos _ h,Int.fmod_lt_of_pos _ h⟩
theorem Zcx{k many:Int}(h0:0≤k)(h9:k≤10000)(hm:0<many): Zb0 [scr ns,.int k,.int many]=some (.int (Zbq ns k many)):=by
 apply Pk.eq
 unfold Zb0 ZhC
 walk_at "zz"
 refine ZP (ZkB h0 h9) ?_
 walk_at "zz"
 refine Zcm (by decide) (by decide) ?_
 walk_at "zz"
 rfl
noncomputable def ZcM(ns:List Int)(k:Int): Int:=[3,9,T9,T40].getD (((ZbB ns k*69621).fmod 2147483629).fmod 4).toNat 0
theorem ZkC(ns:List Int)(k:Int): 0<ZcM ns k∧ZcM ns k≤T40:=by
 unfold ZcM
 have a:=Int.fmod_nonneg_of_pos ((ZbB ns k*69621).fmod 2147483629) (show(0:Int)<4 by decide)
 have b:=Int.fmod_lt_of_pos ((ZbB ns k*69621).fmod 2147483629) (show(0:Int)<4 by decide)
 generalize ((ZbB ns k*69621).fmod 2147483629).fmod 4=i at a b
 have h9:=T9_eq
 have h40:=ZeB
 have:i=0∨i=1∨i=2∨i=3:=by omega
 obtain rfl | rfl | rfl | rfl:=this
 ·show 0<3∧3≤T40;omega
 ·show 0<9∧9≤T40;omega
 ·show 0<T9∧T9≤T40;omega
 ·show 0<T40∧T40≤T40;omega
noncomputable def ZaY(ns:List Int)(k:Int): Int:=(ZbB ns k*M9).fmod (2*ZcM ns k+1)-ZcM ns k
theorem Zi9(ns:List Int)(k:Int): -T40≤ZaY ns k∧ZaY ns k≤T40:=by
 obtain⟨a,b⟩:=ZkC ns k
 have h1:=Int.fmod_nonneg_of_pos (ZbB ns k*M9) (show 0<2*ZcM ns k+1 by omega)
 have h2:=Int.fmod_lt_of_pos (ZbB ns k*M9) (show 0<2*ZcM ns k+1 by omega)
 unfold ZaY
 omega
theorem Zel{k:Int}(hL:Lay ns)(h0:0≤k)(h9:k≤10000): ZcX [scr ns,.int k]=some (.int (ZaY ns k)):=by
 apply Pk.eq
 unfold ZcX Zg3
 have hb:=Zkt (ZmL hL h0 h9) Zou
 obtain⟨r0,r1⟩:=ZkC ns k
 have a:=Int.fmod_nonneg_of_pos ((ZbB ns k*69621).fmod 2147483629) (show(0:Int)<4 by decide)
 have b:=Int.fmod_lt_of_pos ((ZbB ns k*69621).fmod 2147483629) (show(0:Int)<4 by decide)
 walk_at "zz"
 refine ZP (ZkB h0 h9) ?_
 walk_at "zz"
 refine ZqO ?_
 walk_at "zz"
 refine ZqD ?_
 walk_at "zz"
 refine Zcm (by decide) (by decide) ?_
 walk_at "zz"
 refine ZiL (t:=.int (ZcM ns k)) (by omega) ?_ ?_
 ·unfold ZcM
  have:(((ZbB ns k*69621).fmod 2147483629).fmod 4).toNat<4:=by omega
  generalize (((ZbB ns k*69621).fmod 2147483629).fmod 4).toNat=i at this
  match i,this with
  | 0,_=>rfl
  | 1,_=>rfl
  | 2,_=>rfl
  | 3,_=>rfl
 walk_at "zz"
 refine ZqE ?_
 walk_at "zz"
 refine Zco hb ?_
 walk_at "zz"
 refine Zo2 (by decide) (by decide) ?_
 walk_at "zz"
 rfl
noncomputable def Zbc(a:Int): Int:=if a<0 then -a else a
theorem Zdn(a:Int): 0≤Zbc a:=by unfold Zbc;split <;> omega
noncomputable def ZbC(ns:List Int)(k:Int): Option Int:=
 if(Zbq ns k 42).fmod 6<2 then none else if(Zbq ns k 42).fmod 6<4 then some 0 else if(Zbq ns k 42).fmod 6=4 then some ((Zbq ns k 42).fdiv 6)else some (Zbc (ZaY ns k))
theorem Zeo(ns:List Int)(k:Int)(h:ZbC ns k=some c): 0≤c∧c≤T40:=by
 have h40:=ZeB
 unfold ZbC at h
 split at h
 ·cases h
 ·split at h
  ·cases h;omega
  ·split at h
   ·cases h
    obtain⟨p0,p1⟩:=Zcn ns k (show(0:Int)<42 by decide)
    rw[Int.fdiv_eq_ediv_of_nonneg _ (by decide)]
    omega
   ·cases h
    have:=Zi9 ns k
    have:=Zdn (ZaY ns k)
    unfold Zbc at *
    split at * <;> omega
theorem Zkf{a:Int}(h0:0≤b)(h1:b<2 ^ 30): Builtin.divisionGoesByPylong a b=false:=PyProof.noPylong_small (by omega)
theorem Ziy{k:Int}(hL:Lay ns)(h0:0≤k)(h9:k≤10000): ZdC [scr ns,.int k]=some (oT (ZbC ns k)):=by
 apply Pk.eq
 unfold ZdC Zhh ZbC
 obtain⟨p0,p1⟩:=Zcn ns k (show(0:Int)<42 by decide)
 walk_at "zz"
 refine ZP (Zcx h0 h9 (by decide)) ?_
 walk_at "zz"
 refine⟨fun c=>?_,fun c=>?_⟩
 ·walk_at "zz"
  rw[if_pos (by simpa using c)];rfl
 rw[if_neg (by simpa using c)]
 walk_at "zz"
 refine⟨fun c=>?_,fun c=>?_⟩
 ·walk_at "zz"
  rw[if_pos (by simpa using c)];rfl
 rw[if_neg (by simpa using c)]
 walk_at "zz"
 refine⟨fun c=>?_,fun c=>?_⟩
 ·walk_at "zz"
  refine ZdR (by decide) (Zkf (by decide) (by decide)) ?_
  rw[if_pos (by simpa using c)];rfl
 rw[if_neg (by simpa using c)]
 walk_at "zz"
 refine ZP (Zel hL h0 h9) ?_
 walk_at "zz"
 rfl
noncomputable def RestOk(q:Int×Int): Prop:=q.1=0∨(0<q.1∧0≤q.2∧q.2<q.1)
noncomputable def ZaG(m r:Int): Int×Int:=if m=0 then(0,r)else(m,r.fmod m)
theorem ZdI(h:0≤m)(r:Int): RestOk (ZaG m r):=by
 unfold RestOk ZaG
 split
 ·exact .inl rfl
 ·exact .inr ⟨by show 0<m;omega,Int.fmod_nonneg_of_pos _ (by omega),Int.fmod_lt_of_pos _ (by omega)⟩
theorem Zh0: Zdz [.int m,.int r]=some (Z5 (ZaG m r)):=by
 apply Pk.eq
 unfold Zdz ZgK ZaG
 by_cases c:m=0
 ·walk_at "zz"
  rw[if_pos c];rfl
 ·walk_at "zz"
  rw[if_neg c];rfl
noncomputable def Zda(ns:List Int)(k x:Int): Int×Int:=
 if(Zbq ns k 60).fmod 5<2 then(1,0)else if(Zbq ns k 60).fmod 5=2 then(0,x)else if(Zbq ns k 60).fmod 5=3 then ZaG ((Zbq ns k 60).fdiv 5+1) x else ZaG (Zbc (ZaY ns k)) x
noncomputable def Zan(q:Int×Int)(x:Int): Prop:=(q.1=0→x=q.2)∧(0<q.1→(x-q.2).emod q.1=0)
theorem ZkD(ns:List Int)(k:Int): 0≤(Zbq ns k 60).fdiv 5∧(Zbq ns k 60).fdiv 5<12:=by
 obtain⟨p0,p1⟩:=Zcn ns k (show(0:Int)<60 by decide)
 rw[Int.fdiv_eq_ediv_of_nonneg _ (by decide)]
 omega
theorem Zn6(ns:List Int)(k x:Int): RestOk (Zda ns k x):=by
 have:=ZkD ns k
 unfold Zda
 split
 ·exact .inr ⟨by decide,by decide,by decide⟩
 ·split
  ·exact .inl rfl
  ·split
   ·exact ZdI (by omega) x
   ·exact ZdI (Zdn _) x
theorem Zo3{k x:Int}(hL:Lay ns)(h0:0≤k)(h9:k≤10000): Zfk [scr ns,.int k,.int x]=some (Z5 (Zda ns k x)):=by
 apply Pk.eq
 unfold Zfk ZhF Zda
 obtain⟨p0,p1⟩:=Zcn ns k (show(0:Int)<60 by decide)
 walk_at "zz"
 refine ZP (Zcx h0 h9 (by decide)) ?_
 walk_at "zz"
 refine⟨fun c=>?_,fun c=>?_⟩
 ·walk_at "zz"
  rw[if_pos (by simpa using c)];rfl
 rw[if_neg (by simpa using c)]
 walk_at "zz"
 refine⟨fun c=>?_,fun c=>?_⟩
 ·walk_at "zz"
  rw[if_pos (by simpa using c)];rfl
 rw[if_neg (by simpa using c)]
 walk_at "zz"
 refine⟨fun c=>?_,fun c=>?_⟩
 ·walk_at "zz"
  refine ZdR (by decide) (Zkf (by decide) (by decide)) ?_
  walk_at "zz"
  refine ZP Zh0 ?_
  rw[if_pos (by simpa using c)]
 rw[if_neg (by simpa using c)]
 walk_at "zz"
 refine ZP (Zel hL h0 h9) ?_
 walk_at "zz"
 exact ZP Zh0 rfl
noncomputable def ZaD(x:Nat→Int): Nat→Int:=cn 0 x
theorem Zqd(x:Nat→Int): cn (T.int 0) (fun i=>T.int (x i))=fun i=>T.int (ZaD x i):=by
 funext i;cases i <;> rfl
noncomputable def ZbL(ns:List Int)(k:Int)(n:Nat)(x:Nat→Int)(i j:Nat): Option Int:=if j=i then some 0 else(ZbC ns (k+i*(n+1:Nat)+j)).map fun c=>ZaD x i-ZaD x j+c
noncomputable def ZeO(ns:List Int)(k:Int)(n:Nat)(x:Nat→Int)(t:Nat): Int×Int:=Zda ns (k+(n+1:Nat)*(n+1:Nat)+t) (x t)
theorem ZmM(ns:List Int)(k:Int)(n:Nat)(x:Nat→Int)(i:Nat): ZbL ns k n x i i=some 0:=by simp[ZbL]
theorem Zn7(ns:List Int)(k:Int)(n:Nat)(x:Nat→Int)(i:Nat): (fun j=>if j=i then T.int 0 else oT ((ZbC ns (k+i*(n+1:Nat)+j)).map fun c=>ZaD x i-ZaD x j+c))=fun j=>oT (ZbL ns k n x i j):=by
 funext j
 unfold ZbL
 split <;> rfl
theorem Zo4{k:Int}(hL:Lay ns)(h0:0≤k)(h9:k≤1000)(hn:n≤9): Zfl [scr ns,.int k,ZlC n x]=some (Zad n (ZbL ns k n x) (ZeO ns k n x)):=by
 apply Pk.eq
 unfold Zfl ZhI ZlC
 have hq:((n+1:Nat):Int)*((n+1:Nat):Int)≤10*10:=Int.mul_le_mul (by omega) (by omega) (by omega) (by decide)
 have hq0:(0:Int)≤((n+1:Nat):Int)*((n+1:Nat):Int):=Int.mul_nonneg (by omega) (by omega)
 walk_at "zz"
 rw[Zqd]
 refine Zcp (n:=n+1) (a:=fun i=>.int i) (P:=fun i σ=>σ 0=some (scr ns)∧σ 1=some (.int k)∧σ 2=some (.lst (tab n fun i=>.int (x i)))∧σ 3=some (.lst (tab (n+1) fun i=>.int (ZaD x i)))∧σ 4=some (.int (n+1:Nat))∧σ 5=some (.lst (tab i fun i=>Zaa (n+1) (ZbL ns k n x i)))) ?_ ⟨rfl,rfl,rfl,rfl,rfl,rfl⟩ ?_ ?_
 ·walk_at "zz"
  rfl
 ·rintro i σ hi ⟨e0,e1,e2,e3,e4,e5⟩
  walk_at "zz"
  refine Zcp (n:=n+1) (a:=fun i=>.int i) (P:=fun j σ=>σ 0=some (scr ns)∧σ 1=some (.int k)∧σ 2=some (.lst (tab n fun i=>.int (x i)))∧σ 3=some (.lst (tab (n+1) fun i=>.int (ZaD x i)))∧σ 4=some (.int (n+1:Nat))∧σ 5=some (.lst (tab i fun i=>Zaa (n+1) (ZbL ns k n x i)))∧σ 6=some (.int i)∧σ 7=some (.lst (tab j fun j=>oT ((ZbC ns (k+i*(n+1:Nat)+j)).map fun c=>ZaD x i-ZaD x j+c)))) ?_ ⟨?_,?_,?_,?_,?_,?_,?_,?_⟩ ?_ ?_
  ·walk_at "zz"
   rfl
  all_goals first | walk_at "zr" | skip
  ·rintro j σ hj ⟨e0,e1,e2,e3,e4,e5,e6,e7⟩
   have hb1:(0:Int)≤i*((n+1:Nat):Int):=Int.mul_nonneg (by omega) (by omega)
   have hb2:(i:Int)*((n+1:Nat):Int)≤10*10:=Int.mul_le_mul (by omega) (by omega) (by omega) (by decide)
   walk_at "zz"
   refine Zcm (by omega) (by omega) ?_
   walk_at "zz"
   refine ZP (Ziy hL (by omega) (by omega)) ?_
   have key:∀w,w=oT ((ZbC ns (k+i*(n+1:Nat)+j)).map fun c=>ZaD x i-ZaD x j+c)→tab j (fun j=>oT ((ZbC ns (k+i*(n+1:Nat)+j)).map fun c=>ZaD x i-ZaD x j+c))++[w]=tab (j+1) fun j=>oT ((ZbC ns (k+i*(n+1:Nat)+j)).map fun c=>ZaD x i-ZaD x j+c):=fun w e=>by
    rw[e];exact Zdl
   cases hs:ZbC ns (k + ↑i * ↑(n+1) + ↑j)with
   | none=>
    simp only[Za2,Zao]
    walk_at "zz"
    rw[key _ (by rw[hs];rfl)]
    refine⟨?_,?_,?_,?_,?_,?_,?_,?_⟩ <;> walk_at "zr"
   | some c=>
    simp only[Za2,Zao]
    walk_at "zz"
    rw[key _ (by rw[hs];rfl)]
    refine⟨?_,?_,?_,?_,?_,?_,?_,?_⟩ <;> walk_at "zr"
  ·rintro σ ⟨e0,e1,e2,e3,e4,e5,e6,e7⟩
   walk_at "zz"
   rw[Zn7,show tab i (fun i=>Zaa (n+1) (ZbL ns k n x i))++[T.lst (tab (n+1) fun j=>oT (ZbL ns k n x i j))]=tab (i+1) fun i=>Zaa (n+1) (ZbL ns k n x i)from Zdl (f:=fun i=>Zaa (n+1) (ZbL ns k n x i))]
   refine⟨?_,?_,?_,?_,?_,?_⟩ <;> walk_at "zr"
 ·rintro σ ⟨e0,e1,e2,e3,e4,e5⟩
  walk_at "zz"
  refine Zce (n:=n) (a:=fun i=>.int i) (b:=fun t=>Z5 (ZeO ns k n x t)) (by omega) ?_ (fun t ht=>?_) ?_
  ·walk_at "zz"
   refine Zjk n (by omega) (by omega) rfl
  ·walk_at "zz"
   refine Zcm (by omega) (by omega) ?_
   walk_at "zz"
   exact ZP (Zo3 hL (by omega) (by omega)) ⟨ZfC,rfl⟩
  walk_at "zz"
  rfl
noncomputable def ZbO(n:Nat)(G:Nat→Nat→Option Int)(R:Nat→Int×Int)(x:Nat→Int): Prop:=(∀i j,i<n+1→j<n+1→∀b,G i j=some b→ZaD x i-ZaD x j≤b)∧∀t,t<n→Zan (R t) (x t)
noncomputable def ZqP(n:Nat)(G:Nat→Nat→Option Int)(R:Nat→Int×Int): Prop:=(∀i,i<n+1→G i i=some 0)∧∀t,t<n→RestOk (R t)
theorem Znn(ns:List Int)(k:Int)(n:Nat)(x:Nat→Int): ZqP n (ZbL ns k n x) (ZeO ns k n x):=⟨fun i _=>ZmM ns k n x i,fun t _=>Zn6 ns _ _⟩
theorem Zno{g:PE}(hn:n<10000)(e:Pk (g σ) fun t=>t=Zae n G)(h:Q (Zae n G)): Pk (ZaA (ZbN g) (Zam j) Zaj (Zt ZcA (Zg (Zb j) Zm)) σ) Q:=by
 refine Zce (n:=n) (a:=fun i=>Zaa n (G i)) (b:=fun i=>Zaa n (G i)) hn ?_ (fun i hi=>?_) h
 ·refine ZiM (e.mono ?_)
  rintro _ rfl
  exact Sq.lst rfl
 ·unfold Zaa
  walk_at "zz"
  rfl
theorem Zo5(hn:n≤100): Zef [Zad n G R]=some (Zad n G R):=by
 apply Pk.eq
 unfold Zef ZhL Zad Za6
 walk_at "zz"
 refine Zno (n:=n+1) (G:=G) (by omega) ?_ ?_
 ·walk_at "zz"
  rfl
 walk_at "zz"
 rfl
noncomputable def leO(a b:Option Int): Prop:=∀y,b=some y→∃x,a=some x∧x≤y
theorem ZfE: leO a none:=fun _ e=>by cases e
theorem leO_some{x:Int}: leO (some x) (some y)↔x≤y:=⟨fun h=>by obtain⟨z,e,q⟩:=h y rfl;cases e;exact q,fun h z e=>by cases e;exact⟨x,rfl,h⟩⟩
theorem ZiW: ¬leO none (some y):=fun h=>by obtain⟨z,e,_⟩:=h y rfl;cases e
theorem Zma{b:Option Int}: Zfc [oT a,oT b]=some (.bool (dec (leO a b))):=by
 apply Pk.eq
 unfold Zfc Zhl
 cases b with
 | none=>
  simp only[Za2]
  walk_at "zz"
  rw[Zbv ZfE]
 | some y=>
  cases a with
  | none=>
   simp only[Za2,Zao]
   walk_at "zz"
   rw[Zc9 ZiW]
  | some x=>
   simp only[Zao]
   walk_at "zz"
   rw[Zh5 leO_some,Zfj]
theorem Zo6(h:0<q.1∧0≤q.2∧q.2<q.1)(x:Int): x.fmod q.1=q.2↔(x-q.2) % q.1=0:=by
 rw[Int.fmod_eq_emod_of_nonneg _ (by omega)]
 constructor
 ·intro e
  rw[←e,Int.sub_emod,Int.emod_emod,Int.sub_self]
  simp
 ·intro e
  have:x % q.1=q.2 % q.1:=Int.emod_eq_emod_iff_emod_sub_eq_zero.mpr e
  rw[this,Int.emod_eq_of_lt h.2.1 h.2.2]
theorem Zo7(h:RestOk q)(x:Int): (if q.1=0 then x=q.2 else x.fmod q.1=q.2)↔Zan q x:=by
 unfold Zan
 rcases h with h | h
 ·rw[if_pos h];simp[h]
 ·rw[if_neg (by omega),Zo6 h]
  have h1:¬q.1=0:=by omega
  simp only[h1,false_implies,true_and,h.1,true_implies]
  rfl
theorem ZjP{x:Int}(h:RestOk q): Zeg [Z5 q,.int x]=some (.bool (dec (Zan q x))):=by
 apply Pk.eq
 unfold Zeg ZhN Z5
 rw[←Zh5 (Zo7 h x)]
 by_cases c:q.1=0
 ·walk_at "zz"
  rw[if_pos c,Zfj]
 ·walk_at "zz"
  rw[if_neg c,Zfj]
noncomputable def Eu(m:Nat)(a b:Int): Prop:=0≤a∧0≤b∧∃k:Nat,a*b<2 ^ k∧m=2*k+if a<b then 1 else 0
theorem Eu.step{m:Nat}{a:Int}(h:Eu m a b)(hb:b≠0): ∃m',m'<m∧Eu m' b (a % b):=by
 obtain⟨h0,h1,k,h2,h3⟩:=h
 have hb':0<b:=by omega
 have r0:=Int.emod_nonneg a hb
 have r1:=Int.emod_lt_of_pos a hb'
 by_cases q:a<b
 ·rw[if_pos q]at h3
  have e:a % b=a:=Int.emod_eq_of_lt h0 q
  rw[e]
  exact⟨2*k,by omega,h1,h0,k,by rw[Int.mul_comm];exact h2,by rw[if_neg (by omega)];omega⟩
 ·rw[if_neg q]at h3
  have hd:=Int.emod_add_mul_ediv a b
  have hq:1≤a / b:=Int.le_ediv_of_mul_le hb' (by omega)
  have hm:b*1≤b*(a / b):=Int.mul_le_mul_of_nonneg_left hq h1
  have h2r:2*(a % b)<a:=by omega
  have hp:b*(2*(a % b))<b*a:=Int.mul_lt_mul_of_pos_left h2r hb'
  have hk:k≠0:=by
   rintro rfl
   have:0<a*b:=Int.mul_pos (by omega) hb'
   simp at h2
   omega
  obtain⟨k',rfl⟩:∃k',k=k'+1:=⟨k-1,by omega⟩
  refine⟨2*k',by omega,h1,r0,k',?_,by rw[if_neg (by omega)];omega⟩
  have e1:b*(2*(a % b))=2*(b*(a % b)):=by rw[←Int.mul_assoc,Int.mul_comm b 2,Int.mul_assoc]
  have e2:a*b=b*a:=Int.mul_comm _ _
  rw[Int.pow_succ]at h2
  omega
theorem ZkE{a:Int}(ha:0≤a)(hb:0≤b)(ha2:a<2 ^ 200000)(hb2:b<2 ^ 200000): ∃m,m<1000000∧Eu m a b:=by
 refine⟨_,?_,ha,hb,400000,?_,rfl⟩
 ·split <;> omega
 ·have h1:a*b≤a*2 ^ 200000:=Int.mul_le_mul_of_nonneg_left (by omega) ha
  have h2:a*2 ^ 200000<2 ^ 200000*2 ^ 200000:=Int.mul_lt_mul_of_pos_right ha2 (Int.pow_pos (by decide))
  have h3:(2:Int) ^ 200000*2 ^ 200000=2 ^ 400000:=by rw[←Int.pow_add]
  omega
theorem Ziz{a:Int}(hb:0<b): Int.gcd b (a % b)=Int.gcd a b:=by
 rw[Int.gcd_comm a b,Int.emod_def,Int.gcd_sub_mul_left_right]
theorem Zo8{a:Int}: Int.gcd (Zbc a) (Zbc b)=Int.gcd a b:=by
 unfold Zbc Int.gcd
 split <;> split <;> simp
theorem Zk3{a:Int}(h:a.natAbs<2 ^ k): Zbc a<2 ^ k:=by
 have:((a.natAbs:Nat):Int)<2 ^ k:=by exact_mod_cast h
 unfold Zbc
 split <;> omega
theorem ZfL(ns:List Int)(k:Int): (ZaY ns k).natAbs<2 ^ 134:=by
 have h:=Zi9 ns k
 have h2:=ZeB
 have:(2:Nat) ^ 134=21778071482940061661655974875633165533184:=by decide
 omega
theorem Zb3{a:Nat}(h:a<2 ^ i)(hij:i≤j): a<2 ^ j:=Nat.lt_of_lt_of_le h (Nat.pow_le_pow_right (by decide) hij)
noncomputable def SmG(k n:Nat)(G:Nat→Nat→Option Int): Prop:=∀i j,i<n+1→j<n+1→∀b,G i j=some b→b.natAbs<2 ^ k
noncomputable def SmR(k n:Nat)(R:Nat→Int×Int): Prop:=∀t,t<n→(R t).1.natAbs<2 ^ k∧(R t).2.natAbs<2 ^ k
theorem Zfa(h0:0≤m)(hm:m.natAbs<2 ^ k)(hr:r.natAbs<2 ^ k): (ZaG m r).1.natAbs<2 ^ k∧(ZaG m r).2.natAbs<2 ^ k:=by
 unfold ZaG
 split
 ·exact⟨Nat.two_pow_pos k,hr⟩
 ·have h1:=Int.fmod_nonneg_of_pos r (show 0<m by omega)
  have h2:=Int.fmod_lt_of_pos r (show 0<m by omega)
  exact⟨hm,by show(r.fmod m).natAbs<_;omega⟩
theorem ZkF(a:Int): (Zbc a).natAbs=a.natAbs:=by unfold Zbc;split <;> omega
theorem Zmn{k x:Int}(hx:x.natAbs<2 ^ 134): (Zda ns k x).1.natAbs<2 ^ 134∧(Zda ns k x).2.natAbs<2 ^ 134:=by
 have h:=ZkD ns k
 have h2:=ZfL ns k
 have e:(2:Nat) ^ 134=21778071482940061661655974875633165533184:=by decide
 unfold Zda
 split
 ·exact⟨by show(1:Nat)<_;omega,by show(0:Nat)<_;omega⟩
 ·split
  ·exact⟨by show(0:Nat)<_;omega,hx⟩
  ·split
   ·exact Zfa (by omega) (by omega) hx
   ·exact Zfa (Zdn _) (by rw[ZkF];exact h2) hx
theorem Zj2(hx:∀i,i<n→(x i).natAbs<2 ^ k)(i:Nat)(hi:i<n+1): (ZaD x i).natAbs<2 ^ k:=by
 cases i with
 | zero=>exact Nat.two_pow_pos k
 | succ i=>exact hx i (by omega)
theorem Zn8{k:Int}(hx:∀i,i<n→(x i).natAbs<2 ^ 134): SmG 136 n (ZbL ns k n x):=by
 intro i j hi hj b h
 have e:(2:Nat) ^ 134=21778071482940061661655974875633165533184:=by decide
 have e2:(2:Nat) ^ 136=4*21778071482940061661655974875633165533184:=by decide
 have h40:=ZeB
 have h1:=Zj2 hx i hi
 have h2:=Zj2 hx j hj
 unfold ZbL at h
 split at h
 ·cases h;exact Nat.two_pow_pos _
 ·obtain⟨c,h3,h4⟩:=Zz1.mp h
  have:=Zeo ns _ h3
  subst h4
  omega
theorem Zn9{k:Int}(hx:∀i,i<n→(x i).natAbs<2 ^ 134): SmR 134 n (ZeO ns k n x):=fun t ht=>Zmn (hx t ht)
theorem Znp{g:PG}{a:Nat→T}{f:PE}(e:β→T)(P:Nat→β→Prop)(hn:n<10000)(hg:Pl (g σ) fun ts=>ts=tab n a)(hf:∀i,i<n→Pk (f (ZI σ j (a i))) fun t=>∃y,t=e y∧P i y)(d:β)(h:∀y:Nat→β,(∀i,i<n→P i (y i))→Q (.lst (tab n fun i=>e (y i)))): Pk (ZaA g (Zam j) Zaj f σ) Q:=by
 have hc:∃y:Nat→β,∀i,i<n→Pk (f (ZI σ j (a i))) (fun t=>t=e (y i))∧P i (y i):=by
  have hx:∀i,∃y:β,i<n→Pk (f (ZI σ j (a i))) (fun t=>t=e y)∧P i y:=fun i=>by
   by_cases q:i<n
   ·obtain⟨t,e1,y,e2,p⟩:=hf i q
    exact⟨y,fun _=>⟨⟨t,e1,e2⟩,p⟩⟩
   ·exact⟨d,fun h=>absurd h q⟩
  exact⟨fun i=>Classical.choose (hx i),fun i=>Classical.choose_spec (hx i)⟩
 obtain⟨y,hy⟩:=hc
 exact Zce hn hg (fun i hi=>(hy i hi).1) (h y fun i hi=>(hy i hi).2)
theorem ZmN{g:PE}(hn:n<10000)(e:Pk (g σ) fun t=>t=Zae n G)(h:Q (Zae n G)): Pk (ZaA (ZbN g) (Zam j) Zaj (pFl (Zt ZcA (Zg (Zb j) Zm))) σ) Q:=by
 refine Zce (n:=n) (a:=fun i=>Zaa n (G i)) (b:=fun i=>Zaa n (G i)) hn ?_ (fun i hi=>?_) h
 ·refine ZiM (e.mono ?_)
  rintro _ rfl
  exact Sq.lst rfl
 ·unfold Zaa
  walk_at "zz"
  rfl
noncomputable def ZbE(G:Nat→Nat→Option Int)(i j:Nat)(v:Option Int): Nat→Nat→Option Int:=fun a b=>if a=i∧b=j then v else G a b
theorem ZfZ: T.lst (tab n fun a=>T.lst (tab n fun b=>if a=i∧b=j then oT v else oT (G a b)))=Zae n (ZbE G i j v):=by
 unfold Zae Zaa ZbE
 congr 2
 funext a
 congr 2
 funext b
 split <;> rfl
theorem ZfM: ZbE G i j v i j=v:=by simp[ZbE]
theorem Zey{a b:Nat}(h:¬(a=i∧b=j)): ZbE G i j v a b=G a b:=by simp[ZbE,h]
theorem Zc2: leO a a:=fun y e=>⟨y,e,Int.le_refl y⟩
theorem Znq{b c:Option Int}(h:leO a b)(k:leO b c): leO a c:=fun y e=>by
 obtain⟨x,e1,l1⟩:=k y e
 obtain⟨w,e2,l2⟩:=h x e1
 exact⟨w,e2,by omega⟩
theorem Zf0{k:Int}(h0:0≤k)(h1:k<n): ∃i:Nat,k=i∧i<n:=⟨k.toNat,by omega,by omega⟩
theorem Zj3{a:Int}(ha:a.natAbs<2 ^ 200000)(hb:b.natAbs<2 ^ 200000): Zej [.int a,.int b]=some (.int (Int.gcd a b)):=by
 apply Pk.eq
 unfold Zej Zh8
 walk_at "zz"
 obtain⟨m,hm,eu⟩:=ZkE (Zdn a) (Zdn b) (Zk3 ha) (Zk3 hb)
 refine Zin (fun m σ=>∃c d:Int,σ 2=some (.int c)∧σ 3=some (.int d)∧Eu m c d∧Int.gcd c d=Int.gcd a b) _ _ ?_ 1000000 (m:=m) ⟨Zbc a,Zbc b,by walk_at "zr",by walk_at "zr",eu,Zo8⟩ hm
 rintro m σ ⟨c,d,e0,e1,eu,eg⟩
 walk_at "zz"
 refine⟨fun h=>?_,fun h=>?_⟩
 ·have hd:d≠0:=by simpa using h
  have hd0:0≤d:=eu.2.1
  walk_at "zz"
  rw[Int.fmod_eq_emod_of_nonneg _ hd0]
  obtain⟨m',h1,h2⟩:=eu.step hd
  exact⟨m',h1,d,c % d,by walk_at "zr",by walk_at "zr",h2,by rw[Ziz (by omega)];exact eg⟩
 ·have hd:d=0:=by simpa using h
  subst hd
  walk_at "zz"
  rw[←eg,Int.gcd_zero_right]
  have:=eu.1
  congr 1
  omega
noncomputable def Bd(k:Nat)(x:Int): Prop:=x.natAbs<2 ^ k
theorem Bd.mono{x:Int}(h:Bd i x)(hij:i≤j): Bd j x:=Zb3 h hij
theorem Zc3{x:Int}(h:Bd i x)(k:Bd j y)(hi:i≤1000000)(hj:j≤1000000): mulOk x y=true:=Zkt (Nat.le_trans (PyProof.Rows.intBits_le h) (Nat.le_trans hi (by decide))) (Nat.le_trans (PyProof.Rows.intBits_le k) (Nat.le_trans hj (by decide)))
theorem Zf1{x:Int}(h:Bd i x)(k:Bd j y): Bd (i+j) (x*y):=by
 unfold Bd at *
 rw[Int.natAbs_mul,Nat.pow_add]
 exact Nat.mul_lt_mul'' h k
theorem Zlo{x:Int}(h:Bd i x)(k:Bd i y): Bd (i+1) (x+y):=by
 unfold Bd at *
 rw[Nat.pow_succ]
 omega
theorem Bd.sub{x:Int}(h:Bd i x)(k:Bd i y): Bd (i+1) (x-y):=by
 unfold Bd at *
 rw[Nat.pow_succ]
 omega
theorem Zf2{x:Int}(h:Bd i y)(hi:i≤9000): Builtin.divisionGoesByPylong x y=false:=by
 refine PyProof.noPylong_of_log2 ?_
 by_cases h0:y.natAbs=0
 ·rw[h0];decide +kernel
 ·exact Nat.lt_of_lt_of_le ((Nat.log2_lt h0).mpr h) hi
theorem Zdb{x:Int}(h:Bd i y)(h0:0≤x)(h1:x≤y): Bd i x:=by unfold Bd at *;omega
theorem ZeW(h:1≤i): Bd i 1:=Zb3 (i:=1) (by decide) h
theorem ZcF: Bd i 0:=Nat.two_pow_pos i
theorem ZmO{a:Int}(hb:0<b)(kb:Bd k b)(hk:k≤8000)(ha:0≤a)(hg:Int.gcd a b=1): Pk (Zfx [.int a,.int b]) fun t=>∃x:Int,t=.int x∧0≤x∧x<b∧∃q,a*x=1+b*q:=by
 unfold Zfx Zib
 walk_at "zz"
 rw[Int.fmod_eq_emod_of_nonneg _ (by omega)]
 have r0:=Int.emod_nonneg a (show b≠0 by omega)
 have r1:=Int.emod_lt_of_pos a hb
 have hlt:∀x:Int,0≤x→x≤b→x<2 ^ 200000:=fun x h0 h1=>by
  have h2:b.natAbs<2 ^ 200000:=Zb3 kb (by omega)
  have h3:((b.natAbs:Nat):Int)<2 ^ 200000:=by exact_mod_cast h2
  omega
 obtain⟨m,hm,eu⟩:=ZkE r0 (show 0≤b by omega) (hlt _ r0 (by omega)) (hlt b (by omega) (by omega))
 have hg0:Int.gcd (a % b) b=1:=by
  rw[Int.gcd_comm,Ziz hb];exact hg
 refine Zin (fun m σ=>∃l r s t:Int,σ 1=some (.int b)∧σ 2=some (.int l)∧σ 3=some (.int r)∧σ 4=some (.int s)∧σ 5=some (.int t)∧Eu m l r∧Int.gcd l r=1∧l≤b∧r≤b∧(∃q,s*a=l+b*q)∧(∃q,t*a=r+b*q)∧(s.natAbs:Int)*r+(t.natAbs:Int)*l≤b∧(1≤l∨t=0)) _ _ ?_ 1000000 (m:=m) ⟨a % b,b,1,0,by walk_at "zr",by walk_at "zr",by walk_at "zr",by walk_at "zr",by walk_at "zr",eu,hg0,by omega,by omega,⟨a / b,?_⟩,⟨-1,by omega⟩,by simp,.inr rfl⟩ hm
 ·rintro m σ ⟨l,r,s,t,e1,e2,e3,e4,e5,eu,gl,lb,rb,⟨q1,h1⟩,⟨q2,h2⟩,hb1,hl⟩
  walk_at "zz"
  refine⟨fun h=>?_,fun h=>?_⟩
  ·have hr:r≠0:=by simpa using h
   have hr0:0≤r:=eu.2.1
   have hl0:0≤l:=eu.1
   have hrp:0<r:=by omega
   have kr:Bd k r:=Zdb kb hr0 rb
   have kl:Bd k l:=Zdb kb hl0 lb
   have hdiv0:0≤l / r:=Int.ediv_nonneg hl0 hr0
   have hdiv1:l / r≤l:=Int.ediv_le_self _ hl0
   have ks:(s.natAbs:Int)≤b:=by
    have:(s.natAbs:Int)*1≤(s.natAbs:Int)*r:=Int.mul_le_mul_of_nonneg_left (by omega) (by omega)
    have:0≤(t.natAbs:Int)*l:=Int.mul_nonneg (by omega) hl0
    omega
   have kt:(t.natAbs:Int)≤b:=by
    rcases hl with hl | hl
    ·have:(t.natAbs:Int)*1≤(t.natAbs:Int)*l:=Int.mul_le_mul_of_nonneg_left (by omega) (by omega)
     have:0≤(s.natAbs:Int)*r:=Int.mul_nonneg (by omega) hr0
     omega
    ·rw[hl];simp;omega
   have kt':Bd k t:=by unfold Bd at *;omega
   have kd:Bd k (l / r):=Zdb kl hdiv0 hdiv1
   walk_at "zz"
   refine ZdR hr (Zf2 kr (by omega)) ?_
   rw[Int.fdiv_eq_ediv_of_nonneg _ hr0]
   walk_at "zz"
   refine Zco (Zc3 kd kr (by omega) (by omega)) ?_
   walk_at "zz"
   refine Zco (Zc3 kd kt' (by omega) (by omega)) ?_
   walk_at "zz"
   have hover:l-l / r*r=l % r:=by
    have:=Int.emod_add_mul_ediv l r
    rw[Int.mul_comm r (l / r)]at this
    omega
   rw[hover]
   obtain⟨m',hm1,hm2⟩:=eu.step hr
   have o0:=Int.emod_nonneg l hr
   have o1:=Int.emod_lt_of_pos l hrp
   refine⟨m',hm1,r,l % r,t,s-l / r*t,by walk_at "zr",by walk_at "zr",by walk_at "zr",by walk_at "zr",by walk_at "zr",hm2,by rw[Ziz hrp];exact gl,rb,by omega,⟨q2,h2⟩,⟨q1-l / r*q2,?_⟩,?_,.inl (by omega)⟩
   ·rw[Int.sub_mul,h1,Int.mul_assoc,h2,Int.mul_add,Int.mul_sub,←hover]
    have e1:b*(l / r*q2)=l / r*(b*q2):=by rw[←Int.mul_assoc,Int.mul_comm b,Int.mul_assoc]
    rw[e1]
    omega
   ·have ht:((s-l / r*t).natAbs:Int)≤(s.natAbs:Int)+l / r*(t.natAbs:Int):=by
     have h3:(s-l / r*t).natAbs≤s.natAbs+(l / r*t).natAbs:=by omega
     have h4:(l / r*t).natAbs=(l / r).natAbs*t.natAbs:=Int.natAbs_mul ..
     have h5:(((l / r).natAbs*t.natAbs:Nat):Int)=l / r*(t.natAbs:Int):=by
      rw[Int.natCast_mul,Int.natAbs_of_nonneg hdiv0]
     rw[h4]at h3
     omega
    have h6:((s-l / r*t).natAbs:Int)*r≤((s.natAbs:Int)+l / r*(t.natAbs:Int))*r:=Int.mul_le_mul_of_nonneg_right ht hr0
    have h7:((s.natAbs:Int)+l / r*(t.natAbs:Int))*r=(s.natAbs:Int)*r+(t.natAbs:Int)*(l / r*r):=by
     rw[Int.add_mul,Int.mul_comm (l / r) (t.natAbs:Int),Int.mul_assoc]
    have h8:(t.natAbs:Int)*(l % r)+(t.natAbs:Int)*(l / r*r)=(t.natAbs:Int)*l:=by
     rw[←Int.mul_add,←hover]
     congr 1
     omega
    omega
  ·have hr:r=0:=by simpa using h
   subst hr
   rw[Int.gcd_zero_right]at gl
   have hl1:l=1:=by have:=eu.1;omega
   subst hl1
   walk_at "zz"
   rw[Int.fmod_eq_emod_of_nonneg _ (by omega)]
   refine⟨s % b,rfl,Int.emod_nonneg _ (by omega),Int.emod_lt_of_pos _ hb,q1-s / b*a,?_⟩
   have h3:=Int.emod_add_mul_ediv s b
   have h4:s % b=s-b*(s / b):=by omega
   rw[h4,Int.mul_sub,Int.mul_comm a s,h1,Int.mul_sub]
   have e1:a*(b*(s / b))=b*(s / b*a):=by rw[Int.mul_comm a,Int.mul_assoc]
   rw[e1]
   omega
 ·have h3:=Int.emod_add_mul_ediv a b
  rw[Int.one_mul]
  omega
theorem Zhd(h:0≤m): ZdS [.int m,.int r]=some (Z5 (ZaG m r)):=by
 apply Pk.eq
 unfold ZdS Zi6 ZaG
 by_cases c:m=0
 ·walk_at "zz"
  rw[if_pos c];rfl
 ·walk_at "zz"
  rw[if_neg c];rfl
theorem Zbw(h:0≤q.1)(x:Int): Zan q x↔q.1 ∣ x-q.2:=by
 unfold Zan
 by_cases c:q.1=0
 ·rw[c]
  simp
  omega
 ·have:0<q.1:=by omega
  simp only[c,false_implies,true_and,this,true_implies]
  exact(Int.dvd_iff_emod_eq_zero).symm
theorem Znr(h:0≤m): 0≤(ZaG m r).1:=by unfold ZaG;split <;> simp[h]
theorem Zft(h:0≤m)(x:Int): Zan (ZaG m r) x↔m ∣ x-r:=by
 rw[Zbw (Znr h)]
 unfold ZaG
 split
 ·rename_i c;subst c;rfl
 ·show m ∣ x-r.fmod m↔_
  rw[Int.fmod_eq_emod_of_nonneg _ h]
  have h1:x-r % m=(x-r)+m*(r / m):=by have:=Int.emod_add_mul_ediv r m;omega
  rw[h1]
  constructor
  ·intro q
   have:=Int.dvd_sub q (Int.dvd_mul_right m (r / m))
   rwa [Int.add_sub_cancel]at this
  ·intro q
   exact Int.dvd_add q (Int.dvd_mul_right m (r / m))
theorem RestOk.nn(h:RestOk q): 0≤q.1:=by rcases h with h | h <;> omega
theorem RestOk.self(h:RestOk q): Zan q q.2:=by rw[Zbw h.nn];simp
theorem ZjQ(hp:RestOk p)(hq:RestOk q)(h:∀x,Zan p x↔Zan q x): p=q:=by
 have e1:∀x,p.1 ∣ x-p.2↔q.1 ∣ x-q.2:=fun x=>by rw[←Zbw hp.nn,←Zbw hq.nn];exact h x
 have a1:q.1 ∣ p.2-q.2:=(e1 p.2).mp (by simp)
 have a2:q.1 ∣ p.2+p.1-q.2:=(e1 (p.2+p.1)).mp (by rw[show p.2+p.1-p.2=p.1 by omega];exact Int.dvd_refl _)
 have b1:p.1 ∣ q.2-p.2:=(e1 q.2).mpr (by simp)
 have b2:p.1 ∣ q.2+q.1-p.2:=(e1 (q.2+q.1)).mpr (by rw[show q.2+q.1-q.2=q.1 by omega];exact Int.dvd_refl _)
 have c1:q.1 ∣ p.1:=by have:=Int.dvd_sub a2 a1;rwa [show p.2+p.1-q.2-(p.2-q.2)=p.1 by omega]at this
 have c2:p.1 ∣ q.1:=by have:=Int.dvd_sub b2 b1;rwa [show q.2+q.1-p.2-(q.2-p.2)=q.1 by omega]at this
 have em:p.1=q.1:=Int.dvd_antisymm hp.nn hq.nn c2 c1
 have er:p.2=q.2:=by
  rcases hp with hp | hp
  ·rw[hp]at em
   rw[←em]at a1
   have:=Int.zero_dvd.mp a1
   omega
  ·rcases hq with hq | hq
   ·omega
   ·rw[←em]at a1 hq
    obtain⟨k,hk⟩:=a1
    have:k=0:=by
     rcases Int.lt_trichotomy k 0 with h | h | h
     ·have:p.1*k≤p.1*(-1):=Int.mul_le_mul_of_nonneg_left (by omega) (by omega)
      omega
     ·exact h
     ·have:p.1*1≤p.1*k:=Int.mul_le_mul_of_nonneg_left (by omega) (by omega)
      omega
    subst this
    simp at hk
    omega
 exact Prod.ext em er
noncomputable def RBd(k:Nat)(q:Int×Int): Prop:=Bd k q.1∧Bd k q.2
theorem Zkg(h0:0≤m)(hm:Bd k m)(hr:Bd k r): RBd k (ZaG m r):=Zfa h0 hm hr
noncomputable def Zbi(p q:Int×Int): Int×Int:=ZaG (Int.gcd p.1 q.1) (p.2+q.2)
theorem ZiA(p q:Int×Int): RestOk (Zbi p q):=ZdI (by omega) _
theorem ZjG(hk:k≤200000)(hp:Bd k p.1)(hq:Bd k q.1): Zec [Z5 p,Z5 q]=some (Z5 (Zbi p q)):=by
 apply Pk.eq
 unfold Zec Zhn Z5 Zbi
 walk_at "zz"
 refine ZP (Zj3 (Zb3 hp hk) (Zb3 hq hk)) ?_
 walk_at "zz"
 exact ZP (Zhd (by omega)) rfl
noncomputable def Zcq(p:Int×Int)(k:Int): Int×Int:=ZaG (p.1*Zbc k) (p.2*k)
theorem ZlY(hk:k≤200000)(hp0:0≤p.1)(hp:RBd k p)(hc:Bd k c): Ze8 [Z5 p,.int c]=some (Z5 (Zcq p c)):=by
 apply Pk.eq
 unfold Ze8 Zg9 Z5 Zcq
 have ha:Bd k (Zbc c):=by unfold Bd at *;rw[ZkF];exact hc
 walk_at "zz"
 refine Zco (Zc3 hp.1 ha (by omega) (by omega)) ?_
 walk_at "zz"
 refine Zco (Zc3 hp.2 hc (by omega) (by omega)) ?_
 walk_at "zz"
 exact ZP (Zhd (Int.mul_nonneg hp0 (Zdn c))) rfl
noncomputable def ZcB(p:Int×Int)(top:Int): Option Int:=if p.1=0 then(if p.2≤top then some p.2 else none)else some (top-(top-p.2) % p.1)
theorem ZlZ{top:Int}(hp:0≤p.1): Ze9 [Z5 p,.int top]=some (oT (ZcB p top)):=by
 apply Pk.eq
 unfold Ze9 Zhc Z5 ZcB
 by_cases c:p.1=0
 ·rw[if_pos c]
  by_cases d:p.2≤top
  ·walk_at "zz"
   rw[if_pos d];rfl
  ·walk_at "zz"
   rw[if_neg d];rfl
 ·rw[if_neg c]
  walk_at "zz"
  rw[Int.fmod_eq_emod_of_nonneg _ hp]
  rfl
noncomputable def oR: Option (Int×Int)→T
 | none=>.none
 | some q=>Z5 q
noncomputable def Met(p q:Int×Int)(o:Option (Int×Int)): Prop:=match o with
 | none=>∀x,¬(Zan p x∧Zan q x)
 | some r=>RestOk r∧(∀x,Zan r x↔Zan p x∧Zan q x)
theorem Zmo(hk:k≤8000)(op:RestOk p)(oq:RestOk q)(bp:RBd k p)(bq:RBd k q): Pk (Zfn [Z5 p,Z5 q]) fun t=>∃o,t=oR o∧Met p q o∧∀r,o=some r→(r=p∨r=q∨(p.1≠0∧q.1≠0∧r.1=Int.lcm p.1 q.1)):=by
 unfold Zfn ZhQ
 have ep:Z5 p=.tup [.int p.1,.int p.2]:=rfl
 have eq:Z5 q=.tup [.int q.1,.int q.2]:=rfl
 have np:=op.nn
 have nq:=oq.nn
 by_cases c1:p.1=0
 ·rw[ep]
  walk_at "zz"
  refine ZP (ZjP oq) ?_
  walk_at "zz"
  have hone:∀x,Zan p x↔x=p.2:=fun x=>by rw[Zbw np,c1,Int.zero_dvd];omega
  refine⟨fun e=>?_,fun e=>?_⟩
  ·walk_at "zz"
   refine⟨some p,rfl,⟨op,fun x=>⟨fun h=>⟨h,?_⟩,fun h=>h.1⟩⟩,fun r e=>by cases e;exact .inl rfl⟩
   rw[(hone x).mp h];exact dec_iff.mp e
  ·walk_at "zz"
   refine⟨none,rfl,fun x h=>?_,by simp⟩
   have:=(hone x).mp h.1
   subst this
   have h2:=Zbv h.2
   rw[h2]at e
   cases e
 by_cases c2:q.1=0
 ·have hone:∀x,Zan q x↔x=q.2:=fun x=>by rw[Zbw nq,c2,Int.zero_dvd];omega
  rw[ep,eq]
  walk_at "zz"
  rw[←ep]
  refine ZP (ZjP op) ?_
  walk_at "zz"
  refine⟨fun e=>?_,fun e=>?_⟩
  ·walk_at "zz"
   refine⟨some q,rfl,⟨oq,fun x=>⟨fun h=>⟨?_,h⟩,fun h=>h.2⟩⟩,fun r e=>by cases e;exact .inr (.inl rfl)⟩
   rw[(hone x).mp h];exact dec_iff.mp e
  ·walk_at "zz"
   refine⟨none,rfl,fun x h=>?_,by simp⟩
   have:=(hone x).mp h.2
   subst this
   have h2:=Zbv h.1
   rw[h2]at e
   cases e
 ·have pp:0<p.1:=by omega
  have pq:0<q.1:=by omega
  obtain⟨g,hg⟩:∃g:Nat,Int.gcd p.1 q.1=g:=⟨_,rfl⟩
  have hg0:0<(g:Int):=by
   have:Int.gcd p.1 q.1≠0:=fun h=>c1 (Int.gcd_eq_zero_iff.mp h).1
   omega
  have gp:(g:Int) ∣ p.1:=by rw[←hg];exact Int.gcd_dvd_left ..
  have gq:(g:Int) ∣ q.1:=by rw[←hg];exact Int.gcd_dvd_right ..
  obtain⟨a,ea⟩:=gp
  obtain⟨b,eb⟩:=gq
  have ha:0<a:=by
   rcases Int.lt_trichotomy a 0 with h | h | h
   ·have:=Int.mul_neg_of_pos_of_neg hg0 h;omega
   ·subst h;simp at ea;omega
   ·exact h
  have hb:0<b:=by
   rcases Int.lt_trichotomy b 0 with h | h | h
   ·have:=Int.mul_neg_of_pos_of_neg hg0 h;omega
   ·subst h;simp at eb;omega
   ·exact h
  have da:p.1 / g=a:=by rw[ea];exact Int.mul_ediv_cancel_left _ (by omega)
  have db:q.1 / g=b:=by rw[eb];exact Int.mul_ediv_cancel_left _ (by omega)
  have kg:Bd k (g:Int):=Zdb bp.1 (by omega) (by
   rw[ea]
   have:(g:Int)*1≤g*a:=Int.mul_le_mul_of_nonneg_left (by omega) (by omega)
   omega)
  have kb:Bd k b:=Zdb bq.1 (by omega) (by
   rw[eb]
   have:1*b≤g*b:=Int.mul_le_mul_of_nonneg_right (by omega) (by omega)
   omega)
  have cop:Int.gcd a b=1:=by
   have h1:=Int.gcd_mul_left (g:Int) a b
   rw[←ea,←eb,hg,Int.natAbs_natCast]at h1
   have h2:g*1=g*Int.gcd a b:=by omega
   exact(Nat.eq_of_mul_eq_mul_left (by omega) h2).symm
  rw[ep,eq]
  walk_at "zz"
  refine ZP (Zj3 (Zb3 bp.1 (by omega)) (Zb3 bq.1 (by omega))) ?_
  rw[hg]
  walk_at "zz"
  rw[Int.fmod_eq_emod_of_nonneg _ (by omega)]
  by_cases c3:(q.2-p.2) % (g:Int)=0
  ·obtain⟨d,ed⟩:=Int.dvd_of_emod_eq_zero c3
   have dd:(q.2-p.2) / g=d:=by rw[ed];exact Int.mul_ediv_cancel_left _ (by omega)
   have kd:Bd (k+1) d:=by
    have h1:Bd (k+1) (q.2-p.2):=Bd.sub bq.2 bp.2
    unfold Bd at *
    rw[ed,Int.natAbs_mul]at h1
    have:1*d.natAbs≤(g:Int).natAbs*d.natAbs:=Nat.mul_le_mul_right _ (by omega)
    omega
   walk_at "zz"
   refine ZdR (by omega) (Zf2 kg (by omega)) ?_
   rw[Int.fdiv_eq_ediv_of_nonneg _ (by omega),db]
   walk_at "zz"
   refine ZdR (by omega) (Zf2 kg (by omega)) ?_
   rw[Int.fdiv_eq_ediv_of_nonneg _ (by omega),dd]
   walk_at "zz"
   refine ZdR (by omega) (Zf2 kg (by omega)) ?_
   rw[Int.fdiv_eq_ediv_of_nonneg _ (by omega),da]
   walk_at "zz"
   refine(ZmO hb kb hk (by omega) cop).mono ?_
   rintro _ ⟨y,rfl,y0,y1,z,hz⟩
   have ky:Bd k y:=Zdb kb y0 (by omega)
   walk_at "zz"
   refine Zco (Zc3 kd ky (by omega) (by omega)) ?_
   walk_at "zz"
   refine Zco (Zc3 bp.1 kb (by omega) (by omega)) ?_
   walk_at "zz"
   refine Zco (Zc3 bp.1 (Zf1 kd ky) (by omega) (by omega)) ?_
   walk_at "zz"
   have hL:(p.1*b).natAbs=Int.lcm p.1 q.1:=by
    have h1:=Int.gcd_mul_lcm p.1 q.1
    rw[hg]at h1
    have h2:p.1.natAbs*q.1.natAbs=g*(p.1*b).natAbs:=by
     rw[Int.natAbs_mul]
     conv=>lhs;rw[show q.1.natAbs=g*b.natAbs by rw[eb,Int.natAbs_mul,Int.natAbs_natCast]]
     rw[←Nat.mul_assoc,Nat.mul_comm p.1.natAbs g,Nat.mul_assoc]
    have h3:g*Int.lcm p.1 q.1=g*(p.1*b).natAbs:=by omega
    exact(Nat.eq_of_mul_eq_mul_left (by omega) h3).symm
   have hpb:0<p.1*b:=Int.mul_pos pp hb
   refine ZP (Zhd (by omega)) ⟨some _,rfl,⟨ZdI (by omega) _,fun x=>?_⟩,fun r e=>?_⟩
   ·rw[Zft (by omega),Zbw np,Zbw nq]
    have hx0:p.1*(d*y)=(q.2-p.2)+q.1*(d*z):=by
     rw[ed,ea,eb]
     have:(g:Int)*a*(d*y)=g*d*(a*y):=by
      rw[Int.mul_assoc,Int.mul_assoc,Int.mul_left_comm a d y]
     rw[this,hz,Int.mul_add,Int.mul_one]
     congr 1
     rw[Int.mul_assoc,Int.mul_assoc,Int.mul_left_comm d b z]
    constructor
    ·intro h
     have h1:p.1 ∣ x-(p.2+p.1*(d*y)):=Int.dvd_trans (Int.dvd_mul_right _ _) h
     have h2:q.1 ∣ x-(p.2+p.1*(d*y)):=Int.dvd_trans ⟨a,by rw[ea,eb];rw[Int.mul_assoc,Int.mul_assoc,Int.mul_comm a b]⟩ h
     refine⟨?_,?_⟩
     ·have:=Int.dvd_add h1 (Int.dvd_mul_right p.1 (d*y))
      rwa [show x-(p.2+p.1*(d*y))+p.1*(d*y)=x-p.2 by omega]at this
     ·have:=Int.dvd_add h2 (Int.dvd_mul_right q.1 (d*z))
      rwa [show x-(p.2+p.1*(d*y))+q.1*(d*z)=x-q.2 by omega]at this
    ·rintro⟨h1,h2⟩
     have h3:p.1 ∣ x-(p.2+p.1*(d*y)):=by
      have:=Int.dvd_sub h1 (Int.dvd_mul_right p.1 (d*y))
      rwa [show x-p.2-p.1*(d*y)=x-(p.2+p.1*(d*y))by omega]at this
     have h4:q.1 ∣ x-(p.2+p.1*(d*y)):=by
      have:=Int.dvd_sub h2 (Int.dvd_mul_right q.1 (d*z))
      rwa [show x-q.2-q.1*(d*z)=x-(p.2+p.1*(d*y))by omega]at this
     have h5:=Int.lcm_dvd (Int.dvd_natAbs.mpr h3) (Int.dvd_natAbs.mpr h4)
     rw[←hL]at h5
     have h6:(((p.1*b).natAbs:Nat):Int) ∣ (((x-(p.2+p.1*(d*y))).natAbs:Nat):Int):=Int.natCast_dvd_natCast.mpr h5
     exact Int.natAbs_dvd.mp (Int.dvd_natAbs.mp h6)
   ·cases e
    refine .inr (.inr ⟨c1,c2,?_⟩)
    unfold ZaG
    rw[if_neg (by omega)]
    show p.1*b=_
    rw[←hL]
    omega
  ·walk_at "zz"
   refine⟨none,rfl,fun x h=>c3 ?_,by simp⟩
   rw[Zbw np,Zbw nq]at h
   have h1:(g:Int) ∣ x-p.2:=Int.dvd_trans ⟨a,ea⟩ h.1
   have h2:(g:Int) ∣ x-q.2:=Int.dvd_trans ⟨b,eb⟩ h.2
   have h3:=Int.dvd_sub h1 h2
   rw[show x-p.2-(x-q.2)=q.2-p.2 by omega]at h3
   exact Int.emod_eq_zero_of_dvd h3
noncomputable def ZbF(a b:Option Int): Option Int:=if dec (leO a b)then a else b
noncomputable def ZaL: Option Int→Option Int→Option Int
 | some a,some b=>some (a+b)
 | _,_=>none
theorem addO_some{b:Option Int}: ZaL a b=some c↔∃x y,a=some x∧b=some y∧x+y=c:=by
 cases a <;> cases b <;> simp[ZaL]
theorem leO_total{b:Option Int}(h:¬leO a b): leO b a:=by
 cases a with
 | none=>exact ZfE
 | some x=>
  cases b with
  | none=>exact absurd ZfE h
  | some y=>rw[leO_some]at h ⊢;omega
theorem Zlp{b:Option Int}: leO (ZbF a b) a:=by
 unfold ZbF
 split
 ·exact Zc2
 ·rename_i h;exact leO_total fun q=>h (Zbv q)
theorem Zqe{b:Option Int}: leO (ZbF a b) b:=by
 unfold ZbF
 split
 ·rename_i h;exact dec_iff.mp h
 ·exact Zc2
theorem ZiX(a b:Option Int): ZbF a b=a∨ZbF a b=b:=by
 unfold ZbF;split <;> simp
theorem Zmb{b:Option Int}(h:leO a b)(k:leO b a): a=b:=by
 cases a with
 | none=>
  cases b with
  | none=>rfl
  | some y=>exact absurd h ZiW
 | some x=>
  cases b with
  | none=>exact absurd k ZiW
  | some y=>rw[leO_some]at h k;rw[show x=y by omega]
theorem Zez{b:Option Int}(h:leO a b): ZbF a b=a:=by unfold ZbF;rw[Zbv h];rfl
theorem Zf3: ZaL a (some 0)=a:=by cases a <;> simp[ZaL]
theorem Zja: ZaL (some 0) a=a:=by cases a <;> simp[ZaL]
theorem ZjR{b:Option Int}: Zeh [oT a,oT b]=some (oT (ZaL a b)):=by
 apply Pk.eq
 unfold Zeh ZhS
 cases a with
 | none=>
  rw[Za2]
  walk_at "zz"
  rfl
 | some x=>
  cases b with
  | none=>
   rw[Za2,Zao]
   walk_at "zz"
   rfl
  | some y=>
   rw[Zao,Zao]
   walk_at "zz"
   rfl
theorem Zns{b:Option Int}: ZfD [oT a,oT b]=some (oT (ZbF a b)):=by
 apply Pk.eq
 unfold ZfD Zis ZbF
 walk_at "zz"
 refine ZP Zma ?_
 walk_at "zz"
 refine⟨fun e=>?_,fun e=>?_⟩
 ·walk_at "zz"
  rw[e];rfl
 ·walk_at "zz"
  rw[e];rfl
noncomputable def ZcG(G:Nat→Nat→Option Int)(m:Nat): Nat→Nat→Option Int:=fun i j=>ZbF (G i j) (ZaL (G i m) (G m j))
theorem ZlE{a b:Nat→Option Int}{c:Option Int}(hn:n<10000): ZeY [Zaa n a,oT c,Zaa n b]=some (Zaa n fun j=>ZbF (a j) (ZaL c (b j))):=by
 apply Pk.eq
 unfold ZeY Zgs Zaa
 walk_at "zz"
 refine Zkx (n:=n) (a:=fun j=>oT (a j)) (b:=fun j=>oT (b j)) (c:=fun j=>oT (ZbF (a j) (ZaL c (b j)))) hn ?_ (fun j hj=>?_) ?_
 ·walk_at "zz"
  rfl
 ·walk_at "zz"
  refine ZP ZjR ?_
  walk_at "zz"
  exact ZP Zns ⟨ZfK,rfl⟩
 rfl
theorem Zmc{m:Nat}(hn:n<10000)(hm:m<n): Zfe [Zae n G,.int m]=some (Zae n (ZcG G m)):=by
 apply Pk.eq
 unfold Zfe Zhq Zae
 walk_at "zz"
 refine Zce (n:=n) (a:=fun i=>Zaa n (G i)) (b:=fun i=>Zaa n (ZcG G m i)) hn ?_ (fun i hi=>?_) ?_
 ·walk_at "zz"
  rfl
 ·have h:Zaa n (G i)=.lst (tab n fun j=>oT (G i j)):=rfl
  rw[h]
  walk_at "zz"
  rw[←h]
  exact ZP (ZlE hn) rfl
 rfl
noncomputable def Neg(n:Nat)(G:Nat→Nat→Option Int): Prop:=∃i,i<n∧∃b,G i i=some b∧b<0
theorem Zoa(hn:n≤1000)(hd:∀i,i<n→∃b,G i i=some b): Ze0 [Zae n G]=some (.bool (dec (Neg n G))):=by
 apply Pk.eq
 unfold Ze0 Zgy Zae Zaa
 walk_at "zz"
 refine Zce (n:=n) (a:=fun i=>.int i) (b:=fun i=>.bool (dec (∃b,G i i=some b∧b<0))) (by omega) ?_ (fun i hi=>?_) ?_
 ·walk_at "zz"
  rfl
 ·walk_at "zz"
  obtain⟨b,e⟩:=hd i hi
  rw[e,Zao]
  walk_at "zz"
  rw[Zfj]
  congr 1
  refine Zh5 ⟨fun h=>⟨b,rfl,h⟩,?_⟩
  rintro⟨c,e,h⟩
  cases e
  exact h
 walk_at "zz"
 rfl
noncomputable def Z3(G:Nat→Nat→Option Int): Nat→Nat→Nat→Option Int
 | 0=>G
 | m+1=>ZcG (Z3 G m) m
theorem ZkG{m:Nat}(h:∃b,G i i=some b): ∃b,ZcG G m i i=some b:=by
 obtain⟨b,e⟩:=h
 have:=Zlp (a:=G i i) (b:=ZaL (G i m) (G m i))
 rw[e]at this
 obtain⟨c,e2,_⟩:=this b rfl
 exact⟨c,by unfold ZcG;rw[e];exact e2⟩
theorem ZiY{n:Nat}{G:Nat→Nat→Option Int}(hd:∀i,i<n→∃b,G i i=some b): ∀m i,i<n→∃b,Z3 G m i i=some b
 | 0=>hd
 | m+1=>fun i hi=>ZkG (ZiY hd m i hi)
theorem Znt(h0:0<n)(hn:n≤1000)(hd:∀i,i<n→∃b,G i i=some b): Pk (Zen [Zae n G]) fun t=>(t=Zae n (Z3 G n)∧∀m,m<n→¬Neg n (Z3 G (m+1)))∨(t=.none∧∃m,m<n∧Neg n (Z3 G (m+1))):=by
 unfold Zen Ziu
 have hg:Zae n G=.lst (tab n fun i=>Zaa n (G i)):=rfl
 walk_at "zz"
 refine ZoX (n:=n) (a:=fun i=>.int i) h0 ?_ (P:=fun i σ=>σ 1=some (Zae n (Z3 G i))∧∀m,m<i→¬Neg n (Z3 G (m+1))) ⟨rfl,by omega⟩ ?_ ?_
 ·walk_at "zz"
  rw[hg]
  walk_at "zz"
  rfl
 ·rintro i σ hi ⟨e1,e2⟩
  walk_at "zz"
  refine ZP (Zmc (by omega) hi) ?_
  walk_at "zz"
  refine ZP (Zoa hn fun a ha=>ZkG (ZiY hd i a ha)) ?_
  walk_at "zz"
  refine⟨fun e=>?_,fun e=>?_⟩
  ·walk_at "zz"
   exact .inr ⟨rfl,i,hi,dec_iff.mp e⟩
  ·walk_at "zz"
   refine⟨by walk_at "zr",fun m hm=>?_⟩
   by_cases q:m=i
   ·subst q
    intro h
    have h2:dec (Neg n (ZcG (Z3 G m) m))=true:=Zbv h
    rw[h2]at e
    cases e
   ·exact e2 m (by omega)
 ·rintro σ ⟨e1,e2⟩
  walk_at "zz"
  exact .inl ⟨rfl,e2⟩
theorem Zlz{G:Nat→Nat→Option Int}: ∀m i j,leO (Z3 G m i j) (G i j)
 | 0=>fun _ _=>Zc2
 | m+1=>fun i j=>Znq Zlp (Zlz m i j)
theorem Zo9(hd:∀i,i<n→G i i=some 0){m:Nat}(hn:∀k,k<m→¬Neg n (Z3 G (k+1))): ∀i,i<n→Z3 G m i i=some 0:=by
 intro i hi
 obtain⟨b,e⟩:=ZiY (fun i hi=>⟨0,hd i hi⟩) m i hi
 have h:=Zlz m i i (G:=G)
 rw[hd i hi,e]at h
 have h1:=leO_some.mp h
 have h2:¬b<0:=fun q=>by
  cases m with
  | zero=>have:=hd i hi;rw[show Z3 G 0 i i=G i i from rfl,this]at e;cases e;omega
  | succ m=>exact hn m (by omega) ⟨i,hi,b,e,q⟩
 rw[e,show b=0 by omega]
noncomputable def Meets(n:Nat)(G:Nat→Nat→Option Int)(y:Nat→Int): Prop:=∀i j,i<n→j<n→∀b,G i j=some b→y i-y j≤b
theorem ZiB{n:Nat}{G:Nat→Nat→Option Int}{y:Nat→Int}(h:Meets n G y): ∀m,m≤n→Meets n (Z3 G m) y
 | 0,_=>h
 | m+1,hm=>by
  have ih:=ZiB h m (by omega)
  intro i j hi hj b e
  rcases ZiX (Z3 G m i j) (ZaL (Z3 G m i m) (Z3 G m m j))with e1 | e1
  ·rw[show Z3 G (m+1) i j=_ from e1]at e;exact ih i j hi hj b e
  ·rw[show Z3 G (m+1) i j=_ from e1]at e
   obtain⟨p,q,h1,h2,h3⟩:=addO_some.mp e
   have:=ih i m hi (by omega) p h1
   have:=ih m j (by omega) hj q h2
   omega
theorem Znu{y:Nat→Int}(h:Meets n G y): ¬Neg n G:=by
 rintro⟨i,hi,b,e,hb⟩
 have:=h i i hi hi b e
 omega
theorem Zj4(h:ZbO n G R x): Meets (n+1) G (ZaD x):=fun i j hi hj b e=>h.1 i j hi hj b e
theorem ZfB{k:Int}: Zdj [.int k]=some (.bool true):=by
 apply Pk.eq
 unfold Zdj Zhs
 walk_at "zz"
 rfl
theorem Zpa(hn:n≤1000)(hd:∀i,i<n→G i i=some 0): Zfp [Zae n G,.int n]=some (.bool true):=by
 apply Pk.eq
 unfold Zfp ZhV Zae Zaa
 walk_at "zz"
 refine Zcp (n:=n) (a:=fun i=>.int i) (P:=fun i σ=>σ 0=some (Zae n G)∧σ 1=some (.int n)) ?_ ⟨rfl,rfl⟩ ?_ ?_
 ·walk_at "zz"
  rfl
 ·rintro i σ hi ⟨e0,e1⟩
  unfold Zae Zaa at e0
  walk_at "zz"
  refine Zcp (n:=n) (a:=fun j=>oT (G i j)) (P:=fun j σ=>σ 0=some (Zae n G)∧σ 1=some (.int n)∧σ 2=some (.int i)) ?_ ⟨by walk_at "zr",by walk_at "zr",by walk_at "zr"⟩ ?_ ?_
  ·walk_at "zz"
   rfl
  ·rintro j σ hj ⟨f0,f1,f2⟩
   cases G i j with
   | none=>
    rw[Za2]
    walk_at "zz"
    exact⟨by walk_at "zr",by walk_at "zr",by walk_at "zr"⟩
   | some b=>
    rw[Zao]
    walk_at "zz"
    refine ZP ZfB ?_
    walk_at "zz"
    exact⟨by walk_at "zr",by walk_at "zr",by walk_at "zr"⟩
  ·rintro σ ⟨f0,f1,f2⟩
   unfold Zae Zaa at f0
   walk_at "zz"
   rw[hd i hi,Zao]
   walk_at "zz"
   exact⟨by walk_at "zr",by walk_at "zr"⟩
 ·rintro σ ⟨e0,e1⟩
  walk_at "zz"
  rfl
section
variable {Q:T→Prop}
end
noncomputable abbrev Sp:=Option Int×Option Int
noncomputable def Z0(s:Sp): T:=.tup [oT s.1,oT s.2]
theorem Zlq{s:Sp}: Pln (n+1) (Z0 s):=.tup fun t m=>by
 simp at m;rcases m with rfl | rfl <;> exact Zjl
noncomputable def SBd(k:Nat)(s:Sp): Prop:=(∀x,s.1=some x→Bd k x)∧∀x,s.2=some x→Bd k x
theorem ZjH{k:Int}(hi:i≤100000)(ha:∀x,a=some x→Bd i x)(hk:Bd i k): Zed [oT a,.int k]=some (oT (a.map fun x=>x*k)):=by
 apply Pk.eq
 unfold Zed Zhu
 cases a with
 | none=>
  simp only[Za2,Option.map_none]
  walk_at "zz"
  rfl
 | some x=>
  simp only[Zao,Option.map_some]
  walk_at "zz"
  refine Zco (Zc3 (ha x rfl) hk (by omega) (by omega)) ?_
  rfl
noncomputable def ZM(R:Nat→Int×Int): Nat→Int×Int:=cn (0,0) R
theorem ZqF(R:Nat→Int×Int): cn (T.tup [.int 0,.int 0]) (fun i=>Z5 (R i))=fun i=>Z5 (ZM R i):=by
 funext i;cases i <;> rfl
theorem ZjC(hn:n<9000): ZdB [Za6 n R]=some (Za6 (n+1) (ZM R)):=by
 apply Pk.eq
 unfold ZdB ZgN Za6
 walk_at "zz"
 rw[ZqF]
noncomputable def RB(M:Int)(k:Nat)(q:Int×Int): Prop:=RestOk q∧(q.1=0∨q.1 ∣ M)∧Bd k q.2
theorem RB.mono(h:RB M i q)(hij:i≤j): RB M j q:=⟨h.1,h.2.1,h.2.2.mono hij⟩
theorem RB.bd(hM:0<M)(bM:Bd k M)(h:RB M k q): RBd k q:=by
 refine⟨?_,h.2.2⟩
 rcases h.2.1 with e | e
 ·rw[e];exact ZcF
 ·exact Zdb bM h.1.nn (Int.le_of_dvd hM e)
theorem ZdK(h:∀t,t<n→RB M k (R t)): ∀i,i<n+1→RB M k (ZM R i)
 | 0,_=>⟨.inl rfl,.inl rfl,ZcF⟩
 | i+1,hi=>h i (by omega)
noncomputable def Zdo(n:Nat)(G:Nat→Nat→Option Int)(R:Nat→Int×Int)(i:Nat)(m:Nat)(x:Int): Prop:=Zan (ZM R i) x∧∀j,j<m→∀a b,G i j=some a→G j i=some b→a+b=0→Zan (ZM R j) (x-a)
noncomputable def Zf4(n:Nat)(G:Nat→Nat→Option Int)(R:Nat→Int×Int)(M:Int)(k:Nat)(i m:Nat)(o:Option (Int×Int)): Prop:=match o with
 | none=>∀x,¬Zdo n G R i m x
 | some q=>RB M k q∧∀x,Zan q x↔Zdo n G R i m x
theorem Zmp(h:RestOk q)(a x:Int): Zan (Zbi q (0,a)) x↔Zan q (x-a):=by
 unfold Zbi
 rw[Zft (by omega),Zbw h.nn]
 simp only[Int.gcd_zero_right]
 rw[Int.natAbs_of_nonneg h.nn,show x-(q.2+a)=x-a-q.2 by omega]
theorem ZlI(hn:n≤100)(hi:i<n+1)(hk:k≤7000)(hM:0<M)(bM:Bd k M)(bG:∀a b c,a<n+1→b<n+1→G a b=some c→Bd k c)(hR:∀t,t<n→RB M k (R t)): Pk (Zdh [Zae (n+1) G,Za6 (n+1) (ZM R),.int i]) fun t=>∃o,t=oR o∧Zf4 n G R M (k+1) i (n+1) o:=by
 unfold Zdh ZgA
 have hF:=ZdK hR
 have bM1:Bd (k+1) M:=bM.mono (by omega)
 have hr:Za6 (n+1) (ZM R)=.lst (tab (n+1) fun i=>Z5 (ZM R i)):=rfl
 rw[hr]
 walk_at "zz"
 refine ZiO (n:=n+1) (a:=fun j=>.int j) (c:=fun j=>Z5 (ZM R j)) (P:=fun m σ=>∃o,σ 0=some (Zae (n+1) G)∧σ 1=some (.lst (tab (n+1) fun i=>Z5 (ZM R i)))∧σ 2=some (.int i)∧σ 3=some (oR o)∧Zf4 n G R M (k+1) i m o) ?_ ⟨some (ZM R i),by walk_at "zr",by walk_at "zr",by walk_at "zr",by walk_at "zr",(hF i hi).mono (by omega),fun x=>⟨fun h=>⟨h,by omega⟩,fun h=>h.1⟩⟩ ?_ ?_
 ·walk_at "zz"
  rfl
 ·rintro j σ hj ⟨o,e0,e1,e2,e3,ho⟩
  unfold Zae Zaa at e0
  cases o with
  | none=>
   have e3':σ 3=some .none:=e3
   clear e3
   walk_at "zz"
   refine⟨none,by walk_at "zr",by walk_at "zr",by walk_at "zr",by walk_at "zr",fun x h=>ho x ⟨h.1,fun j' hj'=>h.2 j' (by omega)⟩⟩
  | some q=>
   have e3':σ 3=some (.tup [.int q.1,.int q.2]):=e3
   clear e3
   walk_at "zz"
   refine ZP ZjR ?_
   walk_at "zz"
   refine ZeD (Zjl (n:=0)) (.int (n:=0)) ?_
   walk_at "zz"
   have stay:(∀a b,G i j=some a→G j i=some b→¬a+b=0)→Zf4 n G R M (k+1) i (j+1) (some q):=fun h=>⟨ho.1,fun x=>(ho.2 x).trans ⟨fun hx=>⟨hx.1,fun j' hj' a b ha hb hab=>by
     by_cases q':j'=j
     ·subst q';exact absurd hab (h a b ha hb)
     ·exact hx.2 j' (by omega) a b ha hb hab⟩,fun hx=>⟨hx.1,fun j' hj'=>hx.2 j' (by omega)⟩⟩⟩
   refine⟨fun e=>?_,fun e=>?_⟩
   ·have e':=dec_iff.mp e
    rw[←Zao,Zp5]at e'
    obtain⟨a,b,ha,hb,hab⟩:=addO_some.mp e'
    walk_at "zz"
    rw[ha,Zao]
    have hj2:=hF j hj
    have ba:=bG i j a hi hj ha
    refine ZP (ZjG (p:=ZM R j) (q:=(0,a)) (k:=k) (by omega) (hj2.bd hM bM).1 ZcF) ?_
    have hpl:RB M (k+1) (Zbi (ZM R j) (0,a)):=by
     refine⟨ZiA _ _,?_,?_⟩
     ·unfold Zbi ZaG
      simp only[Int.gcd_zero_right]
      rw[Int.natAbs_of_nonneg hj2.1.nn]
      split
      ·exact .inl rfl
      ·exact hj2.2.1
     ·have hm:=(hj2.bd hM bM).1
      refine(Zkg (k:=k+1) (by omega) ?_ (Zlo hj2.2.2 ba)).2
      simp only[Int.gcd_zero_right]
      rw[Int.natAbs_of_nonneg hj2.1.nn]
      exact hm.mono (by omega)
    walk_at "zz"
    refine(Zmo (p:=q) (q:=Zbi (ZM R j) (0,a)) (k:=k+1) (by omega) ho.1.1 hpl.1 (ho.1.bd hM bM1) (hpl.bd hM bM1)).mono ?_
    rintro _ ⟨o',rfl,mt,wh⟩
    refine⟨o',by walk_at "zr",by walk_at "zr",by walk_at "zr",by walk_at "zr",?_⟩
    have hset:∀x,(Zan q x∧Zan (Zbi (ZM R j) (0,a)) x)↔Zdo n G R i (j+1) x:=fun x=>by
     rw[ho.2 x,Zmp hj2.1]
     constructor
     ·rintro⟨h1,h2⟩
      refine⟨h1.1,fun j' hj' c d hc hd hcd=>?_⟩
      by_cases q':j'=j
      ·subst q';rw[ha]at hc;cases hc;exact h2
      ·exact h1.2 j' (by omega) c d hc hd hcd
     ·intro h
      exact⟨⟨h.1,fun j' hj'=>h.2 j' (by omega)⟩,h.2 j (by omega) a b ha hb hab⟩
    cases o' with
    | none=>exact fun x hx=>mt x ((hset x).mpr hx)
    | some r=>
     refine⟨⟨mt.1,?_,?_⟩,fun x=>(mt.2 x).trans (hset x)⟩
     ·rcases wh r rfl with h | h | ⟨h1,h2,h3⟩
      ·rw[h];exact ho.1.2.1
      ·rw[h];exact hpl.2.1
      ·right
       rw[h3]
       exact Int.coe_lcm_dvd (ho.1.2.1.resolve_left h1) (hpl.2.1.resolve_left h2)
     ·rcases wh r rfl with h | h | ⟨h1,h2,h3⟩
      ·rw[h];exact ho.1.2.2
      ·rw[h];exact hpl.2.2
      ·rcases mt.1 with z | z
       ·have:(Int.lcm q.1 (Zbi (ZM R j) (0,a)).1)≠0:=Int.lcm_ne_zero h1 h2
        omega
       ·have hd:r.1 ∣ M:=by
         rw[h3]
         exact Int.coe_lcm_dvd (ho.1.2.1.resolve_left h1) (hpl.2.1.resolve_left h2)
        exact Zdb bM1 z.2.1 (by have:=Int.le_of_dvd hM hd;omega)
   ·walk_at "zz"
    refine⟨some q,by walk_at "zr",by walk_at "zr",by walk_at "zr",by walk_at "zr",stay fun a b ha hb hab=>?_⟩
    have:dec (oT (ZaL (G i j) (G j i))=.int 0)=true:=Zbv (by rw[ha,hb];simp[ZaL,oT,hab])
    rw[this]at e
    cases e
 ·rintro σ ⟨o,e0,e1,e2,e3,ho⟩
  walk_at "zz"
  exact⟨o,rfl,ho⟩
theorem Zlr: ZbD 1 1 1=some []:=by
 unfold ZbD
 rw[if_pos (by decide +kernel)]
 rfl
theorem ZqG{o:Option (Int×Int)}: Pln 1 (oR o):=by
 cases o with
 | none=>exact .none
 | some q=>exact Zlj
theorem oR_none{o:Option (Int×Int)}: oR o=.none↔o=none:=by cases o <;> simp[oR,Z5]
noncomputable def Hand(n:Nat)(G:Nat→Nat→Option Int)(R R':Nat→Int×Int)(M:Int)(k:Nat): Prop:=∀t,t<n→RB M k (R' t)∧∀x,Zan (R' t) x↔Zdo n G R (t+1) (n+1) x
theorem ZlN(hn:n≤100)(hk:k≤7000)(hM:0<M)(bM:Bd k M)(bG:∀a b c,a<n+1→b<n+1→G a b=some c→Bd k c)(hR:∀t,t<n→RB M k (R t)): Pk (ZcH [Zad n G R]) fun t=>(∃R',t=Zad n G R'∧Hand n G R R' M (k+1))∨(t=.none∧∃i,i<n∧∀x,¬Zdo n G R (i+1) (n+1) x):=by
 unfold ZcH Zd6
 have ht:Zad n G R=.tup [Zae (n+1) G,Za6 n R]:=rfl
 rw[ht]
 walk_at "zz"
 refine ZP (ZjC (by omega)) ?_
 have hr:Za6 (n+1) (ZM R)=.lst (tab (n+1) fun i=>Z5 (ZM R i)):=rfl
 walk_at "zz"
 refine Znp oR (fun t o=>Zf4 n G R M (k+1) (t+1) (n+1) o) (n:=n) (a:=fun i=>.int (i+1)) (by omega) ?_ (fun t ht=>?_) none (fun y hy=>?_)
 ·by_cases h0:n=0
  ·subst h0
   exact⟨[],Zet (a:=1) (b:=1) rfl Zlr,rfl⟩
  ·rw[hr]
   walk_at "zz"
   refine Rn.two 1 n (by decide) (by omega) (by omega) (by omega) ?_
   refine ZbG fun i _=>?_
   congr 1
   omega
 ·walk_at "zz"
  refine(ZlI (i:=t+1) hn (by omega) hk hM bM bG hR).mono ?_
  rintro _ ⟨o,rfl,ho⟩
  exact⟨o,rfl,ho⟩
 ·walk_at "zz"
  refine Zlx (.none (n:=0)) (ZeE (n:=1) fun i _=>ZqG) ?_
  by_cases hc:∃i,i<n∧y i=none
  ·obtain⟨i,hi,ei⟩:=hc
   rw[Zbv (show T.none∈tab n fun i=>oR (y i)from List.mem_of_getElem? (i:=i) (by rw[Zbu hi,ei];rfl))]
   walk_at "zz"
   refine .inr ⟨rfl,i,hi,?_⟩
   have:=hy i hi
   rw[ei]at this
   exact this
  ·rw[Zc9 (show ¬T.none∈tab n fun i=>oR (y i)from fun h=>by
    obtain⟨i,hi,e⟩:=ZfJ h
    exact hc ⟨i,hi,oR_none.mp e.symm⟩)]
   walk_at "zz"
   have hs:∀i,i<n→y i=some ((y i).getD (1,0)):=fun i hi=>by
    cases e:y i with
    | none=>exact absurd ⟨i,hi,e⟩ hc
    | some q=>rfl
   refine .inl ⟨fun i=>(y i).getD (1,0),?_,fun t ht=>?_⟩
   ·unfold Zad Za6
    congr 4
    refine ZbG fun i hi=>?_
    conv=>lhs;rw[hs i hi]
    rfl
   ·have:=hy t ht
    rw[hs t ht]at this
    exact this
theorem Zjw: ZcH [.none]=some .none:=by
 apply Pk.eq
 unfold ZcH Zd6
 walk_at "zz"
 rfl
noncomputable def ZaM(R:Nat→Int×Int)(i j:Nat): Int×Int:=Zbi (ZM R i) (Zcq (ZM R j) (-1))
noncomputable def ZaZ(b:Option Int)(q:Int×Int): Option Int:=match b with
 | some b=>ZcB q b
 | none=>if q.1=0 then some q.2 else none
noncomputable def Za0(G:Nat→Nat→Option Int)(R:Nat→Int×Int): Nat→Nat→Option Int:=fun i j=>ZaZ (G i j) (ZaM R i j)
noncomputable def ZdN(n:Nat)(G:Nat→Nat→Option Int)(R:Nat→Int×Int): Prop:=∃i j,i<n+1∧j<n+1∧∃b,G i j=some b∧Za0 G R i j=none
theorem ZlF{b:Option Int}(hq:0≤q.1): ZeZ [oT b,Z5 q]=some (oT (ZaZ b q)):=by
 apply Pk.eq
 unfold ZeZ Zgv ZaZ
 cases b with
 | none=>
  have ep:Z5 q=.tup [.int q.1,.int q.2]:=rfl
  rw[Za2,ep]
  by_cases c:q.1=0
  ·walk_at "zz"
   simp[c,oT]
  ·walk_at "zz"
   simp[c,oT]
 | some b=>
  rw[Zao]
  walk_at "zz"
  exact ZP (ZlZ hq) rfl
theorem ZlO{b:Nat→Option Int}(hn:n≤100)(hi:i<n+1)(hk:k≤7000)(hM:0<M)(bM:Bd k M)(hR:∀t,t<n→RB M k (R t)): Pk (Ze4 [Zaa (n+1) b,Z5 (ZM R i),Za6 (n+1) (ZM R)]) fun t=>(t=Zaa (n+1) (fun j=>ZaZ (b j) (ZaM R i j))∧∀j,j<n+1→∀c,b j=some c→ZaZ (b j) (ZaM R i j)≠none)∨(t=.none∧∃j,j<n+1∧∃c,b j=some c∧ZaZ (b j) (ZaM R i j)=none):=by
 unfold Ze4 ZgR
 have hF:=ZdK hR
 have hb:Zaa (n+1) b=.lst (tab (n+1) fun j=>oT (b j)):=rfl
 have hr:Za6 (n+1) (ZM R)=.lst (tab (n+1) fun i=>Z5 (ZM R i)):=rfl
 rw[hb,hr]
 walk_at "zz"
 refine ZiO (n:=n+1) (a:=fun j=>oT (b j)) (c:=fun j=>Z5 (ZM R j)) (P:=fun m σ=>σ 1=some (Z5 (ZM R i))∧σ 3=some (.lst (tab m fun j=>oT (ZaZ (b j) (ZaM R i j))))∧∀j,j<m→∀c,b j=some c→ZaZ (b j) (ZaM R i j)≠none) ?_ ⟨by walk_at "zr",by walk_at "zr",by omega⟩ ?_ ?_
 ·walk_at "zz"
  rfl
 ·rintro j σ hj ⟨e1,e3,st⟩
  have h1:=hF i hi
  have h2:=hF j hj
  have b1:=h1.bd hM bM
  have b2:=h2.bd hM bM
  have bt:Bd (k+1) (Zcq (ZM R j) (-1)).1:=by
   refine(Zkg (k:=k+1) (Int.mul_nonneg h2.1.nn (Zdn _)) ?_ ?_).1
   ·have:=Zf1 b2.1 (show Bd 1 (Zbc (-1))by unfold Bd;decide);exact this
   ·have:=Zf1 b2.2 (show Bd 1 (-1)by unfold Bd;decide);exact this
  walk_at "zz"
  refine ZP (ZlY (p:=ZM R j) (c:=-1) (k:=k+1) (by omega) h2.1.nn ⟨b2.1.mono (by omega),b2.2.mono (by omega)⟩ (show Bd (k+1) (-1)from(show Bd 1 (-1)by unfold Bd;decide).mono (by omega))) ?_
  walk_at "zz"
  refine ZP (ZjG (k:=k+1) (by omega) (b1.1.mono (by omega)) bt) ?_
  walk_at "zz"
  refine ZP (ZlF (ZiA _ _).nn) ?_
  have hd:Zbi (ZM R i) (Zcq (ZM R j) (-1))=ZaM R i j:=rfl
  rw[hd]
  walk_at "zz"
  have app:∀w,w=oT (ZaZ (b j) (ZaM R i j))→tab j (fun j=>oT (ZaZ (b j) (ZaM R i j)))++[w]=tab (j+1) fun j=>oT (ZaZ (b j) (ZaM R i j)):=fun w e=>by rw[e];exact Zdl
  cases hl:ZaZ (b j) (ZaM R i j)with
  | none=>
   rw[Za2]
   walk_at "zz"
   cases hbj:b j with
   | none=>
    rw[Za2]
    walk_at "zz"
    rw[app _ (by rw[hl];rfl)]
    refine⟨by walk_at "zr",by walk_at "zr",fun j' hj' c hc=>?_⟩
    by_cases q:j'=j
    ·subst q;rw[hbj]at hc;cases hc
    ·exact st j' (by omega) c hc
   | some c=>
    rw[Zao]
    walk_at "zz"
    exact .inr ⟨rfl,j,hj,c,hbj,hl⟩
  | some v=>
   rw[Zao]
   walk_at "zz"
   rw[app _ (by rw[hl];rfl)]
   refine⟨by walk_at "zr",by walk_at "zr",fun j' hj' c hc=>?_⟩
   by_cases q:j'=j
   ·subst q;rw[hl];simp
   ·exact st j' (by omega) c hc
 ·rintro σ ⟨e1,e3,st⟩
  walk_at "zz"
  exact .inl ⟨rfl,st⟩
noncomputable def Zd1(n:Nat): Option (Nat→Option Int)→T
 | none=>.none
 | some b=>Zaa n b
theorem Zpb{o:Option (Nat→Option Int)}: Pln 1 (Zd1 n o):=by
 cases o with
 | none=>exact .none
 | some q=>exact ZkX
theorem ZmP{g:PG}{a b:Nat→T}{f:PE}(e:β→T)(P:Nat→β→Prop)(hn:n<10000)(hg:Pl (g σ) fun ts=>ts=tab n fun i=>.tup [a i,b i])(hf:∀i,i<n→Pk (f (ZI (ZI σ j (a i)) k (b i))) fun t=>∃y,t=e y∧P i y)(d:β)(h:∀y:Nat→β,(∀i,i<n→P i (y i))→Q (.lst (tab n fun i=>e (y i)))): Pk (ZaA g (Zcr j k) Zaj f σ) Q:=by
 have hc:∃y:Nat→β,∀i,i<n→Pk (f (ZI (ZI σ j (a i)) k (b i))) (fun t=>t=e (y i))∧P i (y i):=by
  have hx:∀i,∃y:β,i<n→Pk (f (ZI (ZI σ j (a i)) k (b i))) (fun t=>t=e y)∧P i y:=fun i=>by
   by_cases q:i<n
   ·obtain⟨t,e1,y,e2,p⟩:=hf i q
    exact⟨y,fun _=>⟨⟨t,e1,e2⟩,p⟩⟩
   ·exact⟨d,fun h=>absurd h q⟩
  exact⟨fun i=>Classical.choose (hx i),fun i=>Classical.choose_spec (hx i)⟩
 obtain⟨y,hy⟩:=hc
 exact Zkx hn hg (fun i hi=>(hy i hi).1) (h y fun i hi=>(hy i hi).2)
theorem oRow_none{o:Option (Nat→Option Int)}: Zd1 n o=.none↔o=none:=by cases o <;> simp[Zd1,Zaa]
theorem ZmQ(hn:n≤100)(hk:k≤7000)(hM:0<M)(bM:Bd k M)(hR:∀t,t<n→RB M k (R t)): Pk (ZdH [Zad n G R]) fun t=>(t=Zad n (Za0 G R) R∧¬ZdN n G R)∨(t=.none∧ZdN n G R):=by
 unfold ZdH Zfy
 have ht:Zad n G R=.tup [.lst (tab (n+1) fun i=>Zaa (n+1) (G i)),Za6 n R]:=rfl
 rw[ht]
 walk_at "zz"
 refine ZP (ZjC (by omega)) ?_
 have hr:Za6 (n+1) (ZM R)=.lst (tab (n+1) fun i=>Z5 (ZM R i)):=rfl
 walk_at "zz"
 refine ZmP (Zd1 (n+1)) (fun i o=>match o with
  | none=>∃j,j<n+1∧∃c,G i j=some c∧Za0 G R i j=none
  | some b=>b=Za0 G R i∧∀j,j<n+1→∀c,G i j=some c→Za0 G R i j≠none) (n:=n+1) (a:=fun i=>Zaa (n+1) (G i)) (b:=fun i=>Z5 (ZM R i)) (by omega) ?_ (fun i hi=>?_) none (fun y hy=>?_)
 ·rw[hr]
  walk_at "zz"
  rfl
 ·walk_at "zz"
  refine(ZlO hn hi hk hM bM hR).mono ?_
  rintro t (⟨rfl,h⟩ | ⟨rfl,h⟩)
  ·exact⟨some (Za0 G R i),rfl,rfl,h⟩
  ·exact⟨none,rfl,h⟩
 ·walk_at "zz"
  refine Zlx (.none (n:=0)) (ZeE (n:=1) fun i _=>Zpb) ?_
  by_cases hc:∃i,i<n+1∧y i=none
  ·obtain⟨i,hi,ei⟩:=hc
   rw[Zbv (show T.none∈tab (n+1) fun i=>Zd1 (n+1) (y i)from List.mem_of_getElem? (i:=i) (by rw[Zbu hi,ei];rfl))]
   walk_at "zz"
   have:=hy i hi
   rw[ei]at this
   obtain⟨j,hj,c,h1,h2⟩:=this
   exact .inr ⟨rfl,i,j,hi,hj,c,h1,h2⟩
  ·rw[Zc9 (show ¬T.none∈tab (n+1) fun i=>Zd1 (n+1) (y i)from fun h=>by
    obtain⟨i,hi,e⟩:=ZfJ h
    exact hc ⟨i,hi,oRow_none.mp e.symm⟩)]
   walk_at "zz"
   have hs:∀i,i<n+1→y i=some (Za0 G R i)∧∀j,j<n+1→∀c,G i j=some c→Za0 G R i j≠none:=fun i hi=>by
    have:=hy i hi
    cases e:y i with
    | none=>exact absurd ⟨i,hi,e⟩ hc
    | some b=>rw[e]at this;exact⟨by rw[this.1],this.2⟩
   refine .inl ⟨?_,?_⟩
   ·unfold Zad Zae
    congr 3
    refine ZbG fun i hi=>?_
    rw[(hs i hi).1]
    rfl
   ·rintro⟨i,j,hi,hj,c,h1,h2⟩
    exact(hs i hi).2 j hj c h1 h2
theorem Zmd: ZdH [.none]=some .none:=by
 apply Pk.eq
 unfold ZdH Zfy
 walk_at "zz"
 rfl
theorem Znv: Zc8 [.none]=some .none:=by
 apply Pk.eq
 unfold Zc8 ZfX
 walk_at "zz"
 rfl
noncomputable def Zca(n:Nat)(G:Nat→Nat→Option Int): Prop:=∃m,m<n∧Neg n (Z3 G (m+1))
theorem Zpc(hn:n≤100)(hd:∀i,i<n+1→G i i=some 0): Pk (Zc8 [Zad n G R]) fun t=>(t=Zad n (Z3 G (n+1)) R∧¬Zca (n+1) G)∨(t=.none∧Zca (n+1) G):=by
 unfold Zc8 ZfX
 have ht:Zad n G R=.tup [Zae (n+1) G,Za6 n R]:=rfl
 rw[ht]
 walk_at "zz"
 refine(Znt (n:=n+1) (by omega) (by omega) fun i hi=>⟨0,hd i hi⟩).mono ?_
 rintro t (⟨rfl,h⟩ | ⟨rfl,h⟩)
 ·have hg:Zae (n+1) (Z3 G (n+1))=.lst (tab (n+1) fun i=>Zaa (n+1) (Z3 G (n+1) i)):=rfl
  rw[hg]
  walk_at "zz"
  exact .inl ⟨rfl,fun⟨m,hm,q⟩=>h m hm q⟩
 ·walk_at "zz"
  exact .inr ⟨rfl,h⟩
noncomputable def BdG(n k:Nat)(G:Nat→Nat→Option Int): Prop:=∀a b c,a<n→b<n→G a b=some c→Bd k c
theorem Zjm{n k:Nat}{G:Nat→Nat→Option Int}(h:BdG n k G): ∀m,m≤n→BdG n (k+m) (Z3 G m)
 | 0,_=>h
 | m+1,hm=>fun a b c ha hb e=>by
  have ih:=Zjm h m (by omega)
  rcases ZiX (Z3 G m a b) (ZaL (Z3 G m a m) (Z3 G m m b))with e1 | e1
  ·rw[show Z3 G (m+1) a b=_ from e1]at e
   exact(ih a b c ha hb e).mono (by omega)
  ·rw[show Z3 G (m+1) a b=_ from e1]at e
   obtain⟨p,q,h1,h2,rfl⟩:=addO_some.mp e
   exact Zlo (ih a m p ha (by omega) h1) (ih m b q (by omega) hb h2)
theorem Zj5(h:RestOk q): Zcq q (-1)=ZaG q.1 (-q.2):=by
 unfold Zcq
 rw[show Zbc (-1)=1 from rfl,Int.mul_one,Int.mul_neg,Int.mul_one]
theorem ZdF: (ZaG m r).1=m:=by
 unfold ZaG;split
 ·rename_i c;exact c.symm
 ·rfl
theorem ZfF(hi:RestOk (ZM R i))(hj:RestOk (ZM R j))(x:Int): Zan (ZaM R i j) x↔((Int.gcd (ZM R i).1 (ZM R j).1:Nat):Int) ∣ x-((ZM R i).2-(ZM R j).2):=by
 unfold ZaM Zbi
 rw[Zft (by omega),Zj5 hj,ZdF]
 have hr:=Zft hj.nn (r:=-(ZM R j).2) (ZaG (ZM R j).1 (-(ZM R j).2)).2
 have hs:=(hr.mp (ZdI hj.nn _).self)
 generalize (ZaG (ZM R j).1 (-(ZM R j).2)).2=s at *
 have hg:((Int.gcd (ZM R i).1 (ZM R j).1:Nat):Int) ∣ s - -(ZM R j).2:=Int.dvd_trans (Int.gcd_dvd_right ..) hs
 constructor
 ·intro h
  have:=Int.dvd_add h hg
  rwa [show x-((ZM R i).2+s)+(s - -(ZM R j).2)=x-((ZM R i).2-(ZM R j).2)by omega]at this
 ·intro h
  have:=Int.dvd_sub h hg
  rwa [show x-((ZM R i).2-(ZM R j).2)-(s - -(ZM R j).2)=x-((ZM R i).2+s)by omega]at this
theorem Zkh(h0:RestOk q)(h:ZcB q b=some c): c≤b∧Zan q c∧(q.1=0∨b-c<q.1):=by
 unfold ZcB at h
 split at h
 ·rename_i z
  split at h
  ·cases h
   exact⟨by assumption,h0.self,.inl z⟩
  ·cases h
 ·rename_i z
  cases h
  have hp:0<q.1:=by have:=h0.nn;omega
  have h1:=Int.emod_nonneg (b-q.2) z
  have h2:=Int.emod_lt_of_pos (b-q.2) hp
  refine⟨by omega,?_,.inr (by omega)⟩
  rw[Zbw h0.nn]
  have h3:=Int.emod_add_mul_ediv (b-q.2) q.1
  exact⟨(b-q.2) / q.1,by omega⟩
theorem Zh1{x:Int}(h0:RestOk q)(hx:Zan q x)(hb:x≤b): ∃c,ZcB q b=some c∧x≤c:=by
 unfold ZcB
 rw[Zbw h0.nn]at hx
 split
 ·rename_i z
  rw[z,Int.zero_dvd]at hx
  rw[if_pos (by omega)]
  exact⟨_,rfl,by omega⟩
 ·rename_i z
  have hp:0<q.1:=by have:=h0.nn;omega
  refine⟨_,rfl,?_⟩
  obtain⟨t,ht⟩:=hx
  have h3:=Int.emod_add_mul_ediv (b-q.2) q.1
  have h2:=Int.emod_lt_of_pos (b-q.2) hp
  have h4:t≤(b-q.2) / q.1:=Int.le_ediv_of_mul_le hp (by rw[Int.mul_comm];omega)
  have h5:q.1*t≤q.1*((b-q.2) / q.1):=Int.mul_le_mul_of_nonneg_left h4 (by omega)
  omega
theorem Zdp(R:Nat→Int×Int)(i j:Nat): RestOk (ZaM R i j):=ZiA _ _
theorem Zqf(hM:0<M)(bM:Bd k M)(hG:BdG (n+1) k G)(hR:∀t,t<n→RB M k (R t)): BdG (n+1) (k+1) (Za0 G R):=by
 intro i j c hi hj e
 have h1:=ZdK hR i hi
 have h2:=ZdK hR j hj
 have hd1:(ZaM R i j).1=((Int.gcd (ZM R i).1 (ZM R j).1:Nat):Int):=by
  unfold ZaM Zbi
  rw[ZdF,Zj5 h2.1,ZdF]
 have hb1:=(h1.bd hM bM).1
 have hb2:=(h2.bd hM bM).1
 have hm:Bd k (ZaM R i j).1:=by
  rw[hd1]
  by_cases z:(ZM R i).1=0
  ·rw[z,Int.gcd_zero_left]
   unfold Bd at *
   simpa using hb2
  ·have:=Int.gcd_le_natAbs_left (b:=(ZM R j).1) z
   unfold Bd at *
   simp only[Int.natAbs_natCast]
   omega
 unfold Za0 ZaZ at e
 cases hg:G i j with
 | some b=>
  rw[hg]at e
  obtain⟨u1,u2,u3⟩:=Zkh (Zdp R i j) e
  have hbb:=hG i j b hi hj hg
  rcases u3 with z | z
  ·have hx:=(ZfF h1.1 h2.1 c).mp u2
   rw[hd1]at z
   rw[z,Int.zero_dvd]at hx
   have:c=(ZM R i).2-(ZM R j).2:=by omega
   rw[this]
   exact Bd.sub h1.2.2 h2.2.2
  ·unfold Bd at *
   rw[Nat.pow_succ]
   omega
 | none=>
  rw[hg]at e
  simp only at e
  split at e
  ·rename_i z
   cases e
   have hx:=(ZfF h1.1 h2.1 (ZaM R i j).2).mp (Zdp R i j).self
   rw[hd1]at z
   rw[z,Int.zero_dvd]at hx
   have:(ZaM R i j).2=(ZM R i).2-(ZM R j).2:=by omega
   rw[this]
   exact Bd.sub h1.2.2 h2.2.2
  ·cases e
noncomputable def ZfG(n:Nat)(C:Nat→Nat→Option Int)(R:Nat→Int×Int): Prop:=∃i,i<n∧∀x,¬Zdo n C R (i+1) (n+1) x
theorem Zk4{ts:List T}(h:Pk (Z6 1 ZfY ts) fun t=>Zew t=true∧Q t): Pk (Zdq ts) Q:=by
 obtain⟨t,e,o,q⟩:=h
 exact⟨t,by simp only[Zdq,e,Option.bind_some,o,if_true],q⟩
theorem Zpd: Zew (Zad n G R)=true:=Zka fun _ _=>ZfC
theorem Zk5(hn:n≤100)(hk:k+n+1≤7000)(hM:0<M)(bM:Bd k M)(hd:∀i,i<n+1→G i i=some 0)(bG:BdG (n+1) k G)(hR:∀t,t<n→RB M k (R t)): Pk (Zdq [Zad n G R]) fun t=>(∃R',t=Zad n (Z3 G (n+1)) R'∧¬Zca (n+1) G∧Hand n (Z3 G (n+1)) R R' M (k+n+2))∨(t=.none∧(Zca (n+1) G∨(¬Zca (n+1) G∧ZfG n (Z3 G (n+1)) R))):=by
 refine Zk4 ?_
 unfold ZfY
 walk_at "zz"
 refine(Zpc hn hd).mono ?_
 rintro t (⟨rfl,h⟩ | ⟨rfl,h⟩)
 ·walk_at "zz"
  refine(ZlN (k:=k+n+1) hn hk hM (bM.mono (by omega)) (Zjm bG (n+1) (by omega)) (fun t ht=>(hR t ht).mono (by omega))).mono ?_
  rintro t (⟨R',rfl,h2⟩ | ⟨rfl,h2⟩)
  ·exact⟨Zpd,.inl ⟨R',rfl,h,h2⟩⟩
  ·exact⟨rfl,.inr ⟨rfl,.inr ⟨h,h2⟩⟩⟩
 ·walk_at "zz"
  exact ZP Zjw ⟨rfl,.inr ⟨rfl,.inl h⟩⟩
theorem Zki: Zdq [.none]=some .none:=by
 apply Pk.eq
 refine Zk4 ?_
 unfold ZfY
 walk_at "zz"
 refine ZP Znv ?_
 walk_at "zz"
 exact ZP Zjw ⟨rfl,rfl⟩
theorem Zob(hR:∀i,i<n+1→RestOk (ZM R i))(hd:∀i,i<n+1→G i i=some 0): ∀i,i<n+1→Za0 G R i i=some 0:=by
 intro i hi
 unfold Za0 ZaZ
 rw[hd i hi]
 have h0:Zan (ZaM R i i) 0:=(ZfF (hR i hi) (hR i hi) 0).mpr (by simp)
 obtain⟨c,e,hc⟩:=Zh1 (Zdp R i i) h0 (Int.le_refl 0)
 have:=(Zkh (Zdp R i i) e).1
 show ZcB (ZaM R i i) 0=some 0
 rw[e,show c=0 by omega]
structure Sharp(n:Nat)(G:Nat→Nat→Option Int)(R:Nat→Int×Int)(G2:Nat→Nat→Option Int)(R2:Nat→Int×Int)(M:Int)(k:Nat): Prop where
 go:∃R1,¬Zca (n+1) G∧Hand n (Z3 G (n+1)) R R1 M k∧¬ZdN n (Z3 G (n+1)) R1∧¬Zca (n+1) (Za0 (Z3 G (n+1)) R1)∧G2=Z3 (Za0 (Z3 G (n+1)) R1) (n+1)∧Hand n G2 R1 R2 M k
noncomputable def Zij(n:Nat)(G:Nat→Nat→Option Int)(R:Nat→Int×Int)(M:Int)(k:Nat): Prop:=Zca (n+1) G∨(¬Zca (n+1) G∧ZfG n (Z3 G (n+1)) R)∨∃R1,¬Zca (n+1) G∧Hand n (Z3 G (n+1)) R R1 M k∧(ZdN n (Z3 G (n+1)) R1∨(¬ZdN n (Z3 G (n+1)) R1∧(Zca (n+1) (Za0 (Z3 G (n+1)) R1)∨(¬Zca (n+1) (Za0 (Z3 G (n+1)) R1)∧ZfG n (Z3 (Za0 (Z3 G (n+1)) R1) (n+1)) R1))))
theorem Hand.mono{R':Nat→Int×Int}(h:Hand n G R R' M i)(hij:i≤j): Hand n G R R' M j:=fun t ht=>⟨(h t ht).1.mono hij,(h t ht).2⟩
theorem Zoc(hn:n≤100)(hk:k+2*n+4≤7000)(hM:0<M)(bM:Bd k M)(hd:∀i,i<n+1→G i i=some 0)(bG:BdG (n+1) k G)(hR:∀t,t<n→RB M k (R t)): Pk (Zex [Zad n G R]) fun t=>(∃G2 R2,t=Zad n G2 R2∧Sharp n G R G2 R2 M (k+2*n+5))∨(t=.none∧Zij n G R M (k+n+2)):=by
 unfold Zex ZiV
 walk_at "zz"
 refine(Zk5 hn (by omega) hM bM hd bG hR).mono ?_
 rintro t (⟨R1,rfl,nr,h1⟩ | ⟨rfl,h⟩)
 ·have hR1:∀t,t<n→RB M (k+n+2) (R1 t):=fun t ht=>(h1 t ht).1
  have hF1:=ZdK hR1
  have z1:=Zo9 hd (m:=n+1) fun m hm q=>nr ⟨m,hm,q⟩
  walk_at "zz"
  refine(ZmQ hn (by omega) hM (bM.mono (by omega)) hR1).mono ?_
  rintro t (⟨rfl,nl⟩ | ⟨rfl,fl⟩)
  ·walk_at "zz"
   have bG1:BdG (n+1) (k+n+3) (Za0 (Z3 G (n+1)) R1):=Zqf hM (bM.mono (by omega)) (fun a b c ha hb e=>(Zjm bG (n+1) (by omega) a b c ha hb e).mono (by omega)) hR1
   refine(Zk5 (k:=k+n+3) hn (by omega) hM (bM.mono (by omega)) (Zob (fun i hi=>(hF1 i hi).1) z1) bG1 (fun t ht=>(hR1 t ht).mono (by omega))).mono ?_
   rintro t (⟨R2,rfl,nr2,h2⟩ | ⟨rfl,h2⟩)
   ·exact .inl ⟨_,R2,rfl,⟨R1,nr,h1.mono (by omega),nl,nr2,rfl,h2.mono (by omega)⟩⟩
   ·exact .inr ⟨rfl,.inr (.inr ⟨R1,nr,h1,.inr ⟨nl,h2⟩⟩)⟩
  ·walk_at "zz"
   exact ZP Zki (.inr ⟨rfl,.inr (.inr ⟨R1,nr,h1,.inl fl⟩)⟩)
 ·walk_at "zz"
  refine ZP Zmd ?_
  walk_at "zz"
  refine ZP Zki (.inr ⟨rfl,?_⟩)
  rcases h with h | h
  ·exact .inl h
  ·exact .inr (.inl h)
theorem Zh2(h:ZbO n G R x): ZbO n (Z3 G (n+1)) R x:=⟨fun i j hi hj b e=>ZiB (Zj4 h) (n+1) (by omega) i j hi hj b e,h.2⟩
theorem ZjS(h:ZbO n G R x): ¬Zca (n+1) G:=fun⟨m,hm,q⟩=>Znu (ZiB (Zj4 h) (m+1) (by omega)) q
theorem Zik(h:ZbO n G R x): ∀i,i<n+1→Zan (ZM R i) (ZaD x i)
 | 0,_=>⟨fun _=>rfl,fun q=>absurd q (show ¬(0:Int)<0 by decide)⟩
 | i+1,hi=>h.2 i (by omega)
theorem Zkj(h:ZbO n G R x){t:Nat}(ht:t<n): Zdo n G R (t+1) (n+1) (x t):=by
 refine⟨h.2 t ht,fun j hj a b ha hb hab=>?_⟩
 have h1:=h.1 (t+1) j (by omega) hj a ha
 have h2:=h.1 j (t+1) hj (by omega) b hb
 have h3:ZaD x (t+1)=x t:=rfl
 rw[h3]at h1 h2
 rw[show x t-a=ZaD x j by omega]
 exact Zik h j hj
theorem Zmq{R':Nat→Int×Int}(h:ZbO n G R x)(q:Hand n G R R' M k): ZbO n G R' x:=⟨h.1,fun t ht=>((q t ht).2 _).mpr (Zkj h ht)⟩
theorem ZkH(hR:∀i,i<n+1→RestOk (ZM R i))(h:ZbO n G R x)(hi:i<n+1)(hj:j<n+1): Zan (ZaM R i j) (ZaD x i-ZaD x j):=by
 rw[ZfF (hR i hi) (hR j hj)]
 have h1:=(Zbw (hR i hi).nn _).mp (Zik h i hi)
 have h2:=(Zbw (hR j hj).nn _).mp (Zik h j hj)
 have h3:=Int.dvd_sub (Int.dvd_trans (Int.gcd_dvd_left (b:=(ZM R j).1) ..) h1) (Int.dvd_trans (Int.gcd_dvd_right (a:=(ZM R i).1) ..) h2)
 rwa [show ZaD x i-(ZM R i).2-(ZaD x j-(ZM R j).2)=ZaD x i-ZaD x j-((ZM R i).2-(ZM R j).2)by omega]at h3
theorem ZmR(hR:∀i,i<n+1→RestOk (ZM R i))(h:ZbO n G R x): ¬ZdN n G R:=by
 rintro⟨i,j,hi,hj,b,e,hn⟩
 obtain⟨c,e2,_⟩:=Zh1 (Zdp R i j) (ZkH hR h hi hj) (h.1 i j hi hj b e)
 unfold Za0 ZaZ at hn
 rw[e]at hn
 simp only at hn
 rw[e2]at hn
 cases hn
theorem Zod(hR:∀i,i<n+1→RestOk (ZM R i))(h:ZbO n G R x): ZbO n (Za0 G R) R x:=by
 refine⟨fun i j hi hj b e=>?_,h.2⟩
 have hd:=ZkH hR h hi hj
 unfold Za0 ZaZ at e
 cases hg:G i j with
 | some c=>
  rw[hg]at e
  simp only at e
  obtain⟨d,e2,hle⟩:=Zh1 (Zdp R i j) hd (h.1 i j hi hj c hg)
  rw[e2]at e
  cases e
  exact hle
 | none=>
  rw[hg]at e
  simp only at e
  split at e
  ·rename_i z
   cases e
   rw[Zbw (Zdp R i j).nn,z,Int.zero_dvd]at hd
   omega
  ·cases e
theorem Zmr(h:ZbO n G R x): ¬Zij n G R M k:=by
 have hf:∀{G:Nat→Nat→Option Int} {R:Nat→Int×Int},ZbO n G R x→¬ZfG n G R:=fun h ⟨i,hi,q⟩=>q _ (Zkj h hi)
 rintro(q | ⟨_,q⟩ | ⟨R1,_,h2,q⟩)
 ·exact ZjS h q
 ·exact hf (Zh2 h) q
 ·have l1:=Zmq (Zh2 h) h2
  have hF:=ZdK fun t ht=>(h2 t ht).1
  have l2:=Zod (fun i hi=>(hF i hi).1) l1
  rcases q with q | ⟨_,q | ⟨_,q⟩⟩
  ·exact ZmR (fun i hi=>(hF i hi).1) l1 q
  ·exact ZjS l2 q
  ·exact hf (Zh2 l2) q
theorem ZmS(hn:n≤100)(hd:∀i,i<n+1→G i i=some 0)(ok:∀t,t<n→RestOk (R t)): Zfh [Zad n G R,.int n]=some (.bool true):=by
 apply Pk.eq
 unfold Zfh Zhx Zad Za6
 walk_at "zz"
 rw[show(n:Int)+1=((n+1:Nat):Int)by omega]
 refine ZP (Zpa (by omega) hd) ?_
 walk_at "zz"
 refine Zcp (n:=n) (a:=fun i=>Z5 (R i)) (P:=fun _ _=>True) ?_ trivial ?_ ?_
 ·walk_at "zz"
  rfl
 ·rintro t σ ht _
  have ho:=ok t ht
  unfold Z5
  walk_at "zz"
  refine ZP ZfB ?_
  walk_at "zz"
  refine ZP ZfB ?_
  walk_at "zz"
  have h0:=ho.nn
  walk_at "zz"
  rcases ho with h | h
  ·walk_at "zz"
   trivial
  ·walk_at "zz"
   trivial
 ·rintro σ _
  walk_at "zz"
  rfl
noncomputable def Zcs(R:Nat→Int×Int): Nat→Int
 | 0=>1
 | t+1=>Zcs R t*(if(R t).1=0 then 1 else(R t).1)
theorem Zkk{n:Nat}{R:Nat→Int×Int}(h:∀t,t<n→RestOk (R t)): ∀m,m≤n→0<Zcs R m
 | 0,_=>by show(0:Int)<1;decide
 | m+1,hm=>by
  have ih:=Zkk h m (by omega)
  have:=(h m (by omega)).nn
  unfold Zcs
  refine Int.mul_pos ih ?_
  split
  ·decide
  ·omega
theorem Zkl{R:Nat→Int×Int}: ∀m t,t<m→(R t).1=0∨(R t).1 ∣ Zcs R m
 | m+1,t,ht=>by
  by_cases z:(R t).1=0
  ·exact .inl z
  ·right
   unfold Zcs
   by_cases q:t=m
   ·subst q
    rw[if_neg z]
    exact Int.dvd_mul_left _ _
   ·exact Int.dvd_trans ((Zkl m t (by omega)).resolve_left z) (Int.dvd_mul_right _ _)
theorem ZkI{n k:Nat}{R:Nat→Int×Int}(hk:1≤k)(h:∀t,t<n→Bd k (R t).1): ∀m,m≤n→Bd (k*m+1) (Zcs R m)
 | 0,_=>by rw[Nat.mul_zero];exact ZeW (by omega)
 | m+1,hm=>by
  have ih:=ZkI hk h m (by omega)
  unfold Zcs
  have h2:Bd k (if(R m).1=0 then 1 else(R m).1):=by
   split
   ·exact ZeW hk
   ·exact h m (by omega)
  have:=Zf1 ih h2
  rw[Nat.mul_succ]
  exact this.mono (by omega)
theorem Zms{B:Nat}(hn:n≤20)(hB:1≤B)(hB2:B≤300)(hd:∀i,i<n+1→G i i=some 0)(ok:∀t,t<n→RestOk (R t))(sG:SmG B n G)(sR:SmR B n R): Pk (Zex [Zad n G R]) fun t=>(∃G2 R2,t=Zad n G2 R2∧Sharp n G R G2 R2 (Zcs R n) (B*n+B+2*n+6))∨(t=.none∧Zij n G R (Zcs R n) (B*n+B+n+3)):=by
 have hBn:B*n≤300*20:=Nat.mul_le_mul hB2 hn
 have bM:Bd (B*n+B+1) (Zcs R n):=(ZkI hB (fun t ht=>(sR t ht).1) n (Zz10 n)).mono (by omega)
 have bG:BdG (n+1) (B*n+B+1) G:=fun a b c ha hb e=>(show Bd B c from sG a b ha hb c e).mono (by omega)
 have hR:∀t,t<n→RB (Zcs R n) (B*n+B+1) (R t):=fun t ht=>⟨ok t ht,Zkl n t ht,(show Bd B (R t).2 from(sR t ht).2).mono (by omega)⟩
 have:=Zoc (k:=B*n+B+1) (by omega) (by omega) (Zkk ok n (Zz10 n)) bM hd bG hR
 rw[show B*n+B+1+2*n+5=B*n+B+2*n+6 by omega,show B*n+B+1+n+2=B*n+B+n+3 by omega]at this
 exact this
theorem Znw{k:Int}{B:Nat}(hL:Lay ns)(h0:0≤k)(h9:k≤1000)(hn:n≤9)(hB2:134≤B)(hR:∀t,t<n→RestOk (R t))(sR:SmR B n R)(sG:SmG B n G): Pk (Ze7 [scr ns,.int k,Zad n G R]) fun t=>∃G' R',t=Zad n G' R'∧(∀i,i<n+1→G' i i=G i i)∧(∀t,t<n→RestOk (R' t))∧SmG (B+1) n G'∧SmR (B+1) n R':=by
 unfold Ze7 Zg6
 have ht:Zad n G R=.tup [.lst (tab (n+1) fun i=>Zaa (n+1) (G i)),.lst (tab n fun i=>Z5 (R i))]:=rfl
 have e134:(2:Nat) ^ 134=21778071482940061661655974875633165533184:=by decide
 have hpB:(2:Nat) ^ 134≤2 ^ B:=Nat.pow_le_pow_right (by decide) hB2
 have hpB1:(2:Nat) ^ (B+1)=2 ^ B*2:=Nat.pow_succ ..
 have sG1:SmG (B+1) n G:=fun i j hi hj b h=>Zb3 (sG i j hi hj b h) (by omega)
 have sR1:SmR (B+1) n R:=fun t ht=>⟨Zb3 (sR t ht).1 (by omega),Zb3 (sR t ht).2 (by omega)⟩
 rw[ht]
 walk_at "zz"
 refine ZmN (n:=n+1) (G:=G) (by omega) ?_ ?_
 ·walk_at "zz"
  rfl
 unfold Zae Zaa
 walk_at "zz"
 obtain⟨p0,p1⟩:=Zcn ns k (show(0:Int)<((n+1:Nat):Int)by omega)
 obtain⟨i,ei,hi⟩:=Zf0 p0 p1
 obtain⟨p2,p3⟩:=Zcn ns (k+1) (show(0:Int)<((n+1:Nat):Int)by omega)
 obtain⟨j,ej,hj⟩:=Zf0 p2 p3
 obtain⟨w0,w1⟩:=Zcn ns (k+2) (show(0:Int)<5 by decide)
 obtain⟨u0,u1⟩:=Zcn ns (k+3) (show(0:Int)<4 by decide)
 obtain⟨u2,u3⟩:=Zcn ns (k+3) (show(0:Int)<3 by decide)
 refine ZP (Zcx h0 (by omega) (by omega)) ?_
 rw[ei]
 walk_at "zz"
 refine ZP (Zcx (by omega) (by omega) (by omega)) ?_
 rw[ej]
 walk_at "zz"
 refine ZP (Zcx (by omega) (by omega) (by omega)) ?_
 walk_at "zz"
 generalize Zbq ns (k+2) 5=w at w0 w1
 by_cases hw:w<3∧i≠j
 ·have hij:(i:Int)≠(j:Int):=by omega
  have hw3:=hw.1
  have fin:∀v,(∀b,v=some b→b.natAbs<2 ^ (B+1))→(∀a,a<n+1→ZbE G i j v a a=G a a)∧SmG (B+1) n (ZbE G i j v):=fun v hv=>by
   refine⟨fun a ha=>by rw[Zey (by omega)],fun a b ha hb c hc=>?_⟩
   by_cases q:a=i∧b=j
   ·obtain⟨rfl,rfl⟩:=q;rw[ZfM]at hc;exact hv c hc
   ·rw[Zey q]at hc;exact sG1 a b ha hb c hc
  cases hg:G i j with
  | none=>
   walk_at "zz"
   rw[hg,Za2]
   walk_at "zz"
   refine ZP (Zel hL (by omega) (by omega)) ?_
   walk_at "zz"
   rw[←Zao (c:=ZaY ns (k+3)),ZfZ]
   walk_at "zz"
   have:=ZfL ns (k+3)
   obtain⟨f1,f2⟩:=fin (some (ZaY ns (k+3))) (fun b e=>by cases e;omega)
   exact⟨ZbE G i j (some (ZaY ns (k+3))),R,rfl,f1,hR,f2,sR1⟩
  | some g=>
   walk_at "zz"
   rw[hg,Zao]
   walk_at "zz"
   rw[hg,Zao]
   walk_at "zz"
   refine ZP (Zcx (by omega) (by omega) (by omega)) ?_
   walk_at "zz"
   rw[←Zao (c:=g-1-Zbq ns (k+3) 4),ZfZ]
   walk_at "zz"
   have:=sG i j (by omega) (by omega) g hg
   obtain⟨f1,f2⟩:=fin (some (g-1-Zbq ns (k+3) 4)) (fun b e=>by cases e;omega)
   exact⟨ZbE G i j _,R,rfl,f1,hR,f2,sR1⟩
 ·have hcase:(¬w<3)∨(w<3∧(i:Int)=(j:Int)):=by
   by_cases q:w<3
   ·exact .inr ⟨q,by
     have:i=j:=Classical.byContradiction fun h=>hw ⟨q,h⟩
     rw[this]⟩
   ·exact .inl q
  clear hw
  rcases hcase with hw | ⟨hw,hij⟩
  all_goals
   by_cases hn0:n=0
   ·subst hn0
    walk_at "zz"
    exact⟨G,R,rfl,fun _ _=>rfl,hR,sG1,sR1⟩
   ·have hnp:(0:Int)<(n:Int):=by omega
    walk_at "zz"
    obtain⟨q0,q1⟩:=Zcn ns k hnp
    obtain⟨t,et,ht⟩:=Zf0 q0 q1
    refine ZP (Zcx h0 (by omega) hnp) ?_
    rw[et]
    walk_at "zz"
    have hp:Z5 (R t)=.tup [.int (R t).1,.int (R t).2]:=rfl
    rw[hp]
    walk_at "zz"
    obtain⟨m0,m1⟩:0≤w.fmod 2∧w.fmod 2<2:=⟨Int.fmod_nonneg_of_pos _ (by decide),Int.fmod_lt_of_pos _ (by decide)⟩
    refine Zcm (by omega) (by omega) ?_
    walk_at "zz"
    refine ZP (Zcx (by omega) (by omega) (by omega)) ?_
    walk_at "zz"
    refine ZP Zh0 ?_
    walk_at "zz"
    have hRt:=hR t ht
    have hm0:0≤(R t).1:=by rcases hRt with h | h <;> omega
    have sRt:=sR t ht
    obtain⟨c,hc,hc1⟩:∃c,(R t).1*(1+w.fmod 2)=c∧0≤c∧c≤(R t).1*2:=⟨_,rfl,Int.mul_nonneg hm0 (by omega),Int.mul_le_mul_of_nonneg_left (by omega) hm0⟩
    rw[hc]
    generalize hpp:ZaG c ((R t).2+Zbq ns (k+3) 3)=pp
    have p1:RestOk pp:=by rw[←hpp];exact ZdI hc1.1 _
    have p2:pp.1.natAbs<2 ^ (B+1)∧pp.2.natAbs<2 ^ (B+1):=by rw[←hpp];exact Zfa hc1.1 (by omega) (by omega)
    refine⟨G,fun s=>if s=t then pp else R s,?_,fun _ _=>rfl,fun s hs=>?_,sG1,fun s hs=>?_⟩
    ·unfold Zad Zae Zaa Za6
     congr 5
     funext s
     show(if s=t then Z5 pp else Z5 (R s))=Z5 (if s=t then pp else R s)
     split <;> rfl
    ·show RestOk (if s=t then pp else R s)
     split
     ·exact p1
     ·exact hR s hs
    ·show(if s=t then pp else R s).1.natAbs<_∧(if s=t then pp else R s).2.natAbs<_
     split
     ·exact p2
     ·exact sR1 s hs
section
variable {σ:TL} {Q:T→Prop}
end
theorem Zk6{x m:Nat}{k l:Int}{w:T}{f:Nat→Nat→T}{N:TL→Prop}(e:σ x=some (.lst (tab n fun a=>.lst (tab m (f a)))))(hk:k=i)(hl:l=j)(hi:i<n)(hj:j<m)(h:N (ZI σ x (.lst (tab n fun a=>.lst (tab m fun b=>if a=i∧b=j then w else f a b))))): Put2 σ x w (.int k) (.int l) N:=by
 subst hk hl
 exact Zky e hi hj h
theorem ZlP(hn:n≤900): Ze5 [.int i,.int n]=some (Zaa (n+1) fun j=>if j=i then some 0 else none):=by
 apply Pk.eq
 unfold Ze5 ZgU
 walk_at "zz"
 refine Zce (n:=n+1) (a:=fun j=>.int j) (b:=fun j=>oT (if j=i then some 0 else none)) (by omega) ?_ (fun j hj=>?_) rfl
 ·walk_at "zz"
  exact Zjk (n+1) (by omega) (by omega) rfl
 ·by_cases c:j=i
  ·have hc:(i:Int)=(j:Int):=by omega
   walk_at "zz"
   rw[if_pos c]
   rfl
  ·have hc:(i:Int)≠(j:Int):=by omega
   walk_at "zz"
   rw[if_neg c]
   rfl
noncomputable def Zjn(G:Nat→Nat→Option Int)(x:Nat)(s:Sp): Nat→Nat→Option Int:=ZbE (ZbE G x 0 s.2) 0 x (s.1.map fun y=>y*(-1))
theorem Zkm{w:T}(hw:w=oT v): T.lst (tab n fun a=>T.lst (tab n fun b=>if a=i∧b=j then w else oT (G a b)))=T.lst (tab n fun a=>T.lst (tab n fun b=>oT (ZbE G i j v a b))):=by
 subst hw
 exact ZfZ
theorem ZkJ{x:Int}(h:Bd k x): Bd k (-x):=by unfold Bd at *;omega
theorem Zmt{x b:Nat}{s:Sp}(hx:x<n+1)(hb:b≤100000)(hb1:1≤b)(bs:SBd b s): Zfr [Zae (n+1) G,.int x,Z0 s]=some (Zae (n+1) (Zjn G x s)):=by
 apply Pk.eq
 unfold Zfr ZhX
 refine ZoZ rfl ?_
 unfold Zae Zaa Z0
 walk_at "zz"
 refine Zk6 (n:=n+1) (m:=n+1) (f:=fun a b=>oT (G a b)) (i:=x) (j:=0) ?_ rfl rfl hx (by omega) ?_
 ·rfl
 rw[Zkm (v:=s.2) rfl]
 walk_at "zz"
 refine ZP (ZjH hb bs.1 (ZkJ (ZeW hb1))) ?_
 refine⟨ZfK,?_⟩
 walk_at "zz"
 refine Zk6 (n:=n+1) (m:=n+1) (f:=fun a b=>oT (ZbE G x 0 s.2 a b)) (i:=0) (j:=x) (by walk_at "zr") rfl rfl (by omega) hx ?_
 rw[Zkm (v:=s.1.map fun y=>y*(-1)) rfl]
 exact⟨_,Zdk,rfl⟩
theorem Zpe{a:Nat}(h:a≤4): ZbD a a 1=some []:=by
 have:a=0∨a=1∨a=2∨a=3∨a=4:=by omega
 obtain rfl | rfl | rfl | rfl | rfl:=this <;> (unfold ZbD;rw[if_pos (by decide +kernel)];rfl)
theorem Zoe{g:PEs}{a m:Nat}{L:List T→Prop}(ha:a≤4)(hm:m≤100)(e:g σ=some [.int a,.int (a+m)])(h:L (tab m fun i=>.int ((a+i:Nat):Int))): Pl (ZaP g σ) L:=by
 cases m with
 | zero=>
  have e2:ZbD (a:Int) ((a:Int)+((0:Nat):Int)) 1=some []:=by simpa using Zpe ha
  exact⟨[],Zet e e2,h⟩
 | succ m=>
  refine⟨_,Zet e (by have:=ZkV (a:=a) (n:=m+1) (by omega) (by omega);simpa using this),?_⟩
  rw[show(tab (m+1) fun i=>T.int ((a:Int)+i))=tab (m+1) fun i=>.int ((a+i:Nat):Int)from ZbG fun i _=>by congr 1]
  exact h
noncomputable def S40(G:Nat→Nat→Option Int)(i:Nat): Sp:=((G 0 (i+1)).map fun y=>y*(-1),G (i+1) 0)
theorem Zjx{b:Nat}(hn:n≤90)(hb:b≤100000)(hb1:1≤b)(bG:∀i j,i<n+1→j<n+1→∀y,G i j=some y→Bd b y): ZcV [Zad n G R]=some (.lst (tab n fun i=>Z0 (S40 G i))):=by
 apply Pk.eq
 unfold ZcV ZgC
 have ht:Zad n G R=.tup [.lst (tab (n+1) fun i=>.lst (tab (n+1) fun j=>oT (G i j))),.lst (tab n fun i=>Z5 (R i))]:=rfl
 rw[ht]
 walk_at "zz"
 refine Zce (n:=n) (a:=fun i=>.int ((1+i:Nat):Int)) (b:=fun i=>Z0 (S40 G i)) (by omega) ?_ (fun i hi=>?_) rfl
 ·refine Zoe (a:=1) (m:=n) (by omega) (by omega) ?_ rfl
  simp only[Zg,Zk,Zm,Zt,Zb,ZI,Option.bind_some,if_true,Zas,Zat]
  congr 3
  congr 1
  omega
 ·have h1:1+i<n+1:=by omega
  have h0:0<n+1:=by omega
  walk_at "zz"
  refine ZP (ZjH hb (fun y e=>bG 0 (1+i) h0 h1 y e) (show Bd b (-1)by unfold Bd;have:=ZeW hb1;unfold Bd at this;simpa using this)) ?_
  walk_at "zz"
  unfold Z0 S40
  rw[show 1+i=i+1 by omega]
  rfl
theorem tab_map{α:Type}{f:Nat→α}{g:α→β}: (tab n f).map g=tab n fun i=>g (f i):=by simp[tab]
end L
open PySem PySem.W PyProof.Rows PM TM My
namespace L
open PySem PySem.W PyProof.Rows PM TM My
variable {M c:Int} {k n:Nat}
noncomputable def ZaE(a:Option Int): Option Int:=a.map fun x=>-x
structure St39(L H:Nat→Option Int): Prop where
 l0:L 0=some 0
 h0:H 0=some 0
 le:∀i l h,L i=some l→H i=some h→l≤h
noncomputable def Zar(L H:Nat→Option Int): Nat→Nat→Option Int:=fun i j=>if j=i then some 0 else if j=0 then H i else if i=0 then ZaE (L j)else none
noncomputable def starE(L H:Nat→Option Int): Nat→Nat→Option Int:=fun i j=>if j=i then some 0 else ZaL (H i) (ZaE (L j))
section
variable {L H:Nat→Option Int}
theorem Zqg: ZaE (some 0)=some 0:=rfl
theorem ZfN(s:St39 L H)(i:Nat): starE L H i 0=H i:=by
 unfold starE
 split
 ·rename_i h;subst h;rw[s.h0]
 ·rw[s.l0,Zqg,Zf3]
theorem ZfO(s:St39 L H)(j:Nat): starE L H 0 j=ZaE (L j):=by
 unfold starE
 split
 ·rename_i h;subst h;rw[s.l0];rfl
 ·rw[s.h0,Zja]
theorem star_add{i j:Nat}: ZaL (H i) (ZaE (L j))=some c↔∃h l,H i=some h∧L j=some l∧c=h-l:=by
 rw[addO_some]
 constructor
 ·rintro⟨x,y,h1,h2,h3⟩
  obtain⟨l,e1,e2⟩:=Zz1.mp h2
  exact⟨x,l,h1,e1,by omega⟩
 ·rintro⟨h,l,h1,h2,h3⟩
  exact⟨h,-l,h1,by rw[h2];rfl,by omega⟩
theorem Znx(s:St39 L H): ZcG (Zar L H) 0=starE L H:=by
 funext i j
 unfold ZcG
 by_cases c:j=i
 ·subst c
  have e:starE L H j j=some 0:=by unfold starE;rw[if_pos rfl]
  have e2:Zar L H j j=some 0:=by unfold Zar;rw[if_pos rfl]
  rw[e,e2]
  apply Zez
  by_cases d:j=0
  ·subst d;rw[e2,Zf3];exact Zc2
  ·intro y hy
   have a1:Zar L H j 0=H j:=by unfold Zar;rw[if_neg (Ne.symm d),if_pos rfl]
   have a2:Zar L H 0 j=ZaE (L j):=by unfold Zar;rw[if_neg d,if_neg d,if_pos rfl]
   rw[a1,a2]at hy
   obtain⟨h,l,h1,h2,h3⟩:=star_add.mp hy
   exact⟨0,rfl,by have:=s.le j l h h2 h1;omega⟩
 ·by_cases d:j=0
  ·subst d
   rw[ZfN s]
   have a1:Zar L H i 0=H i:=by unfold Zar;rw[if_neg c,if_pos rfl]
   have a2:Zar L H 0 0=some 0:=by unfold Zar;rw[if_pos rfl]
   rw[a1,a2,Zf3]
   exact Zez Zc2
  ·by_cases q:i=0
   ·subst q
    rw[ZfO s]
    have a1:Zar L H 0 j=ZaE (L j):=by unfold Zar;rw[if_neg d,if_neg d,if_pos rfl]
    have a2:Zar L H 0 0=some 0:=by unfold Zar;rw[if_pos rfl]
    rw[a1,a2,Zja]
    exact Zez Zc2
   ·have a0:Zar L H i j=none:=by unfold Zar;rw[if_neg c,if_neg d,if_neg q]
    have a1:Zar L H i 0=H i:=by unfold Zar;rw[if_neg (Ne.symm q),if_pos rfl]
    have a2:Zar L H 0 j=ZaE (L j):=by unfold Zar;rw[if_neg d,if_neg d,if_pos rfl]
    have a3:starE L H i j=ZaL (H i) (ZaE (L j)):=by unfold starE;rw[if_neg c]
    rw[a0,a1,a2,a3]
    rcases ZiX none (ZaL (H i) (ZaE (L j)))with h | h
    ·have:=Zqe (a:=none) (b:=ZaL (H i) (ZaE (L j)))
     rw[h]at this ⊢
     exact Zmb this ZfE
    ·exact h
theorem ZkK(s:St39 L H)(i m j:Nat): leO (starE L H i j) (ZaL (starE L H i m) (starE L H m j)):=by
 by_cases c:m=i
 ·subst c
  have e:starE L H m m=some 0:=by unfold starE;rw[if_pos rfl]
  rw[e,Zja];exact Zc2
 ·by_cases d:j=m
  ·subst d
   have e:starE L H j j=some 0:=by unfold starE;rw[if_pos rfl]
   rw[e,Zf3];exact Zc2
  ·have a1:starE L H i m=ZaL (H i) (ZaE (L m)):=by unfold starE;rw[if_neg c]
   have a2:starE L H m j=ZaL (H m) (ZaE (L j)):=by unfold starE;rw[if_neg d]
   intro y hy
   rw[a1,a2]at hy
   obtain⟨x1,x2,h1,h2,h3⟩:=addO_some.mp hy
   obtain⟨hi,lm,b1,b2,b3⟩:=star_add.mp h1
   obtain⟨hm,lj,b4,b5,b6⟩:=star_add.mp h2
   have q1:=s.le m lm hm b2 b4
   by_cases e:j=i
   ·subst e
    have q2:=s.le j lj hi b5 b1
    exact⟨0,by unfold starE;rw[if_pos rfl],by omega⟩
   ·exact⟨hi-lj,by unfold starE;rw[if_neg e];exact star_add.mpr ⟨hi,lj,b1,b5,rfl⟩,by omega⟩
theorem Zk7(s:St39 L H): ∀m,Z3 (Zar L H) (m+1)=starE L H
 | 0=>Znx s
 | m+1=>by
  show ZcG (Z3 (Zar L H) (m+1)) (m+1)=_
  rw[Zk7 s m]
  funext i j
  exact Zez (ZkK s i (m+1) j)
theorem ZkL(s:St39 L H): ∀m,Z3 (starE L H) m=starE L H
 | 0=>rfl
 | m+1=>by
  show ZcG (Z3 (starE L H) m) m=_
  rw[ZkL s m]
  funext i j
  exact Zez (ZkK s i m j)
theorem ZkM{n:Nat}{A B:Nat→Nat→Option Int}(h:∀i j,i<n→j<n→A i j=B i j): ∀m,m≤n→∀i j,i<n→j<n→Z3 A m i j=Z3 B m i j
 | 0,_=>h
 | m+1,hm=>fun i j hi hj=>by
  have ih:=ZkM h m (by omega)
  show ZbF (Z3 A m i j) (ZaL (Z3 A m i m) (Z3 A m m j))=ZbF (Z3 B m i j) (ZaL (Z3 B m i m) (Z3 B m m j))
  rw[ih i j hi hj,ih i m hi (by omega),ih m j (by omega) hj]
noncomputable def ZaB(L H:Nat→Option Int): Nat→Int×Int:=fun t=>match L (t+1),H (t+1)with
 | some l,some h=>if l=h then(0,l)else(1,0)
 | _,_=>(1,0)
theorem Zf5(x:Int): Zan (1,0) x:=⟨fun h=>absurd h (by decide),fun _=>Int.emod_one _⟩
theorem Zjo: RestOk (1,0):=.inr ⟨by decide,by decide,by decide⟩
theorem has_0{x:Int}: Zan (0,c) x↔x=c:=⟨fun h=>h.1 rfl,fun h=>⟨fun _=>h,fun q=>absurd q (show ¬(0:Int)<0 by decide)⟩⟩
noncomputable def Fix(L H:Nat→Option Int)(i:Nat)(c:Int): Prop:=L i=some c∧H i=some c
theorem Zk8{t:Nat}(h:Fix L H (t+1) c): ZaB L H t=(0,c):=by unfold ZaB;rw[h.1,h.2];simp
theorem Zls{t:Nat}(h:∀c,¬Fix L H (t+1) c): ZaB L H t=(1,0):=by
 unfold ZaB
 split
 ·rename_i l u e1 e2
  rw[if_neg (fun q:l=u=>h l ⟨e1,by rw[q];exact e2⟩)]
 ·rfl
theorem ZiZ(t:Nat)(x:Int): Zan (ZaB L H t) x↔∀c,Fix L H (t+1) c→x=c:=by
 by_cases h:∃c,Fix L H (t+1) c
 ·obtain⟨c,h⟩:=h
  rw[Zk8 h,has_0]
  refine⟨fun e c' h'=>?_,fun k=>k c h⟩
  have:=h.1.symm.trans h'.1
  cases this
  exact e
 ·have h:∀c,¬Fix L H (t+1) c:=fun c q=>h ⟨c,q⟩
  rw[Zls h]
  exact⟨fun _ c q=>absurd q (h c),fun _=>Zf5 x⟩
theorem Zjb(t:Nat): RestOk (ZaB L H t):=by
 unfold ZaB
 split
 ·split
  ·exact .inl rfl
  ·exact Zjo
 ·exact Zjo
theorem ZlA(s:St39 L H): Fix L H 0 0:=⟨s.l0,s.h0⟩
theorem Zof(s:St39 L H): ∀(i:Nat) (x:Int),Zan (ZM (ZaB L H) i) x↔∀c,Fix L H i c→x=c
 | 0,x=>by
  show Zan (0,0) x↔_
  rw[has_0]
  refine⟨fun e c h=>?_,fun k=>k 0 (ZlA s)⟩
  have:=s.l0.symm.trans h.1
  cases this;exact e
 | i+1,x=>ZiZ i x
theorem Zny(s:St39 L H){i j:Nat}{a b:Int}(hij:j≠i)(h1:starE L H i j=some a)(h2:starE L H j i=some b)(e:a+b=0): ∃c d,Fix L H i c∧Fix L H j d∧a=c-d:=by
 unfold starE at h1 h2
 rw[if_neg hij]at h1
 rw[if_neg (Ne.symm hij)]at h2
 obtain⟨hi,lj,b1,b2,b3⟩:=star_add.mp h1
 obtain⟨hj,li,b4,b5,b6⟩:=star_add.mp h2
 have q1:=s.le i li hi b5 b1
 have q2:=s.le j lj hj b2 b4
 have e1:li=hi:=by omega
 have e2:lj=hj:=by omega
 subst e1 e2
 exact⟨li,lj,⟨b5,b1⟩,⟨b2,b4⟩,b3⟩
theorem ZmT(s:St39 L H){R1:Nat→Int×Int}(h:Hand n (starE L H) (fun _=>(1,0)) R1 M k): ∀t,t<n→R1 t=ZaB L H t:=fun t ht=>by
 obtain⟨a,b⟩:=h t ht
 refine ZjQ a.1 (Zjb t) fun x=>?_
 rw[b,ZiZ]
 constructor
 ·rintro⟨_,q⟩ c hc
  have:=q 0 (by omega) c (-c) (by rw[ZfN s];exact hc.2) (by rw[ZfO s,hc.1];rfl) (by omega)
  have:=has_0.mp (show Zan (0,0) (x-c)from this)
  omega
 ·intro q
  refine⟨Zf5 x,fun j hj a b h1 h2 e=>?_⟩
  cases j with
  | succ j=>exact Zf5 _
  | zero=>
   rw[ZfN s]at h1
   rw[ZfO s]at h2
   obtain⟨l,e1,e2⟩:=Zz1.mp h2
   have:l=a:=by omega
   subst this
   have:=q l ⟨e1,h1⟩
   exact has_0.mpr (by omega)
theorem Zk9(s:St39 L H)(i:Nat): (∃c,Fix L H i c∧ZM (ZaB L H) i=(0,c))∨((∀c,¬Fix L H i c)∧ZM (ZaB L H) i=(1,0)):=by
 cases i with
 | zero=>exact .inl ⟨0,ZlA s,rfl⟩
 | succ i=>
  by_cases h:∃c,Fix L H (i+1) c
  ·obtain⟨c,h⟩:=h
   exact .inl ⟨c,h,Zk8 h⟩
  ·have h:∀c,¬Fix L H (i+1) c:=fun c q=>h ⟨c,q⟩
   exact .inr ⟨h,Zls h⟩
theorem Zla{b:Option Int}{q:Int×Int}(h:q.1=1): ZaZ b q=b:=by
 cases b with
 | none=>simp[ZaZ,h]
 | some b=>simp[ZaZ,ZcB,h,Int.emod_one]
theorem Zog(s:St39 L H)(i j:Nat): ZaZ (starE L H i j) (ZaM (ZaB L H) i j)=starE L H i j:=by
 have one:∀p q:Int×Int,(p=(1,0)∨q=(1,0))→(Zbi p (Zcq q (-1))).1=1:=by
  rintro p q (rfl | rfl)
  ·unfold Zbi;rw[ZdF];simp
  ·unfold Zbi Zcq;rw[ZdF,ZdF];simp[Zbc]
 unfold ZaM
 rcases Zk9 s i with⟨c,hc,e1⟩ | ⟨_,e1⟩
 ·rcases Zk9 s j with⟨d,hd,e2⟩ | ⟨_,e2⟩
  ·rw[e1,e2]
   have e:Zbi (0,c) (Zcq (0,d) (-1))=(0,c-d):=by
    unfold Zbi Zcq ZaG Zbc
    simp
    omega
   rw[e]
   have ev:starE L H i j=some (c-d):=by
    unfold starE
    split
    ·rename_i q;subst q
     have:=hc.1.symm.trans hd.1
     cases this;simp
    ·exact star_add.mpr ⟨c,d,hc.2,hd.1,rfl⟩
   rw[ev]
   simp[ZaZ,ZcB]
  ·exact Zla (one _ _ (.inr e2))
 ·exact Zla (one _ _ (.inl e1))
theorem Zei{R R':Nat→Int×Int}(h:∀t,t<n→R t=R' t): ∀i,i<n+1→ZM R i=ZM R' i
 | 0,_=>rfl
 | i+1,hi=>h i (by omega)
theorem ZmU(s:St39 L H){G2:Nat→Nat→Option Int}{R1 R2:Nat→Int×Int}(hR:∀t,t<n→R1 t=ZaB L H t)(hG:∀i j,i<n+1→j<n+1→G2 i j=starE L H i j)(h:Hand n G2 R1 R2 M k): ∀t,t<n→R2 t=ZaB L H t:=fun t ht=>by
 obtain⟨a,b⟩:=h t ht
 refine ZjQ a.1 (Zjb t) fun x=>?_
 rw[b]
 constructor
 ·rintro⟨q,_⟩
  rw[Zei hR (t+1) (by omega)]at q
  exact q
 ·intro q
  refine⟨by rw[Zei hR (t+1) (by omega)];exact q,fun j hj a b h1 h2 e=>?_⟩
  rw[hG _ _ (by omega) hj]at h1
  rw[hG _ _ hj (by omega)]at h2
  rw[Zei hR j hj]
  by_cases c:j=t+1
  ·subst c
   have:starE L H (t+1) (t+1)=some 0:=by unfold starE;rw[if_pos rfl]
   rw[this]at h1
   cases h1
   rw[Int.sub_zero];exact q
  ·obtain⟨c1,d1,f1,f2,e1⟩:=Zny s c h1 h2 e
   have hx:=(ZiZ t x).mp q c1 f1
   refine(Zof s j (x-a)).mpr fun c' h'=>?_
   have:=f2.1.symm.trans h'.1
   cases this
   omega
theorem ZmV(s:St39 L H){G2:Nat→Nat→Option Int}{R2:Nat→Int×Int}(h:Sharp n (Zar L H) (fun _=>(1,0)) G2 R2 M k): Zad n G2 R2=Zad n (starE L H) (ZaB L H):=by
 obtain⟨R1,h1,h2,h3,h4,h5,h6⟩:=h.go
 rw[Zk7 s]at h2 h3 h4 h5
 have hR:=ZmT s h2
 have hl:∀i j,i<n+1→j<n+1→Za0 (starE L H) R1 i j=starE L H i j:=fun i j hi hj=>by
  show ZaZ (starE L H i j) (ZaM R1 i j)=_
  unfold ZaM
  rw[Zei hR i hi,Zei hR j hj]
  exact Zog s i j
 have hG:∀i j,i<n+1→j<n+1→G2 i j=starE L H i j:=fun i j hi hj=>by
  rw[h5,ZkM hl (n+1) (Zz10 _) i j hi hj,ZkL s]
 have hR2:=ZmU s hR hG h6
 unfold Zad Zae Zaa Za6
 congr 2
 ·exact congrArg T.lst (ZbG fun a ha=>congrArg T.lst (ZbG fun b hb=>congrArg oT (hG a b ha hb)))
 ·exact congrArg (fun x=>[x]) (congrArg T.lst (ZbG fun a ha=>congrArg Z5 (hR2 a ha)))
end
end L
open PySem PySem.W PyProof.Rows PM TM My
namespace L
open PySem PySem.W PyProof.Rows PM TM My
variable {n:Nat} {x:Nat→Int}
noncomputable def Zai(n:Nat)(s:Nat→Sp): Nat→Option Int
 | 0=>some 0
 | t+1=>if t<n then(s t).1 else none
noncomputable def Zah(n:Nat)(s:Nat→Sp): Nat→Option Int
 | 0=>some 0
 | t+1=>if t<n then(s t).2 else none
noncomputable def ZeX(x:Int)(s:Sp): Prop:=(∀l,s.1=some l→l≤x)∧∀h,s.2=some h→x≤h
theorem ZlB{s:Nat→Sp}(h:∀t,t<n→ZeX (x t) (s t)): St39 (Zai n s) (Zah n s):=by
 refine⟨rfl,rfl,fun i l u h1 h2=>?_⟩
 cases i with
 | zero=>cases h1;cases h2;exact Int.le_refl _
 | succ t=>
  simp only[Zai,Zah]at h1 h2
  by_cases c:t<n
  ·rw[if_pos c]at h1 h2
   have:=(h t c).1 l h1
   have:=(h t c).2 u h2
   omega
  ·rw[if_neg c]at h1;cases h1
theorem ZmW(hn:n≤900): Zfz [.int n]=some (Zae (n+1) fun i j=>if j=i then some 0 else none):=by
 apply Pk.eq
 unfold Zfz Zig Zae
 walk_at "zz"
 refine Zce (n:=n+1) (a:=fun i=>.int i) (b:=fun i=>Zaa (n+1) fun j=>if j=i then some 0 else none) (by omega) ?_ (fun i hi=>?_) rfl
 ·walk_at "zz"
  exact Zjk (n+1) (by omega) (by omega) rfl
 ·walk_at "zz"
  exact ZP (ZlP hn) rfl
noncomputable def Zct(n m:Nat)(s:Nat→Sp): Nat→Nat→Option Int:=fun i j=>if j=i then some 0 else if j=0∧i≤m then Zah n s i else if i=0∧j≤m then ZaE (Zai n s j)else none
theorem Znz{m:Nat}{s:Nat→Sp}(hm:m<n): Zjn (Zct n m s) (m+1) (s m)=Zct n (m+1) s:=by
 have e1:Zah n s (m+1)=(s m).2:=by simp only[Zah];rw[if_pos hm]
 have e2:ZaE (Zai n s (m+1))=(s m).1.map fun y=>y*(-1):=by
  simp only[Zai];rw[if_pos hm]
  unfold ZaE
  congr 1;funext y;omega
 funext a b
 unfold Zjn
 by_cases c1:a=0∧b=m+1
 ·obtain⟨rfl,rfl⟩:=c1
  rw[ZfM]
  unfold Zct
  rw[if_neg (by omega),if_neg (by omega),if_pos (by omega),e2]
 ·rw[Zey c1]
  by_cases c2:a=m+1∧b=0
  ·obtain⟨rfl,rfl⟩:=c2
   rw[ZfM]
   unfold Zct
   rw[if_neg (by omega),if_pos (by omega),e1]
  ·rw[Zey c2]
   unfold Zct
   by_cases c3:b=a
   ·rw[if_pos c3,if_pos c3]
   ·rw[if_neg c3,if_neg c3]
    by_cases c4:b=0∧a≤m
    ·rw[if_pos c4,if_pos (by omega)]
    ·rw[if_neg c4,if_neg (show ¬(b=0∧a≤m+1)by omega)]
     by_cases c5:a=0∧b≤m
     ·rw[if_pos c5,if_pos (by omega)]
     ·rw[if_neg c5,if_neg (show ¬(a=0∧b≤m+1)by omega)]
theorem Zqh{s:Nat→Sp}: (fun i j=>if j=i then some 0 else none:Nat→Nat→Option Int)=Zct n 0 s:=by
 funext i j
 unfold Zct
 by_cases c:j=i
 ·rw[if_pos c,if_pos c]
 ·rw[if_neg c,if_neg c]
  rw[if_neg (by omega),if_neg (by omega)]
theorem Zoh{s:Nat→Sp}(i j:Nat)(hi:i<n+1)(hj:j<n+1): Zct n n s i j=Zar (Zai n s) (Zah n s) i j:=by
 unfold Zct Zar
 by_cases c:j=i
 ·rw[if_pos c,if_pos c]
 ·rw[if_neg c,if_neg c]
  by_cases d:j=0
  ·rw[if_pos ⟨d,by omega⟩,if_pos d]
  ·rw[if_neg fun q=>d q.1,if_neg d]
   by_cases e:i=0
   ·rw[if_pos ⟨e,by omega⟩,if_pos e]
   ·rw[if_neg fun q=>e q.1,if_neg e]
theorem Zpf{b:Nat}{s:Nat→Sp}(hb:∀t,t<n→SBd b (s t))(hb1:1≤b): ∀i j c,i<n+1→j<n+1→Zar (Zai n s) (Zah n s) i j=some c→Bd b c:=by
 intro i j c hi hj h
 unfold Zar at h
 split at h
 ·cases h;exact ZcF
 ·split at h
  ·cases i with
   | zero=>cases h;exact ZcF
   | succ i=>
    simp only[Zah]at h
    rw[if_pos (by omega)]at h
    exact(hb i (by omega)).2 c h
  ·split at h
   ·obtain⟨l,e1,e2⟩:=Zz1.mp h
    cases j with
    | zero=>cases e1;subst e2;exact ZcF
    | succ j=>
     simp only[Zai]at e1
     rw[if_pos (by omega)]at e1
     subst e2
     exact ZkJ ((hb j (by omega)).1 l e1)
   ·cases h
theorem ZnA{s:Nat→Sp}(h:∀t,t<n→ZeX (x t) (s t)): ZbO n (Zar (Zai n s) (Zah n s)) (fun _=>(1,0)) x:=by
 refine⟨fun i j hi hj b e=>?_,fun t _=>Zf5 _⟩
 unfold Zar at e
 split at e
 ·rename_i q;subst q;cases e;omega
 ·split at e
  ·rename_i q;subst q
   cases i with
   | zero=>cases e;show(0:Int)-0≤0;omega
   | succ i=>
    simp only[Zah]at e
    rw[if_pos (by omega)]at e
    have:=(h i (by omega)).2 b e
    show x i-0≤b;omega
  ·split at e
   ·rename_i q;subst q
    obtain⟨l,e1,e2⟩:=Zz1.mp e
    cases j with
    | zero=>cases e1;show(0:Int)-0≤b;omega
    | succ j=>
     simp only[Zai]at e1
     rw[if_pos (by omega)]at e1
     have:=(h j (by omega)).1 l e1
     show(0:Int)-x j≤b;omega
   ·cases e
theorem ZlJ{b:Nat}{s:Nat→Sp}(hn:n≤20)(hb:∀t,t<n→SBd b (s t))(hb1:1≤b)(hb2:b≤300)(hx:∀t,t<n→ZeX (x t) (s t)): Ze2 [.lst (tab n fun i=>Z0 (s i))]=some (Zad n (starE (Zai n s) (Zah n s)) (ZaB (Zai n s) (Zah n s))):=by
 apply Pk.eq
 unfold Ze2 ZgF
 walk_at "zz"
 refine ZP (ZmW (by omega)) ?_
 rw[Zqh (n:=n) (s:=s)]
 walk_at "zz"
 refine ZiO (n:=n) (a:=fun i=>.int ((i+1:Nat):Int)) (c:=fun i=>Z0 (s i)) (P:=fun i σ=>σ 0=some (.lst (tab n fun i=>Z0 (s i)))∧σ 1=some (Zae (n+1) (Zct n i s))) ?_ ⟨by walk_at "zr",by walk_at "zr"⟩ ?_ ?_
 ·exact Zn2 (f:=Zb 0) (by simp only[Zb];walk_at "zr") rfl
 ·rintro i σ hi ⟨e0,e1⟩
  refine Zqa (by walk_at "zr") ?_
  walk_at "zz"
  refine ZP (Zmt (b:=b) (by omega) (by omega) hb1 (hb i hi)) ?_
  rw[Znz hi]
  exact⟨by walk_at "zr",by walk_at "zr"⟩
 ·rintro σ ⟨e0,e1⟩
  walk_at "zz"
  refine Zce (n:=n) (a:=fun i=>Z0 (s i)) (b:=fun _=>.tup [.int 1,.int 0]) (by omega) ?_ (fun i hi=>?_) ?_
  ·walk_at "zz"
   rfl
  ·walk_at "zz"
   rfl
  walk_at "zz"
  have eg:Zae (n+1) (Zct n n s)=Zae (n+1) (Zar (Zai n s) (Zah n s)):=by
   unfold Zae Zaa
   exact congrArg T.lst (ZbG fun a ha=>congrArg T.lst (ZbG fun b hb=>congrArg oT (Zoh a b ha hb)))
  rw[eg]
  have ly:=ZnA hx
  refine(Zms (n:=n) (B:=b) (G:=Zar (Zai n s) (Zah n s)) (R:=fun _=>(1,0)) hn hb1 hb2 (fun i _=>by unfold Zar;rw[if_pos rfl]) (fun _ _=>Zjo) (fun i j hi hj c e=>Zpf hb hb1 i j c hi hj e) (fun t _=>⟨?_,?_⟩)).mono ?_
  ·exact ZeW hb1
  ·exact ZcF
  rintro t (⟨G2,R2,rfl,sh⟩ | ⟨rfl,fl⟩)
  ·exact ZmV (ZlB hx) sh
  ·exact absurd fl (Zmr ly)
end L
open PySem PySem.W PyProof.Rows PM TM My
namespace L
open PySem PySem.W PyProof.Rows PM TM My
variable {n:Nat}
theorem Zpg{G:Nat→Nat→Option Int}{R:Nat→Int×Int}(hn:n≤100)(hd:∀i,i<n+1→G i i=some 0)(ok:∀t,t<n→RestOk (R t)): Zd3 [Zad n G R,Zad n G R]=some (.bool true):=by
 apply Pk.eq
 unfold Zd3 ZgH
 have ht:Zad n G R=.tup [Zae (n+1) G,.lst (tab n fun i=>Z5 (R i))]:=rfl
 rw[ht]
 walk_at "zz"
 rw[←ht]
 refine ZP (ZmS hn hd ok) ?_
 walk_at "zz"
 refine ZeD Zip Zip ?_
 rw[Zbv rfl]
noncomputable def ZcQ(ns:List Int)(k:Int): Sp:=((ZbC ns (k+1)).map fun c=>ZaY ns k-c,(ZbC ns (k+2)).map fun c=>ZaY ns k+c)
theorem ZmX{ns:List Int}{k:Int}(hL:Lay ns)(h0:0≤k)(h9:k≤900): Ze6 [scr ns,.int k]=some (Z0 (ZcQ ns k)):=by
 apply Pk.eq
 unfold Ze6 ZgX
 walk_at "zz"
 refine ZP (Zel hL (by omega) (by omega)) ?_
 walk_at "zz"
 refine ZP (Ziy hL (by omega) (by omega)) ?_
 walk_at "zz"
 refine ZP (Ziy hL (by omega) (by omega)) ?_
 unfold ZcQ
 cases ZbC ns (k+1)with
 | none=>
  cases ZbC ns (k+2)with
  | none=>rw[Za2];walk_at "zz";rfl
  | some c=>rw[Za2,Zao];walk_at "zz";rfl
 | some d=>
  cases ZbC ns (k+2)with
  | none=>rw[Za2,Zao];walk_at "zz";rfl
  | some c=>rw[Zao,Zao];walk_at "zz";rfl
theorem Zph(ns:List Int)(k:Int): ZeX (ZaY ns k) (ZcQ ns k):=by
 refine⟨fun l h=>?_,fun l h=>?_⟩
 ·obtain⟨c,e1,e2⟩:=Zz1.mp h
  have:=Zeo ns (k+1) e1;omega
 ·obtain⟨c,e1,e2⟩:=Zz1.mp h
  have:=Zeo ns (k+2) e1;omega
theorem Zpi(ns:List Int)(k:Int): SBd 136 (ZcQ ns k):=by
 have h1:=Zi9 ns k
 have e:(T40:Int)=10 ^ 40:=ZeB
 have key:∀z:Int,-(2*T40)≤z→z≤2*T40→Bd 136 z:=fun z a b=>by
  unfold Bd
  rw[e]at a b
  have:(2:Nat) ^ 136=87112285931760246646623899502532662132736:=by decide
  omega
 refine⟨fun l h=>?_,fun l h=>?_⟩
 ·obtain⟨c,e1,e2⟩:=Zz1.mp h
  have:=Zeo ns (k+1) e1
  exact key _ (by omega) (by omega)
 ·obtain⟨c,e1,e2⟩:=Zz1.mp h
  have:=Zeo ns (k+2) e1
  exact key _ (by omega) (by omega)
theorem Zlb{s:Nat→Sp}(hn:n≤900): ZdE [.lst (tab n fun i=>Z0 (s i)),.lst (tab n fun i=>Z0 (s i))]=some (.bool true):=by
 apply Pk.eq
 unfold ZdE ZhZ
 walk_at "zz"
 refine Zcp (n:=n) (a:=fun i=>Z0 (s i)) (P:=fun i σ=>σ 0=some (.lst (tab n fun i=>Z0 (s i)))∧σ 1=some (.lst (tab n fun i=>Z0 (s i)))) ?_ ⟨by walk_at "zr",by walk_at "zr"⟩ ?_ ?_
 ·walk_at "zz"
  rfl
 ·rintro i σ hi ⟨e0,e1⟩
  have e2:ZI σ 2 (Z0 (s i)) 2=some (.tup [oT (s i).1,oT (s i).2]):=by rw[Zdk];rfl
  generalize hσ:ZI σ 2 (Z0 (s i))=σ' at e2 ⊢
  have f0:σ' 0=some (.lst (tab n fun i=>Z0 (s i))):=by rw[←hσ];walk_at "zr"
  have f1:σ' 1=some (.lst (tab n fun i=>Z0 (s i))):=by rw[←hσ];walk_at "zr"
  clear hσ e0 e1
  walk_at "zz"
  refine ZoO (ts:=[oT (s i).1,oT (s i).2]) (P:=fun _ σ=>σ 0=some (.lst (tab n fun i=>Z0 (s i)))∧σ 1=some (.lst (tab n fun i=>Z0 (s i)))) ?_ ⟨by walk_at "zr",by walk_at "zr"⟩ ?_ ?_
  ·walk_at "zz"
   rfl
  ·rintro j t σ hj ⟨e0,e1⟩
   have:∃o,t=oT o:=by
    match j,hj with
    | 0,hj=>cases hj;exact⟨_,rfl⟩
    | 1,hj=>cases hj;exact⟨_,rfl⟩
    | j+2,hj=>simp at hj
   obtain⟨o,rfl⟩:=this
   cases o with
   | none=>
    rw[Za2]
    walk_at "zz"
    exact⟨by walk_at "zr",by walk_at "zr"⟩
   | some a=>
    rw[Zao]
    walk_at "zz"
    refine ZP ZfB ?_
    walk_at "zz"
    exact⟨by walk_at "zr",by walk_at "zr"⟩
  ·rintro σ ⟨e0,e1⟩
   exact⟨e0,e1⟩
 ·rintro σ ⟨e0,e1⟩
  have pl:Pln 2 (.lst (tab n fun i=>Z0 (s i))):=.lst fun t ht=>by
   obtain⟨i,_,rfl⟩:=Zz11.mp ht
   exact Zlq
  walk_at "zz"
  refine ZeD pl pl ?_
  rw[Zbv rfl]
theorem ZmY{G:Nat→Nat→Option Int}{R:Nat→Int×Int}(hn:n≤90): Zd7 [Zad n G R]=some (.lst (tab n fun i=>Z0 (ZaE (G 0 (i+1)),G (i+1) 0))):=by
 apply Pk.eq
 unfold Zd7 Zg0
 have ht:Zad n G R=.tup [.lst (tab (n+1) fun i=>.lst (tab (n+1) fun j=>oT (G i j))),Za6 n R]:=rfl
 rw[ht]
 walk_at "zz"
 refine Zcp (n:=n) (a:=fun i=>.int ((1:Nat)+i:Int)) (P:=fun i σ=>σ 0=some (Zad n G R)∧σ 1=some (.lst (tab i fun i=>Z0 (ZaE (G 0 (i+1)),G (i+1) 0)))) ?_ ⟨by walk_at "zr",by walk_at "zr"⟩ ?_ ?_
 ·by_cases c:n=0
  ·subst c
   exact⟨[],Zet (a:=1) (b:=1) rfl Zlr,rfl⟩
  ·walk_at "zz"
   exact Rn.two 1 n (by omega) (by omega) (by omega) (by omega) rfl
 ·rintro i σ hi ⟨e0,e1⟩
  have e0':σ 0=some (.tup [.lst (tab (n+1) fun i=>.lst (tab (n+1) fun j=>oT (G i j))),Za6 n R]):=e0
  clear e0
  rw[show(((1:Nat):Int)+(i:Int))=((i+1:Nat):Int)by omega]
  have key:∀w,w=Z0 (ZaE (G 0 (i+1)),G (i+1) 0)→tab i (fun i=>Z0 (ZaE (G 0 (i+1)),G (i+1) 0))++[w]=tab (i+1) fun i=>Z0 (ZaE (G 0 (i+1)),G (i+1) 0):=fun w e=>by
   rw[e];exact Zdl (f:=fun i=>Z0 (ZaE (G 0 (i+1)),G (i+1) 0))
  walk_at "zz"
  rw[show Int.toNat 0=0 from rfl]
  cases hg:G 0 (i+1)with
  | none=>
   rw[Za2]
   walk_at "zz"
   rw[key _ (by rw[hg];rfl)]
   exact⟨by walk_at "zr",by walk_at "zr"⟩
  | some a=>
   rw[Zao]
   walk_at "zz"
   rw[key _ (by rw[hg];rfl)]
   exact⟨by walk_at "zr",by walk_at "zr"⟩
 ·rintro σ ⟨e0,e1⟩
  walk_at "zz"
  rfl
noncomputable def ZbM(n:Nat)(s:Nat→Sp): Nat→Sp:=fun i=>(Zai n s i,Zah n s i)
theorem ZqH(n:Nat)(s:Nat→Sp): tab (n+1) (cn (T.tup [.int 0,.int 0]) fun i=>Z0 (s i))=tab (n+1) fun i=>Z0 (ZbM n s i):=by
 refine ZbG fun i hi=>?_
 cases i with
 | zero=>rfl
 | succ i=>
  show Z0 (s i)=Z0 (ZbM n s (i+1))
  have e1:Zai n s (i+1)=(s i).1:=if_pos (by omega)
  have e2:Zah n s (i+1)=(s i).2:=if_pos (by omega)
  unfold ZbM
  rw[e1,e2]
noncomputable def ZaS(n:Nat)(s:Nat→Sp): Nat→Nat→Option Int:=fun i j=>ZaL (Zah n s i) (ZaE (Zai n s j))
theorem Zpj{s:Nat→Sp}{t:Nat}(ht:t<n): Z5 (ZaB (Zai n s) (Zah n s) t)=if(s t).1≠none∧(s t).1=(s t).2 then .tup [.int 0,oT (s t).1]else .tup [.int 1,.int 0]:=by
 unfold ZaB
 simp only[Zai,Zah]
 rw[if_pos ht,if_pos ht]
 cases h1:(s t).1 with
 | none=>simp;rfl
 | some l=>
  cases h2:(s t).2 with
  | none=>simp;rfl
  | some h=>
   by_cases c:l=h
   ·subst c;simp;rfl
   ·simp[c];rfl
theorem Zqi{s:Nat→Sp}(hn:n≤90)(s0:St39 (Zai n s) (Zah n s)): Zek [.lst (tab n fun i=>Z0 (s i))]=some (Zad n (starE (Zai n s) (Zah n s)) (ZaB (Zai n s) (Zah n s))):=by
 apply Pk.eq
 unfold Zek Zii
 walk_at "zz"
 rw[ZqH]
 refine Zcp (n:=n+1) (a:=fun i=>Z0 (ZbM n s i)) (P:=fun i σ=>σ 0=some (.lst (tab n fun i=>Z0 (s i)))∧σ 1=some (.lst (tab (n+1) fun i=>Z0 (ZbM n s i)))∧σ 2=some (.lst (tab i fun i=>Zaa (n+1) (ZaS n s i)))) ?_ ⟨by walk_at "zr",by walk_at "zr",by walk_at "zr"⟩ ?_ ?_
 ·walk_at "zz"
  rfl
 ·rintro i σ hi ⟨e0,e1,e2⟩
  walk_at "zz"
  refine Zcp (n:=n+1) (a:=fun i=>Z0 (ZbM n s i)) (P:=fun j σ=>σ 0=some (.lst (tab n fun i=>Z0 (s i)))∧σ 1=some (.lst (tab (n+1) fun i=>Z0 (ZbM n s i)))∧σ 2=some (.lst (tab i fun i=>Zaa (n+1) (ZaS n s i)))∧σ 3=some (Z0 (ZbM n s i))∧σ 4=some (.lst (tab j fun j=>oT (ZaS n s i j)))) ?_ ⟨by walk_at "zr",by walk_at "zr",by walk_at "zr",by walk_at "zr",by walk_at "zr"⟩ ?_ ?_
  ·walk_at "zz"
   rfl
  ·rintro j σ hj ⟨e0,e1,e2,e3,e4⟩
   have e3':ZI σ 5 (Z0 (ZbM n s j)) 3=some (.tup [oT (Zai n s i),oT (Zah n s i)]):=by rw[Zeu (by decide) e3];rfl
   have e5':ZI σ 5 (Z0 (ZbM n s j)) 5=some (.tup [oT (Zai n s j),oT (Zah n s j)]):=by rw[Zdk];rfl
   generalize hσ:ZI σ 5 (Z0 (ZbM n s j))=σ' at e3' e5' ⊢
   have f0:σ' 0=some (.lst (tab n fun i=>Z0 (s i))):=by rw[←hσ];walk_at "zr"
   have f1:σ' 1=some (.lst (tab (n+1) fun i=>Z0 (ZbM n s i))):=by rw[←hσ];walk_at "zr"
   have f2:σ' 2=some (.lst (tab i fun i=>Zaa (n+1) (ZaS n s i))):=by rw[←hσ];walk_at "zr"
   have f3:σ' 3=some (Z0 (ZbM n s i)):=by rw[←hσ];walk_at "zr"
   have f4:σ' 4=some (.lst (tab j fun j=>oT (ZaS n s i j))):=by rw[←hσ];walk_at "zr"
   clear hσ e0 e1 e2 e3 e4
   have key:∀w,w=oT (ZaS n s i j)→tab j (fun j=>oT (ZaS n s i j))++[w]=tab (j+1) fun j=>oT (ZaS n s i j):=fun w e=>by
    rw[e];exact Zdl (f:=fun j=>oT (ZaS n s i j))
   have fin:∀(σ'':TL),(∀y,y≠4→σ'' y=σ' y)→σ'' 4=some (.lst (tab (j+1) fun j=>oT (ZaS n s i j)))→σ'' 0=some (.lst (tab n fun i=>Z0 (s i)))∧σ'' 1=some (.lst (tab (n+1) fun i=>Z0 (ZbM n s i)))∧σ'' 2=some (.lst (tab i fun i=>Zaa (n+1) (ZaS n s i)))∧σ'' 3=some (Z0 (ZbM n s i))∧σ'' 4=some (.lst (tab (j+1) fun j=>oT (ZaS n s i j))):=fun σ'' h h4=>⟨by rw[h 0 (by decide),f0],by rw[h 1 (by decide),f1],by rw[h 2 (by decide),f2],by rw[h 3 (by decide),f3],h4⟩
   clear f3
   cases hh:Zah n s i with
   | none=>
    rw[hh,Za2]at e3'
    walk_at "zz"
    rw[key _ (by unfold ZaS;rw[hh];rfl)]
    exact fin _ (fun y hy=>Zeu hy rfl) Zdk
   | some h=>
    rw[hh,Zao]at e3'
    cases hl:Zai n s j with
    | none=>
     rw[hl,Za2]at e5'
     walk_at "zz"
     rw[key _ (by unfold ZaS;rw[hh,hl];rfl)]
     exact fin _ (fun y hy=>Zeu hy rfl) Zdk
    | some l=>
     rw[hl,Zao]at e5'
     walk_at "zz"
     rw[key _ (by unfold ZaS;rw[hh,hl];show T.int (h-l)=T.int (h + -l);congr 1)]
     exact fin _ (fun y hy=>Zeu hy rfl) Zdk
  ·rintro σ ⟨e0,e1,e2,e3,e4⟩
   walk_at "zz"
   rw[show tab i (fun i=>Zaa (n+1) (ZaS n s i))++[T.lst (tab (n+1) fun j=>oT (ZaS n s i j))]=tab (i+1) fun i=>Zaa (n+1) (ZaS n s i)from Zdl (f:=fun i=>Zaa (n+1) (ZaS n s i))]
   exact⟨by walk_at "zr",by walk_at "zr",by walk_at "zr"⟩
 ·rintro σ ⟨e0,e1,e2⟩
  walk_at "zz"
  refine Zcp (n:=n) (a:=fun i=>.int i) (P:=fun i σ=>∃Γ,σ 0=some (.lst (tab n fun i=>Z0 (s i)))∧σ 2=some (Zae (n+1) Γ)∧σ 6=some (.lst (tab i fun t=>Z5 (ZaB (Zai n s) (Zah n s) t)))∧∀a b,Γ a b=if a=b∧0<a∧a≤i then some 0 else ZaS n s a b) ?_ ⟨ZaS n s,by walk_at "zr",by walk_at "zr",by walk_at "zr",fun a b=>by rw[if_neg (by omega)]⟩ ?_ ?_
  ·walk_at "zz"
   rfl
  ·clear e0 e1 e2
   rintro i σ hi ⟨Γ,e0,e2,e6,st⟩
   have e0':σ 0=some (.lst (tab n fun i=>.tup [oT (s i).1,oT (s i).2])):=e0
   have e2':σ 2=some (.lst (tab (n+1) fun i=>.lst (tab (n+1) fun j=>oT (Γ i j)))):=e2
   clear e0 e2
   have up:∀a b,ZbE Γ (i+1) (i+1) (some 0) a b=if a=b∧0<a∧a≤i+1 then some 0 else ZaS n s a b:=fun a b=>by
    by_cases c:a=i+1∧b=i+1
    ·obtain⟨rfl,rfl⟩:=c
     rw[ZfM,if_pos (by omega)]
    ·rw[Zey c,st]
     by_cases d:a=b∧0<a∧a≤i
     ·rw[if_pos d,if_pos (by omega)]
     ·rw[if_neg d,if_neg (by omega)]
   have key:∀w,w=Z5 (ZaB (Zai n s) (Zah n s) i)→tab i (fun t=>Z5 (ZaB (Zai n s) (Zah n s) t))++[w]=tab (i+1) fun t=>Z5 (ZaB (Zai n s) (Zah n s) t):=fun w e=>by
    rw[e];exact Zdl (f:=fun t=>Z5 (ZaB (Zai n s) (Zah n s) t))
   have fr:=Zpj (s:=s) hi
   have hint:((i:Int)+1)=((i+1:Nat):Int):=by omega
   walk_at "zz"
   rw[hint]
   have fin:∀(σ'':TL) (w:T),w=Z5 (ZaB (Zai n s) (Zah n s) i)→σ'' 0=some (.lst (tab n fun i=>Z0 (s i)))→σ'' 2=some (T.lst (tab (n+1) fun a=>T.lst (tab (n+1) fun b=>if a=i+1∧b=i+1 then T.int 0 else oT (Γ a b))))→σ'' 6=some (.lst (tab i (fun t=>Z5 (ZaB (Zai n s) (Zah n s) t))++[w]))→∃Γ,σ'' 0=some (.lst (tab n fun i=>Z0 (s i)))∧σ'' 2=some (Zae (n+1) Γ)∧σ'' 6=some (.lst (tab (i+1) fun t=>Z5 (ZaB (Zai n s) (Zah n s) t)))∧∀a b,Γ a b=if a=b∧0<a∧a≤i+1 then some 0 else ZaS n s a b:=fun σ'' w hw h0 h2 h6=>⟨ZbE Γ (i+1) (i+1) (some 0),h0,by rw[h2,←ZfZ];rfl,by rw[h6,key w hw],up⟩
   clear hint up key
   walk_at "zz"
   cases h1:(s i).1 with
   | none=>
    rw[Za2]
    walk_at "zz"
    exact fin _ _ (by rw[fr,if_neg (by rw[h1];simp)]) (by walk_at "zr") (by walk_at "zr") (by walk_at "zr")
   | some l=>
    rw[Zao]
    cases h2:(s i).2 with
    | none=>
     walk_at "zz"
     rw[h1,h2,Zao,Za2]
     walk_at "zz"
     refine ZeD (n:=0) (m:=0) .int .none ?_
     rw[Zc9 (fun q=>by cases q)]
     walk_at "zz"
     exact fin _ _ (by rw[fr,if_neg (by rw[h1,h2];simp)]) (by walk_at "zr") (by walk_at "zr") (by walk_at "zr")
    | some h=>
     by_cases c:l=h
     ·subst c
      walk_at "zz"
      rw[h1,h2,Zao]
      walk_at "zz"
      rw[h1,Zao]
      walk_at "zz"
      exact fin _ _ (by rw[fr,if_pos (by rw[h1,h2];simp),h1,Zao]) (by walk_at "zr") (by walk_at "zr") (by walk_at "zr")
     ·walk_at "zz"
      rw[h1,h2,Zao,Zao]
      walk_at "zz"
      exact fin _ _ (by rw[fr,if_neg (by rw[h1,h2];simp[c])]) (by walk_at "zr") (by walk_at "zr") (by walk_at "zr")
  ·rintro σ ⟨Γ,e0,e2,e6,st⟩
   walk_at "zz"
   unfold Zad
   congr 2
   ·unfold Zae Zaa
    refine congrArg T.lst (ZbG fun a ha=>congrArg T.lst (ZbG fun b hb=>congrArg oT ?_))
    rw[st]
    unfold starE ZaS
    by_cases c:a=b
    ·subst c
     rw[if_pos rfl]
     by_cases d:0<a
     ·rw[if_pos ⟨rfl,d,by omega⟩]
     ·have:a=0:=by omega
      subst this
      rw[if_neg (by omega)];rfl
    ·rw[if_neg (by omega),if_neg (by omega)]
end L
open PySem PySem.W PyProof.Rows PM TM My
namespace L
open PySem PySem.W PyProof.Rows PM TM My
variable {b n:Nat}
theorem Zoi{s:Nat→Sp}(hb:∀t,t<n→SBd b (s t))(hb1:1≤b): ∀i j,i<n+1→j<n+1→∀y,starE (Zai n s) (Zah n s) i j=some y→Bd (b+1) y:=by
 have hh:∀i c,i<n+1→Zah n s i=some c→Bd b c:=fun i c hi h=>by
  cases i with
  | zero=>cases h;exact ZcF
  | succ i=>simp only[Zah]at h;rw[if_pos (by omega)]at h;exact(hb i (by omega)).2 c h
 have hl:∀i c,i<n+1→Zai n s i=some c→Bd b c:=fun i c hi h=>by
  cases i with
  | zero=>cases h;exact ZcF
  | succ i=>simp only[Zai]at h;rw[if_pos (by omega)]at h;exact(hb i (by omega)).1 c h
 intro i j hi hj y h
 unfold starE at h
 split at h
 ·cases h;exact ZcF
 ·obtain⟨u,l,h1,h2,h3⟩:=star_add.mp h
  subst h3
  exact(hh i u hi h1).sub (hl j l hj h2)
theorem Zmu{s:Nat→Sp}{R:Nat→Int×Int}(hn:n≤90)(hb2:b≤1000)(hb:∀t,t<n→SBd b (s t))(hb1:1≤b)(s0:St39 (Zai n s) (Zah n s)): ZcV [Zad n (starE (Zai n s) (Zah n s)) R]=some (.lst (tab n fun i=>Z0 (s i))):=by
 rw[Zjx (b:=b+1) hn (by omega) (by omega) (Zoi hb hb1)]
 refine congrArg some (congrArg T.lst (ZbG fun i hi=>congrArg Z0 ?_))
 unfold S40
 rw[ZfN s0,ZfO s0]
 have e1:Zai n s (i+1)=(s i).1:=if_pos hi
 have e2:Zah n s (i+1)=(s i).2:=if_pos hi
 rw[e1,e2]
 have:(ZaE (s i).1).map (fun y=>y*(-1))=(s i).1:=by
  cases (s i).1 with
  | none=>rfl
  | some l=>show some (-l*(-1))=some l;congr 1;omega
 rw[this]
theorem Zmv{G:Nat→Nat→Option Int}{R:Nat→Int×Int}(hn:n≤90)(hb2:b≤1000)(hb1:1≤b)(bG:SmG b n G): ZcV [Zad n G R]=some (.lst (tab n fun i=>Z0 (ZaE (G 0 (i+1)),G (i+1) 0))):=by
 rw[Zjx (b:=b) hn (by omega) (by omega) (fun i j hi hj y e=>bG i j hi hj y e)]
 refine congrArg some (congrArg T.lst (ZbG fun i hi=>congrArg Z0 ?_))
 unfold S40 ZaE
 congr 2
 funext y;omega
theorem Zmw{ns:List Int}(hL:Lay ns): Zix [scr ns]=some (.bool true):=by
 apply Pk.eq
 unfold Zix Ziw
 obtain⟨p0,p1⟩:=Zcn ns 0 (show(0:Int)<5 by decide)
 obtain⟨n,en,hn⟩:=Zf0 p0 (show Zbq ns 0 5<(5:Nat)by omega)
 clear p0 p1
 walk_at "zz"
 refine ZP (Zcx (by decide) (by decide) (by decide)) ?_
 rw[en]
 clear en
 walk_at "zz"
 refine Zce (n:=n) (a:=fun i=>.int i) (b:=fun i=>Z0 (ZcQ ns (2+3*i))) (by omega) ?_ (fun t ht=>?_) ?_
 ·walk_at "zz"
  rfl
 ·walk_at "zz"
  refine Zcm (by omega) (by omega) ?_
  walk_at "zz"
  exact ZP (ZmX hL (by omega) (by omega)) rfl
 have hx:∀t,t<n→ZeX (ZaY ns (2+3*t)) (ZcQ ns (2+3*t)):=fun t _=>Zph ns _
 have hb:∀t,t<n→SBd 136 (ZcQ ns (2+3*t)):=fun t _=>Zpi ns _
 generalize hs:(fun i:Nat=>ZcQ ns (2+3*i))=s
 have es:∀i:Nat,ZcQ ns (2+3*i)=s i:=fun i=>by rw[←hs]
 simp only[es]at hx hb ⊢
 clear hs es
 have s0:St39 (Zai n s) (Zah n s):=ZlB hx
 have hd:∀i,i<n+1→starE (Zai n s) (Zah n s) i i=some 0:=fun i _=>by unfold starE;rw[if_pos rfl]
 have q1:=fun _:Unit=>ZlJ (by omega) hb (by decide) (by decide) hx
 have q2:=fun _:Unit=>Zqi (by omega) s0
 have q3:=fun _:Unit=>Zpg (by omega) hd (fun t _=>Zjb (L:=Zai n s) (H:=Zah n s) t)
 have q4:=fun _:Unit=>Zmu (R:=ZaB (Zai n s) (Zah n s)) (by omega) (by decide) hb (by decide) s0
 have q5:=fun _:Unit=>Zlb (s:=s) (show n≤900 by omega)
 have pl:Pln 2 (.lst (tab n fun i=>Z0 (s i))):=.lst fun t ht=>by
  obtain⟨i,_,rfl⟩:=Zz11.mp ht
  exact Zlq
 generalize Zad n (starE (Zai n s) (Zah n s)) (ZaB (Zai n s) (Zah n s))=D at q1 q2 q3 q4
 clear s0 hd hx hb
 walk_at "zz"
 refine ZP (q1 ()) ?_
 walk_at "zz"
 refine Zp4 pl pl ?_
 rw[Zbv rfl]
 walk_at "zz"
 refine ZP (q2 ()) ?_
 walk_at "zz"
 refine ZP (q3 ()) ?_
 walk_at "zz"
 refine ZP (q4 ()) ?_
 walk_at "zz"
 refine ZP (q5 ()) ?_
 walk_at "zz"
 refine ZP (q2 ()) ?_
 walk_at "zz"
 refine ZP (q3 ()) ?_
 clear q1 q2 q3 q4 q5 pl
 walk_at "zz"
 refine Zce (n:=n) (a:=fun i=>.int i) (b:=fun i=>.int (ZaY ns (2+3*i))) (by omega) ?_ (fun t ht=>?_) ?_
 ·walk_at "zz"
  rfl
 ·walk_at "zz"
  refine Zcm (by omega) (by omega) ?_
  walk_at "zz"
  exact ZP (Zel hL (by omega) (by omega)) rfl
 walk_at "zz"
 refine ZP (Zo4 (x:=fun i=>ZaY ns (2+3*i)) hL (by decide) (by decide) (by omega)) ?_
 have gd:=Znn ns 14 n fun i=>ZaY ns (2+3*i)
 have sG:=Zn8 (ns:=ns) (k:=14) (n:=n) (x:=fun i=>ZaY ns (2+3*i)) fun i _=>ZfL ns _
 have sR:=Zn9 (ns:=ns) (k:=14) (n:=n) (x:=fun i=>ZaY ns (2+3*i)) fun i _=>ZfL ns _
 generalize ZbL ns 14 n (fun i=>ZaY ns (2+3*i))=G at *
 generalize ZeO ns 14 n (fun i=>ZaY ns (2+3*i))=R at *
 have go:∀(σ:TL) (N:TL→Prop) (G:Nat→Nat→Option Int) (R:Nat→Int×Int),SmG 137 n G→σ 5=some (Zad n G R)→Psk ((Zu (ZO 6 (Zt Zef (Zg (Zb 5) Zm))) (ZF ((ZcS (Zt ZdE (Zg (Zt ZcV (Zg (Zb 5) Zm)) (Zg (Zt Zd7 (Zg (Zb 6) Zm)) Zm))) (Ze qEq (Zb 5) (Zb 6)))))) σ) (fun t=>t=.bool true) N:=by
  intro σ N G R sG e5
  have a1:=fun _:Unit=>Zo5 (G:=G) (R:=R) (show n≤100 by omega)
  have a2:=fun _:Unit=>Zmv (R:=R) (show n≤90 by omega) (by decide) (by decide) sG
  have a3:=fun _:Unit=>ZmY (G:=G) (R:=R) (show n≤90 by omega)
  have a4:=fun _:Unit=>Zlb (s:=fun i=>(ZaE (G 0 (i+1)),G (i+1) 0)) (show n≤900 by omega)
  have pD:=Zip (n:=n) (G:=G) (R:=R)
  generalize Zad n G R=D at *
  generalize T.lst (tab n fun i=>Z0 (ZaE (G 0 (i+1)),G (i+1) 0))=E at *
  walk_at "zz"
  refine ZP (a1 ()) ?_
  walk_at "zz"
  refine ZP (a2 ()) ?_
  walk_at "zz"
  refine ZP (a3 ()) ?_
  walk_at "zz"
  refine ZP (a4 ()) ?_
  walk_at "zz"
  refine ZeD pD pD ?_
  rw[Zbv rfl]
 walk_at "zz"
 refine ZP (Zcx (by decide) (by decide) (by decide)) ?_
 walk_at "zz"
 refine⟨fun c=>?_,fun c=>?_⟩
 ·walk_at "zz"
  refine(Znw (B:=136) hL (by decide) (by decide) (by omega) (by decide) gd.2 (fun t ht=>⟨Zb3 (sR t ht).1 (by decide),Zb3 (sR t ht).2 (by decide)⟩) sG).mono ?_
  rintro _ ⟨G',R',rfl,h1,h2,h3,h4⟩
  refine go _ _ G' R' h3 ?_
  walk_at "zr"
 ·refine ZkT ?_
  refine go _ _ G R (fun i j hi hj b e=>Zb3 (sG i j hi hj b e) (by decide)) ?_
  walk_at "zr"
theorem Zme{ns:List Int}(hlen:ns.length≤63)(hL:PyData.layable0 (.list (ns.map .int))=true): ∃H',ZkA [.ref 0] [ns.map V.int]=some (.bool true,H'):=Znc Zn5 ns (Zmw hL)
end L
end
section
open PySem PySem.W PyProof.Rows
namespace PySem.W.Fast
def tw5105673956185107153:=0
def tw16968176118458789586:=0
def tw17643754061406199020:=0
def tw11187973929812520656:=0
def tw9156678896304099913:=0
def tw17704188385166749297:=0
def tw7523194637212750777:=0
def tw15515405784836723652:=0
def tw4157206338815638501:=0
def tw1906743188756502811:=0
def tw17925384258215065573:=0
def tw6428922634928461730:=0
def tw14613296582639449008:=0
def tw16172578528114110199:=0
def tw8789256864460932259:=0
def tw15622835117965313283:=0
def tw8621301723031713458:=0
def tw12941643214049860704:=0
def tw3094701115853657799:=0
def tw305048472116853797:=0
def tw3857615796733700780:=0
def tw15508019666092448443:=0
def tw16469568281967520401:=0
def tw4033379813872489195:=0
def tw13478877428745155630:=0
def tw17721039672839981703:=0
def tw9455475090630465045:=0
def tw10097206405949888370:=0
def tw17845374550828520631:=0
def tw16629561534657121264:=0
def tw16118103595353321548:=0
def tw11712190458185945011:=0
def tw12976177241038019767:=0
def tw14566440943485919492:=0
def tw14678158920106854735:=0
def tw17344816990000840926:=0
def tw6664951462986138201:=0
def tw15679247252792206210:=0
def tw6951939212644042833:=0
def tw5759927347364260171:=0
def tw17378384623800396468:=0
def tw6737687440995333003:=0
def tw5427499738942290107:=0
def tw6731276024794131016:=0
def tw7042659310547366237:=0
def tw931956834028986255:=0
def tw4211952112222678748:=0
def tw12434779806091606683:=0
def tw5353813085845620550:=0
def tw12184380411685104690:=0
def tw4475145619620083286:=0
def tw18387022231905187089:=0
def tw8237626310708396552:=0
def tw9585978970863474492:=0
def tw14805814515597417852:=0
def tw16591865221530654137:=0
def tw726985913927333873:=0
def tw15632992782082381434:=0
def tw14788362278542820120:=0
def tw14722794537435163219:=0
def tw4227517698962585424:=0
def tw11763852733077360975:=0
def tw10052001805573714066:=0
def tw9859357146180541188:=0
def tw15545184769064153574:=0
def tw8591989269830821236:=0
def tw1647960591809683682:=0
def tw5680315236850328200:=0
def tw5916140570258018564:=0
def tw8553059368797141306:=0
def tw16266442582153907279:=0
def tw7524379617451308511:=0
def tw12712400820596877648:=0
def tw274189353798237994:=0
def tw897888412878121761:=0
def tw5587484289544270231:=0
def tw8131721106225051767:=0
def tw10134030333460990790:=0
def tw11300376045408061371:=0
def tw18277388166739348960:=0
def tw7395645310213146516:=0
def tw15590669868760278694:=0
def tw6205024481829086969:=0
def tw16408362238061914836:=0
def tw11347631108264317165:=0
def tw17590088832654516399:=0
def tw6606014719576569030:=0
def tw7945405709010385892:=0
def tw5674458297940323589:=0
def tw5011889884212318148:=0
def tw2456577590951144490:=0
def tw8697654515486363317:=0
def tw1620389302784492585:=0
def tw10993542457211605592:=0
def tw15854262060937163188:=0
def tw1321987001754880705:=0
def tw14650769484350525481:=0
def tw3016012700857477809:=0
def tw3942624392001961204:=0
def tw6728313399510405491:=0
end PySem.W.Fast
set_option maxRecDepth 100000 in
set_option maxHeartbeats 8000000 in
open_top head for PySem.Challenge.rw_seer_k39_stretches_told
end
section
open PySem PySem.W PySem.Calls PyProof.Rows PM
seal PM.J PM.Js PM.JT PM.JA PM.JF PM.JI PM.JI2 PM.JP PM.S1 PM.Ss PM.Sto PM.Rd PM.Nm PM.OpN PM.Op2 PM.Def
namespace L
noncomputable abbrev DD(w:World)(s₀:Shared)(mg mb:Str→Option Value)(f:Addr)(r:Nat)(F:List V→Hp→Option (V×Hp)): Prop:=Def PySem.Challenge.rw_seer_k39_stretches_told.row.prog w (head.heap_39 w.params) head.view_39 (looseW head.view_39 []) (ExcName.means s₀.heap) mg mb f r F
section
variable {w:World} {s₀:Shared} {mg mb:Str→Option Value}
theorem ZjT: DD w s₀ mg mb 238 1 Zfb:=by
 unfold DD;k_fill
 refine Dof (names:=["_law_script","_law_k","_law_number_here"]) (g:=Zhe) ?_
 exact fun _ _ _ _ _ _ _ c _ _=>(Zw (ZT sL (ZH (ZH (ZH vL vL Zbe) jI Zbe) jI Zau)) (Zw (Z7 (ZW (Zaz (nB c) (jc vL Zp) ZaU) jI Zje) (Zx (ZT sL (ZH vL (ZA vL (ZH vL (Zaz (nB c) (jc vL Zp) ZaU) Za3)) Zau))) Zab) (Zx (ZJ vL))))
theorem law_pick_d: DD w s₀ mg mb 245 2 Zcb:=by
 unfold DD;k_fill
 refine Dof (names:=["_law_script","_law_k","_law_many"]) (g:=ZhB) ?_
 exact fun _ _ _ _ _ _ _ c _ _=>(Zx (ZJ (ZH (ZH (ZH (cF c ZjT (jc vL (jc vL Zp))) jI Zbe) jI Za3) vL Za3)))
theorem Zl0: DD w s₀ mg mb 77 1 ZgT:=by
 unfold DD;k_fill
 refine Dof (names:=["i","n"]) (g:=ZgS) ?_
 exact fun _ _ _ _ _ _ _ c _ _=>(Zx (ZJ (by refine cO ?_ ?_ ?_;(exact(JI.range (nB c) (jc (ZH vL jI Zau) Zp)));(exact fun _ _=>(ZeJ (ZW vD vO Zbf) jI jN));(exact fun _ _=>JF.nil))))
theorem ZnB: DD w s₀ mg mb 72 2 Zif:=by
 unfold DD;k_fill
 refine Dof (names:=["n"]) (g:=Zie) ?_
 exact fun _ _ _ _ _ _ _ c _ _=>(Zx (ZJ (by refine cO ?_ ?_ ?_;(exact(JI.range (nB c) (jc (ZH vC jI Zau) Zp)));(exact fun _ _=>(cF (Zcc c) Zl0 (jc vO (jc vD Zp))));(exact fun _ _=>JF.nil))))
theorem ZjF: DD w s₀ mg mb 188 1 ZdA:=by
 unfold DD;k_fill
 refine Dof (names:=["rests"]) (g:=ZgM) ?_
 exact fun _ _ _ _ _ _ _ c _ _=>(Zx (ZJ (ZH (J.list (jc (J.tup (jc jI (jc jI Zp))) Zp)) vL Zau)))
theorem Zkn: DD w s₀ mg mb 106 1 Zfw:=by
 unfold DD;k_fill
 refine Dof (names:=["one","other","left","right","over"]) (g:=Zh7) ?_
 exact fun _ _ _ _ _ _ _ c _ _=>(Zw (ZT sL (Zaz (nB c) (jc vL Zp) ZeA)) (Zw (ZT sL (Zaz (nB c) (jc vL Zp) ZeA)) (Zw (Zkq 1000000 (ZW vL jI ZbQ) (Zw (ZT sL (ZH vL vL Za3)) (Zw (ZT sL vL) (Zx (ZT sL vL))))) (Zx (ZJ vL)))))
theorem Zjc: DD w s₀ mg mb 120 1 ZeI:=by
 unfold DD;k_fill
 refine Dof (names:=["m","r"]) (g:=Zi5) ?_
 exact fun _ _ _ _ _ _ _ c _ _=>(Zw (Z7 (ZW vL jI ZcN) (Zx (ZqB)) Zab) (Zw (Z7 (ZW vL jI Zbf) (Zx (ZJ (J.tup (jc jI (jc vL Zp))))) Zab) (Zx (ZJ (J.tup (jc vL (jc (ZH vL vL Za3) Zp)))))))
theorem ZnC: DD w s₀ mg mb 113 1 Zia:=by
 unfold DD;k_fill
 refine Dof (names:=["one","by","left","right","left_turns","right_turns","part","over","over_turns"]) (g:=Zh9) ?_
 exact fun _ _ _ _ _ _ _ c _ _=>(Zw (ZT sL (ZH vL vL Za3)) (Zw (ZT sL vL) (Zw (ZT sL jI) (Zw (ZT sL jI) (Zw (Zkq 1000000 (ZW vL jI ZbQ) (Zw (ZT sL (ZH vL vL ZdO)) (Zw (ZT sL (ZH vL (ZH vL vL Zbe) Zcf)) (Zw (ZT sL (ZH vL (ZH vL vL Zbe) Zcf)) (Zw (ZT sL vL) (Zw (ZT sL vL) (Zw (ZT sL vL) (Zx (ZT sL vL))))))))) (Zx (ZJ (ZH vL vL Za3))))))))
theorem Zj6: DD w s₀ mg mb 127 1 Zfm:=by
 unfold DD;k_fill
 refine Dof (names:=["one","number"]) (g:=ZhM) ?_
 exact fun _ _ _ _ _ _ _ c _ _=>(Zw (Z7 (ZW (ZA vL jI) jI Zbf) (Zx (ZJ (ZcC vL (ZA vL jI) Zbf))) Zab) (Zx (ZJ (ZcC (ZH vL (ZA vL jI) Za3) (ZA vL jI) Zbf))))
theorem ZmZ: DD w s₀ mg mb 134 2 ZhP:=by
 unfold DD;k_fill
 refine Dof (names:=["one","other","common","apart","width","turns"]) (g:=ZhO) ?_
 exact fun _ _ _ _ _ _ _ c _ _=>(Zw (Z7 (ZW (ZA vL jI) jI Zbf) (Zx (ZJ (ZeJ (Zbd (cF c Zj6 (jc vL (jc (ZA vL jI) Zp)))) vL jN))) Zab) (Zw (Z7 (ZW (ZA vL jI) jI Zbf) (Zx (ZJ (ZeJ (Zbd (cF c Zj6 (jc vL (jc (ZA vL jI) Zp)))) vL jN))) Zab) (Zw (ZT sL (cF c Zkn (jc (ZA vL jI) (jc (ZA vL jI) Zp)))) (Zw (ZT sL (ZH (ZA vL jI) (ZA vL jI) Zcf)) (Zw (Z7 (ZW (ZH vL vL Za3) jI ZbQ) (Zx (ZJ jN)) Zab) (Zw (ZT sL (ZH (ZA vL jI) vL ZdO)) (Zw (ZT sL (ZH (ZH vL vL ZdO) (cF c ZnC (jc (ZH (ZA vL jI) vL ZdO) (jc vL Zp))) Zbe)) (Zx (ZJ (cF c Zjc (jc (ZH (ZA vL jI) vL Zbe) (jc (ZH (ZA vL jI) (ZH (ZA vL jI) vL Zbe) Zau) Zp))))))))))))
theorem Zj7: DD w s₀ mg mb 46 1 Zfo:=by
 unfold DD;k_fill
 refine Dof (names:=["one","other"]) (g:=ZhR) ?_
 exact fun _ _ _ _ _ _ _ c _ _=>(Zw (Z7 (Za1 (ZaF (ZW vL jN ZbK) (ZaF (ZW vL jN ZbK) Zb1))) (Zx (ZJ jN)) Zab) (Zx (ZJ (ZH vL vL Zau))))
theorem ZjU: DD w s₀ mg mb 141 2 Zfd:=by
 unfold DD;k_fill
 refine Dof (names:=["one","other"]) (g:=Zhm) ?_
 exact fun _ _ _ _ _ _ _ c _ _=>(Zx (ZJ (cF c Zjc (jc (cF c Zkn (jc (ZA vL jI) (jc (ZA vL jI) Zp))) (jc (ZH (ZA vL jI) (ZA vL jI) Zau) Zp)))))
theorem ZlQ: DD w s₀ mg mb 195 3 Zd2:=by
 unfold DD;k_fill
 refine Dof (names:=["bounds","rests","i","met","j","other"]) (g:=Zgz) ?_
 exact fun _ _ _ _ _ _ _ c _ _=>(Zw (ZT sL (ZA vL vL)) (Zw (ZiD sL sL (ZnT (nB c) vL) (Zx (Z7 (Za1 (Zbr (ZW vL jN Zck) (Zbr (ZW (cF c Zj7 (jc (ZA (ZA vL vL) vL) (jc (ZA (ZA vL vL) vL) Zp))) jI Zbf) ZcY))) (Zx (ZT sL (cF c ZmZ (jc vL (jc (cF c ZjU (jc vL (jc (J.tup (jc jI (jc (ZA (ZA vL vL) vL) Zp))) Zp))) Zp))))) Zab))) (Zx (ZJ vL))))
theorem Zl1: DD w s₀ mg mb 181 4 ZcW:=by
 unfold DD;k_fill
 refine Dof (names:=["told","rests","met"]) (g:=Zd5) ?_
 exact fun _ _ _ _ _ _ _ c _ _=>(Zw (Z7 (ZW vC jN ZbK) (Zx (ZJ jN)) Zab) (Zw (ZT sC (cF c ZjF (jc (ZA vC jI) Zp))) (Zw (by refine sO sL ?_ ?_ ?_;(exact(JI.range (nB c) (jc jI (jc (Zaz (nB c) (jc vC Zp) ZaU) Zp))));(exact fun _ _=>(cF (Zcc c) ZlQ (jc (ZA vD jI) (jc vD (jc vO Zp)))));(exact fun _ _=>JF.nil)) (Zw (Z7 (ZW jN vL Zlw) (Zx (ZJ jN)) Zab) (Zx (ZJ (J.tup (jc (ZA vC jI) (jc vL Zp)))))))))
theorem Zmx: DD w s₀ mg mb 60 1 Zhk:=by
 unfold DD;k_fill
 refine Dof (names:=["one","other"]) (g:=Zhj) ?_
 exact fun _ _ _ _ _ _ _ c _ _=>(Zx (ZJ (ZqI (ZcC vL jN ZbK) (Zf7 (ZcC vL jN Zck) (ZcC vL vL Zjd)))))
theorem Zoj: DD w s₀ mg mb 67 2 Zir:=by
 unfold DD;k_fill
 refine Dof (names:=["one","other"]) (g:=Ziq) ?_
 exact fun _ _ _ _ _ _ _ c _ _=>(Zx (ZJ (ZeJ (Zbd (cF c Zmx (jc vL (jc vL Zp)))) vL vL)))
theorem ZlK: DD w s₀ mg mb 94 3 Zgr:=by
 unfold DD;k_fill
 refine Dof (names:=["row","there","further"]) (g:=Zgq) ?_
 exact fun _ _ _ _ _ _ _ c _ _=>(Zx (ZJ (by refine cT ?_ ?_;(exact(JI2.zip (nB c) vL vL));(exact fun _ _=>(cF (Zcc c) Zoj (jc vO (jc (cF (Zcc c) Zj7 (jc vD (jc vO Zp))) Zp)))))))
theorem Zmy: DD w s₀ mg mb 89 4 Zhp:=by
 unfold DD;k_fill
 refine Dof (names:=["bounds","mid"]) (g:=Zho) ?_
 exact fun _ _ _ _ _ _ _ c _ _=>(Zx (ZJ (by refine cO ?_ ?_ ?_;(exact(JI.seq vC));(exact fun _ _=>(cF (Zcc c) ZlK (jc vO (jc (ZA vO vD) (jc (ZA vD vD) Zp)))));(exact fun _ _=>JF.nil))))
theorem ZlR: DD w s₀ mg mb 99 1 Zgx:=by
 unfold DD;k_fill
 refine Dof (names:=["bounds"]) (g:=Zgw) ?_
 exact fun _ _ _ _ _ _ _ c _ _=>(Zx (ZJ (Zaz (nB c) (jc (by refine cO ?_ ?_ ?_;(exact(JI.range (nB c) (jc (Zaz (nB c) (jc vC Zp) ZaU) Zp)));(exact fun _ _=>(ZcC (ZA (ZA vD vO) vO) jI ZcN));(exact fun _ _=>JF.nil)) Zp) Zpr)))
theorem Zok: DD w s₀ mg mb 84 5 ZdJ:=by
 unfold DD;k_fill
 refine Dof (names:=["bounds","near","mid"]) (g:=Zit) ?_
 exact fun _ _ _ _ _ _ _ c _ _=>(Zw (ZT sL vL) (Zw (Zcg sL (JI.range (nB c) (jc (Zaz (nB c) (jc vL Zp) ZaU) Zp)) (Zw (ZT sL (cF c Zmy (jc vL (jc vL Zp)))) (Zx (Z7 (Zbd (cF c ZlR (jc vL Zp))) (Zx (ZJ jN)) Zab)))) (Zx (ZJ vL))))
theorem Zqj: DD w s₀ mg mb 176 6 Zc7:=by
 unfold DD;k_fill
 refine Dof (names:=["told","bounds"]) (g:=ZfW) ?_
 exact fun _ _ _ _ _ _ _ c _ _=>(Zw (Z7 (ZW vL jN ZbK) (Zx (ZJ jN)) Zab) (Zw (ZT sL (cF c Zok (jc (ZA vL jI) Zp))) (Zw (Z7 (ZW vL jN ZbK) (Zx (ZJ jN)) Zab) (Zx (ZJ (J.tup (jc vL (jc (ZA vL jI) Zp))))))))
theorem Zlt: DD w s₀ mg mb 169 7 ZdT:=by
 unfold DD;k_fill
 refine Dof (names:=["told"]) (g:=Zi8) ?_
 exact fun _ _ _ _ _ _ _ c _ _=>(Zx (ZJ (cF c Zl1 (jc (cF c Zqj (jc vL Zp)) Zp))))
theorem Zmf: DD w s₀ mg mb 155 1 Zhb:=by
 unfold DD;k_fill
 refine Dof (names:=["one","top"]) (g:=Zha) ?_
 exact fun _ _ _ _ _ _ _ c _ _=>(Zw (Z7 (ZW (ZA vL jI) jI Zbf) (Zx (ZJ (ZeJ (ZW (ZA vL jI) vL Zjd) (ZA vL jI) jN))) Zab) (Zx (ZJ (ZH vL (ZH (ZH vL (ZA vL jI) Zcf) (ZA vL jI) Za3) Zcf))))
theorem ZlL: DD w s₀ mg mb 214 2 Zgu:=by
 unfold DD;k_fill
 refine Dof (names:=["bound","left"]) (g:=Zgt) ?_
 exact fun _ _ _ _ _ _ _ c _ _=>(Zw (Z7 (ZW vL jN Zck) (Zx (ZJ (cF c Zmf (jc vL (jc vL Zp))))) Zab) (Zw (Z7 (ZW (ZA vL jI) jI Zbf) (Zx (ZJ (ZA vL jI))) Zab) (Zx (ZJ jN))))
theorem Zmg: DD w s₀ mg mb 148 2 Zg8:=by
 unfold DD;k_fill
 refine Dof (names:=["one","k"]) (g:=Zg7) ?_
 exact fun _ _ _ _ _ _ _ c _ _=>(Zx (ZJ (cF c Zjc (jc (ZH (ZA vL jI) (Zaz (nB c) (jc vL Zp) ZeA) Zbe) (jc (ZH (ZA vL jI) vL Zbe) Zp)))))
theorem Zl2: DD w s₀ mg mb 207 3 ZgQ:=by
 unfold DD;k_fill
 refine Dof (names:=["row","left","rests","new","bound","other","low"]) (g:=ZgP) ?_
 exact fun _ _ _ _ _ _ _ c _ _=>(Zw (ZT sL (J.list Zp)) (Zw (ZiD sL sL (JI2.zip (nB c) vL vL) (Zw (ZT sL (cF c ZlL (jc vL (jc (cF c ZjU (jc vL (jc (cF c Zmg (jc vL (jc (Zgh jI ZfP) Zp))) Zp))) Zp)))) (Zw (Z7 (Za1 (Zbr (ZW vL jN ZbK) (Zbr (ZW vL jN Zck) ZcY))) (Zx (ZJ jN)) Zab) (Zx (Zcy (J.append vL vL)))))) (Zx (ZJ vL))))
theorem ZnD: DD w s₀ mg mb 200 4 Zid:=by
 unfold DD;k_fill
 refine Dof (names:=["told","rests","bounds"]) (g:=Zic) ?_
 exact fun _ _ _ _ _ _ _ c _ _=>(Zw (Z7 (ZW vL jN ZbK) (Zx (ZJ jN)) Zab) (Zw (ZT sC (cF c ZjF (jc (ZA vL jI) Zp))) (Zw (by refine sT sL ?_ ?_;(exact(JI2.zip (nB c) (ZA vL jI) vC));(exact fun _ _=>(cF (Zcc c) Zl2 (jc vO (jc vO (jc vD Zp)))))) (Zw (Z7 (ZW jN vL Zlw) (Zx (ZJ jN)) Zab) (Zx (ZJ (J.tup (jc vL (jc (ZA vL jI) Zp)))))))))
theorem Zpk: DD w s₀ mg mb 162 8 ZiU:=by
 unfold DD;k_fill
 refine Dof (names:=["told"]) (g:=ZiT) ?_
 exact fun _ _ _ _ _ _ _ c _ _=>(Zx (ZJ (cF c Zlt (jc (cF c ZnD (jc (cF c Zlt (jc vL Zp)) Zp)) Zp))))
theorem ZjV: DD w s₀ mg mb 53 1 Zfg:=by
 unfold DD;k_fill
 refine Dof (names:=["end","k"]) (g:=Zht) ?_
 exact fun _ _ _ _ _ _ _ c _ _=>(Zw (Z7 (ZW vL jN ZbK) (Zx (ZJ jN)) Zab) (Zx (ZJ (ZH vL vL Zbe))))
theorem Zm0: DD w s₀ mg mb 226 2 ZhW:=by
 unfold DD;k_fill
 refine Dof (names:=["bounds","i","one"]) (g:=Zfq) ?_
 exact fun _ _ _ _ _ _ _ c _ _=>(Zw (S1.put (ZA vL jI) (ZA vL vL) jI) (Zx (S1.put (cF c ZjV (jc (ZA vL jI) (jc (Zgh jI ZfP) Zp))) (ZA vL jI) vL)))
theorem ZlS: DD w s₀ mg mb 219 9 ZgE:=by
 unfold DD;k_fill
 refine Dof (names:=["some","bounds","i","one"]) (g:=ZgD) ?_
 exact fun _ _ _ _ _ _ _ c _ _=>(Zw (ZT sL (cF c ZnB (jc (Zaz (nB c) (jc vL Zp) ZaU) Zp))) (Zw (ZiD sL sL (Znh (nB c) vL) (Zx (Zcy (cF c Zm0 (jc vL (jc vL (jc vL Zp))))))) (Zx (ZJ (cF c Zpk (jc (J.tup (jc vL (jc (by refine cO ?_ ?_ ?_;(exact(JI.seq vL));(exact fun _ _=>(J.tup (jc jI (jc jI Zp))));(exact fun _ _=>JF.nil)) Zp))) Zp))))))
theorem Zd9: DD w s₀ mg mb 252 2 Zdi:=by
 unfold DD;k_fill
 refine Dof (names:=["_law_script","_law_k","_law_number_here","_law_reach"]) (g:=Zg2) ?_
 exact fun _ _ _ _ _ _ _ c _ _=>(Zw (ZT sL (cF c ZjT (jc vL (jc vL Zp)))) (Zw (ZT sL (ZA (J.list (jc jI (jc jI (jc (ZH jI jI Zi0) (jc (ZH jI jI Zi0) Zp))))) (ZH (ZH (ZH vL jI Zbe) jI Za3) jI Za3))) (Zx (ZJ (ZH (ZH (ZH vL (ZH jI jI Zi0) Zbe) (ZH (ZH jI vL Zbe) jI Zau) Za3) vL Zcf)))))
theorem Zhy: DD w s₀ mg mb 259 3 Zeb:=by
 unfold DD;k_fill
 refine Dof (names:=["_law_script","_law_k","_law_way"]) (g:=Zhg) ?_
 exact fun _ _ _ _ _ _ _ c _ _=>(Zw (ZT sL (cF c law_pick_d (jc vL (jc vL (jc jI Zp))))) (Zw (Z7 (ZW (ZH vL jI Za3) jI ZcN) (Zx (ZJ jN)) Zab) (Zw (Z7 (ZW (ZH vL jI Za3) jI ZcN) (Zx (ZJ jI)) Zab) (Zw (Z7 (ZW (ZH vL jI Za3) jI Zbf) (Zx (ZJ (ZH vL jI ZdO))) Zab) (Zx (ZJ (Zaz (nB c) (jc (cF c Zd9 (jc vL (jc vL Zp))) Zp) ZeA)))))))
theorem Zg1: DD w s₀ mg mb 266 1 Zd4:=by
 unfold DD;k_fill
 refine Dof (names:=["_law_m","_law_r"]) (g:=ZgJ) ?_
 exact fun _ _ _ _ _ _ _ c _ _=>(Zw (Z7 (ZW vL jI Zbf) (Zx (ZJ (J.tup (jc jI (jc vL Zp))))) Zab) (Zx (ZJ (J.tup (jc vL (jc (ZH vL vL Za3) Zp))))))
theorem Zm1: DD w s₀ mg mb 273 3 ZhE:=by
 unfold DD;k_fill
 refine Dof (names:=["_law_script","_law_k","_law_number_here","_law_way"]) (g:=ZhD) ?_
 exact fun _ _ _ _ _ _ _ c _ _=>(Zw (ZT sL (cF c law_pick_d (jc vL (jc vL (jc jI Zp))))) (Zw (Z7 (ZW (ZH vL jI Za3) jI ZcN) (Zx (ZJ (J.tup (jc jI (jc jI Zp))))) Zab) (Zw (Z7 (ZW (ZH vL jI Za3) jI Zbf) (Zx (ZJ (J.tup (jc jI (jc vL Zp))))) Zab) (Zw (Z7 (ZW (ZH vL jI Za3) jI Zbf) (Zx (ZJ (cF c Zg1 (jc (ZH (ZH vL jI ZdO) jI Zau) (jc vL Zp))))) Zab) (Zx (ZJ (cF c Zg1 (jc (Zaz (nB c) (jc (cF c Zd9 (jc vL (jc vL Zp))) Zp) ZeA) (jc vL Zp)))))))))
theorem Zm2: DD w s₀ mg mb 278 4 ZhH:=by
 unfold DD;k_fill
 refine Dof (names:=["_law_script","_law_k","_law_boxes","_law_full","_law_size","_law_bounds","_law_i","_law_row","_law_j","_law_top"]) (g:=ZhG) ?_
 exact fun _ _ _ _ _ _ _ c _ _=>(Zw (ZT sL (ZH (J.list (jc jI Zp)) vC Zau)) (Zw (ZT sC (Zaz (nB c) (jc vL Zp) ZaU)) (Zw (ZT sL (J.list Zp)) (Zw (Zcg sL (JI.range (nB c) (jc vC Zp)) (Zw (ZT sL (J.list Zp)) (Zw (Zcg sL (JI.range (nB c) (jc vC Zp)) (Zw (ZT sL (cF c Zhy (jc vC (jc (ZH (ZH vC (ZH vL vC Zbe) Zau) vL Zau) Zp)))) (Zw (Z7 (ZW vL jN Zck) (Zx (ZT sL (ZH (ZH (ZA vL vL) (ZA vL vL) Zcf) vL Zau))) Zab) (Zx (Zcy (J.append vL vL)))))) (Zw (S1.put jI vL vL) (Zx (Zcy (J.append vL vL))))))) (Zx (ZJ (J.tup (jc vL (jc (by refine cO ?_ ?_ ?_;(exact(JI.range (nB c) (jc (ZH vC jI Zcf) Zp)));(exact fun _ _=>(cF (Zcc c) Zm1 (jc vD (jc (ZH (ZH vD (ZH vD vD Zbe) Zau) vO Zau) (jc (ZA vD vO) Zp)))));(exact fun _ _=>JF.nil)) Zp)))))))))
theorem Zm3: DD w s₀ mg mb 283 1 ZhK:=by
 unfold DD;k_fill
 refine Dof (names:=["_law_told_here"]) (g:=ZhJ) ?_
 exact fun _ _ _ _ _ _ _ c _ _=>(Zw (Z7 (ZW vL jN ZbK) (Zx (ZJ jN)) Zab) (Zx (ZJ (J.tup (jc (by refine cO ?_ ?_ ?_;(exact(JI.seq (ZA vL jI)));(exact fun _ _=>(Zep (nB (Zcc c)) (jc vO Zp) Zem));(exact fun _ _=>JF.nil)) (jc (Zep (nB c) (jc (ZA vL jI) Zp) Zem) Zp))))))
theorem Zl3: DD w s₀ mg mb 323 4 ZgW:=by
 unfold DD;k_fill
 refine Dof (names:=["_law_script","_law_k","_law_number_here","_law_lo","_law_hi"]) (g:=ZgV) ?_
 exact fun _ _ _ _ _ _ _ c _ _=>(Zw (ZT sL (cF c Zd9 (jc vL (jc vL Zp)))) (Zw (ZT sL (cF c Zhy (jc vL (jc (ZH vL jI Zau) Zp)))) (Zw (ZT sL (cF c Zhy (jc vL (jc (ZH vL jI Zau) Zp)))) (Zw (Z7 (ZW vL jN Zck) (Zx (ZT sL (ZH vL vL Zcf))) Zab) (Zw (Z7 (ZW vL jN Zck) (Zx (ZT sL (ZH vL vL Zau))) Zab) (Zx (ZJ (J.tup (jc vL (jc vL Zp))))))))))
theorem Zmh: DD w s₀ mg mb 288 3 Zg5:=by
 unfold DD;k_fill
 refine Dof (names:=["_law_script","_law_k","_law_told_here","_law_bounds","_law_rests","_law_i","_law_j","_law_way","_law_t","_law_one"]) (g:=Zg4) ?_
 exact fun _ _ _ _ _ _ _ c _ _=>(Zw (by refine sO sL ?_ ?_ ?_;(exact(JI.seq (ZA vL jI)));(exact fun _ _=>(Zep (nB (Zcc c)) (jc vO Zp) Zem));(exact fun _ _=>JF.nil)) (Zw (ZT sL (Zep (nB c) (jc (ZA vL jI) Zp) Zem)) (Zw (ZT sL (cF c law_pick_d (jc vL (jc vL (jc (Zaz (nB c) (jc vL Zp) ZaU) Zp))))) (Zw (ZT sL (cF c law_pick_d (jc vL (jc (ZH vL jI Zau) (jc (Zaz (nB c) (jc vL Zp) ZaU) Zp))))) (Zw (ZT sL (cF c law_pick_d (jc vL (jc (ZH vL jI Zau) (jc jI Zp))))) (Zw (Z7 (Za1 (Zbr (ZW vL jI ZcN) (Zbr (ZW vL vL ZbQ) (Zbr (ZW (ZA (ZA vL vL) vL) jN ZbK) ZcY)))) (Zx (S1.put (cF c Zd9 (jc vL (jc (ZH vL jI Zau) Zp))) (ZA vL vL) vL)) (Zx (Z7 (Za1 (Zbr (ZW vL jI ZcN) (Zbr (ZW vL vL ZbQ) ZcY))) (Zx (S1.put (ZH (ZH (ZA (ZA vL vL) vL) jI Zcf) (cF c law_pick_d (jc vL (jc (ZH vL jI Zau) (jc jI Zp)))) Zcf) (ZA vL vL) vL)) (Zx (Z7 (ZW (Zaz (nB c) (jc vL Zp) ZaU) jI Zje) (Zw (ZT sL (cF c law_pick_d (jc vL (jc vL (jc (Zaz (nB c) (jc vL Zp) ZaU) Zp))))) (Zw (ZT sL (ZA vL vL)) (Zx (S1.put (cF c Zg1 (jc (ZH (ZA vL jI) (ZH jI (ZH vL jI Za3) Zau) Zbe) (jc (ZH (ZA vL jI) (cF c law_pick_d (jc vL (jc (ZH vL jI Zau) (jc jI Zp)))) Zau) Zp))) vL vL)))) Zab))))) (Zx (ZJ (J.tup (jc vL (jc vL Zp)))))))))))
theorem Zfi: DD w s₀ mg mb 295 1 ZdD:=by
 unfold DD;k_fill
 refine Dof (names:=["_law_thing"]) (g:=Zhr) ?_
 exact fun _ _ _ _ _ _ _ c _ _=>(Zx (ZJ (Zf7 (ZcJ (nB c) (nB c) (.inl rfl) vL) (Zqk (ZcJ (nB c) (nB c) (.inr (.inl rfl)) vL)))))
theorem Zj8: DD w s₀ mg mb 337 2 Zfs:=by
 unfold DD;k_fill
 refine Dof (names:=["_law_found","_law_due_here","_law_pair","_law_end"]) (g:=ZhY) ?_
 exact fun _ _ _ _ _ _ _ c _ _=>(Zw (Z7 (Za1 (ZaF (Zby (Zbd (ZcJ (nB c) (nB c) (.inr (.inr (.inl rfl))) vL))) (ZaF (ZW (Zaz (nB c) (jc vL Zp) ZaU) (Zaz (nB c) (jc vL Zp) ZaU) ZbQ) Zb1))) (Zx (ZJ jB)) Zab) (Zw (Zcg sL (JI.seq vL) (Zw (Z7 (Za1 (ZaF (Zby (Zbd (ZcJ (nB c) (nB c) (.inr (.inr (.inr rfl))) vL))) (ZaF (ZW (Zaz (nB c) (jc vL Zp) ZaU) jI ZbQ) Zb1))) (Zx (ZJ jB)) Zab) (Zx (Zcg sL (JI.seq vL) (Zx (Z7 (Za1 (Zbr (ZW vL jN Zck) (Zbr (Zby (Zbd (cF c Zfi (jc vL Zp)))) ZcY))) (Zx (ZJ jB)) Zab)))))) (Zx (ZJ (ZcC vL vL Zbf)))))
theorem Zm4: DD w s₀ mg mb 302 2 ZhU:=by
 unfold DD;k_fill
 refine Dof (names:=["_law_thing","_law_size","_law_i","_law_top"]) (g:=ZhT) ?_
 exact fun _ _ _ _ _ _ _ c _ _=>(Zw (Z7 (Za1 (ZaF (Zby (Zbd (ZcJ (nB c) (nB c) (.inr (.inr (.inl rfl))) vL))) (ZaF (ZW (Zaz (nB c) (jc vL Zp) ZaU) vL ZbQ) Zb1))) (Zx (ZJ jB)) Zab) (Zw (Zcg sL (JI.range (nB c) (jc vL Zp)) (Zw (Z7 (Za1 (ZaF (Zby (Zbd (ZcJ (nB c) (nB c) (.inr (.inr (.inl rfl))) (ZA vL vL)))) (ZaF (ZW (Zaz (nB c) (jc (ZA vL vL) Zp) ZaU) vL ZbQ) Zb1))) (Zx (ZJ jB)) Zab) (Zw (Zcg sL (JI.seq (ZA vL vL)) (Zx (Z7 (Za1 (Zbr (ZW vL jN Zck) (Zbr (Zby (Zbd (cF c Zfi (jc vL Zp)))) ZcY))) (Zx (ZJ jB)) Zab))) (Zx (Z7 (ZW (ZA (ZA vL vL) vL) jI ZbQ) (Zx (ZJ jB)) Zab))))) (Zx (ZJ jB))))
theorem Zmz: DD w s₀ mg mb 309 3 Zhw:=by
 unfold DD;k_fill
 refine Dof (names:=["_law_thing","_law_many","_law_pair"]) (g:=Zhv) ?_
 exact fun _ _ _ _ _ _ _ c _ _=>(Zw (Z7 (Za1 (ZaF (Zby (Zbd (ZcJ (nB c) (nB c) (.inr (.inr (.inr rfl))) vL))) (ZaF (ZW (Zaz (nB c) (jc vL Zp) ZaU) jI ZbQ) (ZaF (Zby (Zbd (cF c Zm4 (jc (ZA vL jI) (jc (ZH vL jI Zau) Zp))))) Zb1)))) (Zx (ZJ jB)) Zab) (Zw (Z7 (Za1 (ZaF (Zby (Zbd (ZcJ (nB c) (nB c) (.inr (.inr (.inl rfl))) (ZA vL jI)))) (ZaF (ZW (Zaz (nB c) (jc (ZA vL jI) Zp) ZaU) vL ZbQ) Zb1))) (Zx (ZJ jB)) Zab) (Zw (Zcg sL (JI.seq (ZA vL jI)) (Zw (Z7 (Za1 (ZaF (Zby (Zbd (ZcJ (nB c) (nB c) (.inr (.inr (.inr rfl))) vL))) (ZaF (ZW (Zaz (nB c) (jc vL Zp) ZaU) jI ZbQ) Zb1))) (Zx (ZJ jB)) Zab) (Zw (Z7 (Za1 (ZaF (Zby (Zbd (cF c Zfi (jc (ZA vL jI) Zp)))) (ZaF (Zby (Zbd (cF c Zfi (jc (ZA vL jI) Zp)))) Zb1))) (Zx (ZJ jB)) Zab) (Zx (Z7 (Za1 (ZaF (ZW (ZA vL jI) jI ZcN) (ZaF (Za1 (Zbr (ZW (ZA vL jI) jI Zje) (Zbr (Zby (ZnW jI (ZA vL jI) (ZA vL jI) Zjd ZcN)) ZcY))) Zb1))) (Zx (ZJ jB)) Zab))))) (Zx (ZJ jB)))))
theorem ZjD: DD w s₀ mg mb 316 4 Ze3:=by
 unfold DD;k_fill
 refine Dof (names:=["_law_found","_law_due_here"]) (g:=ZgG) ?_
 exact fun _ _ _ _ _ _ _ c _ _=>(Zw (Z7 (ZW vL jN ZbK) (Zx (ZJ (ZcC vL jN ZbK))) Zab) (Zx (ZJ (Zf7 (cF c Zmz (jc vL (jc (Zaz (nB c) (jc (ZA vL jI) Zp) ZaU) Zp))) (ZcC vL vL Zbf)))))
theorem ZjE: DD w s₀ mg mb 231 2 Ze1:=by
 unfold DD;k_fill
 refine Dof (names:=["told","bounds"]) (g:=ZgB) ?_
 exact fun _ _ _ _ _ _ _ c _ _=>(Zw (ZT sC (ZA vL jI)) (Zx (ZJ (by refine cO ?_ ?_ ?_;(exact(JI.range (nB c) (jc jI (jc (Zaz (nB c) (jc vC Zp) ZaU) Zp))));(exact fun _ _=>(J.tup (jc (cF (Zcc c) ZjV (jc (ZA (ZA vD jI) vO) (jc (Zgh jI ZfP) Zp))) (jc (ZA (ZA vD vO) jI) Zp))));(exact fun _ _=>JF.nil)))))
theorem Zl4: DD w s₀ mg mb 344 1 ZgZ:=by
 unfold DD;k_fill
 refine Dof (names:=["_law_told_here","_law_some","_law_i","_law_lo"]) (g:=ZgY) ?_
 exact fun _ _ _ _ _ _ _ c _ _=>(Zw (ZT sL (J.list Zp)) (Zw (Zcg sL (JI.range (nB c) (jc jI (jc (Zaz (nB c) (jc (ZA vL jI) Zp) ZaU) Zp))) (Zw (ZT sL (ZA (ZA (ZA vL jI) jI) vL)) (Zw (Z7 (ZW vL jN Zck) (Zx (ZT sL (Zgh vL ZfP))) Zab) (Zx (Zcy (J.append vL (J.tup (jc vL (jc (ZA (ZA (ZA vL jI) vL) jI) Zp))))))))) (Zx (ZJ vL))))
theorem Zko: DD w s₀ mg mb 330 1 ZfA:=by
 unfold DD;k_fill
 refine Dof (names:=["_law_some","_law_full","_law_bounds","_law_one","_law_row","_law_other","_law_rests","_law_i"]) (g:=Zih) ?_
 exact fun _ _ _ _ _ _ _ c _ _=>(Zw (ZT sL (ZH (J.list (jc (J.tup (jc jI (jc jI Zp))) Zp)) vL Zau)) (Zw (ZT sL (J.list Zp)) (Zw (Zcg sL (JI.seq vL) (Zw (ZT sL (J.list Zp)) (Zw (Zcg sL (JI.seq vL) (Zx (Z7 (Za1 (ZaF (ZW (ZA vL jI) jN ZbK) (ZaF (ZW (ZA vL jI) jN ZbK) Zb1))) (Zx (Zcy (J.append vL jN))) (Zx (Zcy (J.append vL (ZH (ZA vL jI) (ZA vL jI) Zcf))))))) (Zx (Zcy (J.append vL vL)))))) (Zw (ZT sL (J.list Zp)) (Zw (Zcg sL (JI.range (nB c) (jc (Zaz (nB c) (jc vL Zp) ZaU) Zp)) (Zw (S1.put jI (ZA vL (ZH vL jI Zau)) (ZH vL jI Zau)) (Zx (Z7 (Za1 (Zbr (ZW (ZA (ZA vL vL) jI) jN Zck) (Zbr (ZW (ZA (ZA vL vL) jI) (ZA (ZA vL vL) jI) Zbf) ZcY))) (Zx (Zcy (J.append vL (J.tup (jc jI (jc (ZA (ZA vL vL) jI) Zp)))))) (Zx (Zcy (J.append vL (J.tup (jc jI (jc jI Zp)))))))))) (Zx (ZJ (J.tup (jc vL (jc vL Zp))))))))))
end
end L
end
section
open PySem PySem.W PySem.Calls PyProof.Rows PM
open L
seal PySem.wpAny PM.J PM.Js PM.JT PM.JA PM.JF PM.JI PM.JI2 PM.JP PM.S1 PM.Ss PM.Sto PM.Rd PM.Nm PM.OpN PM.Op2 PM.Def
theorem PySem.Challenge.cw_seer_k39_stretches_told_holds : PySem.Challenge.rw_seer_k39_stretches_told.Holds :=
 head (by
  w_strict (k_go0;(rename Well _ _ _ _=>w9);(rename Frag.In _ _=>kx9);(rename Top _ _ _ _ _ _=>t9);(rename Fr _ _ _ _=>f9);(rename News _ _ _ _=>n9);(rename CellsAre _ _ _=>x9);(rename (PyData.layable0 _=true)=>hl9);(obtain⟨H9,e9⟩:=L.Zme (by omega) hl9);(refine' PM.Zor (names:=["_law_script","_law_many","_law_some","_law_handed","_law_found","_law_told_here","_law_kept"]) (g:=Ziv) (room:=9) ?hb ?h1 ?h2 ?h3 ?h4 kx9 t9 w9 ?len f9 n9 x9 e9 ?post);(case h1=>decide);(case h2=>decide);(case h3=>rfl);(case h4=>rfl);(case len=>(rw[PM.Zbs];omega));(case hb=>(intro dp un gd L a ccd outer h₀ hu clr hd1 hu1;exact(Zw (ZT sL (cF clr law_pick_d (jc vC (jc jI (jc jI Zp))))) (Zw (by refine sO sL ?_ ?_ ?_;(exact(JI.range (nB clr) (jc vL Zp)));(exact fun _ _=>(cF (Zcc clr) Zl3 (jc vD (jc (ZH jI (ZH jI vO Zbe) Zau) Zp))));(exact fun _ _=>JF.nil)) (Zw (ZT sL (Zep (nB clr) (jc vL Zp) Zem)) (Zw (ZT sL (cF clr ZlS (jc vL Zp))) (Zw (Z7 (Za1 (ZaF (ZW vL vL ZbQ) (ZaF (Zby (Zbd (cF clr ZjD (jc vL (jc (cF clr Zko (jc vL Zp)) Zp))))) Zb1))) (Zx (ZJ jB)) Zab) (Zw (Z7 (Za1 (ZaF (Zby (Zbd (cF clr Zj8 (jc (cF clr ZjE (jc vL Zp)) (jc vL Zp))))) (ZaF (Zby (Zbd (cF clr ZjD (jc vL (jc (cF clr Zko (jc vL Zp)) Zp))))) Zb1))) (Zx (ZJ jB)) Zab) (Zw (ZT sL (cF clr Zm2 (jc vC (jc jI (jc (by refine cO ?_ ?_ ?_;(exact(JI.range (nB clr) (jc vL Zp)));(exact fun _ _=>(cF (Zcc clr) Zd9 (jc vD (jc (ZH jI (ZH jI vO Zbe) Zau) Zp))));(exact fun _ _=>JF.nil)) Zp))))) (Zw (Z7 (ZW (cF clr law_pick_d (jc vC (jc jI (jc jI Zp)))) jI Zbf) (Zx (ZT sL (cF clr Zmh (jc vC (jc jI (jc vL Zp)))))) Zab) (Zw (ZT sL (cF clr Zm3 (jc vL Zp))) (Zx (ZJ (Zf7 (cF clr Zj8 (jc (cF clr ZjE (jc vL Zp)) (jc (cF clr Zl4 (jc vL Zp)) Zp))) (ZcC vL vL Zbf)))))))))))))));(case post=>(intro h' tk' m' F';k_steps)))
  )
end
