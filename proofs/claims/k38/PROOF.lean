import PyProof.Rows.All
import Wide.All
import OpenK.AllK
import Wide.FinOn
import PySem.Challenge.RW_seer_k38_grown_by_marks
import PyProof.Rows.News
import PyProof.Rows.Nodes
import PyProof.Rows.Chain
import PyProof.Rows.TupSub
import PyProof.PureInt
import PyProof.Rules2
import PyProof.Rules3
import PyProof.Rows.Globals
import PyProof.Rows.RuleB_mod
import PyProof.Rows.RuleB_floordiv
import PyProof.Rows.RuleB_small
import PyProof.NoPylong
import PyProof.Rows.RuleB_pow
import PyProof.Rows.EqDataRows
import PyProof.Rows.StrTemp
import PyProof.Rows.TupAdd
import PyProof.Rows.ListMul
import PyProof.ListIndexNeg
import PyProof.SliceList
import PyProof.Methods
import PyProof.Rows.Tup
import PyProof.IsiPairs
import PyProof.IsiHeapPairs
import PyProof.IsiNone
import PyProof.Rows.RuleN_abs
import PyProof.Rows.SumAny
import PyProof.WalkInts
import PyProof.PvWalk
import PyProof.RulesRaise
import PyProof.Raises
import PyProof.Dict
import PyProof.Seq
import PyProof.Rows.ListAppend
import PyProof.ForAppend
import PyProof.ForAny
import PyProof.Walks
import PyProof.WalksT
import KE.KItem
import PyProof.WalksMore
import PyProof.RangeFor
import PyProof.Rows.Range3
import OpenK.KCell
import KE.KTree
import KE.RegLcTurns
import KE.KCompFold
import KE.KLcPair
import KE.LcTurns
import PyProof.CompUse
import PyProof.Rows.ZipGen
import OpenK.KLine
import KE.KState
import Wide.Well
import PyProof.ListCopy
import PyProof.Rows.TupleOfSeqD
import KE.LcSums
import KE.KCellOne
import PyProof.FitsBits
import KE.KEqDeep
import PyProof.Rows.TupMore
import PyProof.Rows.NestLooks
import PyProof.EnumMake
import PyProof.WalksEnum
import PyProof.Draws
import PyProof.Rows.CallKwBuiltin
import PyProof.Rows.SortWalk
import PyProof.DictStraight
import PyProof.EqAt
import PyProof.Rows.SeqMore2
import KE.KAnyBase
import PyProof.Rows.SeqSlice
set_option linter.all false
set_option maxRecDepth 100000
set_option maxHeartbeats 8000000
abbrev Zz0:=@Option.bind_eq_some_iff
abbrev Zz1:=@Option.map_eq_some_iff
abbrev Zz2:=@List.mem_cons_of_mem
abbrev Zz3:=@List.mem_append_right
abbrev Zz4:=@List.mem_append_left
abbrev Zz5:=@List.mem_cons_self
abbrev Zz6:=@List.getElem?_eq_some_iff
abbrev Zz7:=@List.mem_cons
abbrev Zz8:=@List.mem_append
abbrev Zz9:=@List.mem_singleton
abbrev Zz10:=@Nat.le_refl
abbrev Zz11:=@List.mem_map
set_option Elab.async false
set_option compiler.extract_closed false
section
set_option autoImplicit false
/-! The plain machine: values as trees, lists as places; and how it stands for the model's heap. -/
namespace PM
open PySem PyProof.Rows
inductive V where
 | none
 | bool (b:Bool)
 | int (i:Int)
 | str (s:Str)
 | tup (vs:List V)
 | ref (a:Nat)
noncomputable abbrev Hp:=List (List V)
noncomputable abbrev Lc:=Nat→Option V
noncomputable def ZZ: Nat:=100000
theorem ZaC: ZZ=100000:=rfl
theorem ZbK{n:Nat}(h:n≤ZZ): n≤sizeLine:=by
 have:sizeLine=2 ^ 24:=rfl
 rw[this];rw[ZaC]at h;omega
noncomputable abbrev ZcK(xs:List Value)(k:Nat): Obj:={ cls:=.type "tuple",data:=.seq xs.toArray k }
noncomputable abbrev ZaH(xs:List Value)(k:Nat): Obj:={ cls:=.type "list",data:=.seq xs.toArray k }
structure Wd where
 pi:List Addr
 tups:List (Addr×Obj)
 sc:Addr×Obj
structure Wd.Le(W W':Wd): Prop where
 pi:W.pi <+: W'.pi
 tups:∀q∈W.tups,q∈W'.tups
 sc:W'.sc=W.sc
theorem Wd.Le.refl(W:Wd): W.Le W:=⟨List.prefix_refl _,fun _ h=>h,rfl⟩
theorem Wd.Le.trans{W W' W'':Wd}(a:W.Le W')(b:W'.Le W''): W.Le W'':=⟨a.pi.trans b.pi,fun q h=>b.tups q (a.tups q h),b.sc.trans a.sc⟩
theorem Wd.Le.at{W W':Wd}(h:W.Le W'){i:Nat}{a:Addr}(e:W.pi[i]?=some a): W'.pi[i]?=some a:=by
 obtain⟨t,ht⟩:=h.pi
 have hi:i<W.pi.length:=(Zz6.mp e).1
 rw[←ht,List.getElem?_append_left hi]
 exact e
mutual
inductive VR(W:Wd): V→Value→Prop where
 | none:VR W .none .none
 | bool (b:Bool):VR W (.bool b) (.bool b)
 | int (i:Int) (t:Tok):VR W (.int i) (.int i t)
 | str (s:Str) (t:Tok):VR W (.str s) (.str s t)
 | tup {vs:List V} {a:Addr} {xs:List Value} {k:Nat}:(a,ZcK xs k)∈W.tups→vs.length≤ZZ→VRs W vs xs→VR W (.tup vs) (.ref a)
 | ref {i:Nat} {a:Addr}:W.pi[i]?=some a→VR W (.ref i) (.ref a)
inductive VRs(W:Wd): List V→List Value→Prop where
 | nil:VRs W [] []
 | cons {v:V} {x:Value} {vs:List V} {xs:List Value}:VR W v x→VRs W vs xs→VRs W (v::vs) (x::xs)
end
mutual
theorem VR.mono{W W':Wd}(h:W.Le W'){v:V}{x:Value}(r:VR W v x): VR W' v x:=by
 cases r with
 | none=>exact .none
 | bool b=>exact .bool b
 | int i t=>exact .int i t
 | str s t=>exact .str s t
 | tup hm hl hs=>exact .tup (h.tups _ hm) hl (VRs.mono h hs)
 | ref e=>exact .ref (h.at e)
theorem VRs.mono{W W':Wd}(h:W.Le W'){vs:List V}{xs:List Value}(r:VRs W vs xs): VRs W' vs xs:=by
 cases r with
 | nil=>exact .nil
 | cons a b=>exact .cons (VR.mono h a) (VRs.mono h b)
end
theorem VRs.length{W:Wd}: ∀{vs:List V} {xs:List Value},VRs W vs xs→xs.length=vs.length
 | _,_,.nil=>rfl
 | _,_,.cons _ r=>by rw[List.length_cons,List.length_cons,r.length]
theorem VRs.at{W:Wd}: ∀{vs:List V} {xs:List Value} {i:Nat} {v:V},VRs W vs xs→vs[i]?=some v→∃x,xs[i]?=some x∧VR W v x
 | _,_,_,_,.nil,e=>by simp at e
 | _,_,0,_,.cons a _,e=>by
  simp at e
  exact⟨_,by simp,e▸a⟩
 | _,_,i+1,_,.cons _ r,e=>by
  simp at e
  obtain⟨x,hx,hr⟩:=r.at e
  exact⟨x,by simpa using hx,hr⟩
theorem VRs.append{W:Wd}: ∀{vs us:List V} {xs ys:List Value},VRs W vs xs→VRs W us ys→VRs W (vs++us) (xs++ys)
 | _,_,_,_,.nil,h=>h
 | _,_,_,_,.cons a r,h=>.cons a (r.append h)
theorem VRs.snoc{W:Wd}{vs:List V}{xs:List Value}{v:V}{x:Value}(h:VRs W vs xs)(r:VR W v x): VRs W (vs++[v]) (xs++[x]):=h.append (.cons r .nil)
theorem VRs.set{W:Wd}: ∀{vs:List V} {xs:List Value} {v:V} {x:Value} (i:Nat),VRs W vs xs→VR W v x→VRs W (vs.set i v) (xs.set i x)
 | _,_,_,_,_,.nil,_=>.nil
 | _,_,_,_,0,.cons _ r,h=>.cons h r
 | _,_,_,_,i+1,.cons a r,h=>.cons a (r.set i h)
structure HR(W:Wd)(H:Hp)(led:List (Addr×Obj)): Prop where
 len:W.pi.length=H.length
 nd:W.pi.Nodup
 lists:∀(i:Nat) (vs:List V),H[i]?=some vs→vs.length≤ZZ∧∃a xs k,W.pi[i]?=some a∧(a,ZaH xs k)∈led∧VRs W vs xs
 tups:∀q∈W.tups,q∈led
 kind:∀q∈W.tups,∃xs k,q.2=ZcK xs k
theorem HR.mono{W:Wd}{H:Hp}{led led':List (Addr×Obj)}(R:HR W H led)(h:∀q∈led,q∈led'): HR W H led':=
 ⟨R.len,R.nd,fun i vs e=>by
  obtain⟨l,a,xs,k,h1,h2,h3⟩:=R.lists i vs e
  exact⟨l,a,xs,k,h1,h _ h2,h3⟩,fun q hq=>h q (R.tups q hq),R.kind⟩
structure Cx where
 A:Around
 env:Env
 h₀:Heap
 L:Addr
 hh:A.handled=none
 hu:A.units+200<cLine
 Own:Wd→Lc→(Str→Option Value)→List (Addr×Obj)→Prop
 mono:∀{W W':Wd} {ρ:Lc} {m:Str→Option Value} {c:List (Addr×Obj)},W.Le W'→Own W ρ m c→Own W' ρ m c
structure Rep'(Γ:Cx)(W:Wd)(ρ:Lc)(H:Hp)(fr:List (Addr×Obj))(h:Heap)(m:Str→Option Value)(cells led:List (Addr×Obj)): Prop where
 F:Fr Γ.h₀ Γ.L h m
 N:News Γ.h₀ Γ.L h led
 R:HR W H (W.sc::led)
 sc:Γ.h₀.get? W.sc.1=some W.sc.2
 sc0:W.pi[0]?=some W.sc.1
 frIn:∀q∈fr,q∈led
 frOff:∀q∈fr,q.1∉W.pi
 clIn:∀q∈cells,q∈led
 clOff:∀q∈cells,q.1∉W.pi
 apart:∀q∈cells,∀r∈fr,q.1≠r.1
 frTup:∀q∈fr,∀t∈W.tups,q.1≠t.1
 clTup:∀q∈cells,∀t∈W.tups,q.1≠t.1
 own:Γ.Own W ρ m cells
noncomputable def Rep(Γ:Cx)(W:Wd)(ρ:Lc)(H:Hp)(fr:List (Addr×Obj))(h:Heap): Prop:=∃m cells led,Rep' Γ W ρ H fr h m cells led
theorem Rep.grown{Γ:Cx}{W:Wd}{ρ:Lc}{H:Hp}{fr:List (Addr×Obj)}{h h':Heap}(r:Rep Γ W ρ H fr h)(up:∀b o,h.get? b=some o→h'.get? b=some o): Rep Γ W ρ H fr h':=by
 obtain⟨m,c,led,r⟩:=r
 refine⟨m,c,led,⟨⟨?_,fun b o e=>up b o (r.F.keep b o e),r.F.above⟩,fun q hq=>⟨up _ _ (r.N q hq).1,(r.N q hq).2⟩,r.R,r.sc,r.sc0,r.frIn,r.frOff,r.clIn,r.clOff,r.apart,r.frTup,r.clTup,r.own⟩⟩
 obtain⟨o,es,ep,h1,h2⟩:=r.F.ns
 exact⟨o,es,ep,up _ _ h1,h2⟩
theorem Rep.push{Γ:Cx}{W:Wd}{ρ:Lc}{H:Hp}{fr:List (Addr×Obj)}{h:Heap}(r:Rep Γ W ρ H fr h)(o:Obj): Rep Γ W ρ H fr (h.push o):=r.grown fun _ _ e=>Heap.get?_push_of_some _ e
theorem Zco{q s:Addr×Obj}{l l':List (Addr×Obj)}(h:q∈s::l)(m:q∈l→q∈l'): q∈s::l':=by
 rcases Zz7.mp h with e | h
 ·exact e▸List.mem_cons_self
 ·exact Zz2 _ (m h)
theorem Zc1{q s:Addr×Obj}{l l':List (Addr×Obj)}(h:q∈s::l)(m:∀x∈l,x∈l'): q∈s::l':=by
 rcases Zz7.mp h with e | h
 ·exact e▸List.mem_cons_self
 ·exact Zz2 _ (m q h)
theorem Rep'.get{Γ:Cx}{W:Wd}{ρ:Lc}{H:Hp}{fr:List (Addr×Obj)}{h:Heap}{m:Str→Option Value}{c led:List (Addr×Obj)}(r:Rep' Γ W ρ H fr h m c led){q:Addr×Obj}(hq:q∈W.sc::led): h.get? q.1=some q.2:=by
 rcases Zz7.mp hq with e | hq
 ·rw[e]
  exact r.F.keep _ _ r.sc
 ·exact(r.N q hq).1
theorem Rep'.off{Γ:Cx}{W:Wd}{ρ:Lc}{H:Hp}{fr:List (Addr×Obj)}{h:Heap}{m:Str→Option Value}{c led:List (Addr×Obj)}(r:Rep' Γ W ρ H fr h m c led): ∀q∈W.sc::led,q.1≠h.objs.size:=fun q hq=>Nat.ne_of_lt (Heap.lt_size (r.get hq))
theorem Rep'.piIn{Γ:Cx}{W:Wd}{ρ:Lc}{H:Hp}{fr:List (Addr×Obj)}{h:Heap}{m:Str→Option Value}{c led:List (Addr×Obj)}(r:Rep' Γ W ρ H fr h m c led): ∀a∈W.pi,∃o,(a,o)∈W.sc::led:=by
 intro a ha
 obtain⟨i,hi,e⟩:=List.getElem_of_mem ha
 have hi':i<H.length:=r.R.len▸hi
 obtain⟨_,b,xs,k,h1,h2,_⟩:=r.R.lists i H[i] (List.getElem?_eq_getElem hi')
 have:b=a:=by rw[List.getElem?_eq_getElem hi,e]at h1;exact(Option.some.inj h1).symm
 exact⟨_,this▸h2⟩
theorem Rep'.inLed{Γ:Cx}{W:Wd}{ρ:Lc}{H:Hp}{fr:List (Addr×Obj)}{h:Heap}{m:Str→Option Value}{c led:List (Addr×Obj)}(r:Rep' Γ W ρ H fr h m c led){i:Nat}{a:Addr}{o:Obj}(hi:i≠0)(ea:W.pi[i]?=some a)(hm:(a,o)∈W.sc::led): (a,o)∈led:=by
 rcases Zz7.mp hm with e | hm
 ·have e1:a=W.sc.1:=congrArg (·.1) e
  have hl:i<W.pi.length:=(Zz6.mp ea).1
  have:i=0:=(List.getElem?_inj hl r.R.nd).mp (by rw[ea,r.sc0,e1])
  exact absurd this hi
 ·exact hm
theorem Rep'.notSc{Γ:Cx}{W:Wd}{ρ:Lc}{H:Hp}{fr:List (Addr×Obj)}{h:Heap}{m:Str→Option Value}{c led:List (Addr×Obj)}(r:Rep' Γ W ρ H fr h m c led): ∀q∈led,q.1≠W.sc.1:=fun q hq e=>by
 have:=(r.N q hq).2.2
 rw[e,r.sc]at this
 cases this
theorem Rep'.newTup{Γ:Cx}{W:Wd}{ρ:Lc}{H:Hp}{fr:List (Addr×Obj)}{h h':Heap}{m:Str→Option Value}{c led:List (Addr×Obj)}{vs:List V}{xs:List Value}{k:Nat}{n:Addr}(r:Rep' Γ W ρ H fr h m c led)(F':Fr Γ.h₀ Γ.L h' m)(N':News Γ.h₀ Γ.L h' ((n,ZcK xs k)::led))(hn:∀q∈W.sc::led,q.1≠n)(hv:VRs W vs xs)(hl:vs.length≤ZZ):
  ∃W',W.Le W'∧Rep Γ W' ρ H fr h'∧VR W' (.tup vs) (.ref n):=by
 have le:W.Le ⟨W.pi,(n,ZcK xs k)::W.tups,W.sc⟩:=⟨List.prefix_refl _,fun q hq=>List.mem_cons_of_mem _ hq,rfl⟩
 refine⟨⟨W.pi,(n,ZcK xs k)::W.tups,W.sc⟩,le,⟨m,c,(n,ZcK xs k)::led,⟨F',N',?_,r.sc,r.sc0,fun q hq=>List.mem_cons_of_mem _ (r.frIn q hq),r.frOff,fun q hq=>List.mem_cons_of_mem _ (r.clIn q hq),r.clOff,r.apart,fun q hq t ht=>?_,fun q hq t ht=>?_,Γ.mono le r.own⟩⟩,.tup Zz5 hl (hv.mono le)⟩
 ·refine⟨r.R.len,r.R.nd,fun i us e=>?_,fun q hq=>?_,fun q hq=>?_⟩
  ·obtain⟨l,a,ys,j,h1,h2,h3⟩:=r.R.lists i us e
   exact⟨l,a,ys,j,h1,Zc1 h2 fun x hx=>List.mem_cons_of_mem _ hx,h3.mono le⟩
  ·rcases Zz7.mp hq with e | hq
   ·exact e▸List.mem_cons_of_mem _ Zz5
   ·exact Zc1 (r.R.tups q hq) fun x hx=>List.mem_cons_of_mem _ hx
  ·rcases Zz7.mp hq with e | hq
   ·exact⟨xs,k,by rw[e]⟩
   ·exact r.R.kind q hq
 ·rcases Zz7.mp ht with e | ht
  ·rw[e]
   exact hn q (Zz2 _ (r.frIn q hq))
  ·exact r.frTup q hq t ht
 ·rcases Zz7.mp ht with e | ht
  ·rw[e]
   exact hn q (Zz2 _ (r.clIn q hq))
  ·exact r.clTup q hq t ht
theorem Rep.tuple{Γ:Cx}{W:Wd}{ρ:Lc}{H:Hp}{fr:List (Addr×Obj)}{h:Heap}{vs:List V}{xs:List Value}{k:Nat}(r:Rep Γ W ρ H fr h)(hv:VRs W vs xs)(hl:vs.length≤ZZ):
  ∃W',W.Le W'∧Rep Γ W' ρ H fr (h.push (ZcK xs k))∧VR W' (.tup vs) (.ref h.objs.size):=by
 obtain⟨m,c,led,r⟩:=r
 exact r.newTup (r.F.push _) (News.push r.F r.N _) r.off hv hl
theorem Rep'.newList{Γ:Cx}{W:Wd}{ρ:Lc}{H:Hp}{fr:List (Addr×Obj)}{h h':Heap}{m:Str→Option Value}{c led:List (Addr×Obj)}{vs:List V}{xs:List Value}{k:Nat}{n:Addr}(r:Rep' Γ W ρ H fr h m c led)(F':Fr Γ.h₀ Γ.L h' m)(N':News Γ.h₀ Γ.L h' ((n,ZaH xs k)::led))(hn:∀q∈W.sc::led,q.1≠n)(hv:VRs W vs xs)(hl:vs.length≤ZZ):
  ∃W',W.Le W'∧Rep Γ W' ρ (H++[vs]) fr h'∧VR W' (.ref H.length) (.ref n):=by
 have le:W.Le ⟨W.pi++[n],W.tups,W.sc⟩:=⟨List.prefix_append _ _,fun q hq=>hq,rfl⟩
 have h0:0<W.pi.length:=(Zz6.mp r.sc0).1
 have at_n:(W.pi++[n])[H.length]?=some n:=by rw[←r.R.len];simp
 refine⟨⟨W.pi++[n],W.tups,W.sc⟩,le,⟨m,c,(n,ZaH xs k)::led,⟨F',N',?_,r.sc,(List.getElem?_append_left h0).trans r.sc0,fun q hq=>List.mem_cons_of_mem _ (r.frIn q hq),fun q hq=>?_,fun q hq=>List.mem_cons_of_mem _ (r.clIn q hq),fun q hq=>?_,r.apart,r.frTup,r.clTup,Γ.mono le r.own⟩⟩,.ref at_n⟩
 ·refine⟨by simp[r.R.len],?_,fun i us e=>?_,fun q hq=>Zc1 (r.R.tups q hq) fun x hx=>List.mem_cons_of_mem _ hx,r.R.kind⟩
  ·show(W.pi++[n]).Nodup
   rw[List.nodup_append]
   refine⟨r.R.nd,by simp,fun a ha b hb=>?_⟩
   rw[List.mem_singleton.mp hb]
   obtain⟨o,ho⟩:=r.piIn a ha
   exact hn _ ho
  ·by_cases hi:i<H.length
   ·rw[List.getElem?_append_left hi]at e
    obtain⟨l,a,ys,j,h1,h2,h3⟩:=r.R.lists i us e
    exact⟨l,a,ys,j,le.at h1,Zc1 h2 fun x hx=>List.mem_cons_of_mem _ hx,h3.mono le⟩
   ·have:i=H.length:=by
     have:=(Zz6.mp e).1
     simp at this
     omega
    subst this
    simp at e
    subst e
    exact⟨hl,n,xs,k,at_n,List.mem_cons_of_mem _ Zz5,hv.mono le⟩
 ·intro hm
  rcases Zz8.mp hm with hm | hm
  ·exact r.frOff q hq hm
  ·exact hn q (Zz2 _ (r.frIn q hq)) (Zz9.mp hm)
 ·intro hm
  rcases Zz8.mp hm with hm | hm
  ·exact r.clOff q hq hm
  ·exact hn q (Zz2 _ (r.clIn q hq)) (Zz9.mp hm)
theorem Rep.list{Γ:Cx}{W:Wd}{ρ:Lc}{H:Hp}{fr:List (Addr×Obj)}{h:Heap}{vs:List V}{xs:List Value}{k:Nat}(r:Rep Γ W ρ H fr h)(hv:VRs W vs xs)(hl:vs.length≤ZZ):
  ∃W',W.Le W'∧Rep Γ W' ρ (H++[vs]) fr (h.push (ZaH xs k))∧VR W' (.ref H.length) (.ref h.objs.size):=by
 obtain⟨m,c,led,r⟩:=r
 exact r.newList (r.F.push _) (News.push r.F r.N _) r.off hv hl
theorem Rep.at{Γ:Cx}{W:Wd}{ρ:Lc}{H:Hp}{fr:List (Addr×Obj)}{h:Heap}{i:Nat}{a:Addr}{vs:List V}(r:Rep Γ W ρ H fr h)(e:H[i]?=some vs)(ea:W.pi[i]?=some a): vs.length≤ZZ∧∃xs k,h.get? a=some (ZaH xs k)∧VRs W vs xs:=by
 obtain⟨m,c,led,r⟩:=r
 obtain⟨l,b,xs,k,h1,h2,h3⟩:=r.R.lists i vs e
 rw[ea]at h1
 cases h1
 exact⟨l,xs,k,r.get h2,h3⟩
theorem Rep.tupAt{Γ:Cx}{W:Wd}{ρ:Lc}{H:Hp}{fr:List (Addr×Obj)}{h:Heap}{q:Addr×Obj}(r:Rep Γ W ρ H fr h)(e:q∈W.tups): h.get? q.1=some q.2:=by
 obtain⟨m,c,led,r⟩:=r
 exact r.get (r.R.tups _ e)
theorem Rep'.changed{Γ:Cx}{W:Wd}{ρ:Lc}{H:Hp}{fr:List (Addr×Obj)}{h h':Heap}{m:Str→Option Value}{c led:List (Addr×Obj)}{i:Nat}{a:Addr}{vs us:List V}{ys:List Value}{k:Nat}(r:Rep' Γ W ρ H fr h m c led)(i0:i≠0)(e:H[i]?=some vs)(ea:W.pi[i]?=some a)(F':Fr Γ.h₀ Γ.L h' m)(N':News Γ.h₀ Γ.L h' ((a,ZaH ys k)::led.filter (fun q=>decide (q.1≠a))))(hv:VRs W us ys)(hl:us.length≤ZZ):
  Rep Γ W ρ (H.set i us) fr h':=by
 obtain⟨_,b,xs,j,h1,h2,h3⟩:=r.R.lists i vs e
 rw[ea]at h1
 cases h1
 have h2:=r.inLed i0 ea h2
 have hN:=r.N _ h2
 have hm:a∈W.pi:=List.mem_of_getElem? ea
 have hi:i<H.length:=(Zz6.mp e).1
 refine⟨m,c,(a,ZaH ys k)::led.filter (fun q=>decide (q.1≠a)),⟨F',N',?_,r.sc,r.sc0,fun q hq=>?_,r.frOff,fun q hq=>?_,r.clOff,r.apart,r.frTup,r.clTup,r.own⟩⟩
 ·refine⟨by simp[r.R.len],r.R.nd,fun n ws en=>?_,fun q hq=>?_,r.R.kind⟩
  ·by_cases hn:n=i
   ·subst hn
    rw[List.getElem?_set_self hi]at en
    cases en
    exact⟨hl,a,ys,k,ea,List.mem_cons_of_mem _ Zz5,hv⟩
   ·rw[List.getElem?_set_ne (Ne.symm hn)]at en
    obtain⟨l,d,zs,j',g1,g2,g3⟩:=r.R.lists n ws en
    refine⟨l,d,zs,j',g1,Zco g2 fun g2=>List.mem_cons_of_mem _ (List.mem_filter.mpr ⟨g2,?_⟩),g3⟩
    have:d≠a:=fun e=>by
     subst e
     exact hn ((List.getElem?_inj (Zz6.mp g1).1 r.R.nd).mp (g1.trans ea.symm))
    simpa using this
  ·refine Zco (r.R.tups q hq) fun g2=>List.mem_cons_of_mem _ (List.mem_filter.mpr ⟨g2,?_⟩)
   have:q.1≠a:=fun e=>by
    obtain⟨zs,j',hk⟩:=r.R.kind q hq
    have g:=r.get (r.R.tups q hq)
    rw[e,hN.1,hk]at g
    have c:=congrArg Obj.cls (Option.some.inj g)
    exact absurd c (by simp)
   simpa using this
 ·refine Zz2 _ (List.mem_filter.mpr ⟨r.frIn q hq,?_⟩)
  have:q.1≠a:=fun e=>r.frOff q hq (e▸hm)
  simpa using this
 ·refine Zz2 _ (List.mem_filter.mpr ⟨r.clIn q hq,?_⟩)
  have:q.1≠a:=fun e=>r.clOff q hq (e▸hm)
  simpa using this
theorem Rep.change{Γ:Cx}{W:Wd}{ρ:Lc}{H:Hp}{fr:List (Addr×Obj)}{h h':Heap}{i:Nat}{a:Addr}{vs us:List V}{ys:List Value}{k:Nat}(r:Rep Γ W ρ H fr h)(i0:i≠0)(e:H[i]?=some vs)(ea:W.pi[i]?=some a)(sb:Heap.SameBut a h h')(ha:h'.get? a=some (ZaH ys k))(hv:VRs W us ys)(hl:us.length≤ZZ):
  Rep Γ W ρ (H.set i us) fr h':=by
 obtain⟨m,c,led,r⟩:=r
 obtain⟨_,b,xs,j,h1,h2,h3⟩:=r.R.lists i vs e
 rw[ea]at h1
 cases h1
 have h2:=r.inLed i0 ea h2
 have hN:=r.N _ h2
 have keep:∀q∈led,q.1≠a→h'.get? q.1=some q.2:=fun q hq hn=>sb.extBut _ _ hn (r.N q hq).1
 refine r.changed (k:=k) i0 e ea ⟨r.F.ns.sameBut sb (Ne.symm hN.2.1),fun b o eb=>sb.extBut b o (fun q=>?_) (r.F.keep b o eb),r.F.above⟩ (fun q hq=>?_) hv hl
 ·subst q
  rw[hN.2.2]at eb
  cases eb
 ·rcases Zz7.mp hq with e | hq
  ·subst e
   exact⟨ha,hN.2⟩
  ·obtain⟨h1,h2⟩:=List.mem_filter.mp hq
   exact⟨keep q h1 (by simpa using h2),(r.N q h1).2⟩
theorem Rep.swap{Γ:Cx}{W:Wd}{ρ:Lc}{H:Hp}{fs fs' fr:List (Addr×Obj)}{h h':Heap}(r:Rep Γ W ρ H (fs++fr) h)(ap:∀q∈fs,∀t∈fr,q.1≠t.1)(keep:∀b o,b∉fs.map (·.1)→h.get? b=some o→h'.get? b=some o)(new:∀q∈fs',h'.get? q.1=some q.2∧q.1∈fs.map (·.1)): Rep Γ W ρ H (fs'++fr) h':=by
 obtain⟨m,c,led,r⟩:=r
 have inF:∀q∈fs,q∈fs++fr:=fun q hq=>List.mem_append_left _ hq
 have nL:∀a∈fs.map (·.1),a≠Γ.L∧Γ.h₀.get? a=none:=fun a ha=>by
  obtain⟨q,hq,e⟩:=Zz11.mp ha
  exact e▸(r.N q (r.frIn q (inF q hq))).2
 have kp:∀q∈led,q.1∉fs.map (·.1)→h'.get? q.1=some q.2:=fun q hq hn=>keep _ _ hn (r.N q hq).1
 refine⟨m,c,fs'++led.filter (fun q=>decide (q.1∉fs.map (·.1))),⟨⟨?_,fun b o e=>?_,r.F.above⟩,fun q hq=>?_,⟨r.R.len,r.R.nd,fun i vs e=>?_,fun q hq=>?_,r.R.kind⟩,r.sc,r.sc0,fun q hq=>?_,fun q hq=>?_,fun q hq=>?_,r.clOff,fun q hq t ht=>?_,fun q hq t ht=>?_,r.clTup,r.own⟩⟩
 ·obtain⟨o,es,ep,h1,h2⟩:=r.F.ns
  exact⟨o,es,ep,keep _ _ (fun q=>(nL _ q).1 rfl) h1,h2⟩
 ·refine keep b o (fun q=>?_) (r.F.keep b o e)
  rw[(nL b q).2]at e
  cases e
 ·rcases Zz8.mp hq with hq | hq
  ·obtain⟨h1,h2⟩:=new q hq
   exact⟨h1,nL _ h2⟩
  ·obtain⟨h1,h2⟩:=List.mem_filter.mp hq
   exact⟨kp q h1 (by simpa using h2),(r.N q h1).2⟩
 ·obtain⟨l,a,xs,k,h1,h2,h3⟩:=r.R.lists i vs e
  refine⟨l,a,xs,k,h1,Zco h2 fun h2=>List.mem_append_right _ (List.mem_filter.mpr ⟨h2,?_⟩),h3⟩
  have:a∉fs.map (·.1):=fun q=>by
   obtain⟨t,ht,e⟩:=Zz11.mp q
   exact r.frOff t (inF t ht) (e▸List.mem_of_getElem? h1)
  simpa using this
 ·refine Zco (r.R.tups q hq) fun h2=>List.mem_append_right _ (List.mem_filter.mpr ⟨h2,?_⟩)
  have:q.1∉fs.map (·.1):=fun z=>by
   obtain⟨t,ht,e⟩:=Zz11.mp z
   exact r.frTup t (inF t ht) q hq e
  simpa using this
 ·rcases Zz8.mp hq with hq | hq
  ·exact Zz4 _ hq
  ·refine Zz3 _ (List.mem_filter.mpr ⟨r.frIn q (Zz3 _ hq),?_⟩)
   have:q.1∉fs.map (·.1):=fun z=>by
    obtain⟨t,ht,e⟩:=Zz11.mp z
    exact ap t ht q hq e
   simpa using this
 ·rcases Zz8.mp hq with hq | hq
  ·obtain⟨t,ht,e⟩:=Zz11.mp (new q hq).2
   exact e▸r.frOff t (inF t ht)
  ·exact r.frOff q (Zz3 _ hq)
 ·refine Zz3 _ (List.mem_filter.mpr ⟨r.clIn q hq,?_⟩)
  have:q.1∉fs.map (·.1):=fun z=>by
   obtain⟨t,ht,e⟩:=Zz11.mp z
   exact r.apart q hq t (inF t ht) e.symm
  simpa using this
 ·rcases Zz8.mp ht with ht | ht
  ·obtain⟨u,hu,e⟩:=Zz11.mp (new t ht).2
   exact e▸r.apart q hq u (inF u hu)
  ·exact r.apart q hq t (Zz3 _ ht)
 ·rcases Zz8.mp hq with hq | hq
  ·obtain⟨u,hu,e⟩:=Zz11.mp (new q hq).2
   exact e▸r.frTup u (inF u hu) t ht
  ·exact r.frTup q (Zz3 _ hq) t ht
theorem Rep.more{Γ:Cx}{W:Wd}{ρ:Lc}{H:Hp}{fs fr:List (Addr×Obj)}{h h':Heap}(r:Rep Γ W ρ H fr h)(up:∀b o,h.get? b=some o→h'.get? b=some o)(new:∀q∈fs,h'.get? q.1=some q.2∧h.objs.size≤q.1): Rep Γ W ρ H (fs++fr) h'∧∀q∈fs,∀t∈fr,q.1≠t.1:=by
 have r':=r.grown up
 obtain⟨m,c,led,r⟩:=r
 have lt:∀q∈W.sc::led,q.1<h.objs.size:=fun q hq=>Heap.lt_size (r.get hq)
 have ne:∀q∈fs,∀t∈W.sc::led,q.1≠t.1:=fun q hq t ht=>Nat.ne_of_gt (Nat.lt_of_lt_of_le (lt t ht) (new q hq).2)
 refine⟨⟨m,c,fs++led,⟨⟨?_,fun b o e=>up b o (r.F.keep b o e),r.F.above⟩,fun q hq=>?_,r.R.mono fun q hq=>Zc1 hq fun x hx=>List.mem_append_right _ hx,r.sc,r.sc0,fun q hq=>?_,fun q hq=>?_,fun q hq=>List.mem_append_right _ (r.clIn q hq),r.clOff,fun q hq t ht=>?_,fun q hq t ht=>?_,r.clTup,r.own⟩⟩,fun q hq t ht=>ne q hq t (Zz2 _ (r.frIn t ht))⟩
 ·obtain⟨o,es,ep,h1,h2⟩:=r.F.ns
  exact⟨o,es,ep,up _ _ h1,h2⟩
 ·rcases Zz8.mp hq with hq | hq
  ·obtain⟨h1,h2⟩:=new q hq
   refine⟨h1,fun e=>?_,?_⟩
   ·exact absurd (e▸r.F.ns.lt) (Nat.not_lt.mpr h2)
   ·cases e:Γ.h₀.get? q.1 with
    | none=>rfl
    | some o=>exact absurd (Heap.lt_size (r.F.keep _ _ e)) (Nat.not_lt.mpr h2)
  ·exact⟨up _ _ (r.N q hq).1,(r.N q hq).2⟩
 ·rcases Zz8.mp hq with hq | hq
  ·exact Zz4 _ hq
  ·exact Zz3 _ (r.frIn q hq)
 ·rcases Zz8.mp hq with hq | hq
  ·intro hm
   obtain⟨o,ho⟩:=r.piIn _ hm
   exact ne q hq _ ho rfl
  ·exact r.frOff q hq
 ·rcases Zz8.mp ht with ht | ht
  ·exact(ne t ht q (Zz2 _ (r.clIn q hq))).symm
  ·exact r.apart q hq t ht
 ·rcases Zz8.mp hq with hq | hq
  ·exact ne q hq t (r.R.tups t ht)
  ·exact r.frTup q hq t ht
theorem Rep.less{Γ:Cx}{W:Wd}{ρ:Lc}{H:Hp}{fs fr:List (Addr×Obj)}{h:Heap}(r:Rep Γ W ρ H fs h)(sub:∀q∈fr,q∈fs): Rep Γ W ρ H fr h:=by
 obtain⟨m,c,led,r⟩:=r
 exact⟨m,c,led,⟨r.F,r.N,r.R,r.sc,r.sc0,fun q hq=>r.frIn q (sub q hq),fun q hq=>r.frOff q (sub q hq),r.clIn,r.clOff,fun q hq t ht=>r.apart q hq t (sub t ht),fun q hq=>r.frTup q (sub q hq),r.clTup,r.own⟩⟩
theorem Rep.frAt{Γ:Cx}{W:Wd}{ρ:Lc}{H:Hp}{fr:List (Addr×Obj)}{h:Heap}{q:Addr×Obj}(r:Rep Γ W ρ H fr h)(hq:q∈fr): h.get? q.1=some q.2:=by
 obtain⟨m,c,led,r⟩:=r
 exact(r.N q (r.frIn q hq)).1
end PM
end
section
set_option autoImplicit false
namespace PM
open PySem PyProof.Rows PyProof
noncomputable abbrev Ex:=Lc→Hp→Option (V×Hp)
noncomputable abbrev Exs:=Lc→Hp→Option (List V×Hp)
noncomputable abbrev Ts:=Lc→Hp→Option (Bool×Hp)
noncomputable abbrev ZeO(Γ:Cx)(W:Wd)(ρ:Lc)(H:Hp)(fr:List (Addr×Obj))(s:Shared)(Q:Value→Shared→Prop)(v:V): Prop:=
 ∀(W':Wd) (h':Heap) (tk':Nat) (x:Value),W.Le W'→Rep Γ W' ρ H fr h'→VR W' v x→Q x { s with heap:=h',toks:=tk' }
noncomputable abbrev ZeG(Γ:Cx)(W:Wd)(ρ:Lc)(H:Hp)(fr:List (Addr×Obj))(s:Shared)(Q:Bool→Shared→Prop)(b:Bool): Prop:=
 ∀(W':Wd) (h':Heap) (tk':Nat),W.Le W'→Rep Γ W' ρ H fr h'→Q b { s with heap:=h',toks:=tk' }
section
variable (prog:Program) (w:World)
noncomputable def J(Γ:Cx)(e:Expr)(f:Ex): Prop:=∀(W:Wd) (ρ:Lc) (H:Hp) (fr:List (Addr×Obj)) (s:Shared) (Q E:Value→Shared→Prop) (v:V) (H':Hp),
 Rep Γ W ρ H fr s.heap→f ρ H=some (v,H')→ZeO Γ W ρ H' fr s Q v→wpAny (model prog w) Γ.A (eval e Γ.env) Q E s
noncomputable def Js(Γ:Cx)(es:List Expr)(f:Exs): Prop:=∀(pos:Pos) (W:Wd) (ρ:Lc) (H:Hp) (fr:List (Addr×Obj)) (s:Shared) (Q:List Value→Shared→Prop) (E:Value→Shared→Prop) (vs:List V) (H':Hp),
 Rep Γ W ρ H fr s.heap→f ρ H=some (vs,H')→(∀(W':Wd) (h':Heap) (tk':Nat) (xs:List Value),W.Le W'→Rep Γ W' ρ H' fr h'→VRs W' vs xs→Q xs { s with heap:=h',toks:=tk' })→wpAny (model prog w) Γ.A (spliced (backTo pos (starEach es Γ.env))) Q E s
noncomputable def JT(Γ:Cx)(e:Expr)(f:Ts): Prop:=∀(W:Wd) (ρ:Lc) (H:Hp) (fr:List (Addr×Obj)) (s:Shared) (Q:Bool→Shared→Prop) (E:Value→Shared→Prop) (b:Bool) (H':Hp),
 Rep Γ W ρ H fr s.heap→f ρ H=some (b,H')→ZeG Γ W ρ H' fr s Q b→wpAny (model prog w) Γ.A (isTrue e Γ.env (eval e Γ.env)) Q E s
noncomputable def Op2(m:Value→Value→Sem Value)(o:V→V→Hp→Option (V×Hp)): Prop:=∀(Γ:Cx) (W:Wd) (ρ:Lc) (H:Hp) (fr:List (Addr×Obj)) (s:Shared) (Q E:Value→Shared→Prop) (a b:V) (x y:Value) (v:V) (H':Hp),
 Rep Γ W ρ H fr s.heap→VR W a x→VR W b y→o a b H=some (v,H')→ZeO Γ W ρ H' fr s Q v→wpAny (model prog w) Γ.A (m x y) Q E s
noncomputable def OpT(m:Value→Sem Bool)(o:V→Hp→Option Bool): Prop:=∀(Γ:Cx) (W:Wd) (ρ:Lc) (H:Hp) (fr:List (Addr×Obj)) (s:Shared) (Q:Bool→Shared→Prop) (E:Value→Shared→Prop) (a:V) (x:Value) (b:Bool),
 Rep Γ W ρ H fr s.heap→VR W a x→o a H=some b→ZeG Γ W ρ H fr s Q b→wpAny (model prog w) Γ.A (m x) Q E s
end
noncomputable def Zj(k:Int): Ex:=fun _ H=>some (.int k,H)
noncomputable def Z8: Ex:=fun _ H=>some (.none,H)
noncomputable def Zax(b:Bool): Ex:=fun _ H=>some (.bool b,H)
noncomputable def Za(i:Nat): Ex:=fun ρ H=>(ρ i).map fun v=>(v,H)
noncomputable def Zd(o:V→V→Hp→Option (V×Hp))(f g:Ex): Ex:=fun ρ H=>(f ρ H).bind fun p=>(g ρ p.2).bind fun q=>o p.1 q.1 q.2
noncomputable def eIf(t:Ts)(f g:Ex): Ex:=fun ρ H=>(t ρ H).bind fun p=>if p.1 then f ρ p.2 else g ρ p.2
noncomputable def Zn: Exs:=fun _ H=>some ([],H)
noncomputable def Zf(f:Ex)(g:Exs): Exs:=fun ρ H=>(f ρ H).bind fun p=>(g ρ p.2).bind fun q=>some (p.1::q.1,q.2)
noncomputable def Zbl(g:Exs): Ex:=fun ρ H=>(g ρ H).bind fun p=>if p.1.length≤ZZ then some (.tup p.1,p.2)else none
noncomputable def ZbP(g:Exs): Ex:=fun ρ H=>(g ρ H).bind fun p=>if p.1.length≤ZZ then some (.ref p.2.length,p.2++[p.1])else none
noncomputable def Zcg: V→Hp→Option Bool
 | .bool b,_=>some b
 | .int i,_=>some (i != 0)
 | .none,_=>some false
 | _,_=>none
noncomputable def ZG(f:Ex): Ts:=fun ρ H=>(f ρ H).bind fun p=>(Zcg p.1 p.2).map fun b=>(b,p.2)
noncomputable def ZaI(t:Ts): Ts:=fun ρ H=>(t ρ H).map fun p=>(!p.1,p.2)
noncomputable def Zaq: Ts:=fun _ H=>some (true,H)
noncomputable def Zbc: Ts:=fun _ H=>some (false,H)
noncomputable def ZbB(t u:Ts): Ts:=fun ρ H=>(t ρ H).bind fun p=>if p.1 then u ρ p.2 else some (false,p.2)
noncomputable def tOr(t u:Ts): Ts:=fun ρ H=>(t ρ H).bind fun p=>if p.1 then some (true,p.2)else u ρ p.2
noncomputable def ZeP(f:Ex): Ex:=fun ρ H=>(f ρ H).bind fun p=>(Zcg p.1 p.2).map fun b=>(.bool (!b),p.2)
noncomputable def ZbS(f g:Ex): Ex:=fun ρ H=>(f ρ H).bind fun p=>(Zcg p.1 p.2).bind fun b=>if b then g ρ p.2 else some p
noncomputable def eOr(f g:Ex): Ex:=fun ρ H=>(f ρ H).bind fun p=>(Zcg p.1 p.2).bind fun b=>if b then some p else g ρ p.2
section
variable {prog:Program} {w:World} {Γ:Cx}
theorem J.int(k:Int)(n:Nat)(pos:Pos): J prog w Γ (.Constant (.int k) n pos) (Zj k):=fun W ρ H fr s Q E v H' r e post=>by
 cases e
 exact wpAny_Constant_int (post W s.heap _ _ (.refl W) r (.int k _))
theorem J.none(n:Nat)(pos:Pos): J prog w Γ (.Constant .none n pos) Z8:=fun W ρ H fr s Q E v H' r e post=>by
 cases e
 exact wpAny_Constant_none (post W s.heap s.toks _ (.refl W) r .none)
theorem J.bool(b:Bool)(n:Nat)(pos:Pos): J prog w Γ (.Constant (.bool b) n pos) (Zax b):=fun W ρ H fr s Q E v H' r e post=>by
 cases e
 exact wpAny_Constant_bool (post W s.heap s.toks _ (.refl W) r (.bool b))
theorem ZI{e1 e2:Expr}{op:Operator}{pos:Pos}{f g:Ex}{o:V→V→Hp→Option (V×Hp)}(h1:J prog w Γ e1 f)(h2:J prog w Γ e2 g)(ho:Op2 prog w (binaryOp op) o): J prog w Γ (.BinOp e1 op e2 pos) (Zd o f g):=by
 intro W ρ H fr s Q E v H' r hf post
 obtain⟨p,e1,hf⟩:=Zz0.mp hf
 obtain⟨q,e2,e3⟩:=Zz0.mp hf
 refine wpAny_BinOp (h1 W ρ H fr s _ E _ _ r e1 fun W1 k1 t1 x l1 r1 x1=>?_)
 refine h2 W1 ρ _ fr _ _ E _ _ r1 e2 fun W2 k2 t2 y l2 r2 y2=>?_
 exact ho Γ W2 ρ _ fr _ Q E _ _ x y v H' r2 (x1.mono l2) y2 e3 fun W3 k3 t3 z l3 r3 z3=>post W3 k3 t3 z ((l1.trans l2).trans l3) r3 z3
theorem Za3{e1 e2:Expr}{op:CmpOp}{pos:Pos}{f g:Ex}{o:V→V→Hp→Option (V×Hp)}(h1:J prog w Γ e1 f)(h2:J prog w Γ e2 g)(ho:Op2 prog w (compareOp op) o)(hm:behindInMarks op e2=false:=by with_unfolding_all rfl): J prog w Γ (.Compare e1 [op] [e2] pos) (Zd o f g):=by
 intro W ρ H fr s Q E v H' r hf post
 obtain⟨p,e1,hf⟩:=Zz0.mp hf
 obtain⟨q,e2,e3⟩:=Zz0.mp hf
 refine wpAny_Compare1 (h1 W ρ H fr s _ E _ _ r e1 fun W1 k1 t1 x l1 r1 x1=>?_) hm
 refine h2 W1 ρ _ fr _ _ E _ _ r1 e2 fun W2 k2 t2 y l2 r2 y2=>?_
 exact ho Γ W2 ρ _ fr _ Q E _ _ x y v H' r2 (x1.mono l2) y2 e3 fun W3 k3 t3 z l3 r3 z3=>post W3 k3 t3 z ((l1.trans l2).trans l3) r3 z3
theorem ZcH: OpT prog w truthy Zcg:=by
 intro Γ W ρ H fr s Q E a x b r hx ho post
 cases hx with
 | none=>cases ho;exact truthy_none (post W s.heap s.toks (.refl W) r)
 | bool c=>cases ho;exact fun _ _ _=>post W s.heap s.toks (.refl W) r
 | int i t=>cases ho;exact P.truthy_int (post W s.heap s.toks (.refl W) r)
 | str _ _=>cases ho
 | tup _ _ _=>cases ho
 | ref _=>cases ho
theorem ZlI{e1:Expr}{pos:Pos}{f:Ex}(h1:J prog w Γ e1 f): J prog w Γ (.UnaryOp .Not e1 pos) (ZeP f):=by
 intro W ρ H fr s Q E v H' r hf post
 obtain⟨p,e1,hf⟩:=Zz0.mp hf
 obtain⟨b,e2,e3⟩:=Zz1.mp hf
 cases e3
 refine wpAny_UnaryOp (h1 W ρ H fr s _ E _ _ r e1 fun W1 k1 t1 x l1 r1 x1=>?_)
 exact not_of (ZcH Γ W1 ρ _ fr _ _ E _ x b r1 x1 e2 fun W2 k2 t2 l2 r2=>post W2 k2 t2 _ (l1.trans l2) r2 (.bool _))
theorem Zc2{e1 e2:Expr}{pos:Pos}{f g:Ex}(h1:J prog w Γ e1 f)(h2:J prog w Γ e2 g): J prog w Γ (.BoolOp .And [e1,e2] pos) (ZbS f g):=by
 intro W ρ H fr s Q E v H' r hf post
 obtain⟨p,e1,hf⟩:=Zz0.mp hf
 obtain⟨b,e2,e3⟩:=Zz0.mp hf
 refine wpAny_And2 (h1 W ρ H fr s _ E _ _ r e1 fun W1 k1 t1 x l1 r1 x1=>?_)
 refine ZcH Γ W1 ρ _ fr _ _ E _ x b r1 x1 e2 fun W2 k2 t2 l2 r2=>?_
 cases b with
 | true=>exact h2 W2 ρ _ fr _ Q E v H' r2 e3 fun W3 k3 t3 z l3 r3 z3=>post W3 k3 t3 z ((l1.trans l2).trans l3) r3 z3
 | false=>
  cases e3
  exact post W2 k2 t2 x (l1.trans l2) r2 (x1.mono l2)
theorem Zl5{e1 e2:Expr}{pos:Pos}{f g:Ex}(h1:J prog w Γ e1 f)(h2:J prog w Γ e2 g): J prog w Γ (.BoolOp .Or [e1,e2] pos) (eOr f g):=by
 intro W ρ H fr s Q E v H' r hf post
 obtain⟨p,e1,hf⟩:=Zz0.mp hf
 obtain⟨b,e2,e3⟩:=Zz0.mp hf
 refine wpAny_Or2 (h1 W ρ H fr s _ E _ _ r e1 fun W1 k1 t1 x l1 r1 x1=>?_)
 refine ZcH Γ W1 ρ _ fr _ _ E _ x b r1 x1 e2 fun W2 k2 t2 l2 r2=>?_
 cases b with
 | false=>exact h2 W2 ρ _ fr _ Q E v H' r2 e3 fun W3 k3 t3 z l3 r3 z3=>post W3 k3 t3 z ((l1.trans l2).trans l3) r3 z3
 | true=>
  cases e3
  exact post W2 k2 t2 x (l1.trans l2) r2 (x1.mono l2)
theorem ZlJ{t e1 e2:Expr}{pos:Pos}{u:Ts}{f g:Ex}(ht:JT prog w Γ t u)(h1:J prog w Γ e1 f)(h2:J prog w Γ e2 g): J prog w Γ (.IfExp t e1 e2 pos) (eIf u f g):=by
 intro W ρ H fr s Q E v H' r hf post
 obtain⟨p,e1,hf⟩:=Zz0.mp hf
 refine wpAny_IfExp (ht W ρ H fr s _ E _ _ r e1 fun W1 k1 t1 l1 r1=>?_)
 obtain⟨b,H1⟩:=p
 cases b with
 | true=>exact h1 W1 ρ _ fr _ Q E v H' r1 hf fun W3 k3 t3 z l3 r3 z3=>post W3 k3 t3 z (l1.trans l3) r3 z3
 | false=>exact h2 W1 ρ _ fr _ Q E v H' r1 hf fun W3 k3 t3 z l3 r3 z3=>post W3 k3 t3 z (l1.trans l3) r3 z3
theorem Zp: Js prog w Γ [] Zn:=fun pos W ρ H fr s Q E vs H' r hf post=>by
 cases hf
 exact wpAny_items_nil (post W s.heap s.toks [] (.refl W) r .nil)
theorem ZjP{e:Expr}{es:List Expr}{f:Ex}{g:Exs}(h1:J prog w Γ e f)(h2:Js prog w Γ es g)(he:starEach (e::es) Γ.env=(false,eval e Γ.env)::starEach es Γ.env:=by rfl): Js prog w Γ (e::es) (Zf f g):=by
 intro pos W ρ H fr s Q E vs H' r hf post
 obtain⟨p,e1,hf⟩:=Zz0.mp hf
 obtain⟨q,e2,e3⟩:=Zz0.mp hf
 cases e3
 refine wpAny_items_cons (h1 W ρ H fr s _ E _ _ r e1 fun W1 k1 t1 x l1 r1 x1=>?_) he
 exact h2 pos W1 ρ _ fr _ _ E _ _ r1 e2 fun W2 k2 t2 ys l2 r2 y2=>post W2 k2 t2 _ (l1.trans l2) r2 (.cons (x1.mono l2) y2)
theorem J.tup{es:List Expr}{k:Nat}{pos:Pos}{g:Exs}(h:Js prog w Γ es g): J prog w Γ (.Tuple es k pos) (Zbl g):=by
 intro W ρ H fr s Q E v H' r hf post
 obtain⟨p,e1,hf⟩:=Zz0.mp hf
 by_cases hl:p.1.length≤ZZ
 ·rw[if_pos hl]at hf
  cases hf
  refine wpAny_Tuple (h pos W ρ H fr s _ E _ _ r e1 fun W1 k1 t1 xs l1 r1 x1=>⟨ZbK (by rw[x1.length];exact hl),?_⟩)
  obtain⟨W2,l2,r2,v2⟩:=r1.tuple (k:=0) x1 hl
  exact post W2 _ _ _ (l1.trans l2) r2 v2
 ·rw[if_neg hl]at hf
  cases hf
theorem J.list{es:List Expr}{pos:Pos}{g:Exs}(h:Js prog w Γ es g): J prog w Γ (.List es pos) (ZbP g):=by
 intro W ρ H fr s Q E v H' r hf post
 obtain⟨p,e1,hf⟩:=Zz0.mp hf
 by_cases hl:p.1.length≤ZZ
 ·rw[if_pos hl]at hf
  cases hf
  refine wpAny_List (h pos W ρ H fr s _ E _ _ r e1 fun W1 k1 t1 xs l1 r1 x1=>⟨ZbK (by rw[x1.length];exact hl),?_⟩)
  obtain⟨W2,l2,r2,v2⟩:=r1.list (k:=0) x1 hl
  exact post W2 _ _ _ (l1.trans l2) r2 v2
 ·rw[if_neg hl]at hf
  cases hf
theorem Za1{e:Expr}{pos:Pos}{t:Ts}(h:JT prog w Γ e t): JT prog w Γ (.UnaryOp .Not e pos) (ZaI t):=by
 intro W ρ H fr s Q E b H' r hf post
 obtain⟨p,e1,e2⟩:=Zz1.mp hf
 cases e2
 exact isTrue_not (h W ρ H fr s _ E _ _ r e1 post)
noncomputable def JA(prog:Program)(w:World)(Γ:Cx)(op:BoolOp)(es:List Expr)(f:Ts): Prop:=∀(W:Wd) (ρ:Lc) (H:Hp) (fr:List (Addr×Obj)) (s:Shared) (Q:Bool→Shared→Prop) (E:Value→Shared→Prop) (b:Bool) (H':Hp),
 Rep Γ W ρ H fr s.heap→f ρ H=some (b,H')→ZeG Γ W ρ H' fr s Q b→wpAny (model prog w) Γ.A (allTrue op es Γ.env) Q E s
theorem Zem: JA prog w Γ .And [] Zaq:=fun W ρ H fr s Q E b H' r hf post=>by
 cases hf
 exact wpAny_allTrue_And_nil (post W s.heap s.toks (.refl W) r)
theorem Zbr: JA prog w Γ .Or [] Zbc:=fun W ρ H fr s Q E b H' r hf post=>by
 cases hf
 exact wpAny_allTrue_Or_nil (post W s.heap s.toks (.refl W) r)
theorem Zca{e:Expr}{es:List Expr}{t u:Ts}(h1:JT prog w Γ e t)(h2:JA prog w Γ .And es u): JA prog w Γ .And (e::es) (ZbB t u):=by
 intro W ρ H fr s Q E b H' r hf post
 obtain⟨p,e1,hf⟩:=Zz0.mp hf
 refine wpAny_allTrue_And_cons (h1 W ρ H fr s _ E _ _ r e1 fun W1 k1 t1 l1 r1=>?_)
 obtain⟨c,H1⟩:=p
 cases c with
 | true=>exact h2 W1 ρ _ fr _ Q E b H' r1 hf fun W3 k3 t3 l3 r3=>post W3 k3 t3 (l1.trans l3) r3
 | false=>
  cases hf
  exact post W1 k1 t1 l1 r1
theorem Zah{e:Expr}{es:List Expr}{t u:Ts}(h1:JT prog w Γ e t)(h2:JA prog w Γ .Or es u): JA prog w Γ .Or (e::es) (tOr t u):=by
 intro W ρ H fr s Q E b H' r hf post
 obtain⟨p,e1,hf⟩:=Zz0.mp hf
 refine wpAny_allTrue_Or_cons (h1 W ρ H fr s _ E _ _ r e1 fun W1 k1 t1 l1 r1=>?_)
 obtain⟨c,H1⟩:=p
 cases c with
 | false=>exact h2 W1 ρ _ fr _ Q E b H' r1 hf fun W3 k3 t3 l3 r3=>post W3 k3 t3 (l1.trans l3) r3
 | true=>
  cases hf
  exact post W1 k1 t1 l1 r1
theorem Za0{op:BoolOp}{es:List Expr}{pos:Pos}{t:Ts}(h:JA prog w Γ op es t): JT prog w Γ (.BoolOp op es pos) t:=fun W ρ H fr s Q E b H' r hf post=>wpAny_isTrue_BoolOp (h W ρ H fr s Q E b H' r hf post)
theorem ZaD{e:Expr}{f:Ex}(h:J prog w Γ e f)(he:isTrue e Γ.env (eval e Γ.env)=(do let v ←eval e Γ.env;standAt e.pos;holding [v] (truthy v)):=by rfl): JT prog w Γ e (ZG f):=by
 intro W ρ H fr s Q E b H' r hf post
 obtain⟨p,e1,hf⟩:=Zz0.mp hf
 obtain⟨c,e2,e3⟩:=Zz1.mp hf
 cases e3
 refine isTrue_plain (h W ρ H fr s _ E _ _ r e1 fun W1 k1 t1 x l1 r1 x1=>?_) he
 exact ZcH Γ W1 ρ _ fr _ _ E _ x b r1 x1 e2 fun W2 k2 t2 l2 r2=>post W2 k2 t2 (l1.trans l2) r2
theorem ZT{e1 e2:Expr}{op:CmpOp}{pos:Pos}{f g:Ex}{o:V→V→Hp→Option (V×Hp)}(h1:J prog w Γ e1 f)(h2:J prog w Γ e2 g)(ho:Op2 prog w (compareOp op) o)(hm:behindInMarks op e2=false:=by with_unfolding_all rfl): JT prog w Γ (.Compare e1 [op] [e2] pos) (ZG (Zd o f g)):=by
 intro W ρ H fr s Q E b H' r hf post
 obtain⟨pp,e0,hf0⟩:=Zz0.mp hf
 obtain⟨c,e4,e5⟩:=Zz1.mp hf0
 cases e5
 obtain⟨p,e1,hf⟩:=Zz0.mp e0
 obtain⟨q,e2,e3⟩:=Zz0.mp hf
 refine wpAny_isTrue_Compare1 (h1 W ρ H fr s _ E _ _ r e1 fun W1 k1 t1 x l1 r1 x1=>?_) hm
 refine h2 W1 ρ _ fr _ _ E _ _ r1 e2 fun W2 k2 t2 y l2 r2 y2=>?_
 refine ho Γ W2 ρ _ fr _ _ E _ _ x y _ _ r2 (x1.mono l2) y2 e3 fun W3 k3 t3 z l3 r3 z3=>?_
 exact ZcH Γ W3 ρ _ fr _ _ E _ z b r3 z3 e4 fun W4 k4 t4 l4 r4=>post W4 k4 t4 (((l1.trans l2).trans l3).trans l4) r4
end
end PM
end
section
set_option autoImplicit false
namespace PM
open PySem PyProof.Rows PyProof
noncomputable def Zby(a b:Int): Bool:=!(decide (Builtin.Int.intBits a>shortFactorBits) && decide (Builtin.Int.intBits b>shortFactorBits) && Builtin.Int.intTooBig (Builtin.Int.intBits a+Builtin.Int.intBits b))
theorem Zji{a b:Int}(h:Zby a b=true): IntMulOk a b:=by
 unfold Zby at h
 unfold IntMulOk
 intro c
 rw[c]at h
 cases h
noncomputable def Zc7: V→V→Hp→Option (V×Hp)
 | .int a,.int b,H=>some (.int (a-b),H)
 | _,_,_=>none
noncomputable def oDiv: V→V→Hp→Option (V×Hp)
 | .int a,.int b,H=>if b≠0∧Builtin.divisionGoesByPylong a b=false then some (.int (a.fdiv b),H)else none
 | _,_,_=>none
noncomputable def oMod: V→V→Hp→Option (V×Hp)
 | .int a,.int b,H=>if b≠0 then some (.int (a.fmod b),H)else none
 | _,_,_=>none
noncomputable def oPow: V→V→Hp→Option (V×Hp)
 | .int a,.int b,H=>if 0≤b∧(Builtin.Int.intBits a:Int)*b≤2 ^ 27 then some (.int (a ^ b.toNat),H)else none
 | _,_,_=>none
noncomputable def ZdP(p:Int→Int→Bool): V→V→Hp→Option (V×Hp)
 | .int a,.int b,H=>some (.bool (p a b),H)
 | _,_,_=>none
noncomputable def oLt:=ZdP fun a b=>decide (a<b)
noncomputable def oLe:=ZdP fun a b=>decide (a≤b)
noncomputable def oGt:=ZdP fun a b=>decide (b<a)
noncomputable def oGe:=ZdP fun a b=>decide (b≤a)
section
variable {prog:Program} {w:World}
theorem ZeC: Op2 prog w (binaryOp .Sub) Zc7:=by
 intro Γ W ρ H fr s Q E a b x y v H' r hx hy ho post
 cases hx <;> first | (cases ho;done) | skip
 cases hy <;> first | (cases ho;done) | skip
 cases ho
 exact PySem.P.sub_int (post W s.heap _ _ (.refl W) r (.int _ _))
theorem ZaQ: Op2 prog w (binaryOp .Mod) oMod:=by
 intro Γ W ρ H fr s Q E a b x y v H' r hx hy ho post
 cases hx <;> first | (cases ho;done) | skip
 cases hy <;> first | (cases ho;done) | skip
 rename_i i t j u
 simp only[oMod]at ho
 by_cases hb:j≠0
 ·rw[if_pos hb]at ho
  cases ho
  exact mod_int' hb (post W s.heap _ _ (.refl W) r (.int _ _))
 ·rw[if_neg hb]at ho
  cases ho
theorem Zgr: Op2 prog w (binaryOp .FloorDiv) oDiv:=by
 intro Γ W ρ H fr s Q E a b x y v H' r hx hy ho post
 cases hx <;> first | (cases ho;done) | skip
 cases hy <;> first | (cases ho;done) | skip
 rename_i i t j u
 simp only[oDiv]at ho
 by_cases hb:j≠0∧Builtin.divisionGoesByPylong i j=false
 ·rw[if_pos hb]at ho
  cases ho
  exact floordiv_int hb.1 (post W s.heap _ _ (.refl W) r (.int _ _)) (.inl hb.2)
 ·rw[if_neg hb]at ho
  cases ho
theorem Zgs: Op2 prog w (binaryOp .Pow) oPow:=by
 intro Γ W ρ H fr s Q E a b x y v H' r hx hy ho post
 cases hx <;> first | (cases ho;done) | skip
 cases hy <;> first | (cases ho;done) | skip
 rename_i i t j u
 simp only[oPow]at ho
 by_cases hb:0≤j∧(Builtin.Int.intBits i:Int)*j≤2 ^ 27
 ·rw[if_pos hb]at ho
  cases ho
  exact pow_int hb.1 hb.2 (post W s.heap _ _ (.refl W) r (.int _ _))
 ·rw[if_neg hb]at ho
  cases ho
theorem Zc3: Op2 prog w (compareOp .Lt) oLt:=by
 intro Γ W ρ H fr s Q E a b x y v H' r hx hy ho post
 cases hx <;> first | (cases ho;done) | skip
 cases hy <;> first | (cases ho;done) | skip
 cases ho
 exact PySem.P.lt_int (post W s.heap s.toks _ (.refl W) r (.bool _))
theorem ZdK: Op2 prog w (compareOp .LtE) oLe:=by
 intro Γ W ρ H fr s Q E a b x y v H' r hx hy ho post
 cases hx <;> first | (cases ho;done) | skip
 cases hy <;> first | (cases ho;done) | skip
 cases ho
 exact PySem.P.le_int (post W s.heap s.toks _ (.refl W) r (.bool _))
theorem ZhT: Op2 prog w (compareOp .Gt) oGt:=by
 intro Γ W ρ H fr s Q E a b x y v H' r hx hy ho post
 cases hx <;> first | (cases ho;done) | skip
 cases hy <;> first | (cases ho;done) | skip
 cases ho
 exact PySem.P.gt_int (post W s.heap s.toks _ (.refl W) r (.bool _))
theorem ZhU: Op2 prog w (compareOp .GtE) oGe:=by
 intro Γ W ρ H fr s Q E a b x y v H' r hx hy ho post
 cases hx <;> first | (cases ho;done) | skip
 cases hy <;> first | (cases ho;done) | skip
 cases ho
 exact PySem.P.ge_int (post W s.heap s.toks _ (.refl W) r (.bool _))
end
end PM
end
section
set_option autoImplicit false
namespace PM
open PySem PyProof.Rows PyProof
noncomputable def Zc8(f:V→Option PyData): List V→Option (List PyData)
 | []=>some []
 | v::vs=>(f v).bind fun d=>(Zc8 f vs).bind fun ds=>some (d::ds)
noncomputable def toD(H:Hp): Nat→V→Option PyData
 | _,.none=>some .none
 | _,.bool b=>some (.bool b)
 | _,.int i=>some (.int i)
 | _,.str x=>some (.str x)
 | n+1,.tup vs=>(Zc8 (toD H n) vs).map .tuple
 | n+1,.ref a=>H[a]?.bind fun vs=>(Zc8 (toD H n) vs).map .list
 | 0,.tup _=>none
 | 0,.ref _=>none
theorem ZfA{W:Wd}{h:Heap}{f:V→Option PyData}(ih:∀v x d,VR W v x→f v=some d→∃as,Reads h x d as): ∀{vs:List V} {xs:List Value} {ds:List PyData},VRs W vs xs→Zc8 f vs=some ds→∃as,ReadsAll h xs ds as
 | _,_,_,.nil,e=>by
  cases e
  exact⟨_,.nil⟩
 | _,_,_,.cons a r,e=>by
  obtain⟨d,e1,e⟩:=Zz0.mp e
  obtain⟨ds,e2,e3⟩:=Zz0.mp e
  cases e3
  obtain⟨as,h1⟩:=ih _ _ _ a e1
  obtain⟨bs,h2⟩:=ZfA ih r e2
  exact⟨_,.cons h1 h2⟩
theorem Zen{Γ:Cx}{W:Wd}{ρ:Lc}{H:Hp}{fr:List (Addr×Obj)}{h:Heap}(r:Rep Γ W ρ H fr h): ∀(n:Nat) (v:V) (x:Value) (d:PyData),VR W v x→toD H n v=some d→∃as,Reads h x d as:=by
 intro n
 induction n with
 | zero=>
  intro v x d hv e
  cases hv with
  | none=>cases e;exact⟨_,.none⟩
  | bool b=>cases e;exact⟨_,.bool b⟩
  | int i t=>cases e;exact⟨_,.int i t⟩
  | str y t=>cases e;exact⟨_,.str y t⟩
  | tup _ _ _=>cases e
  | ref _=>cases e
 | succ n ih=>
  intro v x d hv e
  cases hv with
  | none=>cases e;exact⟨_,.none⟩
  | bool b=>cases e;exact⟨_,.bool b⟩
  | int i t=>cases e;exact⟨_,.int i t⟩
  | str y t=>cases e;exact⟨_,.str y t⟩
  | @tup vs a xs k hm hl hs=>
   obtain⟨ds,e1,e2⟩:=Zz1.mp e
   subst e2
   obtain⟨as,h1⟩:=ZfA ih hs e1
   exact⟨_,.tuple (r.tupAt hm) rfl rfl (by simpa using h1)⟩
  | @ref i a ea=>
   obtain⟨vs,e0,e⟩:=Zz0.mp e
   obtain⟨ds,e1,e2⟩:=Zz1.mp e
   subst e2
   obtain⟨hl,xs,k,hg,hs⟩:=r.at e0 ea
   obtain⟨as,h1⟩:=ZfA ih hs e1
   exact⟨_,.list hg rfl rfl (by simpa using h1)⟩
noncomputable def ZbG: Nat:=8
noncomputable def ZeQ(a b:V)(H:Hp): Option Bool:=(toD H ZbG a).bind fun d=>(toD H ZbG b).bind fun e=>if SeqAt.shaped d=true∧SeqAt.shaped e=true then some (PyData.eqv d e)else none
noncomputable def oEq(a b:V)(H:Hp): Option (V×Hp):=(ZeQ a b H).map fun c=>(.bool c,H)
noncomputable def oNe(a b:V)(H:Hp): Option (V×Hp):=(ZeQ a b H).map fun c=>(.bool (!c),H)
noncomputable def oIs: V→V→Hp→Option (V×Hp)
 | .none,.none,H=>some (.bool true,H)
 | .bool _,.none,H=>some (.bool false,H)
 | .int _,.none,H=>some (.bool false,H)
 | .str _,.none,H=>some (.bool false,H)
 | .tup _,.none,H=>some (.bool false,H)
 | .ref _,.none,H=>some (.bool false,H)
 | _,_,_=>none
noncomputable def Zch(a b:V)(H:Hp): Option (V×Hp):=(oIs a b H).bind fun p=>match p.1 with | .bool c=>some (.bool (!c),p.2) | _=>none
section
variable {prog:Program} {w:World}
theorem Za4: Op2 prog w (compareOp .Eq) oEq:=by
 intro Γ W ρ H fr s Q E a b x y v H' r hx hy ho post
 obtain⟨c,e1,e2⟩:=Zz1.mp ho
 cases e2
 obtain⟨d,h1,e1⟩:=Zz0.mp e1
 obtain⟨e,h2,e1⟩:=Zz0.mp e1
 by_cases hs:SeqAt.shaped d=true∧SeqAt.shaped e=true
 ·rw[if_pos hs]at e1
  cases e1
  obtain⟨as,R1⟩:=Zen r ZbG a x d hx h1
  obtain⟨bs,R2⟩:=Zen r ZbG b y e hy h2
  exact eq_dataH R1 R2 hs.1 hs.2 (by have:=Γ.hu;omega) (post W s.heap s.toks _ (.refl W) r (.bool _))
 ·rw[if_neg hs]at e1
  cases e1
theorem ZbQ: Op2 prog w (compareOp .NotEq) oNe:=by
 intro Γ W ρ H fr s Q E a b x y v H' r hx hy ho post
 obtain⟨c,e1,e2⟩:=Zz1.mp ho
 cases e2
 obtain⟨d,h1,e1⟩:=Zz0.mp e1
 obtain⟨e,h2,e1⟩:=Zz0.mp e1
 by_cases hs:SeqAt.shaped d=true∧SeqAt.shaped e=true
 ·rw[if_pos hs]at e1
  cases e1
  obtain⟨as,R1⟩:=Zen r ZbG a x d hx h1
  obtain⟨bs,R2⟩:=Zen r ZbG b y e hy h2
  exact ne_dataH R1 R2 hs.1 hs.2 (by have:=Γ.hu;omega) (post W s.heap s.toks _ (.refl W) r (.bool _))
 ·rw[if_neg hs]at e1
  cases e1
theorem Za5: Op2 prog w (compareOp .Is) oIs:=by
 intro Γ W ρ H fr s Q E a b x y v H' r hx hy ho post
 cases hy <;> first | (cases hx <;> cases ho;done) | skip
 refine PySem.is_none ?_
 cases hx <;> (cases ho;exact post W s.heap s.toks _ (.refl W) r (.bool _))
theorem ZcQ: Op2 prog w (compareOp .IsNot) Zch:=by
 intro Γ W ρ H fr s Q E a b x y v H' r hx hy ho post
 cases hy <;> first | (cases hx <;> cases ho;done) | skip
 refine PySem.isNot_none ?_
 cases hx <;> (cases ho;exact post W s.heap s.toks _ (.refl W) r (.bool _))
end
end PM
end
section
set_option autoImplicit false
namespace PM
open PySem PyProof.Rows PyProof
noncomputable def Zq: V→V→Hp→Option (V×Hp)
 | .ref a,.int k,H=>H[a]?.bind fun vs=>(seqIndex? k vs.length).bind fun j=>vs[j]?.map fun v=>(v,H)
 | .tup vs,.int k,H=>(seqIndex? k vs.length).bind fun j=>vs[j]?.map fun v=>(v,H)
 | _,_,_=>none
theorem ZgW{k:Int}{n j:Nat}(h:seqIndex? k n=some j): j<n∧(k:Int)<n∧-(n:Int)≤k∧(0≤k→k.toNat=j)∧(k<0→(k+n).toNat=j):=by
 unfold seqIndex? at h
 by_cases c:k<0
 ·simp only[c,if_true]at h
  split at h
  ·rename_i d
   simp at d h
   omega
  ·cases h
 ·simp only[c,if_false]at h
  split at h
  ·rename_i d
   simp at d h
   omega
  ·cases h
section
variable {prog:Program} {w:World} {Γ:Cx}
theorem Zy{e1 e2:Expr}{pos:Pos}{f g:Ex}(h1:J prog w Γ e1 f)(h2:J prog w Γ e2 g)(hs:∀a k u,subscripted e2 false (.ref a) (.int k u)=operate [.ref a,.int k u] (getItem (.ref a) (.int k u)):=by intros;with_unfolding_all rfl): J prog w Γ (.Subscript e1 e2 pos) (Zd Zq f g):=by
 intro W ρ H fr s Q E v H' r hf post
 obtain⟨p,e1,hf⟩:=Zz0.mp hf
 obtain⟨q,e2,e3⟩:=Zz0.mp hf
 refine Subscript_ (h1 W ρ H fr s _ E _ _ r e1 fun W1 k1 t1 x l1 r1 x1=>?_)
 refine h2 W1 ρ _ fr _ _ E _ _ r1 e2 fun W2 k2 t2 y l2 r2 y2=>?_
 have x2:=x1.mono l2
 obtain⟨v1,H1⟩:=p
 obtain⟨v2,H2⟩:=q
 simp only at e3 r2 x2 y2
 cases y2 <;> first | (cases x2 <;> cases e3;done) | skip
 rename_i k u
 cases x2 <;> first | (cases e3;done) | skip
 ·rename_i vs a xs kk hm hl hv
  obtain⟨j,hj,e4⟩:=Zz0.mp e3
  obtain⟨z,hz,e5⟩:=Zz1.mp e4
  cases e5
  obtain⟨z',hz',rz⟩:=hv.at hz
  have hx:xs.length=vs.length:=hv.length
  have hb:=ZgW hj
  rw[ZaC]at hl
  have it:IsTup k2 a xs.toArray:=⟨_,r2.tupAt hm,rfl,kk,rfl⟩
  exact item_tupleT it (by omega) (by omega) (by rw[hx];exact hj) hz' (post W2 k2 t2 z' (l1.trans l2) r2 rz) (hs _ _ _)
 ·rename_i i a ea
  obtain⟨vs,hvs,e3⟩:=Zz0.mp e3
  obtain⟨j,hj,e4⟩:=Zz0.mp e3
  obtain⟨z,hz,e5⟩:=Zz1.mp e4
  cases e5
  obtain⟨hl,xs,kk,hg,hv⟩:=r2.at hvs ea
  obtain⟨z',hz',rz⟩:=hv.at hz
  have hx:xs.length=vs.length:=hv.length
  have hb:=ZgW hj
  rw[ZaC]at hl
  have isl:k2.IsList a xs.toArray:=⟨_,hg,rfl,kk,rfl⟩
  refine tail_any (s:={ s with heap:=k2,toks:=t2 }) isl.typeIs slot_list_getitem.lookup ?_ (hs _ _ _)
  by_cases hk:0≤k
  ·exact wpAny_getItem_list isl hk (by omega) (by rw[hb.2.2.2.1 hk];simpa using hz') (post W2 k2 t2 z' (l1.trans l2) r2 rz)
  ·refine wpAny_getItem_list_neg isl (by omega) (by simp;omega) (by omega) ?_ (post W2 k2 t2 z' (l1.trans l2) r2 rz)
   have:=hb.2.2.2.2 (by omega)
   rw[←hx]at this
   simpa [this]using hz'
end
noncomputable def ZaS{α:Type}(vs:List α)(lo hi:Option Int): List α:=(sliceRange (sliceBounds lo hi none vs.length).1 (sliceBounds lo hi none vs.length).2.1 (sliceBounds lo hi none vs.length).2.2).filterMap fun i=>vs[i]?
theorem VRs.pick{W:Wd}{vs:List V}{xs:List Value}(h:VRs W vs xs)(l:List Nat): VRs W (l.filterMap fun i=>vs[i]?) (l.filterMap fun i=>xs[i]?):=by
 induction l with
 | nil=>exact .nil
 | cons i l ih=>
  simp only[List.filterMap_cons]
  have hl:=h.length
  cases e:vs[i]? with
  | none=>
   have:xs[i]?=none:=by rw[List.getElem?_eq_none_iff]at e ⊢;omega
   rw[this]
   exact ih
  | some v=>
   obtain⟨x,hx,hr⟩:=h.at e
   rw[hx]
   exact .cons hr ih
theorem pick_len{α:Type}(vs:List α)(lo hi:Option Int): (ZaS vs lo hi).length≤vs.length:=by
 unfold ZaS
 refine Nat.le_trans (List.length_filterMap_le _ _) ?_
 refine sliceRange_length_le _ _ _ _ (fun _=>?_) fun c=>?_
 ·unfold sliceBounds
  cases lo <;> cases hi <;> simp <;> omega
 ·exact absurd (by unfold sliceBounds;simp) c
theorem Zjj{α:Type}(vs:List α)(a:Nat): ∀m:Nat,a+m≤vs.length→((List.range m).map fun k=>a+k).filterMap (fun i=>vs[i]?)=(vs.drop a).take m:=by
 intro m
 induction m with
 | zero=>intro _;simp
 | succ m ih=>
  intro h
  rw[List.range_succ,List.map_append,List.filterMap_append,ih (by omega),List.take_add_one]
  congr 1
  simp only[List.map_cons,List.map_nil,List.filterMap_cons,List.filterMap_nil,List.getElem?_drop]
  cases e:vs[a+m]? with
  | none=>rw[List.getElem?_eq_none_iff]at e;omega
  | some v=>rfl
theorem Zf9{α:Type}(vs:List α)(lo hi:Option Int){a b:Nat}(ha:(sliceBounds lo hi none vs.length).1=(a:Int))(hb:(sliceBounds lo hi none vs.length).2.1=(b:Int))(h:b≤vs.length): ZaS vs lo hi=(vs.drop a).take (b-a):=by
 have hc:(sliceBounds lo hi none vs.length).2.2=1:=by unfold sliceBounds;rfl
 unfold ZaS
 rw[ha,hb,hc]
 have e:sliceRange (a:Int) (b:Int) 1=(List.range (b-a)).map fun k=>a+k:=by
  unfold sliceRange
  simp only[show(1:Int)>0 from by decide,if_true]
  by_cases c:(a:Int)<b
  ·rw[if_pos c]
   have:((b:Int)-a+1-1) / 1=((b-a:Nat):Int):=by omega
   rw[this]
   simp only[Int.toNat_natCast]
   refine List.map_congr_left fun k _=>?_
   omega
  ·rw[if_neg c]
   have:b-a=0:=by omega
   rw[this]
   rfl
 rw[e]
 by_cases c:a≤b
 ·exact Zjj vs a (b-a) (by omega)
 ·have:b-a=0:=by omega
  rw[this]
  simp
noncomputable def ZeH: Option V→Option (Option Int)
 | none=>some none
 | some (.int k)=>some (some k)
 | _=>none
noncomputable abbrev Pt:=Lc→Hp→Option (Option V×Hp)
noncomputable def ZgB: Pt:=fun _ H=>some (none,H)
noncomputable def ZdL(f:Ex): Pt:=fun ρ H=>(f ρ H).map fun p=>(some p.1,p.2)
noncomputable def ZdE(f:Ex)(lo hi:Pt): Ex:=fun ρ H=>(f ρ H).bind fun p=>(lo ρ p.2).bind fun q=>(hi ρ q.2).bind fun u=>(ZeH q.1).bind fun a=>(ZeH u.1).bind fun b=>match p.1 with
 | .ref i=>u.2[i]?.bind fun vs=>some (.ref u.2.length,u.2++[ZaS vs a b])
 | _=>none
inductive VP(W:Wd): Option V→Value→Prop where
 | none:VP W none .none
 | some {v:V} {x:Value}:VR W v x→VP W (some v) x
theorem VP.mono{W W':Wd}{v:Option V}{x:Value}(l:W.Le W')(h:VP W v x): VP W' v x:=by
 cases h with
 | none=>exact .none
 | some h=>exact .some (h.mono l)
theorem VP.part{W:Wd}{v:Option V}{x:Value}{k:Option Int}(h:VP W v x)(e:ZeH v=Option.some k): IsPart x k:=by
 cases h with
 | none=>cases e;exact .none
 | some h=>cases h <;> cases e;exact .int _ _
noncomputable def JP(prog:Program)(w:World)(Γ:Cx)(e:Option Expr)(f:Pt): Prop:=∀(W:Wd) (ρ:Lc) (H:Hp) (fr:List (Addr×Obj)) (s:Shared) (Q E:Value→Shared→Prop) (v:Option V) (H':Hp),
 Rep Γ W ρ H fr s.heap→f ρ H=some (v,H')→(∀(W':Wd) (h':Heap) (tk':Nat) (x:Value),W.Le W'→Rep Γ W' ρ H' fr h'→VP W' v x→Q x { s with heap:=h',toks:=tk' })→wpAny (model prog w) Γ.A (evalPart e Γ.env) Q E s
section
variable {prog:Program} {w:World} {Γ:Cx}
theorem JP.none: JP prog w Γ none ZgB:=fun W ρ H fr s Q E v H' r hf post=>by
 cases hf
 exact wpAny_evalPart_none (post W s.heap s.toks _ (.refl W) r .none)
theorem JP.some{e:Expr}{f:Ex}(h:J prog w Γ e f): JP prog w Γ (some e) (ZdL f):=fun W ρ H fr s Q E v H' r hf post=>by
 obtain⟨p,e1,e2⟩:=Zz1.mp hf
 cases e2
 exact wpAny_evalPart_some (h W ρ H fr s _ E _ _ r e1 fun W1 k1 t1 x l1 r1 x1=>post W1 k1 t1 x l1 r1 (.some x1))
theorem ZjQ{e:Expr}{lo hi:Option Expr}{p pos:Pos}{f:Ex}{a b:Pt}(h:J prog w Γ e f)(hlo:JP prog w Γ lo a)(hhi:JP prog w Γ hi b)(ht:∀o r,letTemporaryGo e o r=pure ():=by intro _ _;rfl): J prog w Γ (.Subscript e (.Slice lo hi Option.none p) pos) (ZdE f a b):=by
 intro W ρ H fr s Q E v H' r hf post
 obtain⟨p,e1,hf⟩:=Zz0.mp hf
 obtain⟨q,e2,hf⟩:=Zz0.mp hf
 obtain⟨u,e3,hf⟩:=Zz0.mp hf
 obtain⟨ka,e4,hf⟩:=Zz0.mp hf
 obtain⟨kb,e5,hf⟩:=Zz0.mp hf
 refine wpAny_Subscript_list_slice (h W ρ H fr s _ E _ _ r e1 fun W1 k1 t1 x l1 r1 x1=>?_) ht
 refine hlo W1 ρ _ fr _ _ E _ _ r1 e2 fun W2 k2 t2 y l2 r2 y2=>?_
 refine hhi W2 ρ _ fr _ _ E _ _ r2 e3 fun W3 k3 t3 z l3 r3 z3=>?_
 have x3:=x1.mono (l2.trans l3)
 obtain⟨v1,H1⟩:=p
 simp only at hf x3
 cases x3 with
 | none=>cases hf
 | bool _=>cases hf
 | int _ _=>cases hf
 | str _ _=>cases hf
 | tup _ _ _=>cases hf
 | @ref i a ea=>
  obtain⟨vs,hvs,e6⟩:=Zz0.mp hf
  cases e6
  obtain⟨hl,xs,kk,hg,hv⟩:=r3.at hvs ea
  have isl:k3.IsList a xs.toArray:=⟨_,hg,rfl,kk,rfl⟩
  refine⟨a,xs.toArray,ka,kb,rfl,isl,ZbK (by simp[hv.length];exact hl),(y2.mono l3).part e4,z3.part e5,?_⟩
  have hp:VRs W3 (ZaS vs ka kb) (ZaS xs ka kb):=by
   unfold ZaS
   rw[hv.length]
   exact hv.pick _
  have hx:slicePick xs.toArray ka kb Option.none=(ZaS xs ka kb).toArray:=by
   unfold slicePick ZaS
   simp
  obtain⟨W4,l4,r4,v4⟩:=(r3.push { cls:=.type "slice",data:=.fields #[y,z,.none] }).list (k:=0) hp (Nat.le_trans (pick_len vs ka kb) hl)
  rw[hx]
  have:=post W4 _ t3 _ (((l1.trans l2).trans l3).trans l4) r4 v4
  rw[Heap.size_push]at this
  exact this
end
end PM
end
section
set_option autoImplicit false
namespace PM
open PySem PyProof.Rows PyProof
noncomputable def Nm(prog:Program)(w:World)(Γ:Cx)(x:Str)(v:Value): Prop:=∀(pos:Pos) (m:Str→Option Value) (s:Shared) (Q E:Value→Shared→Prop),Fr Γ.h₀ Γ.L s.heap m→Q v s→wpAny (model prog w) Γ.A (eval (.Name x pos) Γ.env) Q E s
theorem Nm.use{prog:Program}{w:World}{Γ:Cx}{x:Str}{y:Value}(h:Nm prog w Γ x y){pos:Pos}{W:Wd}{ρ:Lc}{H:Hp}{fr:List (Addr×Obj)}{s:Shared}{Q E:Value→Shared→Prop}(r:Rep Γ W ρ H fr s.heap)(q:Q y s): wpAny (model prog w) Γ.A (eval (.Name x pos) Γ.env) Q E s:=by
 obtain⟨m,c,led,r⟩:=r
 exact h pos m s Q E r.F q
noncomputable def OpN(prog:Program)(w:World)(m:List Value→Sem Value)(o:List V→Hp→Option (V×Hp)): Prop:=∀(Γ:Cx) (W:Wd) (ρ:Lc) (H:Hp) (fr:List (Addr×Obj)) (s:Shared) (Q E:Value→Shared→Prop) (as:List V) (xs:List Value) (v:V) (H':Hp),
 Rep Γ W ρ H fr s.heap→VRs W as xs→o as H=some (v,H')→ZeO Γ W ρ H' fr s Q v→wpAny (model prog w) Γ.A (m xs) Q E s
noncomputable def Zr(o:List V→Hp→Option (V×Hp))(g:Exs): Ex:=fun ρ H=>(g ρ H).bind fun p=>o p.1 p.2
section
variable {prog:Program} {w:World} {Γ:Cx}
theorem ZaB{x:Str}{np pos:Pos}{id:String}{e:Expr}{es:List Expr}{g:Exs}{o:List V→Hp→Option (V×Hp)}(hn:Nm prog w Γ x (.builtin id))(h:Js prog w Γ (e::es) g)(ho:OpN prog w (fun xs=>call (.builtin id) xs) o)
  (he:starEach (e::es) Γ.env=(false,eval e Γ.env)::starEach es Γ.env:=by rfl) (hp:∀pos,(backTo pos (starEach es Γ.env)).any (·.1)=false:=by intro _;rfl):J prog w Γ (.Call (.Name x np) (e::es) [] pos) (Zr o g):=by
 intro W ρ H fr s Q E v H' r hf post
 obtain⟨p,e1,hf⟩:=Zz0.mp hf
 refine wpAny_Call_ofName (hn.use r ?_)
 refine callWith_builtin1 (h pos W ρ H fr s _ E _ _ r e1 fun W1 k1 t1 xs l1 r1 x1=>?_) he (hp pos)
 exact ho Γ W1 ρ _ fr _ Q E _ xs v H' r1 x1 hf fun W2 k2 t2 y l2 r2 y2=>post W2 k2 t2 y (l1.trans l2) r2 y2
theorem ZcS{x:Str}{np pos:Pos}{T:String}{e:Expr}{es:List Expr}{g:Exs}{o:List V→Hp→Option (V×Hp)}(hn:Nm prog w Γ x (.type T))(h:Js prog w Γ (e::es) g)(ho:OpN prog w (fun xs=>call (.type T) xs) o)
  (he:starEach (e::es) Γ.env=(false,eval e Γ.env)::starEach es Γ.env:=by rfl) (hp:∀pos,(backTo pos (starEach es Γ.env)).any (·.1)=false:=by intro _;rfl):J prog w Γ (.Call (.Name x np) (e::es) [] pos) (Zr o g):=by
 intro W ρ H fr s Q E v H' r hf post
 obtain⟨p,e1,hf⟩:=Zz0.mp hf
 refine wpAny_Call_ofName (hn.use r ?_)
 refine PySem.Pv.callWith_type1 (h pos W ρ H fr s _ E _ _ r e1 fun W1 k1 t1 xs l1 r1 x1=>?_) he (hp pos)
 exact ho Γ W1 ρ _ fr _ Q E _ xs v H' r1 x1 hf fun W2 k2 t2 y l2 r2 y2=>post W2 k2 t2 y (l1.trans l2) r2 y2
end
noncomputable def Zga: V→String
 | .none=>"NoneType"
 | .bool _=>"bool"
 | .int _=>"int"
 | .str _=>"str"
 | .tup _=>"tuple"
 | .ref _=>"list"
noncomputable def Zgt(T:String)(v:V): Bool:=Zga v == T || (T == "int" && Zga v == "bool")
noncomputable def eIs(T:String)(f:Ex): Ex:=fun ρ H=>(f ρ H).map fun p=>(.bool (Zgt T p.1),p.2)
section
variable {prog:Program} {w:World} {Γ:Cx}
theorem isinst{T:String}(hT:T="int"∨T="bool"∨T="list"∨T="tuple"){W:Wd}{ρ:Lc}{H:Hp}{fr:List (Addr×Obj)}{s:Shared}{Q E:Value→Shared→Prop}{a:V}{x:Value}(r:Rep Γ W ρ H fr s.heap)(hx:VR W a x)(hin:∀i,a=.ref i→i<H.length)
  (post:∀tk,Q (.bool (Zgt T a)) { s with toks:=tk }):wpAny (model prog w) Γ.A (call (.builtin "isinstance") [x,.type T]) Q E s:=by
 cases hx with
 | none=>
      rcases hT with e | e | e | e <;> subst e
      ·exact call_isinstance (isinstance_false_none (by decide +kernel) F.isi_meta_int (by rw[isSubtype_type];kernel_rfl)) (post _)
      ·exact call_isinstance (isinstance_false_none (by decide +kernel) F.isi_meta_bool (by rw[isSubtype_type];kernel_rfl)) (post _)
      ·exact call_isinstance (isinstance_false_none (by decide +kernel) F.isi_meta_list (by rw[isSubtype_type];kernel_rfl)) (post _)
      ·exact call_isinstance (isinstance_false_none (by decide +kernel) F.isi_meta_tuple (by rw[isSubtype_type];kernel_rfl)) (post _)
 | bool b=>
       rcases hT with e | e | e | e <;> subst e
       ·exact IsiPair.bool_int (post s.toks)
       ·exact IsiPair.bool_bool (post s.toks)
       ·exact IsiPair.bool_list (post _)
       ·exact IsiPair.bool_tuple (post _)
 | int i t=>
       rcases hT with e | e | e | e <;> subst e
       ·exact IsiPair.int_int (post s.toks)
       ·exact IsiPair.int_bool (post _)
       ·exact IsiPair.int_list (post _)
       ·exact IsiPair.int_tuple (post _)
 | str y t=>
       rcases hT with e | e | e | e <;> subst e
       ·exact IsiPair.str_int (post _)
       ·exact IsiPair.str_bool (post _)
       ·exact IsiPair.str_list (post _)
       ·exact IsiPair.str_tuple (post _)
 | tup hm hl hs=>
  have hg:=r.tupAt hm
  rcases hT with e | e | e | e <;> subst e
  ·exact IsiPair.tuple_int hg rfl (post _)
  ·exact IsiPair.tuple_bool hg rfl (post _)
  ·exact IsiPair.tuple_list hg rfl (post _)
  ·exact IsiPair.tuple_tuple hg rfl (post s.toks)
 | @ref i a ea=>
  obtain⟨hl,xs,k,hg,hv⟩:=r.at (List.getElem?_eq_getElem (hin i rfl)) ea
  rcases hT with e | e | e | e <;> subst e
  ·exact IsiPair.list_int hg rfl (post _)
  ·exact IsiPair.list_bool hg rfl (post _)
  ·exact IsiPair.list_list hg rfl (post s.toks)
  ·exact IsiPair.list_tuple hg rfl (post _)
end
theorem Rep.refIn{Γ:Cx}{W:Wd}{ρ:Lc}{H:Hp}{fr:List (Addr×Obj)}{h:Heap}{i:Nat}{x:Value}(r:Rep Γ W ρ H fr h)(hx:VR W (.ref i) x): i<H.length:=by
 obtain⟨m,c,led,r⟩:=r
 cases hx with
 | ref e=>rw[←r.R.len];exact(Zz6.mp e).1
section
variable {prog:Program} {w:World} {Γ:Cx}
theorem Zb1{np tp pos:Pos}{x y:Str}{T:String}{e:Expr}{f:Ex}(hn:Nm prog w Γ x (.builtin "isinstance"))(hy:Nm prog w Γ y (.type T))(hT:T="int"∨T="bool"∨T="list"∨T="tuple")(h:J prog w Γ e f)
  (he:starEach [e,.Name y tp] Γ.env=(false,eval e Γ.env)::starEach [.Name y tp] Γ.env:=by rfl) (hp:∀pos,(backTo pos (starEach [.Name y tp] Γ.env)).any (·.1)=false:=by intro _;rfl):J prog w Γ (.Call (.Name x np) [e,.Name y tp] [] pos) (eIs T f):=by
 intro W ρ H fr s Q E v H' r hf post
 obtain⟨p,e1,e2⟩:=Zz1.mp hf
 cases e2
 refine wpAny_Call_ofName (hn.use r ?_)
 refine callWith_builtin1 (wpAny_items_cons (h W ρ H fr s _ E _ _ r e1 fun W1 k1 t1 z l1 r1 z1=>?_) he) he (hp pos)
 refine wpAny_items_cons (hy.use (s:={ s with heap:=k1,toks:=t1 }) r1 ?_)
 refine wpAny_items_nil ?_
 exact PM.isinst hT r1 z1 (fun i e=>by rw[e]at z1;exact r1.refIn z1) fun tk=>post W1 k1 tk _ l1 r1 (.bool _)
end
noncomputable def Zaw: List V→Hp→Option (V×Hp)
 | [.ref a],H=>H[a]?.map fun vs=>(.int vs.length,H)
 | [.tup vs],H=>some (.int vs.length,H)
 | _,_=>none
noncomputable def ZdQ: List V→Hp→Option (V×Hp)
 | [.int a],H=>some (.int (if a<0 then -a else a),H)
 | _,_=>none
noncomputable def ZcE: List V→Option (List Int)
 | []=>some []
 | .int k::vs=>(ZcE vs).map fun ks=>k::ks
 | _::_=>none
noncomputable def Zmb: List V→Hp→Option (V×Hp)
 | [.ref a],H=>H[a]?.bind fun vs=>(ZcE vs).map fun ks=>(.int ks.sum,H)
 | _,_=>none
theorem VRs.one{W:Wd}{v:V}{xs:List Value}(h:VRs W [v] xs): ∃x,xs=[x]∧VR W v x:=by
 cases h with
 | cons a b=>cases b;exact⟨_,rfl,a⟩
theorem VRs.two{W:Wd}{v u:V}{xs:List Value}(h:VRs W [v,u] xs): ∃x y,xs=[x,y]∧VR W v x∧VR W u y:=by
 cases h with
 | cons a b=>obtain⟨y,e,r⟩:=b.one;subst e;exact⟨_,_,rfl,a,r⟩
noncomputable def Z9: V→V→Hp→Option (V×Hp)
 | .int a,.int b,H=>some (.int (a+b),H)
 | .ref a,.ref b,H=>H[a]?.bind fun vs=>H[b]?.bind fun us=>if(vs++us).length≤ZZ then some (.ref H.length,H++[vs++us])else none
 | .tup vs,.tup us,H=>if(vs++us).length≤ZZ then some (.tup (vs++us),H)else none
 | _,_,_=>none
noncomputable def ZcL(vs:List V): Nat→List V
 | 0=>[]
 | n+1=>ZcL vs n++vs
noncomputable def ZaW: V→V→Hp→Option (V×Hp)
 | .int a,.int b,H=>if Zby a b=true then some (.int (a*b),H)else none
 | .ref a,.int k,H=>H[a]?.bind fun vs=>if vs.length*k.toNat≤ZZ∧-(2 ^ 63:Int)≤k∧k<2 ^ 63 then some (.ref H.length,H++[ZcL vs k.toNat])else none
 | _,_,_=>none
section
variable {prog:Program} {w:World}
theorem ZaR: OpN prog w (fun xs=>call (.builtin "len") xs) Zaw:=by
 intro Γ W ρ H fr s Q E as xs v H' r hx ho post
 unfold Zaw at ho
 split at ho
 ·rename_i a
  obtain⟨vs,e1,e2⟩:=Zz1.mp ho
  cases e2
  obtain⟨x,ex,rx⟩:=hx.one
  subst ex
  cases rx with
  | ref ea=>
   obtain⟨hl,ys,k,hg,hv⟩:=r.at e1 ea
   have isl:s.heap.IsList _ ys.toArray:=⟨_,hg,rfl,k,rfl⟩
   have e3:(ys.toArray.size:Int)=vs.length:=by simp[hv.length]
   rw[ZaC]at hl
   refine Calls.call_len_list isl (by rw[e3];omega) ?_
   rw[e3]
   exact post W s.heap _ _ (.refl W) r (.int _ _)
 ·rename_i vs
  cases ho
  obtain⟨x,ex,rx⟩:=hx.one
  subst ex
  cases rx with
  | @tup _ a ys k hm hl hs=>
   have it:IsTup s.heap a ys.toArray:=⟨_,r.tupAt hm,rfl,k,rfl⟩
   have e3:(ys.toArray.size:Int)=vs.length:=by simp[hs.length]
   rw[ZaC]at hl
   refine len_tuple it (by rw[e3];omega) ?_
   rw[e3]
   exact post W s.heap _ _ (.refl W) r (.int _ _)
 ·cases ho
theorem ZhG: OpN prog w (fun xs=>call (.builtin "abs") xs) ZdQ:=by
 intro Γ W ρ H fr s Q E as xs v H' r hx ho post
 unfold ZdQ at ho
 split at ho
 ·cases ho
  obtain⟨x,ex,rx⟩:=hx.one
  subst ex
  cases rx with
  | int i t=>exact call_abs_int fun u tk=>post W s.heap tk _ (.refl W) r (.int _ _)
 ·cases ho
theorem ok_add: Op2 prog w (binaryOp .Add) Z9:=by
 intro Γ W ρ H fr s Q E a b x y v H' r hx hy ho post
 unfold Z9 at ho
 split at ho
 ·cases ho
  cases hx;cases hy
  exact PySem.P.add_int (post W s.heap _ _ (.refl W) r (.int _ _))
 ·obtain⟨vs,e1,ho⟩:=Zz0.mp ho
  obtain⟨us,e2,ho⟩:=Zz0.mp ho
  by_cases hl:(vs++us).length≤ZZ
  ·rw[if_pos hl]at ho
   cases ho
   cases hx with
   | ref ea=>
   cases hy with
   | ref eb=>
   obtain⟨l1,ys,k,hg,hv⟩:=r.at e1 ea
   obtain⟨l2,zs,k2,hg2,hv2⟩:=r.at e2 eb
   obtain⟨m,c,led,r'⟩:=r
   have i1:s.heap.IsList _ ys.toArray:=⟨_,hg,rfl,k,rfl⟩
   have i2:s.heap.IsList _ zs.toArray:=⟨_,hg2,rfl,k2,rfl⟩
   refine add_lists (hsz:=ZbK (by rw[hv.length,hv2.length,←List.length_append];exact hl)) r'.F r'.N i1 i2 fun h' F' N'=>?_
   obtain⟨W2,le2,r2,v2⟩:=r'.newList F' N' r'.off (hv.append hv2) hl
   exact post W2 h' s.toks _ le2 r2 v2
  ·rw[if_neg hl]at ho
   cases ho
 ·rename_i vs us
  by_cases hl:(vs++us).length≤ZZ
  ·rw[if_pos hl]at ho
   cases ho
   cases hx with
   | @tup _ a ys k hm h1 hv=>
   cases hy with
   | @tup _ b zs k2 hm2 h2 hv2=>
   have t1:IsTup s.heap a ys.toArray:=⟨_,r.tupAt hm,rfl,k,rfl⟩
   have t2:IsTup s.heap b zs.toArray:=⟨_,r.tupAt hm2,rfl,k2,rfl⟩
   have r0:=r
   obtain⟨m,c,led,r'⟩:=r
   refine add_tuples (hsz:=ZbK (by rw[hv.length,hv2.length,←List.length_append];exact hl)) r'.F r'.N t1 t2 (fun e=>?_) (fun _ e=>?_) fun _ _ h' F' N'=>?_
   ·have:vs=[]:=List.length_eq_zero_iff.mp (by rw[←hv.length,e];rfl)
    subst this
    exact post W s.heap s.toks _ (.refl W) r0 (.tup hm2 h2 hv2)
   ·have:us=[]:=List.length_eq_zero_iff.mp (by rw[←hv2.length,e];rfl)
    subst this
    rw[List.append_nil]at post
    exact post W s.heap s.toks _ (.refl W) r0 (.tup hm h1 hv)
   ·obtain⟨W2,le2,r2,v2⟩:=r'.newTup F' N' r'.off (hv.append hv2) hl
    exact post W2 h' s.toks _ le2 r2 v2
  ·rw[if_neg hl]at ho
   cases ho
 ·cases ho
theorem Zhd(vs:List V): ∀n,(ZcL vs n).length=vs.length*n
 | 0=>rfl
 | n+1=>by rw[ZcL,List.length_append,Zhd vs n,Nat.mul_succ]
theorem ZiZ(xs:List Value)(n:Nat): ∀acc:Array Value,(List.foldl (fun x1 x2=>x1++x2) acc (List.replicate n xs.toArray))=acc++(List.replicate n xs).flatten.toArray:=by
 induction n with
 | zero=>intro acc;simp
 | succ n ih=>
  intro acc
  rw[List.replicate_succ,List.foldl_cons,ih,List.replicate_succ,List.flatten_cons]
  simp[Array.append_assoc]
theorem Zhp{W:Wd}{vs:List V}{xs:List Value}(h:VRs W vs xs): ∀n,VRs W (ZcL vs n) (List.replicate n xs).flatten
 | 0=>.nil
 | n+1=>by
  rw[ZcL,List.replicate_succ',List.flatten_append]
  simp only[List.flatten_cons,List.flatten_nil,List.append_nil]
  exact(Zhp h n).append h
theorem Zbv: Op2 prog w (binaryOp .Mult) ZaW:=by
 intro Γ W ρ H fr s Q E a b x y v H' r hx hy ho post
 unfold ZaW at ho
 split at ho
 ·rename_i i j
  by_cases hm:Zby i j=true
  ·rw[if_pos hm]at ho
   cases ho
   cases hx;cases hy
   exact PySem.P.mul_int (post W s.heap _ _ (.refl W) r (.int _ _)) (Zji hm)
  ·rw[if_neg hm]at ho
   cases ho
 ·rename_i i k
  obtain⟨vs,e1,ho⟩:=Zz0.mp ho
  by_cases hc:vs.length*k.toNat≤ZZ∧-(2 ^ 63:Int)≤k∧k<2 ^ 63
  ·rw[if_pos hc]at ho
   cases ho
   cases hx with
   | ref ea=>
   cases hy with
   | int _ u=>
   obtain⟨l1,ys,kk,hg,hv⟩:=r.at e1 ea
   obtain⟨m,c,led,r'⟩:=r
   have hl:=hc.1
   rw[ZaC]at hl
   refine mul_list r'.F r'.N hg hc.2.1 hc.2.2 (by rw[List.size_toArray,hv.length];omega) fun h' F' N'=>?_
   have e2:(List.foldl (fun x1 x2=>x1++x2) #[] (List.replicate (if ys.toArray.isEmpty=true then 0 else k.toNat) ys.toArray))=(List.replicate k.toNat ys).flatten.toArray:=by
    cases ys with
    | nil=>
     simp
    | cons y0 ys0=>
     have:((y0::ys0).toArray.isEmpty=true)=False:=by simp
     simp only[this,if_false]
     rw[ZiZ]
     simp
   rw[e2]at N'
   obtain⟨W2,le2,r2,v2⟩:=r'.newList F' N' r'.off (Zhp hv k.toNat) (by rw[Zhd];exact hc.1)
   exact post W2 h' s.toks _ le2 r2 v2
  ·rw[if_neg hc]at ho
   cases ho
 ·cases ho
end
end PM
end
section
set_option autoImplicit false
namespace PM
open PySem PyProof.Rows PyProof
noncomputable def upd(ρ:Lc)(i:Nat)(v:V): Lc:=fun j=>if j=i then some v else ρ j
noncomputable abbrev Sm:=Lc→Hp→Option (Option V×Lc×Hp)
noncomputable def ZQ: Sm:=fun ρ H=>some (none,ρ,H)
noncomputable def Zw(a b:Sm): Sm:=fun ρ H=>(a ρ H).bind fun p=>match p.1 with
 | some _=>some p
 | none=>b p.2.1 p.2.2
noncomputable def ZD(f:Ex): Sm:=fun ρ H=>(f ρ H).map fun p=>(some p.1,ρ,p.2)
noncomputable def Z1(i:Nat)(f:Ex): Sm:=fun ρ H=>(f ρ H).map fun p=>(none,upd ρ i p.1,p.2)
noncomputable def ZO(t:Ts)(a b:Sm): Sm:=fun ρ H=>(t ρ H).bind fun p=>if p.1 then a ρ p.2 else b ρ p.2
noncomputable def ZaX(f:Ex): Sm:=fun ρ H=>(f ρ H).map fun p=>(none,ρ,p.2)
noncomputable def ZgH: V→V→V→Hp→Option Hp
 | .ref a,.int k,v,H=>H[a]?.bind fun vs=>if a≠0∧0≤k∧k<vs.length then some (H.set a (vs.set k.toNat v))else none
 | _,_,_,_=>none
noncomputable def Zcp(f o i:Ex): Sm:=fun ρ H=>(f ρ H).bind fun p=>(o ρ p.2).bind fun q=>(i ρ q.2).bind fun u=>(ZgH q.1 u.1 p.1 u.2).map fun K=>(none,ρ,K)
noncomputable def PostS(Γ:Cx)(W:Wd)(fr:List (Addr×Obj))(s:Shared)(Q:Flow→Shared→Prop): Option V×Lc×Hp→Prop
 | (none,ρ',H')=>∀(W':Wd) (h':Heap) (tk':Nat),W.Le W'→Rep Γ W' ρ' H' fr h'→Q .next { s with heap:=h',toks:=tk' }
 | (some v,ρ',H')=>∀(W':Wd) (h':Heap) (tk':Nat) (x:Value),W.Le W'→Rep Γ W' ρ' H' fr h'→VR W' v x→Q (.ret x) { s with heap:=h',toks:=tk' }
theorem PostS.le{Γ:Cx}{W W':Wd}{fr:List (Addr×Obj)}{s:Shared}{h:Heap}{tk:Nat}{Q:Flow→Shared→Prop}{r:Option V×Lc×Hp}(l:W.Le W')(p:PostS Γ W fr s Q r): PostS Γ W' fr { s with heap:=h,toks:=tk } Q r:=by
 obtain⟨o,ρ',H'⟩:=r
 cases o with
 | none=>exact fun W2 h2 t2 l2 r2=>p W2 h2 t2 (l.trans l2) r2
 | some v=>exact fun W2 h2 t2 x l2 r2 x2=>p W2 h2 t2 x (l.trans l2) r2 x2
section
variable (prog:Program) (w:World)
noncomputable def S1(Γ:Cx)(st:Stmt)(g:Sm): Prop:=∀(W:Wd) (ρ:Lc) (H:Hp) (fr:List (Addr×Obj)) (s:Shared) (Q:Flow→Shared→Prop) (E:Value→Shared→Prop) (r:Option V×Lc×Hp),
 Rep Γ W ρ H fr s.heap→g ρ H=some r→PostS Γ W fr s Q r→wpAny (model prog w) Γ.A (exec st Γ.env) Q E s
noncomputable def Ss(Γ:Cx)(ss:List Stmt)(g:Sm): Prop:=∀(W:Wd) (ρ:Lc) (H:Hp) (fr:List (Addr×Obj)) (s:Shared) (Q:Flow→Shared→Prop) (E:Value→Shared→Prop) (r:Option V×Lc×Hp),
 Rep Γ W ρ H fr s.heap→g ρ H=some r→PostS Γ W fr s Q r→wpAny (model prog w) Γ.A (execs ss Γ.env) Q E s
noncomputable def Sto(Γ:Cx)(x:Str)(i:Nat): Prop:=∀(W:Wd) (ρ:Lc) (H:Hp) (fr:List (Addr×Obj)) (s:Shared) (Q:Unit→Shared→Prop) (E:Value→Shared→Prop) (v:V) (y:Value),
 Rep Γ W ρ H fr s.heap→VR W v y→(∀(h':Heap) (tk':Nat),Rep Γ W (upd ρ i v) H fr h'→Q () { s with heap:=h',toks:=tk' })→wpAny (model prog w) Γ.A (storeName Γ.env x y) Q E s
noncomputable def Rd(Γ:Cx)(x:Str)(i:Nat): Prop:=∀(W:Wd) (ρ:Lc) (H:Hp) (fr:List (Addr×Obj)) (s:Shared) (Q E:Value→Shared→Prop) (v:V) (pos:Pos),
 Rep Γ W ρ H fr s.heap→ρ i=some v→(∀y,VR W v y→Q y s)→wpAny (model prog w) Γ.A (eval (.Name x pos) Γ.env) Q E s
end
section
variable {prog:Program} {w:World} {Γ:Cx}
theorem ZeI{x:Str}{i:Nat}{pos:Pos}(h:Rd prog w Γ x i): J prog w Γ (.Name x pos) (Za i):=by
 intro W ρ H fr s Q E v H' r hf post
 obtain⟨u,e1,e2⟩:=Zz1.mp hf
 cases e2
 exact h W ρ H fr s Q E v pos r e1 fun y hy=>post W s.heap s.toks y (.refl W) r hy
theorem ZW: Ss prog w Γ [] ZQ:=fun W ρ H fr s Q E r rp hf post=>by
 cases hf
 exact wpAny_execs_nil (post W s.heap s.toks (.refl W) rp)
theorem ZA{st:Stmt}{ss:List Stmt}{a b:Sm}(h1:S1 prog w Γ st a)(h2:Ss prog w Γ ss b): Ss prog w Γ (st::ss) (Zw a b):=by
 intro W ρ H fr s Q E r rp hf post
 obtain⟨p,e1,hf⟩:=Zz0.mp hf
 refine wpAny_execs_cons (h1 W ρ H fr s _ E p rp e1 ?_)
 obtain⟨o,ρ1,H1⟩:=p
 cases o with
 | some v=>
  cases hf
  exact fun W1 k1 t1 x l1 r1 x1=>post W1 k1 t1 x l1 r1 x1
 | none=>exact fun W1 k1 t1 l1 r1=>h2 W1 ρ1 H1 fr _ Q E r r1 hf (post.le l1)
theorem Zt{st:Stmt}{a:Sm}(h1:S1 prog w Γ st a): Ss prog w Γ [st] a:=by
 intro W ρ H fr s Q E r rp hf post
 refine wpAny_execs_cons (h1 W ρ H fr s _ E r rp hf ?_)
 obtain⟨o,ρ1,H1⟩:=r
 cases o with
 | some v=>exact fun W1 k1 t1 x l1 r1 x1=>post W1 k1 t1 x l1 r1 x1
 | none=>exact fun W1 k1 t1 l1 r1=>wpAny_execs_nil (post W1 k1 t1 l1 r1)
theorem ZL{e:Expr}{pos:Pos}{f:Ex}(h:J prog w Γ e f): S1 prog w Γ (.Return (some e) pos) (ZD f):=by
 intro W ρ H fr s Q E r rp hf post
 obtain⟨p,e1,e2⟩:=Zz1.mp hf
 cases e2
 exact wpAny_Return_some (h W ρ H fr s _ E _ _ rp e1 post)
theorem ZX{t:Expr}{a b:List Stmt}{pos:Pos}{u:Ts}{f g:Sm}(ht:JT prog w Γ t u)(h1:Ss prog w Γ a f)(h2:Ss prog w Γ b g): S1 prog w Γ (.If t a b pos) (ZO u f g):=by
 intro W ρ H fr s Q E r rp hf post
 obtain⟨p,e1,hf⟩:=Zz0.mp hf
 refine wpAny_If (ht W ρ H fr s _ E _ _ rp e1 fun W1 k1 t1 l1 r1=>?_)
 obtain⟨c,H1⟩:=p
 cases c with
 | true=>exact h1 W1 ρ H1 fr _ Q E r r1 hf (post.le l1)
 | false=>exact h2 W1 ρ H1 fr _ Q E r r1 hf (post.le l1)
theorem ZcX{e:Expr}{pos:Pos}{f:Ex}(h:J prog w Γ e f)(hi:interactive Γ.env=false:=by rfl)(hs:swapsWith e none pos.line Γ.env=pure false:=by rfl): S1 prog w Γ (.Expr e pos) (ZaX f):=by
 intro W ρ H fr s Q E r rp hf post
 obtain⟨p,e1,e2⟩:=Zz1.mp hf
 cases e2
 exact wpAny_Expr_any (h W ρ H fr s _ E _ _ rp e1 fun W1 k1 t1 x l1 r1 x1=>post W1 k1 t1 l1 r1) hi hs
theorem Zan{x:Str}{i:Nat}{e:Expr}{pos' pos:Pos}{f:Ex}(hx:Sto prog w Γ x i)(h:J prog w Γ e f)(hs:swapsWith e (some (.Name x pos')) pos.line Γ.env=pure false:=by rfl): S1 prog w Γ (.Assign [.Name x pos'] e pos) (Z1 i f):=by
 intro W ρ H fr s Q E r rp hf post
 obtain⟨p,e1,e2⟩:=Zz1.mp hf
 cases e2
 refine wpAny_Assign_Name (h W ρ H fr s _ E _ _ rp e1 fun W1 k1 t1 y l1 r1 y1=>?_) hs
 exact hx W1 ρ _ fr _ _ E _ y r1 y1 fun h' tk' r2=>post W1 h' tk' l1 r2
end
noncomputable def Zdv: List V→Hp→Option (V×Hp)
 | [.ref a,v],H=>H[a]?.bind fun vs=>if a≠0∧vs.length<ZZ then some (.none,H.set a (vs++[v]))else none
 | _,_=>none
section
variable {prog:Program} {w:World} {Γ:Cx}
theorem Zi0: OpN prog w (fun xs=>call (.builtin "list.append") xs) Zdv:=by
 intro Γ W ρ H fr s Q E as xs v H' r hx ho post
 unfold Zdv at ho
 split at ho
 ·obtain⟨vs,e1,e2⟩:=Zz0.mp ho
  obtain⟨x,y,ex,rx,ry⟩:=hx.two
  subst ex
  split at e2
  ·rename_i hl
   cases e2
   cases rx with
   | @ref _ a0 ea=>
    obtain⟨_,ys,k,hg,hv⟩:=r.at e1 ea
    refine append_at (hsz:=ZbK (by rw[List.size_toArray,hv.length];omega)) hg fun h' sb hg'=>?_
    have hg2:h'.get? a0=some (ZaH (ys++[y]) (k+1)):=by rw[hg'];simp
    exact post W h' s.toks _ (.refl W) (r.change hl.1 e1 ea sb hg2 (hv.snoc ry) (by simp;omega)) .none
  ·cases e2
 ·cases ho
end
end PM
end
section
set_option autoImplicit false
namespace PM
open PySem PySem.W PyProof.Rows PyProof
theorem Zhq: ∀{l:List Value} {k:Nat} {v:Value},k<l.length→ki_setL l k v=some (l.set k v)
 | [],_,_,h=>by simp at h
 | x::r,0,v,_=>by simp[ki_setL]
 | x::r,k+1,v,h=>by
  have:=Zhq (l:=r) (k:=k) (v:=v) (by simpa using h)
  simp[ki_setL,this]
theorem Zi1{a k v:V}{H K:Hp}(h:ZgH a k v H=some K): ∃i j vs,a=.ref i∧k=.int j∧H[i]?=some vs∧(i≠0∧0≤j∧j<vs.length)∧K=H.set i (vs.set j.toNat v):=by
 cases a <;> first | (cases h;done) | skip
 cases k <;> first | (cases h;done) | skip
 obtain⟨vs,e1,e2⟩:=Zz0.mp h
 split at e2
 ·rename_i c
  cases e2
  exact⟨_,_,vs,rfl,rfl,e1,c,rfl⟩
 ·cases e2
theorem Zie{a v x:V}{H K:Hp}(h:Zdv [a,v] H=some (x,K)): ∃i,a=.ref i:=by
 cases a <;> first | (cases h;done) | skip
 exact⟨_,rfl⟩
noncomputable def ZcB(o f:Ex): Ex:=fun ρ H=>(o ρ H).bind fun p=>(f ρ p.2).bind fun q=>Zdv [p.1,q.1] q.2
section
variable {prog:Program} {w:World} {Γ:Cx}
theorem S1.put{o i value:Expr}{pos' pos:Pos}{f g k:Ex}(hf:J prog w Γ value f)(ho:J prog w Γ o g)(hi:J prog w Γ i k)(hs:swapsWith value (some (.Subscript o i pos')) pos.line Γ.env=pure false:=by rfl): S1 prog w Γ (.Assign [.Subscript o i pos'] value pos) (Zcp f g k):=by
 intro W ρ H fr s Q E r rp hx post
 obtain⟨p,e1,hx⟩:=Zz0.mp hx
 obtain⟨q,e2,hx⟩:=Zz0.mp hx
 obtain⟨u,e3,hx⟩:=Zz0.mp hx
 obtain⟨K,e4,e5⟩:=Zz1.mp hx
 cases e5
 refine wpAny_Assign_Subscript (hf W ρ H fr s _ E _ _ rp e1 fun W1 k1 t1 x l1 r1 x1=>?_) hs
 refine ho W1 ρ _ fr _ _ E _ _ r1 e2 fun W2 k2 t2 y l2 r2 y2=>?_
 refine hi W2 ρ _ fr _ _ E _ _ r2 e3 fun W3 k3 t3 z l3 r3 z3=>?_
 have x3:=x1.mono (l2.trans l3)
 have y3:=y2.mono l3
 obtain⟨b,kk,vs,eb,ek,hvs,hc,e6⟩:=Zi1 e4
 subst e6
 rw[eb]at y3
 rw[ek]at z3
 cases y3 with
 | @ref _ a ea=>
 cases z3 with
 | int _ tz=>
 obtain⟨hl,xs,n,hg,hv⟩:=r3.at hvs ea
 obtain⟨m,c,led,r'⟩:=r3
 have hll:=hl
 rw[ZaC]at hll
 have hk:kk.toNat<xs.length:=by rw[hv.length];omega
 obtain⟨_,a',xs',n',h1,h2,h3⟩:=r'.R.lists b vs hvs
 rw[ea]at h1
 cases h1
 have h2:=r'.inLed hc.1 ea h2
 have N2:News Γ.h₀ Γ.L k3 ((a,ZaH xs n)::led.filter (fun q=>decide (q.1≠a))):=by
  intro q hq
  rcases Zz7.mp hq with e | hq
  ·subst e
   exact⟨hg,(r'.N _ h2).2⟩
  ·exact r'.N q (List.mem_filter.mp hq).1
 refine ki_set (its:=xs.toArray) (n:=n) (q:=xs.set kk.toNat x) r'.F N2 hc.2.1 (by omega) (by simpa using Zhq hk) (Upd.head fun q hq=>by simpa using (List.mem_filter.mp hq).2) fun h' F' N'=>?_
 exact post W3 h' t3 ((l1.trans l2).trans l3) (r'.changed hc.1 hvs ea F' N' (hv.set _ x3) (by simpa using hl))
theorem J.append{o e:Expr}{apos pos:Pos}{f g:Ex}(ho:J prog w Γ o f)(he:J prog w Γ e g)(hbase:attributeBase o "append" Γ.env (eval o Γ.env)=eval o Γ.env:=by rfl)
  (hfew:((backTo pos (starEach [e] Γ.env)).all (fun x=>!x.1) && (backToKw pos (keywordEach [] Γ.env)).all (fun x=>x.1.isSome) && decide (([e]:List Expr).length+([]:List Keyword).length+(if([]:List Keyword).isEmpty then 0 else 1)<30))=true:=by rfl)
  (hline:(apos.endLine == pos.line)=true:=by rfl) (htrees:backTo pos (starEach [e] Γ.env)=[(false,eval e Γ.env)]:=by rfl):J prog w Γ (.Call (.Attribute o "append" apos) [e] [] pos) (ZcB f g):=by
 intro W ρ H fr s Q E v H' r hx post
 obtain⟨p,e1,hx⟩:=Zz0.mp hx
 obtain⟨q,e2,e3⟩:=Zz0.mp hx
 refine wpAny_Call_append hbase hfew hline htrees (ho W ρ H fr s _ E _ _ r e1 fun W1 k1 t1 x l1 r1 x1=>?_)
 obtain⟨v1,H1⟩:=p
 obtain⟨b,hb⟩:=Zie e3
 subst hb
 have hb:=r1.refIn x1
 cases x1 with
 | @ref _ a ea=>
 obtain⟨_,xs,n,hg,hv⟩:=r1.at (List.getElem?_eq_getElem hb) ea
 refine⟨a,xs.toArray,rfl,⟨_,n,hg,rfl,rfl,rfl⟩,?_⟩
 refine he W1 ρ _ fr _ _ E _ _ r1 e2 fun W2 k2 t2 y l2 r2 y2=>?_
 exact Zi0 Γ W2 ρ _ fr _ Q E _ [.ref a,y] v H' r2 (.cons (.ref (l2.at ea)) (.cons y2 .nil)) e3 fun W3 k3 t3 z l3 r3 z3=>post W3 k3 t3 z ((l1.trans l2).trans l3) r3 z3
end
end PM
end
section
set_option autoImplicit false
namespace PM
open PySem PySem.W PyProof.Rows PyProof
noncomputable abbrev Nx:=Nat→Hp→Option (Option V)
noncomputable def ZlK(Γ:Cx)(W:Wd)(ρ:Lc)(H:Hp)(fr:List (Addr×Obj))(s:Shared)(It:Nat→List (Addr×Obj)→Prop)(i:Nat)(Q:Option Value→Shared→Prop): Option V→Prop
 | none=>∀(h':Heap) (tk':Nat),Rep Γ W ρ H fr h'→Q none { s with heap:=h',toks:=tk' }
 | some v=>∀(fs':List (Addr×Obj)) (h':Heap) (tk':Nat) (x:Value),It (i+1) fs'→Rep Γ W ρ H (fs'++fr) h'→VR W v x→Q (some x) { s with heap:=h',toks:=tk' }
structure Itr(prog:Program)(w:World)(Γ:Cx)(W0:Wd)(it:Value)(as:List Addr)(It:Nat→List (Addr×Obj)→Prop)(nx:Nx): Prop where
 adr:∀i fs,It i fs→fs.map (·.1)=as
 next:∀(i:Nat) (W:Wd) (ρ:Lc) (H:Hp) (fr fs:List (Addr×Obj)) (s:Shared) (Q:Option Value→Shared→Prop) (E:Value→Shared→Prop) (o:Option V),W0.Le W→Rep Γ W ρ H (fs++fr) s.heap→(∀a∈as,∀t∈fr,a≠t.1)→It i fs→nx i H=some o →
  ZlK Γ W ρ H fr s It i Q o→wpAny (model prog w) Γ.A (pyNext it) Q E s
 self:∀(i:Nat) (W:Wd) (ρ:Lc) (H:Hp) (fr fs:List (Addr×Obj)) (s:Shared) (Q E:Value→Shared→Prop),W0.Le W→Rep Γ W ρ H (fs++fr) s.heap→It i fs→Q it s→wpAny (model prog w) Γ.A (pyIter it) Q E s
noncomputable abbrev Src:=Lc→Hp→Option (Nx×Nat×Hp)
noncomputable def JI(prog:Program)(w:World)(Γ:Cx)(e:Expr)(g:Src): Prop:=∀(W:Wd) (ρ:Lc) (H:Hp) (fr:List (Addr×Obj)) (s:Shared) (Q E:Value→Shared→Prop) (nx:Nx) (n:Nat) (H':Hp),
 Rep Γ W ρ H fr s.heap→g ρ H=some (nx,n,H') →
 (∀(W':Wd) (h':Heap) (tk':Nat) (it:Value) (as:List Addr) (It:Nat→List (Addr×Obj)→Prop) (fs:List (Addr×Obj)),W.Le W'→It 0 fs→Rep Γ W' ρ H' (fs++fr) h'→(∀a∈as,∀t∈fr,a≠t.1)→Itr prog w Γ W' it as It nx→Q it { s with heap:=h',toks:=tk' }) →
 wpAny (model prog w) Γ.A (eval e Γ.env) (fun xv s₁=>wpAny (model prog w) Γ.A (pyIter xv) Q E s₁) E s
noncomputable def Zgu(a:Nat): Nx:=fun i H=>H[a]?.map fun vs=>vs[i]?
noncomputable def ZhH(vs:List V): Nx:=fun i _=>some vs[i]?
noncomputable def ZcT(a c:Int)(n:Nat): Nx:=fun i _=>some (if i<n then some (.int (a+i*c))else none)
noncomputable def ZbC(f:Ex): Src:=fun ρ H=>(f ρ H).bind fun p=>match p.1 with
 | .ref a=>p.2[a]?.map fun vs=>(Zgu a,vs.length+1,p.2)
 | .tup vs=>some (ZhH vs,vs.length+1,p.2)
 | _=>none
noncomputable def rngN(a b c:Int): Nat:=(Builtin.Range.rangeSize a b c).toNat
noncomputable def Zba(a b c:Int)(H:Hp): Option (Nx×Nat×Hp):=if c≠0∧Builtin.Range.small a b c=true∧0≤Builtin.Range.rangeSize a b c∧rngN a b c≤ZZ∧Builtin.divisionGoesByPylong (b-a) c=false then some (ZcT a c (rngN a b c),rngN a b c+1,H)else none
noncomputable def ZaL(g:Exs): Src:=fun ρ H=>(g ρ H).bind fun p=>match p.1 with
 | [.int b]=>Zba 0 b 1 p.2
 | [.int a,.int b]=>Zba a b 1 p.2
 | [.int a,.int b,.int c]=>Zba a b c p.2
 | _=>none
section
variable {prog:Program} {w:World} {Γ:Cx}
theorem Zgv{W0:Wd}{I:Addr}{nx:Nx}(P:Nat→Obj→Prop)
  (next:∀(i:Nat) (W:Wd) (ρ:Lc) (H:Hp) (fr:List (Addr×Obj)) (ob:Obj) (s:Shared) (Q:Option Value→Shared→Prop) (E:Value→Shared→Prop) (o:Option V),W0.Le W→Rep Γ W ρ H ((I,ob)::fr) s.heap→P i ob→nx i H=some o →
   (match o with
    | none=>∀(h':Heap) (tk':Nat),(∀b o,b≠I→s.heap.get? b=some o→h'.get? b=some o)→Q none { s with heap:=h',toks:=tk' }
    | some v=>∀(ob':Obj) (h':Heap) (tk':Nat) (x:Value),P (i+1) ob'→h'.get? I=some ob'→(∀b o,b≠I→s.heap.get? b=some o→h'.get? b=some o)→VR W v x→Q (some x) { s with heap:=h',toks:=tk' })→wpAny (model prog w) Γ.A (pyNext (.ref I)) Q E s)
  (self:∀(i:Nat) (W:Wd) (ρ:Lc) (H:Hp) (fr:List (Addr×Obj)) (ob:Obj) (s:Shared) (Q E:Value→Shared→Prop),W0.Le W→Rep Γ W ρ H ((I,ob)::fr) s.heap→P i ob→Q (.ref I) s→wpAny (model prog w) Γ.A (pyIter (.ref I)) Q E s):
  Itr prog w Γ W0 (.ref I) [I] (fun i fs=>∃ob,fs=[(I,ob)]∧P i ob) nx:=by
 refine⟨?_,?_,?_⟩
 ·rintro i fs ⟨ob,e,_⟩
  rw[e]
  rfl
 ·rintro i W ρ H fr fs s Q E o le r ap ⟨ob,e,hp⟩ hn post
  subst e
  refine next i W ρ H fr ob s Q E o le r hp hn ?_
  have ap':∀q∈[(I,ob)],∀t∈fr,q.1≠t.1:=fun q hq t ht=>by rw[List.mem_singleton.mp hq];exact ap I Zz5 t ht
  cases o with
  | none=>
   intro h' tk' keep
   have:=Rep.swap (fs:=[(I,ob)]) (fs':=[]) r ap' (fun b o hb e=>keep b o (fun q=>hb (by simp[q])) e) (fun q hq=>nomatch hq)
   exact post h' tk' this
  | some v=>
   intro ob' h' tk' x hp' hg keep hx
   have:=Rep.swap (fs:=[(I,ob)]) (fs':=[(I,ob')]) r ap' (fun b o hb e=>keep b o (fun q=>hb (by simp[q])) e) (fun q hq=>by rw[List.mem_singleton.mp hq];exact⟨hg,by simp⟩)
   exact post [(I,ob')] h' tk' x ⟨ob',rfl,hp'⟩ this hx
 ·rintro i W ρ H fr fs s Q E le r ⟨ob,e,hp⟩ q
  subst e
  exact self i W ρ H fr ob s Q E le r hp q
theorem JI.seq{e:Expr}{f:Ex}(h:J prog w Γ e f): JI prog w Γ e (ZbC f):=by
 intro W ρ H fr s Q E nx n H' r hf post
 obtain⟨p,e1,hf⟩:=Zz0.mp hf
 refine h W ρ H fr s _ E _ _ r e1 fun W1 k1 t1 x l1 r1 x1=>?_
 obtain⟨v,H1⟩:=p
 cases x1 with
 | none=>cases hf
 | bool _=>cases hf
 | int _ _=>cases hf
 | str _ _=>cases hf
 | @tup vs a xs k hm hl hs=>
  cases hf
  have it:k1.IsTuple a xs.toArray:=⟨_,r1.tupAt hm,rfl,k,rfl⟩
  refine wpAny_pyIter_tuple it ?_
  obtain⟨r2,ap⟩:=r1.more (fs:=[(k1.objs.size,{ cls:=.type "tuple_iterator",data:=.fields #[.ref a,.int 0 0] })]) (fun b o e=>Heap.get?_push_of_some { cls:=.type "tuple_iterator",data:=.fields #[.ref a,.int 0 0] } e) (fun q hq=>by rw[List.mem_singleton.mp hq];exact⟨Heap.get?_push_size _ rfl,Nat.le_refl _⟩)
  refine post W1 _ t1 _ [k1.objs.size] _ _ l1 ⟨_,rfl,?_⟩ r2 (fun b hb t ht=>by rw[List.mem_singleton.mp hb];exact ap _ Zz5 t ht)
   (Zgv (fun i ob=>ob.cls=.type "tuple_iterator"∧ob.data=.fields #[.ref a,.int i 0]) ?_ ?_)
  ·intro i W ρ H fr ob s Q E o le r hp hn post
   have g1:s.heap.IsTupleIter k1.objs.size a i:=⟨ob,r.frAt Zz5,hp.1,hp.2⟩
   have g2:s.heap.IsTuple a xs.toArray:=⟨_,r.tupAt (le.tups _ hm),rfl,k,rfl⟩
   have ne:a≠k1.objs.size:=Nat.ne_of_lt (Heap.lt_size (r1.tupAt hm))
   have Wk:=Walks.tuple (prog:=prog) (w:=w) Γ.hh k1.objs.size a ne xs.toArray
   cases hn
   cases ev:vs[i]? with
   | none=>
    rw[ev]at post
    have hi:xs.toArray[i]?=none:=by have:=List.getElem?_eq_none_iff.mp ev;rw[←hs.length]at this;simpa using this
    exact wpAny_pyNext_tuple_end Γ.hh g1 g2 hi fun h' he'=>post h' s.toks fun b o hb e=>he' b o hb e
   | some v=>
    rw[ev]at post
    obtain⟨y,hy,ry⟩:=hs.at ev
    refine wpAny_pyNext_tuple_item g1 g2 (x:=y) (by simpa using hy) fun h' hit' hs'=>?_
    obtain⟨ob',h1,h2,h3⟩:=hit'
    exact post ob' h' s.toks y ⟨h2,h3⟩ h1 (fun b o hb e=>hs'.extBut b o hb e) (ry.mono le)
  ·intro i W ρ H fr ob s Q E le r hp q
   exact wpAny_pyIter_tupleiter (⟨ob,r.frAt Zz5,hp.1,hp.2⟩:s.heap.IsTupleIter k1.objs.size a i) q
  ·exact⟨rfl,rfl⟩
 | @ref i0 a ea=>
  obtain⟨vs,e2,e3⟩:=Zz1.mp hf
  cases e3
  obtain⟨hl,xs,k,hg,hv⟩:=r1.at e2 ea
  have isl:k1.IsList a xs.toArray:=⟨_,hg,rfl,k,rfl⟩
  refine wpAny_pyIter_list isl ?_
  obtain⟨r2,ap⟩:=r1.more (fs:=[(k1.objs.size,{ cls:=.type "list_iterator",data:=.fields #[.ref a,.int 0 0] })]) (fun b o e=>Heap.get?_push_of_some { cls:=.type "list_iterator",data:=.fields #[.ref a,.int 0 0] } e) (fun q hq=>by rw[List.mem_singleton.mp hq];exact⟨Heap.get?_push_size _ rfl,Nat.le_refl _⟩)
  refine post W1 _ t1 _ [k1.objs.size] _ _ l1 ⟨_,rfl,?_⟩ r2 (fun b hb t ht=>by rw[List.mem_singleton.mp hb];exact ap _ Zz5 t ht)
   (Zgv (fun i ob=>ob.cls=.type "list_iterator"∧ob.data=.fields #[.ref a,.int i 0]) ?_ ?_)
  ·intro i W ρ H fr ob s Q E o le r hp hn post
   obtain⟨us,eu,e4⟩:=Zz1.mp hn
   subst e4
   obtain⟨hl2,ys,k2,hg2,hv2⟩:=r.at eu (le.at ea)
   have g1:s.heap.IsListIter k1.objs.size a i:=⟨ob,r.frAt Zz5,hp.1,hp.2⟩
   have g2:s.heap.IsList a ys.toArray:=⟨_,hg2,rfl,k2,rfl⟩
   cases ev:us[i]? with
   | none=>
    rw[ev]at post
    have hi:ys.toArray[i]?=none:=by have:=List.getElem?_eq_none_iff.mp ev;rw[←hv2.length]at this;simpa using this
    exact wpAny_pyNext_list_end Γ.hh g1 g2 hi fun h' he'=>post h' s.toks fun b o hb e=>he' b o hb e
   | some v=>
    rw[ev]at post
    obtain⟨y,hy,ry⟩:=hv2.at ev
    refine wpAny_pyNext_list_item g1 g2 (x:=y) (by simpa using hy) fun h' hit' hs'=>?_
    obtain⟨ob',h1,h2,h3⟩:=hit'
    exact post ob' h' s.toks y ⟨h2,h3⟩ h1 (fun b o hb e=>hs'.extBut b o hb e) ry
  ·intro i W ρ H fr ob s Q E le r hp q
   exact wpAny_pyIter_listiter (⟨ob,r.frAt Zz5,hp.1,hp.2⟩:s.heap.IsListIter k1.objs.size a i) q
  ·exact⟨rfl,rfl⟩
theorem Zif{a b c:Int}{H:Hp}{z:Nx×Nat×Hp}(h:Zba a b c H=some z): c≠0∧Builtin.divisionGoesByPylong (b-a) c=false:=by
 unfold Zba at h
 split at h
 ·rename_i hc
  exact⟨hc.1,hc.2.2.2.2⟩
 ·cases h
theorem Zjk{W0:Wd}{I:Addr}{a c:Int}{n:Nat}: Itr prog w Γ W0 (.ref I) [I] (fun i fs=>∃ob,fs=[(I,ob)]∧(i≤n∧ob = { cls:=.type "range_iterator",dict:=none,data:=.fields #[rawInt (a+(i:Nat)*c),rawInt ((n:Int)-(i:Nat)),rawInt c],slots:=#[] })) (ZcT a c n):=by
 have Wk:=Walks.range (prog:=prog) (w:=w) Γ.hh I a c n
 refine Zgv (fun i ob=>i≤n∧ob = { cls:=.type "range_iterator",dict:=none,data:=.fields #[rawInt (a+(i:Nat)*c),rawInt ((n:Int)-(i:Nat)),rawInt c],slots:=#[] }) ?_ ?_
 ·intro i W ρ H fr ob s Q E o le r hp hn post
  have g:IsRangeIter s.heap I (a+(i:Nat)*c) ((n:Int)-(i:Nat)) c:=(r.frAt Zz5).trans (congrArg some hp.2)
  cases hn
  by_cases hi:i<n
  ·rw[if_pos hi]at post
   refine Wk.item i s Q E hi g fun v h' tk hv st keep=>?_
   obtain⟨t,e⟩:=hv
   subst e
   exact post _ h' tk _ ⟨hi,rfl⟩ st (fun b o hb e=>keep b o (by simpa using hb) e) (.int _ _)
  ·rw[if_neg hi]at post
   have e:i=n:=by have:=hp.1;omega
   subst e
   exact Wk.done s Q E g fun h' tk keep=>post h' tk fun b o hb e=>keep b o (by simpa using hb) e
 ·intro i W ρ H fr ob s Q E le r hp q
  have g:IsRangeIter s.heap I (a+(i:Nat)*c) ((n:Int)-(i:Nat)) c:=(r.frAt Zz5).trans (congrArg some hp.2)
  exact Wk.self i s Q E g q
theorem ZfB{a b c:Int}{t u v:Tok}{W:Wd}{ρ:Lc}{H:Hp}{fr:List (Addr×Obj)}{s:Shared}{k:Heap}{tk:Nat}{Q E:Value→Shared→Prop}{nx:Nx}{n:Nat}{H':Hp}(r:Rep Γ W ρ H fr k)(hm:Zba a b c H=some (nx,n,H'))
  (post:∀(W':Wd) (h':Heap) (tk':Nat) (it:Value) (as:List Addr) (It:Nat→List (Addr×Obj)→Prop) (fs:List (Addr×Obj)),W.Le W'→It 0 fs→Rep Γ W' ρ H' (fs++fr) h'→(∀a∈as,∀t∈fr,a≠t.1)→Itr prog w Γ W' it as It nx→Q it { s with heap:=h',toks:=tk' }):
  wpAny (model prog w) Γ.A (pyIter (.ref k.objs.size)) Q E { s with heap:=k.push { cls:=.type "range",data:=.fields #[.int a t,.int b u,.int c v] },toks:=tk }:=by
 unfold Zba at hm
 split at hm
 ·rename_i hc
  cases hm
  have hr:IsRange (k.push { cls:=.type "range",data:=.fields #[.int a t,.int b u,.int c v] }) k.objs.size a b c t u v:=IsRange.new ..
  refine wpAny_pyIter_range hr hc.2.1 ?_
  have rp:=r.push { cls:=.type "range",data:=.fields #[.int a t,.int b u,.int c v] }
  have en:Builtin.Range.rangeSize a b c=((rngN a b c:Nat):Int):=(Int.toNat_of_nonneg hc.2.2.1).symm
  dsimp only
  generalize hk:k.push { cls:=.type "range",data:=.fields #[.int a t,.int b u,.int c v] } = k2 at rp ⊢
  obtain⟨r2,ap⟩:=rp.more (fs:=[(k2.objs.size,{ cls:=.type "range_iterator",data:=.fields #[rawInt a,rawInt (Builtin.Range.rangeSize a b c),rawInt c] })]) (fun b' o e=>Heap.get?_push_of_some { cls:=.type "range_iterator",data:=.fields #[rawInt a,rawInt (Builtin.Range.rangeSize a b c),rawInt c] } e) (fun q hq=>by rw[List.mem_singleton.mp hq];exact⟨Heap.get?_push_size _ rfl,Nat.le_refl _⟩)
  refine post W _ tk _ [k2.objs.size] _ _ (.refl W) ⟨_,rfl,Nat.zero_le _,?_⟩ r2 (fun b hb t ht=>by rw[List.mem_singleton.mp hb];exact ap _ Zz5 t ht) (Zjk (a:=a) (c:=c) (n:=rngN a b c))
  rw[en]
  simp
 ·cases hm
theorem JI.range{x:Str}{np pos:Pos}{e:Expr}{es:List Expr}{g:Exs}(hn:Nm prog w Γ x (.type "range"))(h:Js prog w Γ (e::es) g)
  (he:starEach (e::es) Γ.env=(false,eval e Γ.env)::starEach es Γ.env:=by rfl) (hp:∀pos,(backTo pos (starEach es Γ.env)).any (·.1)=false:=by intro _;rfl):JI prog w Γ (.Call (.Name x np) (e::es) [] pos) (ZaL g):=by
 intro W ρ H fr s Q E nx n H' r hf post
 obtain⟨p,e1,hf⟩:=Zz0.mp hf
 refine wpAny_Call_ofName (hn.use r ?_)
 refine PySem.Pv.callWith_type1 (h pos W ρ H fr s _ E _ _ r e1 fun W1 k1 t1 xs l1 r1 x1=>?_) he (hp pos)
 obtain⟨vs,H1⟩:=p
 dsimp only at hf x1 r1
 have post1:=fun W' h' tk' it as It fs (l:W1.Le W')=>post W' h' tk' it as It fs (l1.trans l)
 split at hf
 ·obtain⟨y,ex,ry⟩:=x1.one
  subst ex
  cases ry
  exact call_range_1 (ZfB r1 hf post1)
 ·obtain⟨y,z,ex,ry,rz⟩:=x1.two
  subst ex
  cases ry
  cases rz
  exact call_range_2 (ZfB r1 hf post1)
 ·cases x1 with
  | cons ry x1=>
  obtain⟨y,z,ex,rz,ru⟩:=x1.two
  subst ex
  cases ry
  cases rz
  cases ru
  have hc:=Zif hf
  exact call_range_3 hc.1 (ZfB r1 hf post1) (.inl hc.2)
 ·cases hf
end
noncomputable def Zck(nx:Nx)(put:V→Lc→Option Lc)(b:Sm): Nat→Nat→Sm
 | 0,_=>fun _ _=>none
 | n+1,i=>fun ρ H=>(nx i H).bind fun o=>match o with
  | none=>some (none,ρ,H)
  | some v=>(put v ρ).bind fun ρ1=>(b ρ1 H).bind fun q=>match q.1 with
   | some _=>some q
   | none=>Zck nx put b n (i+1) q.2.1 q.2.2
noncomputable def ZaY(g:Src)(put:V→Lc→Option Lc)(b:Sm): Sm:=fun ρ H=>(g ρ H).bind fun z=>Zck z.1 put b z.2.1 0 ρ z.2.2
noncomputable def Zag(i:Nat): V→Lc→Option Lc:=fun v ρ=>some (upd ρ i v)
section
variable {prog:Program} {w:World} {Γ:Cx}
theorem Zbm{x:Str}{i:Nat}{px pos:Pos}{it:Expr}{body:List Stmt}{g:Src}{b:Sm}(hx:Sto prog w Γ x i)(hg:JI prog w Γ it g)(hb:Ss prog w Γ body b)(hs:∀x,foldedSetIterable it Γ.env x=pure x:=by intro _;rfl): S1 prog w Γ (.For (.Name x px) it body [] pos) (ZaY g (Zag i) b):=by
 intro W ρ H fr s Q E r rp hf post
 obtain⟨z,e1,hf⟩:=Zz0.mp hf
 obtain⟨nx,n,H0⟩:=z
 refine wpAny_For (hg W ρ H fr s _ E nx n H0 rp e1 fun W1 k1 t1 itv as It fs l1 i1 r1 ap I1=>?_) hs
 refine codeAny_forLoop (fun k s'=>∃W' ρ' H' h' tk' j fs',s' = { s with heap:=h',toks:=tk' }∧W1.Le W'∧It j fs'∧Rep Γ W' ρ' H' (fs'++fr) h'∧Zck nx (Zag i) b k j ρ' H'=some r) ?_ n ⟨W1,ρ,H0,k1,t1,0,fs,rfl,.refl _,i1,r1,hf⟩
 rintro k s' ⟨W2,ρ2,H2,k2,t2,j,fs2,rfl,l2,i2,r2,e⟩
 cases k with
 | zero=>cases e
 | succ k=>
  obtain⟨o,e2,e⟩:=Zz0.mp e
  refine I1.next j W2 ρ2 H2 fr fs2 _ _ _ o l2 r2 ap i2 e2 ?_
  cases o with
  | none=>
   cases e
   intro h' tk' r3
   exact wpAny_execs_nil (post W2 h' tk' (l1.trans l2) r3)
  | some v=>
   intro fs3 k3 t3 y i3 r3 y3
   obtain⟨ρ3,e3,e⟩:=Zz0.mp e
   cases e3
   obtain⟨q,e4,e⟩:=Zz0.mp e
   refine wpAny_assign_Name (hx W2 ρ2 H2 (fs3++fr) _ _ _ v y r3 y3 fun k4 t4 r4=>?_)
   refine hb W2 _ H2 (fs3++fr) _ _ _ q r4 e4 ?_
   obtain⟨u,ρ5,H5⟩:=q
   cases u with
   | some u=>
    cases e
    exact fun W5 k5 t5 x5 l5 r5 v5=>post W5 k5 t5 x5 ((l1.trans l2).trans l5) (r5.less fun q hq=>List.mem_append_right _ hq) v5
   | none=>exact fun W5 k5 t5 l5 r5=>⟨k,Nat.lt_succ_self k,W5,ρ5,H5,k5,t5,j+1,fs3,rfl,l2.trans l5,i3,r5,e⟩
end
end PM
end
section
set_option autoImplicit false
namespace PM
open PySem PySem.W PySem.Calls PyProof.Rows PyProof
structure OwnF(names:List Str)(cs:Scope)(cl:List (Str×Addr))(W:Wd)(ρ:Lc)(m:Str→Option Value)(cells:List (Addr×Obj)): Prop where
 loc:∀(i:Nat) (x:Str) (v:V),names[i]?=some x→cs.names.lookup x=some .local→ρ i=some v→∃y,m x=some y∧VR W v y
 cel:∀(i:Nat) (x:Str) (v:V),names[i]?=some x→cs.names.lookup x=some .cell→ρ i=some v→∃c o y,cl.lookup x=some c∧(c,o)∈cells∧o.data=.cell (some y)∧VR W v y
 all:∀(x:Str) (c:Addr),cl.lookup x=some c→∃o v₀,(c,o)∈cells∧o.data=.cell v₀
 one:∀(x y:Str) (c:Addr),cl.lookup x=some c→cl.lookup y=some c→x=y
theorem OwnF.mono{names:List Str}{cs:Scope}{cl:List (Str×Addr)}{W W':Wd}{ρ:Lc}{m:Str→Option Value}{cells:List (Addr×Obj)}(l:W.Le W')(h:OwnF names cs cl W ρ m cells): OwnF names cs cl W' ρ m cells:=
 ⟨fun i x v a b c=>by
  obtain⟨y,h1,h2⟩:=h.loc i x v a b c
  exact⟨y,h1,h2.mono l⟩,fun i x v a b c=>by
  obtain⟨d,o,y,h1,h2,h3,h4⟩:=h.cel i x v a b c
  exact⟨d,o,y,h1,h2,h3,h4.mono l⟩,h.all,h.one⟩
noncomputable def Zay(dp un:Nat)(gd:Option (List Code))(cn:Str)(cs:Scope)(L a:Addr)(ccd:Value)(cl:List (Str×Addr))(outer:List Env)(h₀:Heap)(hu:un+200<cLine)(names:List Str): Cx where
 A:=ktrTop dp un gd cn cs L a ccd cl outer
 env:=envX cn cs L a ccd cl
 h₀:=h₀
 L:=L
 hh:=rfl
 hu:=hu
 Own:=OwnF names cs cl
 mono:=OwnF.mono
section
variable {prog:Program} {w:World} {dp un:Nat} {gd:Option (List Code)} {cn:Str} {cs:Scope} {L a:Addr} {ccd:Value} {cl:List (Str×Addr)} {outer:List Env} {h₀:Heap} {hu:un+200<cLine} {names:List Str}
theorem ZkO{x:Str}{i:Nat}(hi:names[i]?=some x)(hx:cs.names.lookup x=some .local)(hk:cs.kind=.function)(hd:(x == ("__debug__":Str))=false): Rd prog w (Zay dp un gd cn cs L a ccd cl outer h₀ hu names) x i:=by
 intro W ρ H fr s Q E v pos r e q
 obtain⟨m,c,led,r⟩:=r
 obtain⟨y,h1,h2⟩:=r.own.loc i x v hi hx e
 exact nameX_L r.F h1 (q y h2) hk hx hd
theorem ZkP{x:Str}{i:Nat}(hi:names[i]?=some x)(hx:cs.names.lookup x=some .cell)(hk:cs.kind=.function)(hd:(x == ("__debug__":Str))=false): Rd prog w (Zay dp un gd cn cs L a ccd cl outer h₀ hu names) x i:=by
 intro W ρ H fr s Q E v pos r e q
 obtain⟨m,c,led,r⟩:=r
 obtain⟨d,o,y,h1,h2,h3,h4⟩:=r.own.cel i x v hi hx e
 exact nameX_C r.N h1 (r.clIn _ h2) h3 (q y h4) hk hx hd
theorem ZjR{x:Str}{i:Nat}(nd:names.Nodup)(hi:names[i]?=some x)(hx:cs.names.lookup x=some .local)(hk:cs.kind=.function): Sto prog w (Zay dp un gd cn cs L a ccd cl outer h₀ hu names) x i:=by
 intro W ρ H fr s Q E v y r vy q
 obtain⟨m,c,led,r⟩:=r
 have hi':i<names.length:=(Zz6.mp hi).1
 refine storeX_L r.F r.N (fun h' F' N'=>q h' _ ⟨_,c,led,⟨F',N',r.R,r.sc,r.sc0,r.frIn,r.frOff,r.clIn,r.clOff,r.apart,r.frTup,r.clTup,⟨fun j z u hj hz hu=>?_,fun j z u hj hz hu=>?_,r.own.all,r.own.one⟩⟩⟩) hk hx
 ·by_cases e:j=i
  ·subst e
   rw[hi]at hj
   cases hj
   simp only[upd,if_true]at hu
   cases hu
   exact⟨y,by simp,vy⟩
  ·have hzx:z≠x:=fun e'=>by
    subst e'
    exact e ((List.getElem?_inj (Zz6.mp hj).1 nd).mp (hj.trans hi.symm))
   simp only[upd,if_neg e]at hu
   obtain⟨y',h1,h2⟩:=r.own.loc j z u hj hz hu
   exact⟨y',by simp[hzx,h1],h2⟩
 ·by_cases e:j=i
  ·subst e
   rw[hi]at hj
   cases hj
   rw[hx]at hz
   cases hz
  ·simp only[upd,if_neg e]at hu
   exact r.own.cel j z u hj hz hu
theorem ZjS{x:Str}{i:Nat}(nd:names.Nodup)(hi:names[i]?=some x)(hx:cs.names.lookup x=some .cell)(hk:cs.kind=.function)(hcl:(cl.lookup x).isSome=true): Sto prog w (Zay dp un gd cn cs L a ccd cl outer h₀ hu names) x i:=by
 intro W ρ H fr s Q E v y r vy q
 obtain⟨m,c,led,r⟩:=r
 obtain⟨d,hd⟩:=Option.isSome_iff_exists.mp hcl
 obtain⟨o,v₀,ho,hv₀⟩:=r.own.all x d hd
 have inl:=r.clIn _ ho
 have N2:News h₀ L s.heap ((d,o)::led.filter (fun q=>decide (q.1≠d))):=by
  intro q hq
  rcases Zz7.mp hq with e | hq
  ·subst e
   exact r.N _ inl
  ·exact r.N q (List.mem_filter.mp hq).1
 refine storeX_C r.F N2 hd (UpdF.head fun q hq=>by simpa using (List.mem_filter.mp hq).2) hv₀ (fun h' o' F' N' ho'=>?_) hk hx
 have keep:∀q∈led,q.1≠d→q∈(d,o')::led.filter (fun q=>decide (q.1≠d)):=fun q hq hn=>List.mem_cons_of_mem _ (List.mem_filter.mpr ⟨hq,by simpa using hn⟩)
 refine q h' s.toks ⟨m,(d,o')::c.filter (fun q=>decide (q.1≠d)),_,⟨F',N',⟨r.R.len,r.R.nd,fun j vs e=>?_,fun q hq=>Zco (r.R.tups q hq) fun z=>keep q z (r.clTup _ ho q hq).symm,r.R.kind⟩,r.sc,r.sc0,fun q hq=>keep q (r.frIn q hq) (r.apart _ ho q hq).symm,r.frOff,fun q hq=>?_,fun q hq=>?_,fun q hq t ht=>?_,r.frTup,fun q hq t ht=>?_,⟨fun j z u hj hz hu=>?_,fun j z u hj hz hu=>?_,fun z e hz=>?_,r.own.one⟩⟩⟩
 ·obtain⟨l,b,xs,k,h1,h2,h3⟩:=r.R.lists j vs e
  exact⟨l,b,xs,k,h1,Zco h2 fun z=>keep _ z fun e=>r.clOff _ ho (e▸List.mem_of_getElem? h1),h3⟩
 ·rcases Zz7.mp hq with e | hq
  ·exact e▸List.mem_cons_self
  ·obtain⟨h1,h2⟩:=List.mem_filter.mp hq
   exact keep q (r.clIn q h1) (by simpa using h2)
 ·rcases Zz7.mp hq with e | hq
  ·rw[e]
   exact(r.clOff _ ho:d∉W.pi)
  ·exact r.clOff q (List.mem_filter.mp hq).1
 ·rcases Zz7.mp hq with e | hq
  ·rw[e]
   exact(r.apart _ ho t ht:d≠t.1)
  ·exact r.apart q (List.mem_filter.mp hq).1 t ht
 ·rcases Zz7.mp hq with e | hq
  ·rw[e]
   exact(r.clTup _ ho t ht:d≠t.1)
  ·exact r.clTup q (List.mem_filter.mp hq).1 t ht
 ·by_cases e:j=i
  ·subst e
   rw[hi]at hj
   cases hj
   rw[hx]at hz
   cases hz
  ·simp only[upd,if_neg e]at hu
   exact r.own.loc j z u hj hz hu
 ·by_cases e:j=i
  ·subst e
   rw[hi]at hj
   cases hj
   simp only[upd,if_true]at hu
   cases hu
   exact⟨d,o',y,hd,List.mem_cons_self,ho',vy⟩
  ·have hzx:z≠x:=fun e'=>by
    subst e'
    exact e ((List.getElem?_inj (Zz6.mp hj).1 nd).mp (hj.trans hi.symm))
   simp only[upd,if_neg e]at hu
   obtain⟨b,ob,y',h1,h2,h3,h4⟩:=r.own.cel j z u hj hz hu
   have:b≠d:=fun e'=>by
    subst e'
    exact hzx (r.own.one z x b h1 hd)
   exact⟨b,ob,y',h1,List.mem_cons_of_mem _ (List.mem_filter.mpr ⟨h2,by simpa using this⟩),h3,h4⟩
 ·by_cases e':e=d
  ·subst e'
   exact⟨o',_,List.mem_cons_self,ho'⟩
  ·obtain⟨ob,v1,h1,h2⟩:=r.own.all z e hz
   exact⟨ob,v1,List.mem_cons_of_mem _ (List.mem_filter.mpr ⟨h1,by simpa using e'⟩),h2⟩
end
end PM
end
section
set_option autoImplicit false
namespace PM
open PySem PySem.W PySem.Calls PyProof.Rows PyProof PyProof.Rows.LCg
theorem Zeo{Γ:Cx}{W:Wd}{ρ:Lc}{H:Hp}{fr:List (Addr×Obj)}{h:Heap}{D:Addr}{ys:List Value}{k:Nat}{vs:List V}(r:Rep Γ W ρ H ((D,ZaH ys k)::fr) h)(ap:∀t∈fr,D≠t.1)(hv:VRs W vs ys)(hl:vs.length≤ZZ):
  ∃W',W.Le W'∧Rep Γ W' ρ (H++[vs]) fr h∧VR W' (.ref H.length) (.ref D):=by
 obtain⟨m,c,led,r⟩:=r
 have le:W.Le ⟨W.pi++[D],W.tups,W.sc⟩:=⟨List.prefix_append _ _,fun q hq=>hq,rfl⟩
 have h0:0<W.pi.length:=(Zz6.mp r.sc0).1
 have at_n:(W.pi++[D])[H.length]?=some D:=by rw[←r.R.len];simp
 have off:=r.frOff _ Zz5
 refine⟨⟨W.pi++[D],W.tups,W.sc⟩,le,⟨m,c,led,⟨r.F,r.N,⟨by simp[r.R.len],?_,fun i us e=>?_,r.R.tups,r.R.kind⟩,r.sc,(List.getElem?_append_left h0).trans r.sc0,fun q hq=>r.frIn q (Zz2 _ hq),fun q hq=>?_,r.clIn,fun q hq=>?_,fun q hq t ht=>r.apart q hq t (Zz2 _ ht),fun q hq=>r.frTup q (Zz2 _ hq),r.clTup,Γ.mono le r.own⟩⟩,.ref at_n⟩
 ·show(W.pi++[D]).Nodup
  rw[List.nodup_append]
  refine⟨r.R.nd,by simp,fun a ha b hb=>?_⟩
  rw[List.mem_singleton.mp hb]
  exact fun e=>off (e▸ha)
 ·by_cases hi:i<H.length
  ·rw[List.getElem?_append_left hi]at e
   obtain⟨l,a,zs,j,h1,h2,h3⟩:=r.R.lists i us e
   exact⟨l,a,zs,j,le.at h1,h2,h3.mono le⟩
  ·have:i=H.length:=by
    have:=(Zz6.mp e).1
    simp at this
    omega
   subst this
   simp at e
   subst e
   exact⟨hl,D,ys,k,at_n,List.mem_cons_of_mem _ (r.frIn _ Zz5),hv.mono le⟩
 ·intro hm
  rcases Zz8.mp hm with hm | hm
  ·exact r.frOff q (Zz2 _ hq) hm
  ·exact ap q hq (Zz9.mp hm).symm
 ·intro hm
  rcases Zz8.mp hm with hm | hm
  ·exact r.clOff q hq hm
  ·exact r.apart q hq _ Zz5 (Zz9.mp hm)
noncomputable def Zl6(Γ:Cx)(C:Addr)(ts:List (Str×Nat))(ρ0:Lc)(W:Wd)(ρ:Lc)(m:Str→Option Value)(cells:List (Addr×Obj)): Prop:=
 ∃oC m₂ cs,cells=(C,oC)::cs∧(∀q∈cs,q.1≠C)∧NsObj oC m₂∧(∀p∈ts,∃v y,ρ p.2=some v∧m₂ p.1=some y∧VR W v y)∧(∀j,(∀p∈ts,p.2≠j)→ρ j=ρ0 j)∧Γ.Own W ρ0 m cs
noncomputable def Zam(Γ:Cx)(scope:Scope)(cl:List (Str×Addr))(C:Addr)(ts:List (Str×Nat))(ρ0:Lc): Cx where
 A:=Γ.A
 env:=compEnvC scope cl C Γ.env
 h₀:=Γ.h₀
 L:=Γ.L
 hh:=Γ.hh
 hu:=Γ.hu
 Own:=Zl6 Γ C ts ρ0
 mono:=fun l h=>by
  obtain⟨oC,m₂,cs,e,h0,h1,h2,h3,h4⟩:=h
  exact⟨oC,m₂,cs,e,h0,h1,fun p hp=>by
   obtain⟨v,y,a,b,c⟩:=h2 p hp
   exact⟨v,y,a,b,c.mono l⟩,h3,Γ.mono l h4⟩
section
variable {Γ:Cx} {scope:Scope} {cl:List (Str×Addr)} {C:Addr} {ts:List (Str×Nat)} {ρ0:Lc} {W:Wd} {ρ:Lc} {H:Hp} {fr:List (Addr×Obj)} {h:Heap}
theorem Zhr{oC:Obj}{m₂:Str→Option Value}(r:Rep Γ W ρ0 H ((C,oC)::fr) h)(ap:∀t∈fr,C≠t.1)(hC:NsObj oC m₂)(ht:∀p∈ts,∃v y,ρ p.2=some v∧m₂ p.1=some y∧VR W v y)(hj:∀j,(∀p∈ts,p.2≠j)→ρ j=ρ0 j): Rep (Zam Γ scope cl C ts ρ0) W ρ H fr h:=by
 obtain⟨m,c,led,r⟩:=r
 refine⟨m,(C,oC)::c,led,⟨r.F,r.N,r.R,r.sc,r.sc0,fun q hq=>r.frIn q (Zz2 _ hq),fun q hq=>r.frOff q (Zz2 _ hq),fun q hq=>?_,fun q hq=>?_,fun q hq t ht=>?_,fun q hq=>r.frTup q (Zz2 _ hq),fun q hq t ht=>?_,⟨oC,m₂,c,rfl,fun q hq=>r.apart q hq _ Zz5,hC,ht,hj,r.own⟩⟩⟩
 ·rcases Zz7.mp hq with e | hq
  ·exact e▸r.frIn _ Zz5
  ·exact r.clIn q hq
 ·rcases Zz7.mp hq with e | hq
  ·exact e▸r.frOff _ Zz5
  ·exact r.clOff q hq
 ·rcases Zz7.mp hq with e | hq
  ·exact e▸ap t ht
  ·exact r.apart q hq t (Zz2 _ ht)
 ·rcases Zz7.mp hq with e | hq
  ·exact e▸r.frTup _ Zz5 t ht
  ·exact r.clTup q hq t ht
theorem Rep.fromC(r:Rep (Zam Γ scope cl C ts ρ0) W ρ H fr h): ∃oC m₂,NsObj oC m₂∧Rep Γ W ρ0 H ((C,oC)::fr) h:=by
 obtain⟨m,c,led,r⟩:=r
 obtain⟨oC,m₂,cs,e,h0,h1,h2,h3,h4⟩:=r.own
 subst e
 refine⟨oC,m₂,h1,m,cs,led,⟨r.F,r.N,r.R,r.sc,r.sc0,fun q hq=>?_,fun q hq=>?_,fun q hq=>r.clIn q (Zz2 _ hq),fun q hq=>r.clOff q (Zz2 _ hq),fun q hq t ht=>?_,fun q hq t ht=>?_,fun q hq=>r.clTup q (Zz2 _ hq),h4⟩⟩
 ·rcases Zz7.mp hq with e | hq
  ·exact e▸r.clIn _ Zz5
  ·exact r.frIn q hq
 ·rcases Zz7.mp hq with e | hq
  ·exact e▸r.clOff _ Zz5
  ·exact r.frOff q hq
 ·rcases Zz7.mp ht with e | ht
  ·rw[e]
   exact h0 q hq
  ·exact r.apart q (Zz2 _ hq) t ht
 ·rcases Zz7.mp hq with e | hq
  ·exact e▸r.clTup _ Zz5 t ht
  ·exact r.frTup q hq t ht
end
noncomputable def JF(prog:Program)(w:World)(Γ:Cx)(ifs:List Expr)(f:Ts): Prop:=∀(W:Wd) (ρ:Lc) (H:Hp) (fr:List (Addr×Obj)) (s:Shared) (Q:Bool→Shared→Prop) (E:Value→Shared→Prop) (b:Bool) (H':Hp),
 Rep Γ W ρ H fr s.heap→f ρ H=some (b,H')→ZeG Γ W ρ H' fr s Q b →
 wpAny (model prog w) Γ.A (forIn ifs true fun c r=>if r=true then do let ok ←isTrue c Γ.env (eval c Γ.env);pure (ForInStep.yield ok)else pure (ForInStep.yield r)) Q E s
section
variable {prog:Program} {w:World} {Γ:Cx}
theorem JF.nil: JF prog w Γ [] Zaq:=fun W ρ H fr s Q E b H' r hf post=>by
 cases hf
 exact wpAny_pure (post W s.heap s.toks (.refl W) r)
theorem JF.one{e:Expr}{t:Ts}(h:JT prog w Γ e t): JF prog w Γ [e] t:=fun W ρ H fr s Q E b H' r hf post=>by
 rw[List.forIn_cons]
 simp only[if_true,List.forIn_nil]
 refine wpAny_bind (wpAny_bind (h W ρ H fr s _ E b H' r hf fun W1 k1 t1 l1 r1=>wpAny_pure ?_))
 exact wpAny_pure (post W1 k1 t1 l1 r1)
end
end PM
end
section
set_option autoImplicit false
namespace PM
open PySem PySem.W PySem.Calls PyProof.Rows PyProof PyProof.Rows.LCg
noncomputable def Zbo(nx:Nx)(put:V→Lc→Option Lc)(c:Ts)(f:Ex)(ρ:Lc): Nat→Nat→List V→Hp→Option (List V×Hp)
 | 0,_,_,_=>none
 | n+1,i,acc,H=>(nx i H).bind fun o=>match o with
  | none=>some (acc,H)
  | some v=>(put v ρ).bind fun ρ1=>(c ρ1 H).bind fun b=>if b.1 then(f ρ1 b.2).bind fun p=>(if acc.length<ZZ then Zbo nx put c f ρ n (i+1) (acc++[p.1]) p.2 else none)else Zbo nx put c f ρ n (i+1) acc b.2
noncomputable def Zar(g:Src)(put:V→Lc→Option Lc)(c:Ts)(f:Ex): Ex:=fun ρ H=>(g ρ H).bind fun z=>(Zbo z.1 put c f ρ z.2.1 0 [] z.2.2).map fun q=>(.ref q.2.length,q.2++[q.1])
noncomputable def ZdR(Γ:Cx)(W0:Wd)(ρ:Lc)(fr:List (Addr×Obj))(C D:Addr)(It:Nat→List (Addr×Obj)→Prop)(nx:Nx)(put:V→Lc→Option Lc)(c:Ts)(f:Ex)(q:List V×Hp)(s:Shared)(k:Nat)(s':Shared): Prop:=
 ∃W' H' h' tk' j fs acc ys oC m₂,s' = { s with heap:=h',toks:=tk' }∧W0.Le W'∧It j fs∧NsObj oC m₂∧VRs W' acc ys∧acc.length≤ZZ∧Rep Γ W' ρ H' ((C,oC)::(D,lst ys)::(fs++fr)) h'∧Zbo nx put c f ρ k j acc H'=some q
section
variable {prog:Program} {w:World} {Γ:Cx}
theorem Zg7{scope:Scope}{cl:List (Str×Addr)}{elt:Expr}{ts:List (Str×Nat)}{W0 W:Wd}{ρ ρ1:Lc}{H:Hp}{fr fs:List (Addr×Obj)}{C D:Addr}{It:Nat→List (Addr×Obj)→Prop}{nx:Nx}{put:V→Lc→Option Lc}{c:Ts}{f:Ex}{q:List V×Hp}{s:Shared}{h:Heap}{tk:Nat}{k j:Nat}{acc:List V}{ys:List Value}{E:Value→Shared→Prop}
  (hel:J prog w (Zam Γ scope cl C ts ρ) elt f) (aD:∀t∈fs++fr,D≠t.1) (cd:C≠D) (l0:W0.Le W) (hit:It (j+1) fs) (hv:VRs W acc ys) (r:Rep (Zam Γ scope cl C ts ρ) W ρ1 H ((D,lst ys)::(fs++fr)) h)
  (e:((f ρ1 H).bind fun p=>(if acc.length<ZZ then Zbo nx put c f ρ k (j+1) (acc++[p.1]) p.2 else none))=some q):
  wpAny (model prog w) Γ.A (eval elt (compEnvC scope cl C Γ.env)) (fun x s₄=>wpAny (model prog w) Γ.A (call (.builtin "list.append") [.ref D,x]) (fun _ s₅=>∃m,m<k+1∧ZdR Γ W0 ρ fr C D It nx put c f q s m s₅) E s₄) E { s with heap:=h,toks:=tk }:=by
 obtain⟨p,e2,e⟩:=Zz0.mp e
 by_cases hlt:acc.length<ZZ
 ·rw[if_pos hlt]at e
  refine hel W ρ1 H _ _ _ E _ _ r e2 fun W2 k2 t2 x l2 r2 x2=>?_
  obtain⟨oC',m₃,hC',r3⟩:=r2.fromC
  have hD:k2.get? D=some (lst ys):=r3.frAt (q:=(D,lst ys)) (Zz2 _ Zz5)
  refine append_at (hsz:=ZbK (by rw[List.size_toArray,hv.length];omega)) hD fun h' sb hg=>?_
  have hg':h'.get? D=some (lst (ys++[x])):=hg.trans (congrArg some (lst_snoc ys x))
  have r4:Rep Γ W2 ρ p.2 ([(D,lst ys)]++((C,oC')::(fs++fr))) k2:=r3.less fun q hq=>by
   rcases Zz8.mp hq with hq | hq
   ·rw[List.mem_singleton.mp hq]
    exact Zz2 _ Zz5
   ·rcases Zz7.mp hq with e | hq
    ·exact e▸List.mem_cons_self
    ·exact Zz2 _ (Zz2 _ hq)
  have r5:Rep Γ W2 ρ p.2 ([(D,lst (ys++[x]))]++((C,oC')::(fs++fr))) h':=by
   refine r4.swap (fun q hq t ht=>?_) (fun b o hb e=>sb.extBut b o (fun z=>hb (by simp[z])) e) fun q hq=>?_
   ·rw[List.mem_singleton.mp hq]
    rcases Zz7.mp ht with e | ht
    ·rw[e]
     exact cd.symm
    ·exact aD t ht
   ·rw[List.mem_singleton.mp hq]
    exact⟨hg',by simp⟩
  have r6:Rep Γ W2 ρ p.2 ((C,oC')::(D,lst (ys++[x]))::(fs++fr)) h':=r5.less fun q hq=>by
   rcases Zz7.mp hq with e | hq
   ·exact e▸List.mem_append_right _ Zz5
   ·rcases Zz7.mp hq with e | hq
    ·exact e▸List.mem_append_left _ Zz5
    ·exact Zz3 _ (Zz2 _ hq)
  exact⟨k,Nat.lt_succ_self k,W2,p.2,h',t2,j+1,fs,acc++[p.1],ys++[x],oC',m₃,rfl,l0.trans l2,hit,hC',(hv.mono l2).snoc x2,by simp;omega,r6,e⟩
 ·rw[if_neg hlt]at e
  cases e
theorem Zjl{scope:Scope}{cl:List (Str×Addr)}{elt:Expr}{ifs:List Expr}{ts:List (Str×Nat)}{W0 W:Wd}{ρ ρ1:Lc}{H:Hp}{fr fs:List (Addr×Obj)}{C D:Addr}{It:Nat→List (Addr×Obj)→Prop}{nx:Nx}{put:V→Lc→Option Lc}{c:Ts}{f:Ex}{q:List V×Hp}{s s1:Shared}{k j:Nat}{acc:List V}{ys:List Value}{oC:Obj}{m₂:Str→Option Value}{E:Value→Shared→Prop}
  (hel:J prog w (Zam Γ scope cl C ts ρ) elt f) (hif:JF prog w (Zam Γ scope cl C ts ρ) ifs c) (hs:∃h tk,s1 = { s with heap:=h,toks:=tk })
  (aC:∀t∈(D,lst ys)::(fs++fr),C≠t.1) (aD:∀t∈fs++fr,D≠t.1) (l0:W0.Le W) (hit:It (j+1) fs) (hC:NsObj oC m₂) (hv:VRs W acc ys) (hl:acc.length≤ZZ) (r:Rep Γ W ρ H ((C,oC)::(D,lst ys)::(fs++fr)) s1.heap)
  (ht:∀p∈ts,∃v y,ρ1 p.2=some v∧m₂ p.1=some y∧VR W v y) (hj:∀i,(∀p∈ts,p.2≠i)→ρ1 i=ρ i)
  (e:((c ρ1 H).bind fun b=>if b.1 then(f ρ1 b.2).bind fun p=>(if acc.length<ZZ then Zbo nx put c f ρ k (j+1) (acc++[p.1]) p.2 else none)else Zbo nx put c f ρ k (j+1) acc b.2)=some q):
  wpAny (model prog w) Γ.A (forIn ifs true fun c r=>if r=true then do let ok ←isTrue c (compEnvC scope cl C Γ.env) (eval c (compEnvC scope cl C Γ.env));pure (ForInStep.yield ok)else pure (ForInStep.yield r)) (fun ok s₃=>
   if ok=true then wpAny (model prog w) Γ.A (eval elt (compEnvC scope cl C Γ.env)) (fun x s₄=>wpAny (model prog w) Γ.A (call (.builtin "list.append") [.ref D,x]) (fun _ s₅=>∃m,m<k+1∧ZdR Γ W0 ρ fr C D It nx put c f q s m s₅) E s₄) E s₃
   else ∃m,m<k+1∧ZdR Γ W0 ρ fr C D It nx put c f q s m s₃) E s1:=by
 obtain⟨h,tk,rfl⟩:=hs
 obtain⟨b,e1,e⟩:=Zz0.mp e
 obtain⟨b,H1⟩:=b
 have rc:=Zhr (scope:=scope) (cl:=cl) r aC hC ht hj
 refine hif W ρ1 H _ _ _ E b H1 rc e1 fun W1 k1 t1 l1 r1=>?_
 cases b with
 | false=>
  obtain⟨oC',m₃,hC',r2⟩:=r1.fromC
  exact⟨k,Nat.lt_succ_self k,W1,H1,k1,t1,j+1,fs,acc,ys,oC',m₃,rfl,l0.trans l1,hit,hC',hv.mono l1,hl,r2,e⟩
 | true=>exact Zg7 hel aD (aC (D,lst ys) Zz5) (l0.trans l1) hit (hv.mono l1) r1 e
theorem comp_core{elt iter:Expr}{x:Str}{px:Pos}{ifs:List Expr}{scope:Scope}{pos:Pos}{cl:List (Str×Addr)}{t:Nat}{g:Src}{c:Ts}{f:Ex}(hg:JI prog w Γ iter g)(hel:∀C ρ,J prog w (Zam Γ scope cl C [(x,t)] ρ) elt f)(hif:∀C ρ,JF prog w (Zam Γ scope cl C [(x,t)] ρ) ifs c)
  (hcell:∀y∈scope.names,y.2≠.cell) (hkind:scope.kind=.function) (hx:scope.names.lookup x=some .local)
  {W:Wd} {ρ:Lc} {H:Hp} {fr:List (Addr×Obj)} {s:Shared} {E:Value→Shared→Prop} {q:List V×Hp} {RR:Value→Addr→Result→Shared→Prop} (r:Rep Γ W ρ H fr s.heap) (hf:((g ρ H).bind fun z=>Zbo z.1 (Zag t) c f ρ z.2.1 0 [] z.2.2)=some q)
  (hR:∀(W':Wd) (h':Heap) (tk':Nat) (C D:Addr) (oC:Obj) (m₂:Str→Option Value) (ys:List Value),W.Le W'→NsObj oC m₂→VRs W' q.1 ys→q.1.length≤ZZ→(∀t∈fr,D≠t.1)→(∀t∈fr,C≠t.1)→C≠D→Rep Γ W' ρ q.2 ((C,oC)::(D,lst ys)::fr) h'→RR (.ref D) C (.ok .next) { s with heap:=h',toks:=tk' }):
  wpAny (model prog w) Γ.A (eval iter Γ.env) (fun xv s₁=>wpAny (model prog w) Γ.A (pyIter xv) (fun it s₂=>wpAny (model prog w) Γ.A (newList []) (fun acc s₃=>wpAny (model prog w) Γ.A (newFunctionEnv scope Γ.env.globals cl [] Γ.env.qual none .none (some Γ.env)) (fun cenv s₄=>
   codeAny (model prog w) Γ.A (.compStart (.ListComp elt [⟨.Name x px,iter,ifs,0⟩] scope pos) 0 it acc { cenv with scope:=relabel scope Γ.env }) (RR acc cenv.locals) s₄) E s₃) E s₂) E s₁) E s:=by
 obtain⟨z,e1,e2⟩:=Zz0.mp hf
 obtain⟨nx,n,H0⟩:=z
 refine hg W ρ H fr s _ E nx n H0 r e1 fun W1 k1 t1 itv as It fs l1 i1 r1 ap I1=>?_
 refine wpAny_newObj_type (wpAny_newFunctionEnv hcell (fun y hy=>by simp at hy) (fun h₂ hns hsb=>?_) hkind)
 dsimp only at hns hsb ⊢
 obtain⟨rD,aD⟩:=r1.more (fs:=[(k1.objs.size,lst [])]) (fun b o e=>Heap.get?_push_of_some (lst []) e) (fun q hq=>by rw[List.mem_singleton.mp hq];exact⟨Heap.get?_push_size _ rfl,Nat.le_refl _⟩)
 generalize eH:k1.push { cls:=.type "list",dict:=none,data:=.seq ([]:List Value).toArray } = K at hns hsb ⊢
 have eK:k1.push (lst [])=K:=eH
 rw[eK]at rD
 obtain⟨oC,gC,nC⟩:=ns_obj hns
 have up:∀b o,K.get? b=some o→h₂.get? b=some o:=fun b o e=>hsb.extBut b o (Nat.ne_of_lt (Heap.lt_size e)) (Heap.get?_push_of_some _ e)
 obtain⟨rC,aC⟩:=rD.more (fs:=[(K.objs.size,oC)]) up (fun q hq=>by rw[List.mem_singleton.mp hq];exact⟨gC,Nat.le_refl _⟩)
 have adr0:=I1.adr 0 fs i1
 have offs:∀b∈as,b≠k1.objs.size∧b≠K.objs.size:=fun b hb=>by
  rw[←adr0]at hb
  obtain⟨q,hq,e⟩:=Zz11.mp hb
  exact⟨e▸(aD _ Zz5 q (Zz4 _ hq)).symm,e▸(aC _ Zz5 q (Zz3 _ (Zz4 _ hq))).symm⟩
 have cd:K.objs.size≠k1.objs.size:=aC _ Zz5 (k1.objs.size,lst []) (Zz4 _ Zz5)
 have cfr:∀t∈fr,K.objs.size≠t.1:=fun t ht=>aC _ Zz5 t (Zz3 _ (Zz3 _ ht))
 have dfr:∀t∈fr,k1.objs.size≠t.1:=fun t ht=>aD _ Zz5 t (Zz3 _ ht)
 generalize k1.objs.size=D at *
 generalize K.objs.size=C at *
 have loop:∀s₃:Shared,s₃ = { s with heap:=h₂,toks:=t1+([]:List (Str×Value)).length } →
   codeAny (model prog w) Γ.A (.compLoop (.ListComp elt [⟨.Name x px,iter,ifs,0⟩] scope pos) 0 itv (.ref D) (compEnvC scope cl C Γ.env)) (RR (.ref D) C) s₃:=by
  intro s₃ hs₃
  subst hs₃
  refine codeAny_compLoop_tests (ZdR Γ W1 ρ fr C D It nx (Zag t) c f q s) ?_ n ⟨W1,H0,h₂,_,0,fs,[],[],oC,_,rfl,.refl _,i1,nC,.nil,Nat.zero_le _,rC,e2⟩
  rintro k s' ⟨W2,H2,k2,t2,j,fs2,acc,ys,oC2,m₂,rfl,l2,i2,hC2,hv2,hl2,r2,e⟩
  cases k with
  | zero=>cases e
  | succ k=>
   obtain⟨o,e4,e⟩:=Zz0.mp e
   have r2':Rep Γ W2 ρ H2 (fs2++((C,oC2)::(D,lst ys)::fr)) k2:=r2.less fun q hq=>by
    rcases Zz8.mp hq with hq | hq
    ·exact Zz2 _ (Zz2 _ (Zz4 _ hq))
    ·rcases Zz7.mp hq with e | hq
     ·exact e▸List.mem_cons_self
     ·rcases Zz7.mp hq with e | hq
      ·exact e▸List.mem_cons_of_mem _ Zz5
      ·exact Zz2 _ (Zz2 _ (Zz3 _ hq))
   have ap2:∀b∈as,∀t∈(C,oC2)::(D,lst ys)::fr,b≠t.1:=fun b hb t ht=>by
    rcases Zz7.mp ht with e | ht
    ·rw[e]
     exact(offs b hb).2
    ·rcases Zz7.mp ht with e | ht
     ·rw[e]
      exact(offs b hb).1
     ·exact ap b hb t ht
   refine I1.next j W2 ρ H2 _ fs2 _ _ _ o l2 r2' ap2 i2 e4 ?_
   cases o with
   | none=>
    cases e
    intro h' tk' r3
    exact hR W2 h' tk' C D oC2 m₂ ys (l1.trans l2) hC2 hv2 hl2 dfr cfr cd r3
   | some v=>
    intro fs3 k3 t3 y i3 r3 y3
    obtain⟨ρ3,e5,e⟩:=Zz0.mp e
    cases e5
    have a3:∀t∈fs3,t.1∈as:=fun t ht=>by
     rw[←I1.adr _ _ i3]
     exact List.mem_map_of_mem ht
    have gC3:k3.get? C=some oC2:=r3.frAt (q:=(C,oC2)) (Zz3 _ Zz5)
    have nC3:k3.Ns C m₂:=hC2.ns gC3
    refine wpAny_assign_Name (wpAny_storeName_local (lookup_relabel_local hx) nC3 (fun h4 hn4 sb4=>?_) (by simp[compEnvC,relabel,hkind]))
    obtain⟨oC4,gC4,nC4⟩:=ns_obj hn4
    have r3':Rep Γ W2 ρ H2 ([(C,oC2)]++((D,lst ys)::(fs3++fr))) k3:=r3.less fun q hq=>by
     rcases Zz8.mp hq with hq | hq
     ·rw[List.mem_singleton.mp hq]
      exact Zz3 _ Zz5
     ·rcases Zz7.mp hq with e | hq
      ·exact e▸List.mem_append_right _ (Zz2 _ Zz5)
      ·rcases Zz8.mp hq with hq | hq
       ·exact Zz4 _ hq
       ·exact Zz3 _ (Zz2 _ (Zz2 _ hq))
    have aC3:∀t∈(D,lst ys)::(fs3++fr),C≠t.1:=fun t ht=>by
     rcases Zz7.mp ht with e | ht
     ·rw[e]
      exact cd
     ·rcases Zz8.mp ht with ht | ht
      ·exact(offs _ (a3 t ht)).2.symm
      ·exact cfr t ht
    have aD3:∀t∈fs3++fr,D≠t.1:=fun t ht=>by
     rcases Zz8.mp ht with ht | ht
     ·exact(offs _ (a3 t ht)).1.symm
     ·exact dfr t ht
    have r4:Rep Γ W2 ρ H2 ([(C,oC4)]++((D,lst ys)::(fs3++fr))) h4:=by
     refine r3'.swap (fun q hq t ht=>?_) (fun b o hb e=>sb4.extBut b o (fun z=>hb (by simp[z,compEnvC])) e) fun q hq=>?_
     ·rw[List.mem_singleton.mp hq]
      exact aC3 t ht
     ·rw[List.mem_singleton.mp hq]
      exact⟨gC4,by simp⟩
    refine Zjl (hel C ρ) (hif C ρ) ⟨h4,_,rfl⟩ aC3 aD3 l2 i3 nC4 hv2 hl2 r4 (fun p hp=>?_) (fun i hi=>?_) e
    ·rw[List.mem_singleton.mp hp]
     exact⟨v,y,by simp[upd],by simp,y3⟩
    ·have:i≠t:=fun e=>hi (x,t) Zz5 e.symm
     simp[upd,this]
 refine codeAny_compStart_list (loop _ rfl) ?_
 exact I1.self 0 W1 ρ H0 (([(C,oC)]++[(D,lst [])])++fr) fs _ _ _ (.refl _) (rC.less fun q hq=>by
  rcases Zz8.mp hq with hq | hq
  ·exact Zz3 _ (Zz3 _ (Zz4 _ hq))
  ·rcases Zz8.mp hq with hq | hq
   ·rcases Zz8.mp hq with hq | hq
    ·exact Zz4 _ hq
    ·exact Zz3 _ (Zz4 _ hq)
   ·exact Zz3 _ (Zz3 _ (Zz3 _ hq))) i1 (loop _ rfl)
theorem Zhe{W:Wd}{ρ:Lc}{q:List V×Hp}{fr:List (Addr×Obj)}{C D:Addr}{oC:Obj}{ys:List Value}{h' h'':Heap}(hv:VRs W q.1 ys)(hl:q.1.length≤ZZ)(aD:∀t∈fr,D≠t.1)(aC:∀t∈fr,C≠t.1)(cd:C≠D)(r:Rep Γ W ρ q.2 ((C,oC)::(D,lst ys)::fr) h')(sb:Heap.SameBut C h' h''):
  ∃W',W.Le W'∧Rep Γ W' ρ (q.2++[q.1]) fr h''∧VR W' (.ref q.2.length) (.ref D):=by
 have r4:Rep Γ W ρ q.2 ([]++((D,lst ys)::fr)) h'':=by
  refine Rep.swap (fs:=[(C,oC)]) (fs':=[]) r (fun q hq t ht=>?_) (fun b o hb e=>sb.extBut b o (fun z=>hb (by simp[z])) e) fun q hq=>nomatch hq
  rw[List.mem_singleton.mp hq]
  rcases Zz7.mp ht with e | ht
  ·rw[e]
   exact cd
  ·exact aC t ht
 exact Zeo r4 aD hv hl
theorem ZkQ{elt iter:Expr}{x:Str}{px:Pos}{ifs:List Expr}{scope:Scope}{pos:Pos}{cl:List (Str×Addr)}{t:Nat}{g:Src}{c:Ts}{f:Ex}(hg:JI prog w Γ iter g)(hel:∀C ρ,J prog w (Zam Γ scope cl C [(x,t)] ρ) elt f)(hif:∀C ρ,JF prog w (Zam Γ scope cl C [(x,t)] ρ) ifs c)
  (hclos:closureFor scope Γ.env=pure cl) (hcell:∀y∈scope.names,y.2≠.cell) (hkind:scope.kind=.function) (hnames:∀y∈scope.names,y.2=.local→scope.names.lookup y.1=some .local) (hx:scope.names.lookup x=some .local) (hs:∀x,foldedSetIterable iter Γ.env x=pure x:=by intro _;rfl):
  J prog w Γ (.ListComp elt [⟨.Name x px,iter,ifs,0⟩] scope pos) (Zar g (Zag t) c f):=by
 intro W ρ H fr s Q E v H' r hf post
 obtain⟨z,e1,hf⟩:=Zz0.mp hf
 obtain⟨q,e2,e3⟩:=Zz1.mp hf
 cases e3
 rw[eval_ListComp]
 refine wpAny_comprehension_free (use:=Option.none) rfl hs hclos hkind hnames ?_
 refine comp_core (RR:=fun acc C=>compPost (model prog w) Γ.A E Option.none Q acc C) hg hel hif hcell hkind hx r (q:=q) (by rw[e1];exact e2) fun W2 h' tk' C D oC m₂ ys l2 hC hv hl aD aC cd r3=>?_
 refine⟨m₂,hC.ns (r3.frAt (q:=(C,oC)) Zz5),fun h'' sb=>?_⟩
 obtain⟨W5,l5,r5,v5⟩:=Zhe hv hl aD aC cd r3 sb
 exact post W5 h'' tk' _ (l2.trans l5) r5 v5
theorem ZiE{elt iter:Expr}{x y:Str}{px py pos spos:Pos}{ifs:List Expr}{scope:Scope}{cl:List (Str×Addr)}{t i:Nat}{g:Src}{c:Ts}{f:Ex}(hy:Sto prog w Γ y i)(hg:JI prog w Γ iter g)(hel:∀C ρ,J prog w (Zam Γ scope cl C [(x,t)] ρ) elt f)(hif:∀C ρ,JF prog w (Zam Γ scope cl C [(x,t)] ρ) ifs c)
  (hsw:swapsWith (.ListComp elt [⟨.Name x px,iter,ifs,0⟩] scope pos) (some (.Name y py)) spos.line Γ.env=pure true)
  (hclos:closureFor scope Γ.env=pure cl) (hcell:∀y∈scope.names,y.2≠.cell) (hkind:scope.kind=.function) (hnames:∀y∈scope.names,y.2=.local→scope.names.lookup y.1=some .local) (hx:scope.names.lookup x=some .local) (hs:∀x,foldedSetIterable iter Γ.env x=pure x:=by intro _;rfl):
  S1 prog w Γ (.Assign [.Name y py] (.ListComp elt [⟨.Name x px,iter,ifs,0⟩] scope pos) spos) (Z1 i (Zar g (Zag t) c f)):=by
 intro W ρ H fr s Q E r rp hf post
 obtain⟨p,e0,e9⟩:=Zz1.mp hf
 cases e9
 obtain⟨z,e1,hf⟩:=Zz0.mp e0
 obtain⟨q,e2,e3⟩:=Zz1.mp hf
 cases e3
 rw[exec_Assign_Name_used _ _ _ _ hsw]
 refine wpAny_bind (wpAny_standAt (wpAny_bind ?_))
 show wpAny _ Γ.A (do let _ ←comprehension (.ListComp elt [⟨.Name x px,iter,ifs,0⟩] scope pos) scope Γ.env _ (newList []) false (eval iter Γ.env) (some (assign (.Name y py) Γ.env))) _ _ s
 refine wpAny_bind (wpAny_mono (wpAny_comprehension_free (use:=some (assign (.Name y py) Γ.env)) (Q:=fun _ s'=>Q .next s') rfl hs hclos hkind hnames ?_) (fun _ s' h'=>wpAny_pure (wpAny_pure h')) fun _ _ e=>e)
 refine comp_core (RR:=fun acc C=>compPost (model prog w) Γ.A E (some (assign (.Name y py) Γ.env)) (fun _ s'=>Q .next s') acc C) hg hel hif hcell hkind hx rp (q:=q) (by rw[e1];exact e2) fun W2 h' tk' C D oC m₂ ys l2 hC hv hl aD aC cd r3=>?_
 have r4:Rep Γ W2 ρ q.2 ((D,lst ys)::(C,oC)::fr) h':=r3.less fun t ht=>by
  rcases Zz7.mp ht with e | ht
  ·exact e▸List.mem_cons_of_mem _ Zz5
  ·rcases Zz7.mp ht with e | ht
   ·exact e▸List.mem_cons_self
   ·exact Zz2 _ (Zz2 _ ht)
 obtain⟨W5,l5,r5,v5⟩:=Zeo r4 (fun t ht=>by
  rcases Zz7.mp ht with e | ht
  ·rw[e]
   exact cd.symm
  ·exact aD t ht) hv hl
 refine wpAny_assign_Name (hy W5 ρ _ _ _ _ _ _ _ r5 v5 fun h6 t6 r6=>?_)
 refine⟨m₂,hC.ns (r6.frAt (q:=(C,oC)) Zz5),fun h'' sb=>?_⟩
 have r7:Rep Γ W5 (upd ρ i (.ref q.2.length)) (q.2++[q.1]) ([]++fr) h'':=
  Rep.swap (fs:=[(C,oC)]) (fs':=[]) r6 (fun q hq t ht=>by rw[List.mem_singleton.mp hq];exact aC t ht) (fun b o hb e=>sb.extBut b o (fun z=>hb (by simp[z])) e) fun q hq=>nomatch hq
 exact post W5 h'' t6 (l2.trans l5) r7
end
end PM
end
section
set_option autoImplicit false
namespace PM
open PySem PySem.W PySem.Calls PyProof.Rows PyProof PyProof.Rows.LCg PyProof.Rows.LCp
theorem Zh1(h:Heap): ∀as:List Addr,(∀a∈as,∃o,h.get? a=some o)→∃fs:List (Addr×Obj),fs.map (·.1)=as∧∀q∈fs,h.get? q.1=some q.2
 | [],_=>⟨[],rfl,fun q hq=>nomatch hq⟩
 | a::as,d=>by
  obtain⟨o,ho⟩:=d a Zz5
  obtain⟨fs,h1,h2⟩:=Zh1 h as fun b hb=>d b (Zz2 _ hb)
  refine⟨(a,o)::fs,by rw[List.map_cons,h1],fun q hq=>?_⟩
  rcases Zz7.mp hq with e | hq
  ·rw[e]
   exact ho
  ·exact h2 q hq
structure Itr2(prog:Program)(w:World)(Γ:Cx)(W0:Wd)(it:Value)(as:List Addr)(It:Nat→List (Addr×Obj)→Prop)(nx:Nx): Prop where
 adr:∀i fs,It i fs→fs.map (·.1)=as
 pair:∀i H v,nx i H=some (some v)→∃a b,v=.tup [a,b]
 item:∀(i:Nat) (W:Wd) (ρ:Lc) (H:Hp) (fr fs:List (Addr×Obj)) (s:Shared) (Q:Option Value→Shared→Prop) (E:Value→Shared→Prop) (a b:V),W0.Le W→Rep Γ W ρ H (fs++fr) s.heap→(∀a∈as,∀t∈fr,a≠t.1)→It i fs→nx i H=some (some (.tup [a,b])) →
  (∀(T:Addr) (h1:Heap) (t1:Nat),(∀(elts:List Expr) (k:Nat) (pos:Pos) (s1:Shared) (Q1:Unit→Shared→Prop) (E1:Value→Shared→Prop),s1 = { s with heap:=h1,toks:=t1 } →
    (∀(fs':List (Addr×Obj)) (h':Heap) (x y:Value),It (i+1) fs'→Rep Γ W ρ H (fs'++fr) h'→IsTup h' T #[x,y]→VR W a x→VR W b y→Q1 () { s with heap:=h',toks:=t1 })→wpAny (model prog w) Γ.A (letOwnedTupleGo (.Tuple elts k pos) it (.ref T)) Q1 E1 s1)→Q (some (.ref T)) { s with heap:=h1,toks:=t1 })→wpAny (model prog w) Γ.A (pyNext it) Q E s
 done:∀(i:Nat) (W:Wd) (ρ:Lc) (H:Hp) (fr fs:List (Addr×Obj)) (s:Shared) (Q:Option Value→Shared→Prop) (E:Value→Shared→Prop),W0.Le W→Rep Γ W ρ H (fs++fr) s.heap→(∀a∈as,∀t∈fr,a≠t.1)→It i fs→nx i H=some none →
  (∀(h':Heap) (tk':Nat),Rep Γ W ρ H fr h'→Q none { s with heap:=h',toks:=tk' })→wpAny (model prog w) Γ.A (pyNext it) Q E s
 self:∀(i:Nat) (W:Wd) (ρ:Lc) (H:Hp) (fr fs:List (Addr×Obj)) (s:Shared) (Q E:Value→Shared→Prop) (o:Option V),W0.Le W→Rep Γ W ρ H (fs++fr) s.heap→It i fs→nx i H=some o→Q it s→wpAny (model prog w) Γ.A (pyIter it) Q E s
noncomputable def JI2(prog:Program)(w:World)(Γ:Cx)(e:Expr)(g:Src): Prop:=∀(W:Wd) (ρ:Lc) (H:Hp) (fr:List (Addr×Obj)) (s:Shared) (Q E:Value→Shared→Prop) (nx:Nx) (n:Nat) (H':Hp),
 Rep Γ W ρ H fr s.heap→g ρ H=some (nx,n,H') →
 (∀(W':Wd) (h':Heap) (tk':Nat) (it:Value) (as:List Addr) (It:Nat→List (Addr×Obj)→Prop) (fs:List (Addr×Obj)),W.Le W'→It 0 fs→Rep Γ W' ρ H' (fs++fr) h'→(∀a∈as,∀t∈fr,a≠t.1)→Itr2 prog w Γ W' it as It nx→(∃o,nx 0 H'=some o)→Q it { s with heap:=h',toks:=tk' }) →
 wpAny (model prog w) Γ.A (eval e Γ.env) (fun xv s₁=>wpAny (model prog w) Γ.A (pyIter xv) Q E s₁) E s
noncomputable def ZdM(a b:Nat): Nx:=fun i H=>H[a]?.bind fun vs=>H[b]?.bind fun us=>match vs[i]?,us[i]? with
 | some x,some y=>some (some (.tup [x,y]))
 | _,_=>if i=min vs.length us.length then some none else none
noncomputable def Zc9(f g:Ex): Src:=fun ρ H=>(f ρ H).bind fun p=>(g ρ p.2).bind fun q=>match p.1,q.1 with
 | .ref a,.ref b=>q.2[a]?.bind fun vs=>q.2[b]?.map fun us=>(ZdM a b,min vs.length us.length+1,q.2)
 | _,_=>none
noncomputable def ZbT(i j:Nat): V→Lc→Option Lc
 | .tup [a,b],ρ=>some (upd (upd ρ i a) j b)
 | _,_=>none
noncomputable def ZS(z TI TO i1 i2 l1 l2:Addr)(i:Nat)(h:Heap): Prop:=IsZip h z TI TO .none∧PySem.IsPair h TI (.ref i1) (.ref i2)∧(∃a b,PySem.IsPair h TO a b)∧h.IsListIter i1 l1 i∧h.IsListIter i2 l2 i
theorem ZS.at{z TI TO i1 i2 l1 l2:Addr}{i:Nat}{h h':Heap}(x:ZS z TI TO i1 i2 l1 l2 i h)(e:∀a∈[z,TI,TO,i1,i2],∀o,h.get? a=some o→h'.get? a=some o): ZS z TI TO i1 i2 l1 l2 i h':=by
 obtain⟨h1,h2,⟨a,b,h3⟩,h4,h5⟩:=x
 exact⟨e z (by simp) _ h1,e TI (by simp) _ h2,⟨a,b,e TO (by simp) _ h3⟩,h4.at fun o x=>e i1 (by simp) o x,h5.at fun o x=>e i2 (by simp) o x⟩
theorem ZS.have{z TI TO i1 i2 l1 l2:Addr}{i:Nat}{h:Heap}(x:ZS z TI TO i1 i2 l1 l2 i h): ∀a∈[z,TI,TO,i1,i2],∃o,h.get? a=some o:=by
 obtain⟨h1,h2,⟨a,b,h3⟩,⟨o4,h4,_⟩,⟨o5,h5,_⟩⟩:=x
 intro c hc
 simp only[List.mem_cons,List.not_mem_nil,or_false]at hc
 rcases hc with e | e | e | e | e <;> subst e
 ·exact⟨_,h1⟩
 ·exact⟨_,h2⟩
 ·exact⟨_,h3⟩
 ·exact⟨_,h4⟩
 ·exact⟨_,h5⟩
noncomputable def ZIt(z TI TO i1 i2 l1 l2:Addr)(i:Nat)(fs:List (Addr×Obj)): Prop:=fs.map (·.1)=[z,TI,TO,i1,i2]∧∀h:Heap,(∀q∈fs,h.get? q.1=some q.2)→ZS z TI TO i1 i2 l1 l2 i h
theorem Zhs{z TI TO i1 i2 l1 l2:Addr}{i:Nat}{h:Heap}(x:ZS z TI TO i1 i2 l1 l2 i h): ∃fs,ZIt z TI TO i1 i2 l1 l2 i fs∧∀q∈fs,h.get? q.1=some q.2:=by
 obtain⟨fs,h1,h2⟩:=Zh1 h [z,TI,TO,i1,i2] x.have
 refine⟨fs,⟨h1,fun h' e=>x.at fun a ha o ho=>?_⟩,h2⟩
 rw[←h1]at ha
 obtain⟨q,hq,eq⟩:=Zz11.mp ha
 have:=h2 q hq
 rw[eq,ho]at this
 cases this
 exact eq▸e q hq
section
variable {prog:Program} {w:World} {Γ:Cx}
theorem ZkR{W0:Wd}{z TI TO i1 i2 l1 l2:Addr}{a b:Nat}(ea:W0.pi[a]?=some l1)(eb:W0.pi[b]?=some l2)(D:ZipApart z TI TO i1 i2 l1 l2):
  Itr2 prog w Γ W0 (.ref z) [z,TI,TO,i1,i2] (ZIt z TI TO i1 i2 l1 l2) (ZdM a b):=by
 refine⟨fun i fs h=>h.1,?_,?_,?_,?_⟩
 ·intro i H v e
  obtain⟨vs,e1,e⟩:=Zz0.mp e
  obtain⟨us,e2,e⟩:=Zz0.mp e
  split at e
  ·cases e
   exact⟨_,_,rfl⟩
  ·split at e <;> cases e
 ·intro i W ρ H fr fs s Q E va vb le r ap hit hn post
  obtain⟨vs,e1,e⟩:=Zz0.mp hn
  obtain⟨us,e2,e⟩:=Zz0.mp e
  have hvu:vs[i]?=some va∧us[i]?=some vb:=by
   split at e
   ·rename_i x y h1 h2
    cases e
    exact⟨h1,h2⟩
   ·split at e <;> cases e
  obtain⟨_,xs,k1,g1,v1⟩:=r.at e1 (le.at ea)
  obtain⟨_,ys,k2,g2,v2⟩:=r.at e2 (le.at eb)
  obtain⟨x,hx,rx⟩:=v1.at hvu.1
  obtain⟨y,hy,ry⟩:=v2.at hvu.2
  have st:ZS z TI TO i1 i2 l1 l2 i s.heap:=hit.2 _ fun q hq=>r.frAt (Zz4 _ hq)
  have Wk:=WalksT.zip2 (prog:=prog) (w:=w) (A:=Γ.A) Γ.hh z TI TO i1 i2 l1 l2 D xs.toArray ys.toArray
  have isl1:s.heap.IsList l1 xs.toArray:=⟨_,g1,rfl,k1,rfl⟩
  have isl2:s.heap.IsList l2 ys.toArray:=⟨_,g2,rfl,k2,rfl⟩
  have hi:i<min xs.toArray.size ys.toArray.size:=by
   have h1:=(Zz6.mp hx).1
   have h2:=(Zz6.mp hy).1
   simp
   omega
  refine Wk.item i s Q E hi ⟨st.1,st.2.1,st.2.2.1,st.2.2.2.1,st.2.2.2.2,isl1,isl2⟩ fun T vals h1 t1 hp hT hTup hmid keep1=>post T h1 t1 ?_
  intro elts k pos s1 Q1 E1 es1 q1
  subst es1
  have hTw:=Wk.apart i T _ hmid
  refine Wk.go elts k pos i T _ Q1 E1 hmid fun h2 st2 keep2=>?_
  obtain⟨x',y',hx',hy',ev⟩:=hp
  have ex:x'=x:=by
   have:xs[i]?=some x':=by simpa using hx'
   rw[hx]at this
   exact(Option.some.inj this).symm
  have ey:y'=y:=by
   have:ys[i]?=some y':=by simpa using hy'
   rw[hy]at this
   exact(Option.some.inj this).symm
  subst ex ey ev
  obtain⟨fs',hit',at'⟩:=Zhs (h:=h2) (⟨st2.1,st2.2.1,st2.2.2.1,st2.2.2.2.1,st2.2.2.2.2.1⟩:ZS z TI TO i1 i2 l1 l2 (i+1) h2)
  obtain⟨oT,gT,cT,nT,dT⟩:=hTup
  refine q1 fs' h2 x' y' hit' ?_ ⟨oT,keep2 T oT hTw gT,cT,nT,dT⟩ rx ry
  refine r.swap (fs':=fs') (fun q hq t ht=>?_) (fun c o hc e=>?_) fun q hq=>⟨at' q hq,?_⟩
  ·exact ap _ (hit.1▸List.mem_map_of_mem hq) t ht
  ·rw[hit.1]at hc
   have hcw:c∉[z,TO,i1,i2]:=fun h=>hc (by simp at h ⊢;rcases h with h | h | h | h <;> simp[h])
   exact keep2 c o hcw (keep1 c o hcw e)
  ·rw[hit.1,←hit'.1]
   exact List.mem_map_of_mem hq
 ·intro i W ρ H fr fs s Q E le r ap hit hn post
  obtain⟨vs,e1,e⟩:=Zz0.mp hn
  obtain⟨us,e2,e⟩:=Zz0.mp e
  obtain⟨_,xs,k1,g1,v1⟩:=r.at e1 (le.at ea)
  obtain⟨_,ys,k2,g2,v2⟩:=r.at e2 (le.at eb)
  have hi:i=min vs.length us.length:=by
   split at e
   ·cases e
   ·split at e
    ·assumption
    ·cases e
  have st:ZS z TI TO i1 i2 l1 l2 i s.heap:=hit.2 _ fun q hq=>r.frAt (Zz4 _ hq)
  have Wk:=WalksT.zip2 (prog:=prog) (w:=w) (A:=Γ.A) Γ.hh z TI TO i1 i2 l1 l2 D xs.toArray ys.toArray
  have hm:min xs.toArray.size ys.toArray.size=i:=by simp[v1.length,v2.length,hi]
  refine Wk.done s Q E (by rw[hm];exact⟨st.1,st.2.1,st.2.2.1,st.2.2.2.1,st.2.2.2.2,⟨_,g1,rfl,k1,rfl⟩,⟨_,g2,rfl,k2,rfl⟩⟩) fun h' tk keep=>post h' tk ?_
  have:=r.swap (fs':=[]) (fun q hq t ht=>ap _ (hit.1▸List.mem_map_of_mem hq) t ht) (fun c o hc e=>keep c o (fun h=>hc (by rw[hit.1];simp at h ⊢;rcases h with h | h | h | h <;> simp[h])) e) (fun q hq=>nomatch hq)
  exact this
 ·intro i W ρ H fr fs s Q E o le r hit hn q
  obtain⟨vs,e1,e⟩:=Zz0.mp hn
  obtain⟨us,e2,e⟩:=Zz0.mp e
  obtain⟨_,xs,k1,g1,v1⟩:=r.at e1 (le.at ea)
  obtain⟨_,ys,k2,g2,v2⟩:=r.at e2 (le.at eb)
  have st:ZS z TI TO i1 i2 l1 l2 i s.heap:=hit.2 _ fun q hq=>r.frAt (Zz4 _ hq)
  have Wk:=WalksT.zip2 (prog:=prog) (w:=w) (A:=Γ.A) Γ.hh z TI TO i1 i2 l1 l2 D xs.toArray ys.toArray
  exact Wk.self i s Q E ⟨st.1,st.2.1,st.2.2.1,st.2.2.2.1,st.2.2.2.2,⟨_,g1,rfl,k1,rfl⟩,⟨_,g2,rfl,k2,rfl⟩⟩ q
theorem JI2.zip{x:Str}{np pos:Pos}{e1 e2:Expr}{f g:Ex}(hn:Nm prog w Γ x (.type "zip"))(h1:J prog w Γ e1 f)(h2:J prog w Γ e2 g)
  (he:starEach [e1,e2] Γ.env=(false,eval e1 Γ.env)::starEach [e2] Γ.env:=by rfl) (he2:starEach [e2] Γ.env=(false,eval e2 Γ.env)::starEach [] Γ.env:=by rfl) (hp:∀pos,(backTo pos (starEach [e2] Γ.env)).any (·.1)=false:=by intro _;rfl):JI2 prog w Γ (.Call (.Name x np) [e1,e2] [] pos) (Zc9 f g):=by
 intro W ρ H fr s Q E nx n H' r hf post
 obtain⟨p,a1,hf⟩:=Zz0.mp hf
 obtain⟨q,a2,hf⟩:=Zz0.mp hf
 refine wpAny_Call_ofName (hn.use r ?_)
 refine PySem.Pv.callWith_type1 (wpAny_items_cons (h1 W ρ H fr s _ E _ _ r a1 fun W1 k1 t1 y1 l1 r1 v1=>?_) he) he (hp pos)
 refine wpAny_items_cons (h2 W1 ρ _ fr _ _ E _ _ r1 a2 fun W2 k2 t2 y2 l2 r2 v2=>wpAny_items_nil ?_) he2
 have v1':=v1.mono l2
 obtain⟨u1,H1⟩:=p
 obtain⟨u2,H2⟩:=q
 simp only at hf v1' v2 r2
 cases u1 <;> first | (cases hf;done) | skip
 rename_i b1
 cases u2 <;> first | (cases hf;done) | skip
 rename_i b2
 obtain⟨vs,c1,hf⟩:=Zz0.mp hf
 obtain⟨us,c2,c3⟩:=Zz1.mp hf
 cases c3
 cases v1' with
 | @ref _ m1 ea=>
 cases v2 with
 | @ref _ m2 eb=>
 obtain⟨_,xs,n1,g1,w1⟩:=r2.at c1 ea
 obtain⟨_,ys,n2,g2,w2⟩:=r2.at c2 eb
 have isl1:k2.IsList m1 xs.toArray:=⟨_,g1,rfl,n1,rfl⟩
 have isl2:k2.IsList m2 ys.toArray:=⟨_,g2,rfl,n2,rfl⟩
 refine call_zip_2 (s:={ s with heap:=k2,toks:=t2 }) isl1 isl2 fun h₁ hz hTI hTO hi1 hi2 hsz up=>?_
 have ap:=zipApart_new (n:=k2.objs.size) (Heap.lt_size g1) (Heap.lt_size g2)
 have Wk:=WalksT.zip2 (prog:=prog) (w:=w) (A:=Γ.A) Γ.hh _ _ _ _ _ m1 m2 ap xs.toArray ys.toArray
 have zs:ZS (k2.objs.size+4) (k2.objs.size+2) (k2.objs.size+3) k2.objs.size (k2.objs.size+1) m1 m2 0 h₁:=⟨hz,hTI,⟨_,_,hTO⟩,hi1,hi2⟩
 refine Wk.self 0 _ _ _ ⟨hz,hTI,⟨_,_,hTO⟩,hi1,hi2,isl1.at fun o e=>up _ o e,isl2.at fun o e=>up _ o e⟩ ?_
 obtain⟨fs,hit,at'⟩:=Zhs zs
 obtain⟨r3,ap3⟩:=r2.more (fs:=fs) (h':=h₁) (fun b o e=>up b o e) (fun q hq=>⟨at' q hq,by
  have:q.1∈fs.map (·.1):=List.mem_map_of_mem hq
  rw[hit.1]at this
  simp at this
  rcases this with e | e | e | e | e <;> rw[e] <;> omega⟩)
 refine post W2 h₁ t2 _ _ _ fs (l1.trans l2) hit r3 (fun b hb t ht=>?_) (ZkR ea eb ap) ?_
 ·rw[←hit.1]at hb
  obtain⟨q,hq,e⟩:=Zz11.mp hb
  exact e▸ap3 q hq t ht
 ·simp only[ZdM,c1,c2,Option.bind_some]
  split
  ·exact⟨_,rfl⟩
  ·rename_i hno
   have:0=min vs.length us.length:=by
    rcases Nat.eq_zero_or_pos vs.length with z | z
    ·rw[z];simp
    ·rcases Nat.eq_zero_or_pos us.length with z' | z'
     ·rw[z'];simp
     ·exact(hno vs[0] us[0] (by simp[z]) (by simp[z'])).elim
   rw[if_pos this]
   exact⟨_,rfl⟩
theorem Zg2{elt iter:Expr}{x x₂:Str}{px px₂ tp:Pos}{kt:Nat}{scope:Scope}{pos:Pos}{cl:List (Str×Addr)}{t t₂:Nat}{g:Src}{f:Ex}(hg:JI2 prog w Γ iter g)(hel:∀C ρ,J prog w (Zam Γ scope cl C [(x,t),(x₂,t₂)] ρ) elt f)
  (hcell:∀y∈scope.names,y.2≠.cell) (hkind:scope.kind=.function) (hx:scope.names.lookup x=some .local) (hx₂:scope.names.lookup x₂=some .local) (hxx:x≠x₂) (htt:t≠t₂)
  {W:Wd} {ρ:Lc} {H:Hp} {fr:List (Addr×Obj)} {s:Shared} {E:Value→Shared→Prop} {q:List V×Hp} {RR:Value→Addr→Result→Shared→Prop} (r:Rep Γ W ρ H fr s.heap) (hf:((g ρ H).bind fun z=>Zbo z.1 (ZbT t t₂) Zaq f ρ z.2.1 0 [] z.2.2)=some q)
  (hR:∀(W':Wd) (h':Heap) (tk':Nat) (C D:Addr) (oC:Obj) (m₂:Str→Option Value) (ys:List Value),W.Le W'→NsObj oC m₂→VRs W' q.1 ys→q.1.length≤ZZ→(∀t∈fr,D≠t.1)→(∀t∈fr,C≠t.1)→C≠D→Rep Γ W' ρ q.2 ((C,oC)::(D,lst ys)::fr) h'→RR (.ref D) C (.ok .next) { s with heap:=h',toks:=tk' }):
  wpAny (model prog w) Γ.A (eval iter Γ.env) (fun xv s₁=>wpAny (model prog w) Γ.A (pyIter xv) (fun it s₂=>wpAny (model prog w) Γ.A (newList []) (fun acc s₃=>wpAny (model prog w) Γ.A (newFunctionEnv scope Γ.env.globals cl [] Γ.env.qual none .none (some Γ.env)) (fun cenv s₄=>
   codeAny (model prog w) Γ.A (.compStart (.ListComp elt [⟨.Tuple [.Name x px,.Name x₂ px₂] kt tp,iter,[],0⟩] scope pos) 0 it acc { cenv with scope:=relabel scope Γ.env }) (RR acc cenv.locals) s₄) E s₃) E s₂) E s₁) E s:=by
 obtain⟨z,e1,e2⟩:=Zz0.mp hf
 obtain⟨nx,n,H0⟩:=z
 refine hg W ρ H fr s _ E nx n H0 r e1 fun W1 k1 t1 itv as It fs l1 i1 r1 ap I1 hstart=>?_
 refine wpAny_newObj_type (wpAny_newFunctionEnv hcell (fun y hy=>by simp at hy) (fun h₂ hns hsb=>?_) hkind)
 dsimp only at hns hsb ⊢
 obtain⟨rD,aD⟩:=r1.more (fs:=[(k1.objs.size,lst [])]) (fun b o e=>Heap.get?_push_of_some (lst []) e) (fun q hq=>by rw[List.mem_singleton.mp hq];exact⟨Heap.get?_push_size _ rfl,Nat.le_refl _⟩)
 generalize eH:k1.push { cls:=.type "list",dict:=none,data:=.seq ([]:List Value).toArray } = K at hns hsb ⊢
 have eK:k1.push (lst [])=K:=eH
 rw[eK]at rD
 obtain⟨oC,gC,nC⟩:=ns_obj hns
 have up:∀b o,K.get? b=some o→h₂.get? b=some o:=fun b o e=>hsb.extBut b o (Nat.ne_of_lt (Heap.lt_size e)) (Heap.get?_push_of_some _ e)
 obtain⟨rC,aC⟩:=rD.more (fs:=[(K.objs.size,oC)]) up (fun q hq=>by rw[List.mem_singleton.mp hq];exact⟨gC,Nat.le_refl _⟩)
 have adr0:=I1.adr 0 fs i1
 have offs:∀b∈as,b≠k1.objs.size∧b≠K.objs.size:=fun b hb=>by
  rw[←adr0]at hb
  obtain⟨q,hq,e⟩:=Zz11.mp hb
  exact⟨e▸(aD _ Zz5 q (Zz4 _ hq)).symm,e▸(aC _ Zz5 q (Zz3 _ (Zz4 _ hq))).symm⟩
 have cd:K.objs.size≠k1.objs.size:=aC _ Zz5 (k1.objs.size,lst []) (Zz4 _ Zz5)
 have cfr:∀t∈fr,K.objs.size≠t.1:=fun t ht=>aC _ Zz5 t (Zz3 _ (Zz3 _ ht))
 have dfr:∀t∈fr,k1.objs.size≠t.1:=fun t ht=>aD _ Zz5 t (Zz3 _ ht)
 generalize k1.objs.size=D at *
 generalize K.objs.size=C at *
 have loop:∀s₃:Shared,s₃ = { s with heap:=h₂,toks:=t1+([]:List (Str×Value)).length } →
   codeAny (model prog w) Γ.A (.compLoop (.ListComp elt [⟨.Tuple [.Name x px,.Name x₂ px₂] kt tp,iter,[],0⟩] scope pos) 0 itv (.ref D) (compEnvC scope cl C Γ.env)) (RR (.ref D) C) s₃:=by
  intro s₃ hs₃
  subst hs₃
  refine codeAny_compLoop_pair (ZdR Γ W1 ρ fr C D It nx (ZbT t t₂) Zaq f q s) ?_ n ⟨W1,H0,h₂,_,0,fs,[],[],oC,_,rfl,.refl _,i1,nC,.nil,Nat.zero_le _,rC,e2⟩
  rintro k s' ⟨W2,H2,k2,t2,j,fs2,acc,ys,oC2,m₂,rfl,l2,i2,hC2,hv2,hl2,r2,e⟩
  cases k with
  | zero=>cases e
  | succ k=>
   obtain⟨o,e4,e⟩:=Zz0.mp e
   have r2':Rep Γ W2 ρ H2 (fs2++((C,oC2)::(D,lst ys)::fr)) k2:=r2.less fun q hq=>by
    rcases Zz8.mp hq with hq | hq
    ·exact Zz2 _ (Zz2 _ (Zz4 _ hq))
    ·rcases Zz7.mp hq with e | hq
     ·exact e▸List.mem_cons_self
     ·rcases Zz7.mp hq with e | hq
      ·exact e▸List.mem_cons_of_mem _ Zz5
      ·exact Zz2 _ (Zz2 _ (Zz3 _ hq))
   have ap2:∀b∈as,∀t∈(C,oC2)::(D,lst ys)::fr,b≠t.1:=fun b hb t ht=>by
    rcases Zz7.mp ht with e | ht
    ·rw[e]
     exact(offs b hb).2
    ·rcases Zz7.mp ht with e | ht
     ·rw[e]
      exact(offs b hb).1
     ·exact ap b hb t ht
   cases o with
   | none=>
    cases e
    exact I1.done j W2 ρ H2 _ fs2 _ _ _ l2 r2' ap2 i2 e4 fun h' tk' r3=>hR W2 h' tk' C D oC2 m₂ ys (l1.trans l2) hC2 hv2 hl2 dfr cfr cd r3
   | some v=>
    obtain⟨va,vb,ev⟩:=I1.pair j H2 v e4
    subst ev
    refine I1.item j W2 ρ H2 _ fs2 _ _ _ va vb l2 r2' ap2 i2 e4 fun T h3 t3 go=>?_
    obtain⟨ρ3,e5,e⟩:=Zz0.mp e
    cases e5
    refine go _ _ _ _ _ _ rfl fun fs3 k3 y1 y2 i3 r3 htup w1 w2=>?_
    have a3:∀t∈fs3,t.1∈as:=fun t ht=>by
     rw[←I1.adr _ _ i3]
     exact List.mem_map_of_mem ht
    refine assign_Tuple_tuple (s:={ s with heap:=k3,toks:=t3 }) Γ.hh htup rfl rfl fun g₄ he=>?_
    have r3g:=r3.grown (h':=g₄) fun b o e=>he b o (Nat.ne_of_lt (Heap.lt_size e)) e
    have gC3:g₄.get? C=some oC2:=r3g.frAt (q:=(C,oC2)) (Zz3 _ Zz5)
    have nC3:g₄.Ns C m₂:=hC2.ns gC3
    refine assignInOrder_cons (wpAny_assign_Name (wpAny_storeName_local (lookup_relabel_local hx) nC3 (fun h5 hn5 sb5=>?_) (by simp[compEnvC,relabel,hkind])))
    refine assignInOrder_cons (wpAny_assign_Name (wpAny_storeName_local (lookup_relabel_local hx₂) hn5 (fun h4 hn4 sb4=>?_) (by simp[compEnvC,relabel,hkind])))
    refine assignInOrder_nil ?_
    obtain⟨oC4,gC4,nC4⟩:=ns_obj hn4
    have r3':Rep Γ W2 ρ H2 ([(C,oC2)]++((D,lst ys)::(fs3++fr))) g₄:=r3g.less fun q hq=>by
     rcases Zz8.mp hq with hq | hq
     ·rw[List.mem_singleton.mp hq]
      exact Zz3 _ Zz5
     ·rcases Zz7.mp hq with e | hq
      ·exact e▸List.mem_append_right _ (Zz2 _ Zz5)
      ·rcases Zz8.mp hq with hq | hq
       ·exact Zz4 _ hq
       ·exact Zz3 _ (Zz2 _ (Zz2 _ hq))
    have aC3:∀t∈(D,lst ys)::(fs3++fr),C≠t.1:=fun t ht=>by
     rcases Zz7.mp ht with e | ht
     ·rw[e]
      exact cd
     ·rcases Zz8.mp ht with ht | ht
      ·exact(offs _ (a3 t ht)).2.symm
      ·exact cfr t ht
    have aD3:∀t∈fs3++fr,D≠t.1:=fun t ht=>by
     rcases Zz8.mp ht with ht | ht
     ·exact(offs _ (a3 t ht)).1.symm
     ·exact dfr t ht
    have r4:Rep Γ W2 ρ H2 ([(C,oC4)]++((D,lst ys)::(fs3++fr))) h4:=by
     refine r3'.swap (fun q hq t ht=>?_) (fun b o hb e=>sb4.extBut b o (fun z=>hb (by simp[z,compEnvC])) (sb5.extBut b o (fun z=>hb (by simp[z,compEnvC])) e)) fun q hq=>?_
     ·rw[List.mem_singleton.mp hq]
      exact aC3 t ht
     ·rw[List.mem_singleton.mp hq]
      exact⟨gC4,by simp⟩
    have rc:=Zhr (scope:=scope) (cl:=cl) (ts:=[(x,t),(x₂,t₂)]) (ρ:=upd (upd ρ t va) t₂ vb) r4 aC3 nC4 (fun p hp=>by
     rcases Zz7.mp hp with e | hp
     ·rw[e]
      exact⟨va,y1,by simp[upd,htt],by simp[hxx],w1⟩
     ·rw[List.mem_singleton.mp hp]
      exact⟨vb,y2,by simp[upd],by simp,w2⟩) (fun i hi=>by
     have h1:i≠t:=fun e=>hi (x,t) Zz5 e.symm
     have h2:i≠t₂:=fun e=>hi (x₂,t₂) (Zz2 _ Zz5) e.symm
     simp[upd,h1,h2])
    exact Zg7 (hel C ρ) aD3 cd l2 i3 hv2 rc e
 refine codeAny_compStart_list (loop _ rfl) ?_
 obtain⟨o0,ho0⟩:=hstart
 exact I1.self 0 W1 ρ H0 (([(C,oC)]++[(D,lst [])])++fr) fs _ _ _ o0 (.refl _) (rC.less fun q hq=>by
  rcases Zz8.mp hq with hq | hq
  ·exact Zz3 _ (Zz3 _ (Zz4 _ hq))
  ·rcases Zz8.mp hq with hq | hq
   ·rcases Zz8.mp hq with hq | hq
    ·exact Zz4 _ hq
    ·exact Zz3 _ (Zz4 _ hq)
   ·exact Zz3 _ (Zz3 _ (Zz3 _ hq))) i1 ho0 (loop _ rfl)
theorem ZjT{elt iter:Expr}{x x₂:Str}{px px₂ tp:Pos}{kt:Nat}{scope:Scope}{pos:Pos}{cl:List (Str×Addr)}{t t₂:Nat}{g:Src}{f:Ex}(hg:JI2 prog w Γ iter g)(hel:∀C ρ,J prog w (Zam Γ scope cl C [(x,t),(x₂,t₂)] ρ) elt f)
  (hclos:closureFor scope Γ.env=pure cl) (hcell:∀y∈scope.names,y.2≠.cell) (hkind:scope.kind=.function) (hnames:∀y∈scope.names,y.2=.local→scope.names.lookup y.1=some .local) (hx:scope.names.lookup x=some .local) (hx₂:scope.names.lookup x₂=some .local) (hxx:x≠x₂) (htt:t≠t₂) (hs:∀x,foldedSetIterable iter Γ.env x=pure x:=by intro _;rfl):
  J prog w Γ (.ListComp elt [⟨.Tuple [.Name x px,.Name x₂ px₂] kt tp,iter,[],0⟩] scope pos) (Zar g (ZbT t t₂) Zaq f):=by
 intro W ρ H fr s Q E v H' r hf post
 obtain⟨z,e1,hf⟩:=Zz0.mp hf
 obtain⟨q,e2,e3⟩:=Zz1.mp hf
 cases e3
 rw[eval_ListComp]
 refine wpAny_comprehension_free (use:=Option.none) rfl hs hclos hkind hnames ?_
 refine Zg2 (RR:=fun acc C=>compPost (model prog w) Γ.A E Option.none Q acc C) hg hel hcell hkind hx hx₂ hxx htt r (q:=q) (by rw[e1];exact e2) fun W2 h' tk' C D oC m₂ ys l2 hC hv hl aD aC cd r3=>?_
 refine⟨m₂,hC.ns (r3.frAt (q:=(C,oC)) Zz5),fun h'' sb=>?_⟩
 obtain⟨W5,l5,r5,v5⟩:=Zhe hv hl aD aC cd r3 sb
 exact post W5 h'' tk' _ (l2.trans l5) r5 v5
end
end PM
end
section
set_option autoImplicit false
namespace PM
open PySem PySem.W PySem.Calls PyProof.Rows PyProof PySem.Spec
theorem ZkS{prog:Program}{w:World}{A A₀:Around}{s:Shared}{base h₀:Heap}{L:Addr}{m:Str→Option Value}{lent:List (Addr×Obj)}{K:Frag}{p:Program}{loose:List Str}{mean:ExcName→Option Value}{mg mb:Str→Option Value}
  {env:Env} {outer:List Env} {R:Result→Shared→Prop} {name qual:Str} {params:Arguments} {body:List Stmt} {scope:Scope} {dV kV doc pm cdv ct oc:Value} {an od:Option Addr} {osl:Array (Option Value)} {f:Addr} {args:Args} {binds:List (Str×Value)}
  (B:Below A₀ base outer h₀) (F:Fr h₀ L s.heap m) (X₀:K.In h₀) (N:News h₀ L s.heap lent) (T:Top p loose mean mg mb h₀) (hA:A.frames=some (env::outer)) (hf:env.frame=some L) (hke:env.scope.kind=.function)
  (ho:K.lookup f=some ⟨oc,od,.func (fnOf name qual params body scope dV kV doc pm an cdv ct),osl⟩) (hcd:codeIn K cdv qual=true) (hroom:A.depth<recursionLimit)
  (hbind:BindsTo s (fnOf name qual params body scope dV kV doc pm an cdv ct) args binds) (hall:(binds.all fun y=>scope.names.lookup y.1 == some .local || scope.names.lookup y.1 == some .cell)=true) (hone:((cellsFrom 0 scope.names []).map (·.1)).Nodup)
  (h:∀g L' h₁ tk cells,(∀b o,s.heap.get? b=some o→b∉lent.map (·.1)→g.get? b=some o)→Fr g L' h₁ (bindL (envOfC qual scope L' f cdv).kindOf binds fun _=>none)→News g L' h₁ (cells++lent)→CellsAre (bindC (envOfC qual scope L' f cdv).kindOf binds fun _=>none) (cellsFrom (L'+1) scope.names []) cells →
   (cellsFrom (L'+1) scope.names []).Pairwise (fun x y=>x.2≠y.2)→(∀n c,(n,c)∈cellsFrom (L'+1) scope.names []→L'<c)→Below A base (env::outer) g→K.In g→Top p loose mean mg mb g→(∀q∈lent,q.1<L')→s.heap.objs.size≤L' →
   wpAny (model prog w) (A.deeper (envOfC qual scope L' f cdv)) (execs body (envOfC qual scope L' f cdv)) (fun fl s'=>LeaveK h₀ L m g R (match fl with | .ret v=>v | _=>.none) s')
    (fun e s'=>wpAny (model prog w) (A.deeper (envOfC qual scope L' f cdv)) (leaving (envOfC qual scope L' f cdv) e) (fun _ s''=>R (.error e) s'') (fun e' s''=>R (.error e') s'') s') { s with heap:=h₁,toks:=tk })
  (hco:scope.isCoroutine=false) (hgen:scope.isGenerator=false) (hk:scope.kind=.function):codeAny (model prog w) A (.call (.ref f) args) R s:=by
 obtain⟨FG,BG,st,lv⟩:=groundX (R:=R) B F N hA hf hke
 have X:=X₀.keeps F.keep
 refine codeAny_call_function (fd:=fnOf name qual params body scope dV kV doc pm an cdv ct) hroom (X _ _ ho) rfl hco hgen rfl (codeRec_of X hcd) (hbind _ _ _ _ ?_)
 refine wpAny_newFunctionEnv_cells hk (kindsX hall _) fun fresh hfr s' inC=>?_
 subst hfr
 have up:=inC.toInCall.keep
 refine⟨(T.nolimit.keeps F.keep).keeps up,codeAny_func ?_⟩
 obtain⟨h₁,tk,hs',_⟩:=inC.done
 subst hs'
 have nod:=cellsFrom_names scope.names 0 (s.heap.objs.size+1) [] [] rfl▸hone
 obtain⟨cells,NC,Y⟩:=Cl.news (h₀:=s.heap) (L:=s.heap.objs.size) (Zz10 _) fun n c hm=>⟨inC.cell n c (lookup_of_mem_nodup nod hm),inC.above n c hm⟩
 have old:∀q∈lent,q.1<s.heap.objs.size:=fun q hq=>Heap.lt_size (N q hq).1
 refine wpAny_mono (h _ s.heap.objs.size h₁ tk cells (fun b o e nb=>hideAll_get _ e nb) ⟨inC.toInCall.ns,fun b o e=>up b o (of_hideAll _ e),Nat.le_of_eq (hideAll_size _ _)⟩ (fun q hq=>?_) Y inC.apart inC.above BG (X₀.keeps st) (T.keeps st) old (Zz10 _)) (fun fl s' hl=>lv _ _ hl) fun _ _ y=>y
 rcases Zz8.mp hq with hq | hq
 ·obtain⟨c1,c2,c3⟩:=NC q hq
  refine⟨c1,c2,?_⟩
  cases e:(hideAll s.heap (lent.map (·.1))).get? q.1 with
  | none=>rfl
  | some o=>
   have z:=of_hideAll _ e
   rw[c3]at z
   cases z
 ·exact⟨up _ _ (N q hq).1,Nat.ne_of_lt (old q hq),hideAll_none _ (List.mem_map_of_mem hq)⟩
section
variable (prog:Program) (w:World) (K:Frag) (p:Program) (loose:List Str) (mean:ExcName→Option Value) (mg mb:Str→Option Value)
noncomputable def Clr(Γ:Cx)(dp un:Nat): Prop:=∃(gd:Option (List Code)) (cn:Str) (cs:Scope) (a:Addr) (ccd:Value) (cl:List (Str×Addr)) (outer:List Env) (A₀:Around) (base:Heap),
 Γ.A=ktrTop dp un gd cn cs Γ.L a ccd cl outer∧Below A₀ base outer Γ.h₀∧K.In Γ.h₀∧Top p loose mean mg mb Γ.h₀∧cs.kind=.function
noncomputable def Def(f:Addr)(room:Nat)(F:List V→Hp→Option (V×Hp)): Prop:=∀(Γ:Cx) (dp un:Nat),Clr K p loose mean mg mb Γ dp un→dp+room<recursionLimit→un+10*room+300<cLine →
 ∀(W:Wd) (ρ:Lc) (H:Hp) (fr:List (Addr×Obj)) (s:Shared) (Q E:Value→Shared→Prop) (as:List V) (xs:List Value) (v:V) (H':Hp),
  Rep Γ W ρ H fr s.heap→VRs W as xs→F as H=some (v,H')→ZeO Γ W ρ H' fr s Q v→wpAny (model prog w) Γ.A (call (.ref f) xs) Q E s
end
noncomputable def Z2(n:Nat)(g:Sm): List V→Hp→Option (V×Hp):=fun as H=>if as.length=n then(g (fun i=>as[i]?) H).map fun r=>((r.1.getD .none),r.2.2)else none
theorem Zi2{kindOf:Str→Option NameKind}: ∀{ps:List Str} {xs:List Value} {m:Str→Option Value} {x:Str} {i:Nat} {y:Value},ps.Nodup→ps[i]?=some x→xs[i]?=some y→kindOf x=some .local→bindL kindOf (ps.zip xs) m x=some y:=by
 have skip:∀{ps:List Str} {xs:List Value} {m:Str→Option Value} {x:Str},x∉ps→bindL kindOf (ps.zip xs) m x=m x:=by
  intro ps
  induction ps with
  | nil=>intro xs m x _;rfl
  | cons p ps ih=>
   intro xs m x hx
   cases xs with
   | nil=>rfl
   | cons z xs=>
    simp only[List.zip_cons_cons,bindL]
    rw[ih (fun h=>hx (Zz2 _ h))]
    have:x≠p:=fun e=>hx (e▸List.mem_cons_self)
    split <;> simp[this]
 intro ps
 induction ps with
 | nil=>intro xs m x i y _ h;simp at h
 | cons p ps ih=>
  intro xs m x i y nd hp hx hk
  cases xs with
  | nil=>simp at hx
  | cons z xs=>
   obtain⟨n1,n2⟩:=List.nodup_cons.mp nd
   cases i with
   | zero=>
    simp at hp hx
    subst hp hx
    simp only[List.zip_cons_cons,bindL]
    rw[skip n1,if_pos hk]
    simp
   | succ i=>
    simp at hp hx
    simp only[List.zip_cons_cons,bindL]
    exact ih n2 hp hx hk
theorem Zi3{kindOf:Str→Option NameKind}: ∀{ps:List Str} {xs:List Value} {m:Str→Option Value} {x:Str} {i:Nat} {y:Value},ps.Nodup→ps[i]?=some x→xs[i]?=some y→kindOf x=some .cell→bindC kindOf (ps.zip xs) m x=some y:=by
 have skip:∀{ps:List Str} {xs:List Value} {m:Str→Option Value} {x:Str},x∉ps→bindC kindOf (ps.zip xs) m x=m x:=by
  intro ps
  induction ps with
  | nil=>intro xs m x _;rfl
  | cons p ps ih=>
   intro xs m x hx
   cases xs with
   | nil=>rfl
   | cons z xs=>
    simp only[List.zip_cons_cons,bindC]
    rw[ih (fun h=>hx (Zz2 _ h))]
    have:x≠p:=fun e=>hx (e▸List.mem_cons_self)
    split <;> simp[this]
 intro ps
 induction ps with
 | nil=>intro xs m x i y _ h;simp at h
 | cons p ps ih=>
  intro xs m x i y nd hp hx hk
  cases xs with
  | nil=>simp at hx
  | cons z xs=>
   obtain⟨n1,n2⟩:=List.nodup_cons.mp nd
   cases i with
   | zero=>
    simp at hp hx
    subst hp hx
    simp only[List.zip_cons_cons,bindC]
    rw[skip n1,if_neg (by rw[hk];simp)]
    simp
   | succ i=>
    simp at hp hx
    simp only[List.zip_cons_cons,bindC]
    exact ih n2 hp hx hk
theorem Zdw{cm:Str→Option Value}: ∀{cs:List (Str×Addr)} {cells:List (Addr×Obj)} {x:Str} {c:Addr},CellsAre cm cs cells→(x,c)∈cs→∃o,(c,o)∈cells∧o.data=.cell (cm x)
 | _,_,_,_,.nil,h=>nomatch h
 | _,_,_,_,.cons hd r,h=>by
  rcases Zz7.mp h with e | h
  ·cases e
   exact⟨_,List.mem_cons_self,hd⟩
  ·obtain⟨o,h1,h2⟩:=Zdw r h
   exact⟨o,List.mem_cons_of_mem _ h1,h2⟩
theorem Zht{cm:Str→Option Value}: ∀{cs:List (Str×Addr)} {cells:List (Addr×Obj)} {q:Addr×Obj},CellsAre cm cs cells→q∈cells→∃x,(x,q.1)∈cs
 | _,_,_,.nil,h=>nomatch h
 | _,_,_,.cons hd r,h=>by
  rcases Zz7.mp h with e | h
  ·cases e
   exact⟨_,List.mem_cons_self⟩
  ·obtain⟨x,h1⟩:=Zht r h
   exact⟨x,List.mem_cons_of_mem _ h1⟩
theorem Zb0{α β:Type}[BEq α][LawfulBEq α]: ∀{l:List (α×β)} {x:α} {y:β},l.lookup x=some y→(x,y)∈l
 | [],_,_,h=>by simp at h
 | (a,b)::r,x,y,h=>by
  rw[List.lookup_cons]at h
  split at h
  ·rename_i e
   cases h
   have:=eq_of_beq e
   subst this
   exact Zz5
  ·exact Zz2 _ (Zb0 h)
end PM
end
section
set_option autoImplicit false
namespace PM
open PySem PySem.W PySem.Calls PyProof.Rows PyProof PySem.Spec
section
variable {prog:Program} {w:World} {K:Frag} {p:Program} {loose:List Str} {mean:ExcName→Option Value} {mg mb:Str→Option Value}
theorem ZhI{name qual:Str}{params:Arguments}{body:List Stmt}{scope:Scope}{dV kV doc pm cdv ct oc:Value}{an od:Option Addr}{osl:Array (Option Value)}{f:Addr}{names:List Str}{n room:Nat}{g:Sm}
  (ho:K.lookup f=some ⟨oc,od,.func (fnOf name qual params body scope dV kV doc pm an cdv ct),osl⟩) (hcd:codeIn K cdv qual=true) (nd:names.Nodup) (hn:n≤names.length)
  (hbind:∀s xs,xs.length=n→BindsTo s (fnOf name qual params body scope dV kV doc pm an cdv ct) ⟨xs,[]⟩ ((names.take n).zip xs)) (hkinds:∀x∈names.take n,scope.names.lookup x=some .local∨scope.names.lookup x=some .cell) (hone:((cellsFrom 0 scope.names []).map (·.1)).Nodup)
  (hco:scope.isCoroutine=false) (hgen:scope.isGenerator=false) (hk:scope.kind=.function)
  (hbody:∀(dp un:Nat) (gd:Option (List Code)) (L:Addr) (outer:List Env) (h₀:Heap) (hu:un+200<cLine),Clr K p loose mean mg mb (Zay dp un gd qual scope L f cdv (cellsFrom (L+1) scope.names []) outer h₀ hu names) dp un→dp+room<recursionLimit→un+10*room+300<cLine →
   Ss prog w (Zay dp un gd qual scope L f cdv (cellsFrom (L+1) scope.names []) outer h₀ hu names) body g):
  Def prog w K p loose mean mg mb f (room+1) (Z2 n g):=by
 intro Γ dp un clr hd hu W ρ H fr s Q E as xs v H' r hx hF post
 obtain⟨gd,cn,cs,a,ccd,cl,outer,A₀,base,eA,B,X,T,hke⟩:=clr
 unfold Z2 at hF
 split at hF
 ·rename_i hlen
  obtain⟨res,e1,e2⟩:=Zz1.mp hF
  obtain⟨o,ρ',K'⟩:=res
  cases e2
  obtain⟨m,c,led,r⟩:=r
  have hxl:xs.length=n:=by rw[hx.length,hlen]
  have inn:∀q∈led,(q.1∈W.pi∨q.1∈W.tups.map (·.1))↔q∈led.filter (fun q=>decide (q.1∈W.pi∨q.1∈W.tups.map (·.1))):=fun q hq=>⟨fun h=>List.mem_filter.mpr ⟨hq,by simpa using h⟩,fun h=>by simpa using (List.mem_filter.mp h).2⟩
  have isub:∀q∈led.filter (fun q=>decide (q.1∈W.pi∨q.1∈W.tups.map (·.1))),q∈led:=fun q hq=>(List.mem_filter.mp hq).1
  generalize hlent:led.filter (fun q=>decide (q.1∈W.pi∨q.1∈W.tups.map (·.1)))=lent at inn isub
  have notin:∀q∈led,q.1∉W.pi→(∀t∈W.tups,q.1≠t.1)→q.1∉lent.map (·.1):=fun q hq h1 h2 h3=>by
   obtain⟨t,ht,e⟩:=Zz11.mp h3
   rcases(inn t (isub t ht)).mpr ht with z | z
   ·exact h1 (e▸z)
   ·obtain⟨u,hu,e'⟩:=Zz11.mp z
    exact h2 u hu (e▸e'.symm)
  rw[eA]
  refine wpAny_call ?_
  refine ZkS (env:=envX cn cs Γ.L a ccd cl) (lent:=lent) B r.F X (fun q hq=>r.N q (isub q hq)) T rfl rfl hke ho hcd (by show dp<recursionLimit;omega) (hbind s xs hxl) ?_ hone ?_ hco hgen hk
  ·refine List.all_eq_true.mpr fun y hy=>?_
   rcases hkinds y.1 (List.of_mem_zip hy).1 with h | h <;> simp[h]
  intro g0 L' h₁ tk cells stay F' N' Y ap ab B' X' T' old szL
  have hu':(un+3)+200<cLine:=by omega
  have clr':Clr K p loose mean mg mb (Zay (dp+1) (un+3) gd qual scope L' f cdv (cellsFrom (L'+1) scope.names []) (envX cn cs Γ.L a ccd cl::outer) g0 hu' names) (dp+1) (un+3):=
   ⟨gd,qual,scope,f,cdv,cellsFrom (L'+1) scope.names [],envX cn cs Γ.L a ccd cl::outer,_,base,rfl,B',X',T',hk⟩
  have below:∀q∈cells,L'<q.1:=fun q hq=>by
   obtain⟨x,hx⟩:=Zht Y hq
   exact ab x _ hx
  have piLt:∀b∈W.pi,b<L':=fun b hb=>by
   obtain⟨o,ho⟩:=r.piIn b hb
   exact Nat.lt_of_lt_of_le (Heap.lt_size (r.get ho)) szL
  have tuLt:∀t∈W.tups,t.1<L':=fun t ht=>Nat.lt_of_lt_of_le (Heap.lt_size (r.get (r.R.tups t ht))) szL
  have scN:W.sc.1∉lent.map (·.1):=fun z=>by
   obtain⟨t,ht,e⟩:=Zz11.mp z
   exact r.notSc t (isub t ht) e
  have tkn:∀{i:Nat} {x:Str} {u:V},names[i]?=some x→as[i]?=some u→(names.take n)[i]?=some x∧∃y,xs[i]?=some y∧VR W u y:=fun {i x u} h1 h2=>by
   have hi:i<n:=by rw[←hlen];exact(Zz6.mp h2).1
   exact⟨by rw[List.getElem?_take_of_lt hi];exact h1,hx.at h2⟩
  have ndt:(names.take n).Nodup:=nd.sublist (List.take_sublist _ _)
  have rep:Rep (Zay (dp+1) (un+3) gd qual scope L' f cdv (cellsFrom (L'+1) scope.names []) (envX cn cs Γ.L a ccd cl::outer) g0 hu' names) W (fun i=>as[i]?) H [] h₁:=by
   refine⟨_,cells,cells++lent,⟨F',N',⟨r.R.len,r.R.nd,fun i vs e=>?_,fun q hq=>?_,r.R.kind⟩,stay _ _ (r.F.keep _ _ r.sc) scN,r.sc0,fun q hq=>(nomatch hq),fun q hq=>(nomatch hq),fun q hq=>List.mem_append_left _ hq,fun q hq z=>?_,fun q _ t ht=>(nomatch ht),fun q hq=>(nomatch hq),fun q hq t ht=>?_,⟨fun i x u hi hk1 hu1=>?_,fun i x u hi hk1 hu1=>?_,fun x c1 hc=>?_,fun x y c1 h1 h2=>?_⟩⟩⟩
   ·obtain⟨l,b,ys,k,h1,h2,h3⟩:=r.R.lists i vs e
    exact⟨l,b,ys,k,h1,Zco h2 fun z=>List.mem_append_right _ ((inn _ z).mp (.inl (List.mem_of_getElem? h1))),h3⟩
   ·exact Zco (r.R.tups q hq) fun z=>List.mem_append_right _ ((inn _ z).mp (.inr (List.mem_map_of_mem hq)))
   ·exact absurd (Nat.lt_trans (piLt _ z) (below q hq)) (Nat.lt_irrefl _)
   ·exact Nat.ne_of_gt (Nat.lt_trans (tuLt t ht) (below q hq))
   ·obtain⟨h1,y,h2,h3⟩:=tkn hi hu1
    exact⟨y,Zi2 ndt h1 h2 hk1,h3⟩
   ·obtain⟨h1,y,h2,h3⟩:=tkn hi hu1
    have hs:=cellsFrom_some scope.names (L'+1) [] (.inl hk1)
    obtain⟨c1,hc1⟩:=Option.isSome_iff_exists.mp hs
    obtain⟨o1,ho1,hd1⟩:=Zdw Y (Zb0 hc1)
    refine⟨c1,o1,y,hc1,ho1,?_,h3⟩
    rw[hd1,Zi3 ndt h1 h2 hk1]
   ·obtain⟨o1,ho1,hd1⟩:=Zdw Y (Zb0 hc)
    exact⟨o1,_,ho1,hd1⟩
   ·exact name_of_addr ap (Zb0 h1) (Zb0 h2)
  have hb:=hbody (dp+1) (un+3) gd L' (envX cn cs Γ.L a ccd cl::outer) g0 hu' clr' (by omega) (by omega)
  have back:∀(W':Wd) (h':Heap) (tk':Nat) (x:Value),W.Le W'→Rep (Zay (dp+1) (un+3) gd qual scope L' f cdv (cellsFrom (L'+1) scope.names []) (envX cn cs Γ.L a ccd cl::outer) g0 hu' names) W' ρ' K' [] h'→VR W' (o.getD .none) x →
    LeaveK Γ.h₀ Γ.L m g0 (fun r s'=>match r with | .ok (.ret v)=>Q v s' | .ok _=>False | .error e=>E e s') x { s with heap:=h',toks:=tk' }:=by
   intro W' h' tk' x l' r' x'
   obtain⟨m',c',led',r'⟩:=r'
   refine⟨L',m',led',r'.F,r'.N,fun FG NG=>post W' h' tk' x l' ?_ x'⟩
   have g0at:∀q∈led,q.1∉lent.map (·.1)→g0.get? q.1=some q.2:=fun q hq hn=>stay _ _ (r.N q hq).1 hn
   have frN:∀q∈fr,q.1∉lent.map (·.1):=fun q hq=>notin q (r.frIn q hq) (r.frOff q hq) (r.frTup q hq)
   have clN:∀q∈c,q.1∉lent.map (·.1):=fun q hq=>notin q (r.clIn q hq) (r.clOff q hq) (r.clTup q hq)
   have newN:∀t∈led',g0.get? t.1=none:=fun t ht=>(r'.N t ht).2.2
   have far:∀q∈led,q.1∉lent.map (·.1)→∀t∈W'.sc::led',q.1≠t.1:=fun q hq hn t ht e=>by
    rcases Zz7.mp ht with e2 | ht
    ·rw[e2,l'.sc]at e
     exact r.notSc q hq e
    ·have:=g0at q hq hn
     rw[e,newN t ht]at this
     cases this
   have farPi:∀q∈led,q.1∉lent.map (·.1)→q.1∉W'.pi:=fun q hq hn z=>by
    obtain⟨o2,h2⟩:=r'.piIn _ z
    exact far q hq hn _ h2 rfl
   have keep:∀q∈led,q.1∉lent.map (·.1)→q∈led'++led.filter (fun q=>decide (q.1∉lent.map (·.1))):=fun q hq hn=>List.mem_append_right _ (List.mem_filter.mpr ⟨hq,by simpa using hn⟩)
   refine⟨m,c,led'++led.filter (fun q=>decide (q.1∉lent.map (·.1))),⟨FG,fun q hq=>?_,r'.R.mono fun q hq=>Zc1 hq fun x hx=>List.mem_append_left _ hx,l'.sc▸r.sc,r'.sc0,fun q hq=>keep q (r.frIn q hq) (frN q hq),fun q hq=>farPi q (r.frIn q hq) (frN q hq),fun q hq=>keep q (r.clIn q hq) (clN q hq),fun q hq=>farPi q (r.clIn q hq) (clN q hq),r.apart,fun q hq t ht=>far q (r.frIn q hq) (frN q hq) t (r'.R.tups t ht),fun q hq t ht=>far q (r.clIn q hq) (clN q hq) t (r'.R.tups t ht),Γ.mono l' r.own⟩⟩
   rcases Zz8.mp hq with hq | hq
   ·exact NG q hq
   ·obtain⟨h1,h2⟩:=List.mem_filter.mp hq
    exact⟨r'.F.keep _ _ (g0at q h1 (by simpa using h2)),(r.N q h1).2⟩
  refine hb W _ H [] _ _ _ (o,ρ',K') rep e1 ?_
  cases o with
  | none=>exact fun W' h' tk' l' r'=>back W' h' tk' .none l' r' .none
  | some v0=>exact fun W' h' tk' x l' r' x'=>back W' h' tk' x l' r' x'
 ·cases hF
theorem ZjU{Γ:Cx}{dp un:Nat}{x:Str}{np pos:Pos}{f:Addr}{room:Nat}{e:Expr}{es:List Expr}{g:Exs}{o:List V→Hp→Option (V×Hp)}(clr:Clr K p loose mean mg mb Γ dp un)(hn:Nm prog w Γ x (.ref f))(hkeep:keepIn K (.ref f)=true)(D:Def prog w K p loose mean mg mb f room o)(hd:dp+room<recursionLimit)(hu:un+10*room+300<cLine)
  (h:Js prog w Γ (e::es) g) (he:starEach (e::es) Γ.env=(false,eval e Γ.env)::starEach es Γ.env:=by rfl) (hp:∀pos,(backTo pos (starEach es Γ.env)).any (·.1)=false:=by intro _;rfl):J prog w Γ (.Call (.Name x np) (e::es) [] pos) (Zr o g):=by
 intro W ρ H fr s Q E v H' r hf post
 obtain⟨q,e1,hf⟩:=Zz0.mp hf
 have X:K.In Γ.h₀:=by
  obtain⟨_,_,_,_,_,_,_,_,_,_,_,X,_⟩:=clr
  exact X
 refine wpAny_Call_ofName (hn.use r ?_)
 refine callWith_K (first:=[]) X hkeep (h pos W ρ H fr s _ E _ _ r e1 fun W1 k1 t1 xs l1 r1 x1=>⟨?_,?_⟩) he (hp pos)
 ·obtain⟨m,c,led,r1⟩:=r1
  exact X.keeps r1.F.keep
 ·exact D Γ dp un clr hd hu W1 ρ _ fr _ Q E _ xs v H' r1 x1 hf fun W2 k2 t2 y l2 r2 y2=>post W2 k2 t2 y (l1.trans l2) r2 y2
theorem ZbL{Γ:Cx}{dp un:Nat}{scope:Scope}{cl:List (Str×Addr)}{C:Addr}{ts:List (Str×Nat)}{ρ0:Lc}(h:Clr K p loose mean mg mb Γ dp un): Clr K p loose mean mg mb (Zam Γ scope cl C ts ρ0) dp un:=h
end
end PM
end
section
set_option autoImplicit false
namespace PM
open PySem PySem.W PySem.Calls PyProof.Rows PyProof PySem.Spec
theorem ZeU{lo:Nat}: ∀(names:List (Str×NameKind)) (n:Nat) (acc:List (Str×Addr)),acc.Pairwise (fun x y=>x.2≠y.2)→(∀q∈acc,lo<q.2∧q.2<n)→lo<n→(cellsFrom n names acc).Pairwise (fun x y=>x.2≠y.2)∧∀q∈cellsFrom n names acc,lo<q.2
 | [],n,acc,h1,h2,_=>⟨h1,fun q hq=>(h2 q hq).1⟩
 | (y,k)::r,n,acc,h1,h2,h3=>by
  unfold cellsFrom
  by_cases hk:(k == .cell)=true
  ·rw[if_pos hk]
   refine ZeU r (n+1) ((y,n)::acc) (List.pairwise_cons.mpr ⟨fun q hq=>Nat.ne_of_gt (h2 q hq).2,h1⟩) (fun q hq=>?_) (Nat.lt_succ_of_lt h3)
   rcases Zz7.mp hq with e | hq
   ·rw[e]
    exact⟨h3,Nat.lt_succ_self n⟩
   ·exact⟨(h2 q hq).1,Nat.lt_succ_of_lt (h2 q hq).2⟩
  ·rw[if_neg hk]
   exact ZeU r n acc h1 h2 h3
theorem Zi4{P:Params}{h:Heap}{a:Addr}{ns:List Int}(w1:Well P h (.ref a) (ofPy (.list (ns.map PyData.int))))(W:Wd): ∃vs,h.get? a=some (ZaH vs 0)∧VRs W (ns.map V.int) vs:=by
 have key:∀{ns:List Int} {vs:List Value} {xs:List WData},xs=(ns.map PyData.int).map ofPy→WellAll P h vs xs→VRs W (ns.map V.int) vs:=by
  intro ns
  induction ns with
  | nil=>intro vs xs e h;subst e;cases h;exact .nil
  | cons n ns ih=>
   intro vs xs e h
   subst e
   cases h with
   | cons h1 h2=>
    cases h1 with
    | int i t=>exact .cons (.int _ _) (ih rfl h2)
 have e:ofPy (.list (ns.map PyData.int))=.list ((ns.map PyData.int).map ofPy):=by rw[ofPy,ofPys_eq]
 rw[e]at w1
 cases w1 with
 | list hg ha=>exact⟨_,hg,key rfl ha⟩
section
variable {prog:Program} {w:World} {K:Frag} {p:Program} {loose:List Str} {mean:ExcName→Option Value} {mg mb:Str→Option Value}
theorem ZjV{P:Params}{h₀:Heap}{s:Shared}{sa fa:Addr}{cd:Value}{ns:List Int}{qual pname:Str}{scope:Scope}{body:List Stmt}{names:List Str}{g:Sm}{cells:List (Addr×Obj)}{Q:Flow→Shared→Prop}{E:Value→Shared→Prop}{room:Nat}{H':Hp}
  (hbody:∀(dp un:Nat) (gd:Option (List Code)) (L a:Addr) (ccd:Value) (outer:List Env) (h₀:Heap) (hu:un+200<cLine),Clr K p loose mean mg mb (Zay dp un gd qual scope L a ccd (cellsFrom (L+1) scope.names []) outer h₀ hu names) dp un→dp+room<recursionLimit→un+10*room+300<cLine →
   Ss prog w (Zay dp un gd qual scope L a ccd (cellsFrom (L+1) scope.names []) outer h₀ hu names) body g)
  (hd:callerA.depth+1+room<recursionLimit) (hun:callerA.units+3+10*room+300<cLine) (hk:scope.kind=.function) (h0:names[0]?=some pname)
  (KX:K.In h₀) (T:Top p loose mean mg mb h₀) (w1:Well P h₀ (.ref sa) (ofPy (.list (ns.map PyData.int)))) (hlen:ns.length≤ZZ)
  (F:Fr h₀ h₀.objs.size s.heap (bindL (envOfC qual scope h₀.objs.size fa cd).kindOf [(pname,.ref sa)] fun _=>none)) (N:News h₀ h₀.objs.size s.heap cells) (X0:CellsAre (bindC (envOfC qual scope h₀.objs.size fa cd).kindOf [(pname,.ref sa)] fun _=>none) (cellsFrom (h₀.objs.size+1) scope.names []) cells)
  (hg:Z2 1 g [.ref 0] [ns.map V.int]=some (.bool true,H')) (post:∀h' tk' m',Fr h₀ h₀.objs.size h' m'→Q (.ret (.bool true)) { s with heap:=h',toks:=tk' }):
  wpAny (model prog w) (callerA.deeper (envOfC qual scope h₀.objs.size fa cd)) (execs body (envOfC qual scope h₀.objs.size fa cd)) Q E s:=by
 have hu':(callerA.units+3)+200<cLine:=by omega
 have clr:Clr K p loose mean mg mb (Zay (callerA.depth+1) (callerA.units+3) callerA.guards qual scope h₀.objs.size fa cd (cellsFrom (h₀.objs.size+1) scope.names []) [] h₀ hu' names) (callerA.depth+1) (callerA.units+3):=
  ⟨callerA.guards,qual,scope,fa,cd,cellsFrom (h₀.objs.size+1) scope.names [],[],_,_,rfl,below_caller h₀,KX,T,hk⟩
 have hb:=hbody (callerA.depth+1) (callerA.units+3) callerA.guards h₀.objs.size fa cd [] h₀ hu' clr hd hun
 obtain⟨vs,hsc,hv⟩:=Zi4 w1 ⟨[sa],[],(sa,ZaH [] 0)⟩
 have hv':VRs ⟨[sa],[],(sa,ZaH vs 0)⟩ (ns.map V.int) vs:=by
  clear hg post w1 hlen hsc
  generalize ns.map V.int=us at hv
  have key:∀{us:List V} {xs:List Value},VRs ⟨[sa],[],(sa,ZaH [] 0)⟩ us xs→VRs ⟨[sa],[],(sa,ZaH vs 0)⟩ us xs:=by
   intro us
   induction us with
   | nil=>intro xs h;cases h;exact .nil
   | cons u us ih=>
    intro xs h
    cases h with
    | cons a b=>
     refine .cons ?_ (ih b)
     cases a with
     | none=>exact .none
     | bool b=>exact .bool b
     | int i t=>exact .int i t
     | str s t=>exact .str s t
     | tup hm _ _=>exact nomatch hm
     | ref e=>exact .ref e
  exact key hv
 have far:=ZeU (lo:=h₀.objs.size) scope.names (h₀.objs.size+1) [] .nil (fun q hq=>nomatch hq) (Nat.lt_succ_self _)
 unfold Z2 at hg
 rw[if_pos (show([V.ref 0]:List V).length=1 from rfl)]at hg
 obtain⟨res,e1,e2⟩:=Zz1.mp hg
 obtain⟨o,ρ',K'⟩:=res
 have eo:o=some (.bool true):=by
  cases o with
  | none=>simp at e2
  | some v=>simp at e2;rw[e2.1]
 subst eo
 have pick:∀{i:Nat} {x:Str} {u:V},names[i]?=some x→([V.ref 0]:List V)[i]?=some u→x=pname∧u=.ref 0:=fun {i x u} h1 h2=>by
  have hi:i<1:=(Zz6.mp h2).1
  have:i=0:=by omega
  subst this
  rw[h0]at h1
  simp at h1 h2
  exact⟨h1.symm,h2.symm⟩
 have rep:Rep (Zay (callerA.depth+1) (callerA.units+3) callerA.guards qual scope h₀.objs.size fa cd (cellsFrom (h₀.objs.size+1) scope.names []) [] h₀ hu' names) ⟨[sa],[],(sa,ZaH vs 0)⟩ (fun i=>[V.ref 0][i]?) [ns.map V.int] [] s.heap:=by
  refine⟨_,cells,cells,⟨F,N,⟨rfl,by simp,fun i us e=>?_,fun q hq=>(nomatch hq),fun q hq=>(nomatch hq)⟩,hsc,rfl,fun q hq=>(nomatch hq),fun q hq=>(nomatch hq),fun q hq=>hq,fun q hq z=>?_,fun q _ t ht=>(nomatch ht),fun q hq=>(nomatch hq),fun q hq t ht=>(nomatch ht),⟨fun i x u hi hk1 hu1=>?_,fun i x u hi hk1 hu1=>?_,fun x c1 hc=>?_,fun x y c1 h1 h2=>?_⟩⟩⟩
  ·have hi:i<1:=(Zz6.mp e).1
   have:i=0:=by omega
   subst this
   simp at e
   subst e
   exact⟨by simpa using hlen,sa,vs,0,rfl,List.mem_cons_self,hv'⟩
  ·have:=(N q hq).2.2
   rw[List.mem_singleton.mp z,hsc]at this
   cases this
  ·obtain⟨e3,e4⟩:=pick hi hu1
   subst e3 e4
   refine⟨.ref sa,?_,.ref rfl⟩
   show bindL _ _ _ _=_
   unfold bindL bindL
   rw[if_pos (show(envOfC qual scope h₀.objs.size fa cd).kindOf x=some .local from hk1)]
   simp
  ·obtain⟨e3,e4⟩:=pick hi hu1
   subst e3 e4
   have hs:=cellsFrom_some scope.names (h₀.objs.size+1) [] (.inl hk1)
   obtain⟨c1,hc1⟩:=Option.isSome_iff_exists.mp hs
   obtain⟨o1,ho1,hd1⟩:=Zdw X0 (Zb0 hc1)
   refine⟨c1,o1,.ref sa,hc1,ho1,?_,.ref rfl⟩
   rw[hd1]
   unfold bindC bindC
   rw[if_neg (show ¬(envOfC qual scope h₀.objs.size fa cd).kindOf x=some .local by show ¬scope.names.lookup x=some .local;rw[hk1];simp)]
   simp
  ·obtain⟨o1,ho1,hd1⟩:=Zdw X0 (Zb0 hc)
   exact⟨o1,_,ho1,hd1⟩
  ·exact name_of_addr far.1 (Zb0 h1) (Zb0 h2)
 refine hb _ _ _ [] s Q E _ rep e1 ?_
 intro W' h' tk' x l' r' x'
 cases x' with
 | bool _=>
  obtain⟨m',c',led',r'⟩:=r'
  exact post h' tk' m' r'.F
end
end PM
end
section
set_option autoImplicit false
namespace PM
open PySem PySem.W PySem.Calls PyProof.Rows PyProof PyProof.Rows.LCg PyProof.Rows.LSm
theorem Rep.listAt{Γ:Cx}{W:Wd}{ρ:Lc}{H:Hp}{fr:List (Addr×Obj)}{h h':Heap}{vs:List V}{xs:List Value}{k:Nat}(r:Rep Γ W ρ H fr h)(up:∀b o,h.get? b=some o→h'.get? b=some o)(hg:h'.get? h.objs.size=some (ZaH xs k))(hv:VRs W vs xs)(hl:vs.length≤ZZ):
  ∃W',W.Le W'∧Rep Γ W' ρ (H++[vs]) fr h'∧VR W' (.ref H.length) (.ref h.objs.size):=by
 obtain⟨r2,ap⟩:=r.more (fs:=[(h.objs.size,ZaH xs k)]) up (fun q hq=>by rw[List.mem_singleton.mp hq];exact⟨hg,Nat.le_refl _⟩)
 exact Zeo r2 (fun t ht=>ap _ Zz5 t ht) hv hl
noncomputable def ZbM: List V→Hp→Option (V×Hp)
 | [.ref a],H=>H[a]?.map fun vs=>(.ref H.length,H++[vs])
 | [.tup vs],H=>some (.ref H.length,H++[vs])
 | _,_=>none
noncomputable def ZcU: List V→Hp→Option (V×Hp)
 | [.ref a],H=>H[a]?.map fun vs=>(.tup vs,H)
 | [.tup vs],H=>some (.tup vs,H)
 | _,_=>none
section
variable {prog:Program} {w:World}
theorem Zdu: OpN prog w (fun xs=>call (.type "list") xs) ZbM:=by
 intro Γ W ρ H fr s Q E as xs v H' r hx ho post
 unfold ZbM at ho
 split at ho
 ·obtain⟨vs,e1,e2⟩:=Zz1.mp ho
  cases e2
  obtain⟨x,ex,rx⟩:=hx.one
  subst ex
  cases rx with
  | @ref _ a ea=>
   obtain⟨hl,ys,k,hg,hv⟩:=r.at e1 ea
   refine call_list_seq (hsz:=ZbK (by rw[List.size_toArray,hv.length];exact hl)) a (.inl rfl) hg rfl rfl fun h' c' up hg'=>?_
   obtain⟨W2,l2,r2,v2⟩:=r.listAt up hg' hv hl
   exact post W2 h' s.toks _ l2 r2 v2
 ·cases ho
  obtain⟨x,ex,rx⟩:=hx.one
  subst ex
  cases rx with
  | @tup _ a ys k hm hl hv=>
   refine call_list_seq (hsz:=ZbK (by rw[List.size_toArray,hv.length];exact hl)) a (.inr rfl) (r.tupAt hm) rfl rfl fun h' c' up hg'=>?_
   obtain⟨W2,l2,r2,v2⟩:=r.listAt up hg' hv hl
   exact post W2 h' s.toks _ l2 r2 v2
 ·cases ho
theorem Zi5: OpN prog w (fun xs=>call (.type "tuple") xs) ZcU:=by
 intro Γ W ρ H fr s Q E as xs v H' r hx ho post
 unfold ZcU at ho
 split at ho
 ·obtain⟨vs,e1,e2⟩:=Zz1.mp ho
  cases e2
  obtain⟨x,ex,rx⟩:=hx.one
  subst ex
  cases rx with
  | @ref _ a ea=>
   obtain⟨hl,ys,k,hg,hv⟩:=r.at e1 ea
   have isl:s.heap.IsList a ys.toArray:=⟨_,hg,rfl,k,rfl⟩
   refine call_tuple_list isl (fun h' up=>?_) (ZbK (by rw[List.size_toArray,hv.length];exact hl))
   obtain⟨W2,l2,r2,v2⟩:=(r.grown up).tuple (k:=0) hv hl
   exact post W2 _ s.toks _ l2 r2 v2
 ·cases ho
  obtain⟨x,ex,rx⟩:=hx.one
  subst ex
  cases rx with
  | @tup _ a ys k hm hl hv=>
   have it:IsTup s.heap a ys.toArray:=⟨_,r.tupAt hm,rfl,k,rfl⟩
   exact call_tuple_tup it (post W s.heap s.toks _ (.refl W) r (.tup hm hl hv))
 ·cases ho
end
section
variable {prog:Program} {w:World} {K:Frag} {p:Program} {loose:List Str} {mean:ExcName→Option Value} {mg mb:Str→Option Value} {Γ:Cx} {dp un:Nat}
theorem ZkT{x:Str}{v:Value}(clr:Clr K p loose mean mg mb Γ dp un)(e:nsIn K mainGlobals x=some (some v))(hg:Γ.env.globals=mainGlobals)(hk:Γ.env.scope.kind=.function)(hx:Γ.env.kindOf x=some .globalImplicit)(hd:(x == ("__debug__":Str))=false): Nm prog w Γ x v:=by
 obtain⟨_,_,_,_,_,_,_,_,_,_,_,X,T,_⟩:=clr
 intro pos m s Q E F q
 exact Name_function_global hk hx (loadGlobal_global (env:=Γ.env) (by rw[hg];exact T.g.keeps F.keep) (mg_of X T.g e) q) hd
theorem Zjm{x:Str}{v:Value}(clr:Clr K p loose mean mg mb Γ dp un)(e:nsIn K mainGlobals x=some none)(hv:bootBuiltins x=some v)(hn:x≠"__name__")(hg:Γ.env.globals=mainGlobals)(hb:Γ.env.builtins=builtinsNs)(hk:Γ.env.scope.kind=.function)(hx:Γ.env.kindOf x=some .globalImplicit)(hd:(x == ("__debug__":Str))=false): Nm prog w Γ x v:=by
 obtain⟨_,_,_,_,_,_,_,_,_,_,_,X,T,_⟩:=clr
 intro pos m s Q E F q
 exact Name_function_global hk hx (loadGlobal_builtin (env:=Γ.env) (by rw[hg];exact T.g.keeps F.keep) (mg_none_of X T.g e) (by rw[hb];exact T.b.keeps F.keep) ((T.builtins x hn).trans hv) q) hd
end
section
variable {prog:Program} {w:World} {Γ:Cx} {scope:Scope} {cl:List (Str×Addr)} {C:Addr} {ts:List (Str×Nat)} {ρ0:Lc}
theorem ZjW{x:Str}{t:Nat}(hm:(x,t)∈ts)(hk:scope.kind=.function)(hl:(compEnvC scope cl C Γ.env).kindOf x=some .local)(hd:(x == ("__debug__":Str))=false): Rd prog w (Zam Γ scope cl C ts ρ0) x t:=by
 intro W ρ H fr s Q E v pos r e q
 obtain⟨m,c,led,r⟩:=r
 obtain⟨oC,m₂,cs,ec,h0,h1,h2,h3,h4⟩:=r.own
 obtain⟨v',y,e1,e2,e3⟩:=h2 _ hm
 rw[e]at e1
 cases e1
 exact LCgL.ld_own r.N (r.clIn _ (by rw[ec];exact Zz5)) h1 e2 (q y e3) hk hl hd
end
section
variable {prog:Program} {w:World} {dp un:Nat} {gd:Option (List Code)} {cn:Str} {cs:Scope} {L a:Addr} {ccd:Value} {clf:List (Str×Addr)} {outer:List Env} {h₀:Heap} {hu:un+200<cLine} {names:List Str} {scope:Scope} {cl:List (Str×Addr)} {C:Addr} {ts:List (Str×Nat)} {ρ0:Lc}
theorem ZjX{x:Str}{i:Nat}(hi:names[i]?=some x)(hx:cs.names.lookup x=some .cell)(hne:∀p∈ts,p.2≠i)(hcl:cl.lookup x=clf.lookup x)(hk:scope.kind=.function)(hl:(compEnvC scope cl C (envX cn cs L a ccd clf)).kindOf x=some .cell)(hd:(x == ("__debug__":Str))=false):
  Rd prog w (Zam (Zay dp un gd cn cs L a ccd clf outer h₀ hu names) scope cl C ts ρ0) x i:=by
 intro W ρ H fr s Q E v pos r e q
 obtain⟨m,c,led,r⟩:=r
 obtain⟨oC,m₂,cs',ec,h0,h1,h2,h3,h4⟩:=r.own
 rw[h3 i hne]at e
 obtain⟨d,o,y,g1,g2,g3,g4⟩:=h4.cel i x v hi hx e
 exact kcf_cell r.N (hcl.trans g1) (r.clIn _ (by rw[ec];exact Zz2 _ g2)) g3 (q y g4) hk hl hd
end
end PM
end
section
namespace My
open PySem PySem.W PySem.Calls PyProof.Rows PySem.Spec
structure Cell(v:Int): Prop where
 bits:Builtin.Int.intBits v≤2 ^ 20
theorem bits_zero: Builtin.Int.intBits 0≤2 ^ 20:=by unfold Builtin.Int.intBits;simp
theorem cell_at{ns:List Int}(h:PyData.layable0 (.list (ns.map .int))=true)(i:Int): Cell (cellAt ns i 0):=by
 refine⟨?_⟩
 rw[cellAt_def,List.getD_eq_getElem?_getD]
 cases e:ns[i.toNat]? with
 | none=>exact bits_zero
 | some v=>exact PyData.bits_item_of_ints h (List.mem_of_getElem? e)
section
variable {prog:Program} {w:World} {A:Around} {E:Value→Shared→Prop} {s:Shared} {x y:Int} {t u:Tok} {Q:Value→Shared→Prop}
@[irreducible] noncomputable def T9: Int:=10 ^ 9
theorem T9_eq: T9=1000000000:=by unfold T9;decide +kernel
end
end My
end
section
set_option autoImplicit false
/-! Reckoning with the plain machine. -/
namespace PM
open PySem PySem.W PyProof.Rows
section
variable (ρ:Lc) (H:Hp)
end
section
variable (a b:Int) (H:Hp)
end
noncomputable def Ext(H H':Hp): Prop:=∃X,H'=H++X
theorem Ext.refl(H:Hp): Ext H H:=⟨[],by simp⟩
theorem ZhV{b:Int}(hb:0≤b): Builtin.Range.rangeSize 0 b 1=b:=by
 unfold Builtin.Range.rangeSize
 rw[if_pos (by decide)]
 by_cases h:(0:Int)<b
 ·rw[if_pos h]
  omega
 ·rw[if_neg h]
  omega
theorem ZkU{b:Int}{H:Hp}(hb:0≤b)(hb9:b≤1000): Zba 0 b 1 H=some (ZcT 0 1 b.toNat,b.toNat+1,H):=by
 unfold Zba rngN
 rw[ZhV hb,if_pos]
 refine⟨by decide,?_,hb,by rw[ZaC];omega,?_⟩
 ·unfold Builtin.Range.small
  rw[ZhV hb]
  simp only[Builtin.Range.rangeFitsLong,Bool.and_eq_true,Bool.or_eq_true,decide_eq_true_eq,beq_iff_eq]
  rw[if_pos (by decide)]
  simp only[Bool.and_eq_true,decide_eq_true_eq]
  by_cases h:(0:Int)<b
  ·refine⟨⟨⟨⟨?_,?_⟩,?_⟩,?_⟩,Or.inr ?_⟩ <;> omega
  ·refine⟨⟨⟨⟨?_,?_⟩,?_⟩,?_⟩,?_⟩ <;> first | omega | (left;omega)
 ·exact PyProof.noPylong_small (by omega)
end PM
end
section
set_option autoImplicit false
namespace PM
open PySem PySem.W PyProof.Rows My
theorem Zhf{a b:Int}(h:IntMulOk a b): Zby a b=true:=by
 unfold IntMulOk at h
 unfold Zby
 cases e:(decide (Builtin.Int.intBits a>shortFactorBits) && decide (Builtin.Int.intBits b>shortFactorBits) && Builtin.Int.intTooBig (Builtin.Int.intBits a+Builtin.Int.intBits b))with
 | true=>exact absurd e h
 | false=>rfl
theorem ZgC{a b:Int}{H:Hp}(h:0≤b∧(Builtin.Int.intBits a:Int)*b≤2 ^ 27): oPow (.int a) (.int b) H=some (.int (a ^ b.toNat),H):=by simp only[oPow];rw[if_pos h]
theorem ZlL(H:Hp): oPow (.int 10) (.int 9) H=some (.int T9,H):=by rw[ZgC (by decide +kernel)];unfold T9;rfl
end PM
end
section
set_option autoImplicit false
namespace PM
open PySem PySem.W PyProof.Rows PyProof
section
variable {prog:Program} {w:World} {Γ:Cx}
end
section
variable {ρ:Lc} {H:Hp} {Q:V→Hp→Prop}
theorem ZhW{a b c:Int}(hc:0<c)(hb:a<b): Builtin.Range.rangeSize a b c=(b-a-1) / c+1:=by
 unfold Builtin.Range.rangeSize
 rw[if_pos hc,if_pos hb]
theorem ZkV{a b c:Int}{H:Hp}(ha:0≤a)(hb:a<b)(hb9:b≤1000)(hc:0<c)(hc9:c≤1000): Zba a b c H=some (ZcT a c (rngN a b c),rngN a b c+1,H):=by
 have e:=ZhW hc hb
 have h0:0≤(b-a-1) / c:=Int.ediv_nonneg (by omega) (by omega)
 have h2:(b-a-1) / c≤b-a-1:=Int.ediv_le_self _ (by omega)
 unfold Zba
 rw[if_pos]
 refine⟨by omega,?_,by omega,by unfold rngN;rw[ZaC];omega,PyProof.noPylong_small (by omega)⟩
 unfold Builtin.Range.small
 rw[e]
 simp only[Builtin.Range.rangeFitsLong,Bool.and_eq_true,Bool.or_eq_true,decide_eq_true_eq,beq_iff_eq]
 rw[if_pos hc]
 simp only[Bool.and_eq_true,decide_eq_true_eq]
 refine⟨⟨⟨⟨?_,?_⟩,?_⟩,?_⟩,?_⟩ <;> first | omega | (left;omega) | (right;omega)
end
end PM
end
section
set_option autoImplicit false
namespace PM
open PySem PySem.W PyProof.Rows PyProof My
section
variable {ρ:Lc} {H:Hp} {Q:V→Hp→Prop} {L:List V→Hp→Prop}
end
noncomputable def od: Option Int→PyData
 | none=>.none
 | some k=>.int k
theorem ZgX{a:Int}{k:Nat}(h:Builtin.Int.intBits a≤k): a.natAbs<2 ^ k:=by
 unfold Builtin.Int.intBits at h
 by_cases z:a=0
 ·subst z
  exact Nat.two_pow_pos k
 ·rw[if_neg (by simpa using z)]at h
  exact Nat.lt_of_lt_of_le Nat.lt_log2_self (Nat.pow_le_pow_right (by decide) h)
theorem Zjn{a b:Int}{k:Nat}(ha:Builtin.Int.intBits a≤k)(hb:Builtin.Int.intBits b≤k): Builtin.Int.intBits (a+b)≤k+1:=by
 refine PyProof.Rows.intBits_le ?_
 have h1:=ZgX ha
 have h2:=ZgX hb
 rw[Nat.pow_succ]
 omega
theorem Zjo{a b:Int}(ha:Builtin.Int.intBits a≤2 ^ 21)(hb:Builtin.Int.intBits b≤2 ^ 21): Zby a b=true:=by
 have e:(2:Nat) ^ 21=2097152:=by decide
 have h:Builtin.Int.intTooBig (Builtin.Int.intBits a+Builtin.Int.intBits b)=false:=by
  unfold Builtin.Int.intTooBig bitsLine
  exact decide_eq_false (by omega)
 unfold Zby
 rw[h]
 simp
theorem Zi6{a b:Int}(h1:-(2 ^ 64)<b)(h2:b<2 ^ 64): Zby a b=true:=Zhf (IntMulOk.of_right (intBits_le_64 h1 h2))
theorem ZiF{a b:Int}(h1:-(2 ^ 64)<a)(h2:a<2 ^ 64): Zby a b=true:=Zhf (IntMulOk.of_left (intBits_le_64 h1 h2))
@[irreducible] noncomputable def M9: Int:=48271 ^ Int.toNat 9
@[irreducible] noncomputable def T40: Int:=10 ^ Int.toNat 40
theorem ZkW(H:Hp): oPow (.int 48271) (.int 9) H=some (.int M9,H):=by rw[ZgC (by decide +kernel)];unfold M9;rfl
theorem ZkX(H:Hp): oPow (.int 10) (.int 40) H=some (.int T40,H):=by rw[ZgC (by decide +kernel)];unfold T40;rfl
theorem ZkY: T40=10000000000000000000000000000000000000000:=by unfold T40;decide +kernel
theorem ZjY: Builtin.Int.intBits M9≤2 ^ 21:=by
 unfold M9
 exact Nat.le_trans (PyProof.Rows.intBits_le (k:=256) (by decide +kernel)) (by decide)
section
variable {H:Hp} {Q:V→Hp→Prop} {a b:Int}
end
end PM
end
section
set_option autoImplicit false
/-! The tree machine: values without places; lists that nobody else holds may be changed. -/
namespace TM
open PySem PM
inductive T where
 | none
 | bool (b:Bool)
 | int (i:Int)
 | str (s:Str)
 | tup (ts:List T)
 | lst (ts:List T)
mutual
inductive RF(H:Hp): V→T→List Nat→Prop where
 | none:RF H .none .none []
 | bool (b:Bool):RF H (.bool b) (.bool b) []
 | int (i:Int):RF H (.int i) (.int i) []
 | str (s:Str):RF H (.str s) (.str s) []
 | tup {vs:List V} {ts:List T} {F:List Nat}:RFs H vs ts F→RF H (.tup vs) (.tup ts) F
 | ref {a:Nat} {vs:List V} {ts:List T} {F:List Nat}:H[a]?=some vs→RFs H vs ts F→RF H (.ref a) (.lst ts) (a::F)
inductive RFs(H:Hp): List V→List T→List Nat→Prop where
 | nil:RFs H [] [] []
 | cons {v:V} {t:T} {F:List Nat} {vs:List V} {ts:List T} {G:List Nat}:RF H v t F→RFs H vs ts G→RFs H (v::vs) (t::ts) (F++G)
end
mutual
theorem RF.frame{H H':Hp}{v:V}{t:T}{F:List Nat}(r:RF H v t F)(h:∀a∈F,H'[a]?=H[a]?): RF H' v t F:=by
 cases r with
 | none=>exact .none
 | bool b=>exact .bool b
 | int i=>exact .int i
 | str s=>exact .str s
 | tup hs=>exact .tup (RFs.frame hs h)
 | ref e hs=>exact .ref ((h _ Zz5).trans e) (RFs.frame hs fun a m=>h a (Zz2 _ m))
theorem RFs.frame{H H':Hp}{vs:List V}{ts:List T}{F:List Nat}(r:RFs H vs ts F)(h:∀a∈F,H'[a]?=H[a]?): RFs H' vs ts F:=by
 cases r with
 | nil=>exact .nil
 | cons a b=>exact .cons (RF.frame a fun x m=>h x (Zz4 _ m)) (RFs.frame b fun x m=>h x (Zz3 _ m))
end
mutual
theorem RF.lt{H:Hp}{v:V}{t:T}{F:List Nat}(r:RF H v t F): ∀a∈F,a<H.length:=by
 cases r with
 | none=>intro a m;cases m
 | bool b=>intro a m;cases m
 | int i=>intro a m;cases m
 | str s=>intro a m;cases m
 | tup hs=>exact RFs.lt hs
 | ref e hs=>
  intro x m
  rcases Zz7.mp m with rfl | m
  ·exact(Zz6.mp e).1
  ·exact RFs.lt hs x m
theorem RFs.lt{H:Hp}{vs:List V}{ts:List T}{F:List Nat}(r:RFs H vs ts F): ∀a∈F,a<H.length:=by
 cases r with
 | nil=>intro a m;cases m
 | cons a b=>
  intro x m
  rcases Zz8.mp m with m | m
  ·exact RF.lt a x m
  ·exact RFs.lt b x m
end
theorem RF.ext{H:Hp}{v:V}{t:T}{F:List Nat}(r:RF H v t F)(X:Hp): RF (H++X) v t F:=r.frame fun a m=>List.getElem?_append_left (r.lt a m)
theorem RFs.ext{H:Hp}{vs:List V}{ts:List T}{F:List Nat}(r:RFs H vs ts F)(X:Hp): RFs (H++X) vs ts F:=r.frame fun a m=>List.getElem?_append_left (r.lt a m)
theorem RFs.length{H:Hp}: ∀{vs:List V} {ts:List T} {F:List Nat},RFs H vs ts F→vs.length=ts.length
 | _,_,_,.nil=>rfl
 | _,_,_,.cons _ r=>by rw[List.length_cons,List.length_cons,r.length]
theorem RFs.append{H:Hp}: ∀{vs us:List V} {ts ss:List T} {F G:List Nat},RFs H vs ts F→RFs H us ss G→RFs H (vs++us) (ts++ss) (F++G)
 | _,_,_,_,_,_,.nil,h=>h
 | _,_,_,_,_,_,.cons a r,h=>by rw[List.append_assoc];exact .cons a (r.append h)
theorem RFs.one{H:Hp}{v:V}{t:T}{F:List Nat}(r:RF H v t F): RFs H [v] [t] F:=by
 have:=RFs.cons r RFs.nil
 rwa [List.append_nil]at this
theorem RFs.snoc{H:Hp}{vs:List V}{ts:List T}{F G:List Nat}{v:V}{t:T}(r:RFs H vs ts F)(x:RF H v t G): RFs H (vs++[v]) (ts++[t]) (F++G):=r.append (.one x)
theorem RFs.at{H:Hp}: ∀{vs:List V} {ts:List T} {F:List Nat} {i:Nat} {t:T},RFs H vs ts F→ts[i]?=some t→∃v G,vs[i]?=some v∧RF H v t G∧G.Sublist F
 | _,_,_,_,_,.nil,e=>by simp at e
 | _,_,_,0,_,.cons a _,e=>by
  simp at e
  exact⟨_,_,by simp,e▸a,List.sublist_append_left _ _⟩
 | _,_,_,i+1,_,.cons _ r,e=>by
  simp at e
  obtain⟨x,G,hx,hr,hs⟩:=r.at e
  exact⟨x,G,by simpa using hx,hr,hs.trans (List.sublist_append_right _ _)⟩
theorem RFs.split{H:Hp}: ∀{vs:List V} {ts:List T} {F:List Nat} {i:Nat} {t:T},RFs H vs ts F→ts[i]?=some t →
  ∃v G F1 F2,vs[i]?=some v∧RF H v t G∧F=F1++(G++F2)∧∀(H':Hp) (w:V) (t':T) (G':List Nat),RF H' w t' G'→(∀a∈F1,H'[a]?=H[a]?)→(∀a∈F2,H'[a]?=H[a]?)→RFs H' (vs.set i w) (ts.set i t') (F1++(G'++F2))
 | _,_,_,_,_,.nil,e=>by simp at e
 | _,_,_,0,_,.cons (G:=G1) a r,e=>by
  simp at e
  subst e
  exact⟨_,_,[],G1,by simp,a,by simp,fun H' w t' G' x _ h2=>by simpa using RFs.cons x (r.frame h2)⟩
 | _,_,_,i+1,_,.cons (F:=F0) a r,e=>by
  simp at e
  obtain⟨v,G,F1,F2,h1,h2,h3,h4⟩:=r.split e
  refine⟨v,G,F0++F1,F2,by simpa using h1,h2,by rw[h3];simp,fun H' w t' G' x k1 k2=>?_⟩
  have:=RFs.cons (a.frame fun b m=>k1 b (Zz4 _ m)) (h4 H' w t' G' x (fun b m=>k1 b (Zz3 _ m)) k2)
  simpa using this
theorem ZfZ{α:Type}{xs:List α}{i:Nat}{x:α}(h:xs[i]?=some x): xs.set i x=xs:=by
 obtain⟨hi,e⟩:=Zz6.mp h
 rw[←e]
 exact List.set_getElem_self hi
theorem nd3{F1 G F2 G' Gn:List Nat}(nd:(F1++(G++F2)).Nodup)(n':G'.Nodup)(sub:∀a∈G',a∈G∨a∈Gn)(ds:∀a∈Gn,a∉F1++(G++F2)): (F1++(G'++F2)).Nodup:=by
 rw[List.nodup_append,List.nodup_append]at nd ⊢
 obtain⟨a1,⟨a2,a3,a4⟩,a5⟩:=nd
 refine⟨a1,⟨n',a3,fun x hx y hy e=>?_⟩,fun x hx y hy e=>?_⟩
 ·rcases sub x hx with m | m
  ·exact a4 x m y hy e
  ·exact ds x m (Zz3 _ (Zz3 _ (e▸hy)))
 ·rcases Zz8.mp hy with m | m
  ·rcases sub y m with q | q
   ·exact a5 x hx y (Zz4 _ q) e
   ·exact ds y q (Zz4 _ (e▸hx))
  ·exact a5 x hx y (Zz3 _ m) e
theorem in3{F1 G F2 G' Gn:List Nat}(sub:∀a∈G',a∈G∨a∈Gn): ∀a∈F1++(G'++F2),a∈F1++(G++F2)∨a∈Gn:=by
 intro a m
 rcases Zz8.mp m with m | m
 ·exact .inl (Zz4 _ m)
 ·rcases Zz8.mp m with m | m
  ·exact(sub a m).imp (fun q=>List.mem_append_right _ (Zz4 _ q)) id
  ·exact .inl (Zz3 _ (Zz3 _ m))
mutual
noncomputable def T.flat: T→Bool
 | .lst _=>false
 | .tup ts=>T.flats ts
 | .none=>true
 | .bool _=>true
 | .int _=>true
 | .str _=>true
noncomputable def T.flats: List T→Bool
 | []=>true
 | t::ts=>t.flat && T.flats ts
end
mutual
theorem RF.flat{H:Hp}{v:V}{t:T}{F:List Nat}(r:RF H v t F)(h:t.flat=true): F=[]:=by
 cases r with
 | none=>rfl
 | bool b=>rfl
 | int i=>rfl
 | str s=>rfl
 | tup hs=>exact RFs.flats hs (by simpa [T.flat]using h)
 | ref e hs=>simp[T.flat]at h
theorem RFs.flats{H:Hp}{vs:List V}{ts:List T}{F:List Nat}(r:RFs H vs ts F)(h:T.flats ts=true): F=[]:=by
 cases r with
 | nil=>rfl
 | cons a b=>
  simp only[T.flats,Bool.and_eq_true]at h
  rw[RF.flat a h.1,RFs.flats b h.2]
  rfl
end
noncomputable def T.flatIn: T→Bool
 | .lst ts=>T.flats ts
 | t=>t.flat
noncomputable def Zbe(f:List T→Option (List T)): List Int→T→Option T
 | [],.lst ts=>(f ts).map .lst
 | k::ks,.lst ts=>(seqIndex? k ts.length).bind fun j=>ts[j]?.bind fun t=>(Zbe f ks t).map fun u=>.lst (ts.set j u)
 | k::ks,.tup ts=>(seqIndex? k ts.length).bind fun j=>ts[j]?.bind fun t=>(Zbe f ks t).map fun u=>.tup (ts.set j u)
 | _,_=>none
inductive Lead(H:Hp): List Int→V→Nat→Prop where
 | nil {a:Nat}:Lead H [] (.ref a) a
 | ref {k:Int} {ks:List Int} {b:Nat} {vs:List V} {j:Nat} {v:V} {a:Nat}:H[b]?=some vs→seqIndex? k vs.length=some j→vs[j]?=some v→Lead H ks v a→Lead H (k::ks) (.ref b) a
 | tup {k:Int} {ks:List Int} {vs:List V} {j:Nat} {v:V} {a:Nat}:seqIndex? k vs.length=some j→vs[j]?=some v→Lead H ks v a→Lead H (k::ks) (.tup vs) a
theorem ZcY{H:Hp}{Gn:List Nat}{f:List T→Option (List T)}: ∀(ks:List Int) {v:V} {t t':T} {F:List Nat},RF H v t F→F.Nodup→(∀a∈Gn,a∉F)→Zbe f ks t=some t' →
  ∃a vs ts ts' G,Lead H ks v a∧a∈F∧H[a]?=some vs∧RFs H vs ts G∧f ts=some ts'∧G.Nodup∧a∉G∧(∀x∈G,x∈F) ∧
   ∀vs' G',RFs H vs' ts' G'→G'.Nodup→a∉G'→(∀x∈G',x∈G∨x∈Gn)→∃F',RF (H.set a vs') v t' F'∧F'.Nodup∧∀x∈F',x∈F∨x∈Gn
 | [],v,t,t',F,r,nd,ds,e=>by
  cases r with
  | @ref a vs ts G e1 hs=>
   obtain⟨ts',h1,h2⟩:=Zz1.mp e
   subst h2
   rw[List.nodup_cons]at nd
   refine⟨a,vs,ts,ts',G,.nil,List.mem_cons_self,e1,hs,h1,nd.2,nd.1,fun x m=>List.mem_cons_of_mem _ m,fun vs' G' r' n' na sub=>⟨a::G',?_,?_,?_⟩⟩
   ·have ha:=(Zz6.mp e1).1
    refine .ref (List.getElem?_set_self ha) (r'.frame fun b m=>List.getElem?_set_ne ?_)
    intro q
    subst q
    exact na m
   ·exact List.nodup_cons.mpr ⟨na,n'⟩
   ·intro x m
    rcases Zz7.mp m with rfl | m
    ·exact .inl Zz5
    ·exact(sub x m).imp (Zz2 _) id
  | none=>cases e
  | bool _=>cases e
  | int _=>cases e
  | str _=>cases e
  | tup _=>cases e
 | k::ks,v,t,t',F,r,nd,ds,e=>by
  cases r with
  | none=>cases e
  | bool _=>cases e
  | int _=>cases e
  | str _=>cases e
  | @tup vs ts _ hs=>
   obtain⟨j,e1,e⟩:=Zz0.mp e
   obtain⟨u,e2,e⟩:=Zz0.mp e
   obtain⟨u',e3,e⟩:=Zz1.mp e
   subst e
   obtain⟨w,G1,F1,F2,e4,g1,eF,rb⟩:=hs.split e2
   subst eF
   have nd1:G1.Nodup:=(List.nodup_append.mp (List.nodup_append.mp nd).2.1).1
   have hin:∀x∈G1,x∈F1++(G1++F2):=fun x m=>List.mem_append_right _ (Zz4 _ m)
   obtain⟨a,us,qs,qs',G,l,am,ea,hq,hf,gn,na,gs,go⟩:=ZcY ks g1 nd1 (fun b m q=>ds b m (hin b q)) e3
   refine⟨a,us,qs,qs',G,.tup (by rw[hs.length];exact e1) e4 l,hin a am,ea,hq,hf,gn,na,fun x m=>hin x (gs x m),fun vs' G' r' n' na' sub=>?_⟩
   obtain⟨G2,f1,f2,f3⟩:=go vs' G' r' n' na' sub
   obtain⟨a1,a2,a5⟩:=List.nodup_append.mp nd
   obtain⟨_,a3,a4⟩:=List.nodup_append.mp a2
   have:=rb (H.set a vs') w u' G2 f1 (fun b m=>List.getElem?_set_ne fun q=>a5 b m a (Zz4 _ am) q.symm) (fun b m=>List.getElem?_set_ne fun q=>a4 a am b m q)
   rw[ZfZ e4]at this
   exact⟨_,.tup this,nd3 nd f2 f3 ds,in3 f3⟩
  | @ref b vs ts F' e0 hs=>
   obtain⟨j,e1,e⟩:=Zz0.mp e
   obtain⟨u,e2,e⟩:=Zz0.mp e
   obtain⟨u',e3,e⟩:=Zz1.mp e
   subst e
   obtain⟨w,G1,F1,F2,e4,g1,eF,rb⟩:=hs.split e2
   subst eF
   rw[List.nodup_cons]at nd
   obtain⟨nb,nd⟩:=nd
   have nd1:G1.Nodup:=(List.nodup_append.mp (List.nodup_append.mp nd).2.1).1
   have hin:∀x∈G1,x∈F1++(G1++F2):=fun x m=>List.mem_append_right _ (Zz4 _ m)
   have ds':∀a∈Gn,a∉F1++(G1++F2):=fun a m q=>ds a m (Zz2 _ q)
   obtain⟨a,us,qs,qs',G,l,am,ea,hq,hf,gn,na,gs,go⟩:=ZcY ks g1 nd1 (fun b m q=>ds' b m (hin b q)) e3
   refine⟨a,us,qs,qs',G,.ref e0 (by rw[hs.length];exact e1) e4 l,List.mem_cons_of_mem _ (hin a am),ea,hq,hf,gn,na,fun x m=>List.mem_cons_of_mem _ (hin x (gs x m)),fun vs' G' r' n' na' sub=>?_⟩
   obtain⟨G2,f1,f2,f3⟩:=go vs' G' r' n' na' sub
   obtain⟨a1,a2,a5⟩:=List.nodup_append.mp nd
   obtain⟨_,a3,a4⟩:=List.nodup_append.mp a2
   have:=rb (H.set a vs') w u' G2 f1 (fun b m=>List.getElem?_set_ne fun q=>a5 b m a (Zz4 _ am) q.symm) (fun b m=>List.getElem?_set_ne fun q=>a4 a am b m q)
   rw[ZfZ e4]at this
   have hab:a≠b:=fun q=>nb (hin b (q▸am))
   refine⟨_,.ref ((List.getElem?_set_ne hab).trans e0) this,List.nodup_cons.mpr ⟨fun q=>?_,nd3 nd f2 f3 ds'⟩,fun x m=>?_⟩
   ·rcases in3 f3 b q with m | m
    ·exact nb m
    ·exact ds b m Zz5
   ·rcases Zz7.mp m with rfl | m
    ·exact .inl Zz5
    ·exact(in3 f3 x m).imp (Zz2 _) id
end TM
end
section
set_option autoImplicit false
namespace TM
open PySem PM
noncomputable abbrev TL:=Nat→Option T
noncomputable abbrev PE:=TL→Option T
noncomputable abbrev PEs:=TL→Option (List T)
noncomputable abbrev PB:=TL→Option Bool
noncomputable abbrev PG:=TL→Option (List T)
noncomputable def ZF(σ:TL)(i:Nat)(t:T): TL:=fun j=>if j=i then some t else σ j
structure Ctx where
 H0:Hp
 F0:List Nat
 P:Nat→Prop
structure St(c:Ctx)(O:List Nat)(ρ:Lc)(σ:TL)(H:Hp)(Φ:Nat→List Nat): Prop where
 slot:∀i t,σ i=some t→∃v,ρ i=some v∧RF H v t (Φ i)
 src:∀i t,σ i=some t→∀a∈Φ i,c.H0.length≤a∨c.P a
 own:∀i∈O,∀t,σ i=some t→(Φ i).Nodup∧(∀a∈Φ i,c.H0.length≤a∨a∈c.F0)∧∀j u,j≠i→σ j=some u→∀a∈Φ i,a∉Φ j
 len:c.H0.length≤H.length
 keep:∀a,a<c.H0.length→a∉c.F0→H[a]?=c.H0[a]?
 pos:0<c.H0.length
 f0:0∉c.F0
theorem St.ext{c:Ctx}{O:List Nat}{ρ:Lc}{σ:TL}{H:Hp}{Φ:Nat→List Nat}(s:St c O ρ σ H Φ)(X:Hp): St c O ρ σ (H++X) Φ:=
 ⟨fun i t e=>by obtain⟨v,h1,h2⟩:=s.slot i t e;exact⟨v,h1,h2.ext X⟩,s.src,s.own,by have:=s.len;rw[List.length_append];omega,fun a ha hn=>by
  rw[List.getElem?_append_left (Nat.lt_of_lt_of_le ha s.len)];exact s.keep a ha hn,s.pos,s.f0⟩
theorem St.less{c:Ctx}{O O':List Nat}{ρ:Lc}{σ:TL}{H:Hp}{Φ:Nat→List Nat}(s:St c O ρ σ H Φ)(h:∀i∈O',i∈O): St c O' ρ σ H Φ:=⟨s.slot,s.src,fun i hi=>s.own i (h i hi),s.len,s.keep,s.pos,s.f0⟩
noncomputable def From(H:Hp)(N:List Nat)(σ:TL)(Φ:Nat→List Nat)(a:Nat): Prop:=H.length≤a∨∃i∈N,(∃t,σ i=some t)∧a∈Φ i
theorem From.mono{H:Hp}{N N':List Nat}{σ:TL}{Φ:Nat→List Nat}{a:Nat}(f:From H N σ Φ a)(h:∀i∈N,i∈N'): From H N' σ Φ a:=f.imp id fun⟨i,hi,q⟩=>⟨i,h i hi,q⟩
theorem From.back{H X:Hp}{N:List Nat}{σ:TL}{Φ:Nat→List Nat}{a:Nat}(f:From (H++X) N σ Φ a): From H N σ Φ a:=f.imp (fun h=>by rw[List.length_append]at h;omega) id
theorem From.nil{H:Hp}{σ:TL}{Φ:Nat→List Nat}{a:Nat}(f:From H [] σ Φ a): H.length≤a:=f.elim id fun⟨_,hi,_⟩=>by cases hi
noncomputable def E(O N:List Nat)(u:Bool)(e:Ex)(p:PE): Prop:=∀(c:Ctx) (ρ:Lc) (σ:TL) (H:Hp) (Φ:Nat→List Nat) (t:T),St c O ρ σ H Φ→p σ=some t →
 ∃v X F,e ρ H=some (v,H++X)∧RF (H++X) v t F∧(∀a∈F,From H N σ Φ a)∧(u=true→F.Nodup)
noncomputable def Es(O N:List Nat)(u:Bool)(n:Nat)(e:Exs)(p:PEs): Prop:=∀(c:Ctx) (ρ:Lc) (σ:TL) (H:Hp) (Φ:Nat→List Nat) (ts:List T),St c O ρ σ H Φ→p σ=some ts →
 ts.length=n∧∃vs X F,e ρ H=some (vs,H++X)∧RFs (H++X) vs ts F∧(∀a∈F,From H N σ Φ a)∧(u=true→F.Nodup)
noncomputable def Bt(O:List Nat)(e:Ts)(p:PB): Prop:=∀(c:Ctx) (ρ:Lc) (σ:TL) (H:Hp) (Φ:Nat→List Nat) (b:Bool),St c O ρ σ H Φ→p σ=some b→∃X,e ρ H=some (b,H++X)
section
variable {O N:List Nat} {u:Bool}
theorem Zbp{O':List Nat}{e:Ex}{p:PE}(x:E O' N u e p)(h:∀i∈O',i∈O:=by decide): E O N u e p:=fun c ρ σ H Φ t s=>x c ρ σ H Φ t (s.less h)
theorem E.sh{e:Ex}{p:PE}(x:E O N u e p): E O N false e p:=fun c ρ σ H Φ t s q=>by
 obtain⟨v,X,F,a1,a2,a3,a4⟩:=x c ρ σ H Φ t s q
 exact⟨v,X,F,a1,a2,a3,by simp⟩
noncomputable def Zh(k:Int): PE:=fun _=>some (.int k)
noncomputable def Zaa: PE:=fun _=>some .none
noncomputable def ZaF(b:Bool): PE:=fun _=>some (.bool b)
noncomputable def Zb(i:Nat): PE:=fun σ=>σ i
theorem Zl(k:Int): E O [] true (Zj k) (Zh k):=fun c ρ σ H Φ t s q=>by
 cases q;exact⟨_,[],[],by simp[Zj],.int k,by simp,by simp⟩
theorem Zad: E O [] true Z8 Zaa:=fun c ρ σ H Φ t s q=>by
 cases q;exact⟨_,[],[],by simp[Z8],.none,by simp,by simp⟩
theorem E.bool(k:Bool): E O [] true (Zax k) (ZaF k):=fun c ρ σ H Φ t s q=>by
 cases q;exact⟨_,[],[],by simp[Zax],.bool k,by simp,by simp⟩
theorem Zc(i:Nat): E O [i] false (Za i) (Zb i):=fun c ρ σ H Φ t s q=>by
 obtain⟨v,h1,h2⟩:=s.slot i t q
 exact⟨v,[],Φ i,by simp[Za,h1],by simpa using h2,fun a m=>.inr ⟨i,List.mem_cons_self,⟨t,q⟩,m⟩,by simp⟩
theorem E.own{i:Nat}(hi:i∈O): E O [i] true (Za i) (Zb i):=fun c ρ σ H Φ t s q=>by
 obtain⟨v,h1,h2⟩:=s.slot i t q
 exact⟨v,[],Φ i,by simp[Za,h1],by simpa using h2,fun a m=>.inr ⟨i,List.mem_cons_self,⟨t,q⟩,m⟩,fun _=>(s.own i hi t q).1⟩
noncomputable def Zb6(p:PE): PE:=fun σ=>(p σ).bind fun t=>if t.flat then some t else none
theorem E.flat{e:Ex}{p:PE}(x:E O N u e p): E O [] true e (Zb6 p):=fun c ρ σ H Φ t s q=>by
 obtain⟨t',e1,e2⟩:=Zz0.mp q
 by_cases h:t'.flat=true
 ·rw[if_pos h]at e2
  cases e2
  obtain⟨v,X,F,a1,a2,a3,a4⟩:=x c ρ σ H Φ t s e1
  have:=a2.flat h
  subst this
  exact⟨v,X,[],a1,a2,by simp,by simp⟩
 ·rw[if_neg h]at e2;cases e2
noncomputable def Zm: PEs:=fun _=>some []
noncomputable def Zg(p:PE)(q:PEs): PEs:=fun σ=>(p σ).bind fun t=>(q σ).bind fun ts=>some (t::ts)
theorem Zo: Es O [] true 0 Zn Zm:=fun c ρ σ H Φ ts s q=>by
 cases q;exact⟨rfl,[],[],[],by simp[Zn],.nil,by simp,by simp⟩
theorem Zk{M:List Nat}{u':Bool}{n:Nat}{e:Ex}{p:PE}{es:Exs}{ps:PEs}(x:E O N u e p)(y:Es O M u' n es ps): Es O (N++M) false (n+1) (Zf e es) (Zg p ps):=fun c ρ σ H Φ ts s q=>by
 obtain⟨t,e1,q⟩:=Zz0.mp q
 obtain⟨rs,e2,q⟩:=Zz0.mp q
 cases q
 obtain⟨v,X,F,a1,a2,a3,a4⟩:=x c ρ σ H Φ t s e1
 obtain⟨hl,vs,Y,G,b1,b2,b3,b4⟩:=y c ρ σ (H++X) Φ rs (s.ext X) e2
 refine⟨by simp[hl],v::vs,X++Y,F++G,by simp[Zf,a1,b1],?_,fun a m=>?_,by simp⟩
 ·rw[←List.append_assoc];exact .cons (a2.ext Y) b2
 ·rcases Zz8.mp m with m | m
  ·exact(a3 a m).mono fun i hi=>List.mem_append_left _ hi
  ·exact(b3 a m).back.mono fun i hi=>List.mem_append_right _ hi
theorem ZaP{M:List Nat}{n:Nat}{e:Ex}{p:PE}{es:Exs}{ps:PEs}(x:E O N true e p)(y:Es O M true n es ps)(hN:∀i∈N,i∈O)(hM:∀i∈N,i∉M): Es O (N++M) true (n+1) (Zf e es) (Zg p ps):=fun c ρ σ H Φ ts s q=>by
 obtain⟨t,e1,q⟩:=Zz0.mp q
 obtain⟨rs,e2,q⟩:=Zz0.mp q
 cases q
 obtain⟨v,X,F,a1,a2,a3,a4⟩:=x c ρ σ H Φ t s e1
 obtain⟨hl,vs,Y,G,b1,b2,b3,b4⟩:=y c ρ σ (H++X) Φ rs (s.ext X) e2
 refine⟨by simp[hl],v::vs,X++Y,F++G,by simp[Zf,a1,b1],?_,fun a m=>?_,fun _=>?_⟩
 ·rw[←List.append_assoc];exact .cons (a2.ext Y) b2
 ·rcases Zz8.mp m with m | m
  ·exact(a3 a m).mono fun i hi=>List.mem_append_left _ hi
  ·exact(b3 a m).back.mono fun i hi=>List.mem_append_right _ hi
 ·rw[List.nodup_append]
  refine⟨a4 rfl,b4 rfl,fun a ha b hb e=>?_⟩
  subst e
  have hlt:=a2.lt a ha
  rcases b3 a hb with h | ⟨j,hj,⟨tj,ej⟩,mj⟩
  ·omega
  ·obtain⟨vj,_,rj⟩:=s.slot j tj ej
   have:=rj.lt a mj
   rcases a3 a ha with h | ⟨i,hi,⟨ti,ei⟩,mi⟩
   ·omega
   ·exact(s.own i (hN i hi) ti ei).2.2 j tj (fun q=>hM i hi (q▸hj)) ej a mi mj
noncomputable def Za7(p:PEs): PE:=fun σ=>(p σ).map .tup
noncomputable def ZbF(p:PEs): PE:=fun σ=>(p σ).map .lst
theorem E.tup{n:Nat}{e:Exs}{p:PEs}(x:Es O N u n e p)(hn:n≤ZZ:=by decide): E O N u (Zbl e) (Za7 p):=fun c ρ σ H Φ t s q=>by
 obtain⟨ts,e1,e2⟩:=Zz1.mp q
 subst e2
 obtain⟨hl,vs,Y,G,b1,b2,b3,b4⟩:=x c ρ σ H Φ ts s e1
 have:=b2.length
 refine⟨.tup vs,Y,G,?_,.tup b2,b3,b4⟩
 simp only[Zbl,b1,Option.bind_some]
 rw[if_pos (by omega)]
theorem E.list{n:Nat}{e:Exs}{p:PEs}(x:Es O N u n e p)(hn:n≤ZZ:=by decide): E O N u (ZbP e) (ZbF p):=fun c ρ σ H Φ t s q=>by
 obtain⟨ts,e1,e2⟩:=Zz1.mp q
 subst e2
 obtain⟨hl,vs,Y,G,b1,b2,b3,b4⟩:=x c ρ σ H Φ ts s e1
 have:=b2.length
 refine⟨.ref (H++Y).length,Y++[vs],(H++Y).length::G,?_,?_,fun a m=>?_,fun hu=>?_⟩
 ·simp only[ZbP,b1,Option.bind_some]
  rw[if_pos (by omega),List.append_assoc]
 ·rw[←List.append_assoc];exact .ref (by simp) (b2.ext _)
 ·rcases Zz7.mp m with rfl | m
  ·exact .inl (by simp)
  ·exact b3 a m
 ·rw[List.nodup_cons]
  exact⟨fun m=>Nat.lt_irrefl _ (b2.lt _ m),b4 hu⟩
noncomputable def OA2(o:V→V→Hp→Option (V×Hp))(q:T→T→Option T): Prop:=∀(H:Hp) (v1 v2:V) (t1 t2 t:T) (F1 F2:List Nat),RF H v1 t1 F1→RF H v2 t2 F2→q t1 t2=some t→∃v,o v1 v2 H=some (v,H)∧RF H v t []
noncomputable def OI2(o:V→V→Hp→Option (V×Hp))(q:T→T→Option T): Prop:=∀(H:Hp) (v1 v2:V) (t1 t2 t:T) (F1 F2:List Nat),RF H v1 t1 F1→RF H v2 t2 F2→q t1 t2=some t→∃v F,o v1 v2 H=some (v,H)∧RF H v t F∧F.Sublist F1
noncomputable def OC2(o:V→V→Hp→Option (V×Hp))(q:T→T→Option T): Prop:=∀(H:Hp) (v1 v2:V) (t1 t2 t:T) (F1 F2:List Nat),RF H v1 t1 F1→RF H v2 t2 F2→q t1 t2=some t→∃v X F,o v1 v2 H=some (v,H++X)∧RF (H++X) v t F∧(∀a∈F,H.length≤a∨a∈F1∨a∈F2)∧(t.flatIn=true→F.Nodup∧∀a∈F,H.length≤a)
noncomputable def OAn(o:List V→Hp→Option (V×Hp))(q:List T→Option T): Prop:=∀(H:Hp) (vs:List V) (ts:List T) (t:T) (F:List Nat),RFs H vs ts F→q ts=some t→∃v,o vs H=some (v,H)∧RF H v t []
noncomputable def OCn(o:List V→Hp→Option (V×Hp))(q:List T→Option T): Prop:=∀(H:Hp) (vs:List V) (ts:List T) (t:T) (F1:List Nat),0<H.length→RFs H vs ts F1→q ts=some t→∃v X F,o vs H=some (v,H++X)∧RF (H++X) v t F∧(∀a∈F,H.length≤a∨a∈F1)∧(t.flatIn=true→F.Nodup∧∀a∈F,H.length≤a)
noncomputable def Ze(q:T→T→Option T)(p1 p2:PE): PE:=fun σ=>(p1 σ).bind fun x=>(p2 σ).bind fun y=>q x y
noncomputable def Zu(q:List T→Option T)(ps:PEs): PE:=fun σ=>(ps σ).bind fun xs=>q xs
noncomputable def pFl(p:PE): PE:=fun σ=>(p σ).bind fun t=>if t.flatIn then some t else none
theorem ZfT{M:List Nat}{u':Bool}{e1 e2:Ex}{p1 p2:PE}{q:T→T→Option T}{o:V→V→Hp→Option (V×Hp)}{c:Ctx}{ρ:Lc}{σ:TL}{H:Hp}{Φ:Nat→List Nat}{t:T}(x:E O N u e1 p1)(y:E O M u' e2 p2)(s:St c O ρ σ H Φ)(h:Ze q p1 p2 σ=some t):
  ∃t1 t2 v1 v2 X F1 F2,q t1 t2=some t∧RF (H++X) v1 t1 F1∧RF (H++X) v2 t2 F2∧(∀a∈F1,From H N σ Φ a)∧(∀a∈F2,From H M σ Φ a)∧(u=true→F1.Nodup)∧Zd o e1 e2 ρ H=o v1 v2 (H++X):=by
 obtain⟨t1,h1,h⟩:=Zz0.mp h
 obtain⟨t2,h2,h⟩:=Zz0.mp h
 obtain⟨v,X,F,a1,a2,a3,a4⟩:=x c ρ σ H Φ t1 s h1
 obtain⟨w,Y,G,b1,b2,b3,b4⟩:=y c ρ σ (H++X) Φ t2 (s.ext X) h2
 rw[List.append_assoc]at b1 b2
 refine⟨t1,t2,v,w,X++Y,F,G,h,?_,b2,a3,fun a m=>(b3 a m).back,a4,by simp only[Zd,a1,b1,Option.bind_some]⟩
 rw[←List.append_assoc];exact a2.ext Y
theorem Zs{M:List Nat}{u':Bool}{e1 e2:Ex}{p1 p2:PE}{q:T→T→Option T}{o:V→V→Hp→Option (V×Hp)}(k:OA2 o q)(x:E O N u e1 p1)(y:E O M u' e2 p2): E O [] true (Zd o e1 e2) (Ze q p1 p2):=fun c ρ σ H Φ t s h=>by
 obtain⟨t1,t2,v1,v2,X,F1,F2,hq,r1,r2,_,_,_,e⟩:=ZfT (o:=o) x y s h
 obtain⟨v,h1,h2⟩:=k _ v1 v2 t1 t2 t F1 F2 r1 r2 hq
 exact⟨v,X,[],e.trans h1,h2,by simp,by simp⟩
theorem ZB{M:List Nat}{u':Bool}{e1 e2:Ex}{p1 p2:PE}{q:T→T→Option T}{o:V→V→Hp→Option (V×Hp)}(k:OI2 o q)(x:E O N u e1 p1)(y:E O M u' e2 p2): E O N u (Zd o e1 e2) (Ze q p1 p2):=fun c ρ σ H Φ t s h=>by
 obtain⟨t1,t2,v1,v2,X,F1,F2,hq,r1,r2,h1,_,hu,e⟩:=ZfT (o:=o) x y s h
 obtain⟨v,F,k1,k2,k3⟩:=k _ v1 v2 t1 t2 t F1 F2 r1 r2 hq
 exact⟨v,X,F,e.trans k1,k2,fun a m=>h1 a (k3.subset m),fun h=>(hu h).sublist k3⟩
theorem Z0{M:List Nat}{u':Bool}{e1 e2:Ex}{p1 p2:PE}{q:T→T→Option T}{o:V→V→Hp→Option (V×Hp)}(k:OC2 o q)(x:E O N u e1 p1)(y:E O M u' e2 p2): E O (N++M) false (Zd o e1 e2) (Ze q p1 p2):=fun c ρ σ H Φ t s h=>by
 obtain⟨t1,t2,v1,v2,X,F1,F2,hq,r1,r2,h1,h2,hu,e⟩:=ZfT (o:=o) x y s h
 obtain⟨v,Y,F,k1,k2,k3,k4⟩:=k _ v1 v2 t1 t2 t F1 F2 r1 r2 hq
 rw[List.append_assoc]at k1 k2
 refine⟨v,X++Y,F,e.trans k1,k2,fun a m=>?_,by simp⟩
 rcases k3 a m with h | h | h
 ·exact .inl (by rw[List.length_append]at h;omega)
 ·exact(h1 a h).mono fun i hi=>List.mem_append_left _ hi
 ·exact(h2 a h).mono fun i hi=>List.mem_append_right _ hi
theorem ZaA{n:Nat}{es:Exs}{ps:PEs}{q:List T→Option T}{o:List V→Hp→Option (V×Hp)}(k:OAn o q)(x:Es O N u n es ps): E O [] true (Zr o es) (Zu q ps):=fun c ρ σ H Φ t s h=>by
 obtain⟨ts,h1,h⟩:=Zz0.mp h
 obtain⟨_,vs,X,F,a1,a2,a3,a4⟩:=x c ρ σ H Φ ts s h1
 obtain⟨w,b1,b2⟩:=k _ vs ts t F a2 h
 exact⟨w,X,[],by simp only[Zr,a1,Option.bind_some,b1],b2,by simp,by simp⟩
theorem Zhu{n:Nat}{es:Exs}{ps:PEs}{q:List T→Option T}{o:List V→Hp→Option (V×Hp)}(k:OCn o q)(x:Es O N u n es ps): E O N false (Zr o es) (Zu q ps):=fun c ρ σ H Φ t s h=>by
 obtain⟨ts,h1,h⟩:=Zz0.mp h
 obtain⟨_,vs,X,F,a1,a2,a3,a4⟩:=x c ρ σ H Φ ts s h1
 have hp:0<(H++X).length:=by have:=s.pos;have:=s.len;rw[List.length_append];omega
 obtain⟨w,Y,G,b1,b2,b3,b4⟩:=k _ vs ts t F hp a2 h
 rw[List.append_assoc]at b1 b2
 refine⟨w,X++Y,G,by simp only[Zr,a1,Option.bind_some,b1],b2,fun a m=>?_,by simp⟩
 rcases b3 a m with h | h
 ·exact .inl (by rw[List.length_append]at h;omega)
 ·exact a3 a h
theorem Zdx{n:Nat}{es:Exs}{ps:PEs}{q:List T→Option T}{o:List V→Hp→Option (V×Hp)}(k:OCn o q)(x:Es O N u n es ps): E O [] true (Zr o es) (pFl (Zu q ps)):=fun c ρ σ H Φ t s h=>by
 obtain⟨t',h,hf⟩:=Zz0.mp h
 by_cases fl:t'.flatIn=true
 ·rw[if_pos fl]at hf
  cases hf
  obtain⟨ts,h1,h⟩:=Zz0.mp h
  obtain⟨_,vs,X,F,a1,a2,a3,a4⟩:=x c ρ σ H Φ ts s h1
  have hp:0<(H++X).length:=by have:=s.pos;have:=s.len;rw[List.length_append];omega
  obtain⟨w,Y,G,b1,b2,b3,b4⟩:=k _ vs ts t F hp a2 h
  rw[List.append_assoc]at b1 b2
  exact⟨w,X++Y,G,by simp only[Zr,a1,Option.bind_some,b1],b2,fun a m=>.inl (by have:=(b4 fl).2 a m;rw[List.length_append]at this;omega),fun _=>(b4 fl).1⟩
 ·rw[if_neg fl]at hf;cases hf
noncomputable def SimF(fr:Bool)(f:List V→Hp→Option (V×Hp))(p:List T→Option T): Prop:=∀(H:Hp) (vs:List V) (ts:List T) (t:T) (F1:List Nat),0<H.length→RFs H vs ts F1→p ts=some t→∃v X F,f vs H=some (v,H++X)∧RF (H++X) v t F∧(∀a∈F,H.length≤a∨a∈F1)∧(fr=true→F.Nodup∧∀a∈F,H.length≤a)
theorem Z5{fr:Bool}{n:Nat}{es:Exs}{ps:PEs}{q:List T→Option T}{o:List V→Hp→Option (V×Hp)}(k:SimF fr o q)(x:Es O N u n es ps): E O N false (Zr o es) (Zu q ps):=fun c ρ σ H Φ t s h=>by
 obtain⟨ts,h1,h⟩:=Zz0.mp h
 obtain⟨_,vs,X,F,a1,a2,a3,a4⟩:=x c ρ σ H Φ ts s h1
 have hp:0<(H++X).length:=by have:=s.pos;have:=s.len;rw[List.length_append];omega
 obtain⟨w,Y,G,b1,b2,b3,b4⟩:=k _ vs ts t F hp a2 h
 rw[List.append_assoc]at b1 b2
 refine⟨w,X++Y,G,by simp only[Zr,a1,Option.bind_some,b1],b2,fun a m=>?_,by simp⟩
 rcases b3 a m with h | h
 ·exact .inl (by rw[List.length_append]at h;omega)
 ·exact a3 a h
theorem Zcl{n:Nat}{es:Exs}{ps:PEs}{q:List T→Option T}{o:List V→Hp→Option (V×Hp)}(k:SimF true o q)(x:Es O N u n es ps): E O [] true (Zr o es) (Zu q ps):=fun c ρ σ H Φ t s h=>by
 obtain⟨ts,h1,h⟩:=Zz0.mp h
 obtain⟨_,vs,X,F,a1,a2,a3,a4⟩:=x c ρ σ H Φ ts s h1
 have hp:0<(H++X).length:=by have:=s.pos;have:=s.len;rw[List.length_append];omega
 obtain⟨w,Y,G,b1,b2,b3,b4⟩:=k _ vs ts t F hp a2 h
 rw[List.append_assoc]at b1 b2
 exact⟨w,X++Y,G,by simp only[Zr,a1,Option.bind_some,b1],b2,fun a m=>.inl (by have:=(b4 rfl).2 a m;rw[List.length_append]at this;omega),fun _=>(b4 rfl).1⟩
noncomputable def Zbg: T→Option Bool
 | .bool b=>some b
 | .none=>some false
 | .int i=>some (i != 0)
 | _=>none
theorem Zce{H:Hp}{v:V}{t:T}{F:List Nat}{b:Bool}(r:RF H v t F)(h:Zbg t=some b): Zcg v H=some b:=by
 cases r <;> first | (cases h;rfl) | cases h
noncomputable def ZH(p:PE): PB:=fun σ=>(p σ).bind Zbg
noncomputable def ZaJ(p:PB): PB:=fun σ=>(p σ).map fun b=>!b
noncomputable def Zal: PB:=fun _=>some true
noncomputable def Zbh: PB:=fun _=>some false
noncomputable def ZbD(p q:PB): PB:=fun σ=>(p σ).bind fun b=>if b then q σ else some false
noncomputable def bOr(p q:PB): PB:=fun σ=>(p σ).bind fun b=>if b then some true else q σ
theorem ZJ{e:Ex}{p:PE}(x:E O N u e p): Bt O (ZG e) (ZH p):=fun c ρ σ H Φ b s h=>by
 obtain⟨t,h1,h⟩:=Zz0.mp h
 obtain⟨v,X,F,a1,a2,a3,a4⟩:=x c ρ σ H Φ t s h1
 exact⟨X,by simp only[ZG,a1,Option.bind_some,Zce a2 h,Option.map_some]⟩
theorem Za2{e:Ts}{p:PB}(x:Bt O e p): Bt O (ZaI e) (ZaJ p):=fun c ρ σ H Φ b s h=>by
 obtain⟨t,h1,h⟩:=Zz1.mp h
 subst h
 obtain⟨X,a1⟩:=x c ρ σ H Φ t s h1
 exact⟨X,by simp only[ZaI,a1,Option.map_some]⟩
theorem Zbb: Bt O Zaq Zal:=fun c ρ σ H Φ b s h=>by
 cases h;exact⟨[],by simp[Zaq]⟩
theorem Zbs: Bt O Zbc Zbh:=fun c ρ σ H Φ b s h=>by
 cases h;exact⟨[],by simp[Zbc]⟩
theorem Zci{e f:Ts}{p q:PB}(x:Bt O e p)(y:Bt O f q): Bt O (ZbB e f) (ZbD p q):=fun c ρ σ H Φ b s h=>by
 obtain⟨t,h1,h⟩:=Zz0.mp h
 obtain⟨X,a1⟩:=x c ρ σ H Φ t s h1
 cases t with
 | true=>
  obtain⟨Y,b1⟩:=y c ρ σ (H++X) Φ b (s.ext X) (by simpa using h)
  exact⟨X++Y,by simp[ZbB,a1,b1]⟩
 | false=>cases h;exact⟨X,by simp[ZbB,a1]⟩
theorem Zaj{e f:Ts}{p q:PB}(x:Bt O e p)(y:Bt O f q): Bt O (tOr e f) (bOr p q):=fun c ρ σ H Φ b s h=>by
 obtain⟨t,h1,h⟩:=Zz0.mp h
 obtain⟨X,a1⟩:=x c ρ σ H Φ t s h1
 cases t with
 | false=>
  obtain⟨Y,b1⟩:=y c ρ σ (H++X) Φ b (s.ext X) (by simpa using h)
  exact⟨X++Y,by simp[tOr,a1,b1]⟩
 | true=>cases h;exact⟨X,by simp[tOr,a1]⟩
noncomputable def pIf(b:PB)(p q:PE): PE:=fun σ=>(b σ).bind fun x=>if x then p σ else q σ
noncomputable def ZeR(p:PE): PE:=fun σ=>(p σ).bind fun t=>(Zbg t).map fun b=>.bool !b
noncomputable def ZbU(p q:PE): PE:=fun σ=>(p σ).bind fun t=>(Zbg t).bind fun b=>if b then q σ else some t
noncomputable def pOr(p q:PE): PE:=fun σ=>(p σ).bind fun t=>(Zbg t).bind fun b=>if b then some t else q σ
theorem ZlM{M:List Nat}{b:Ts}{pb:PB}{e f:Ex}{p q:PE}(z:Bt O b pb)(x:E O N u e p)(y:E O M u f q): E O (N++M) u (eIf b e f) (pIf pb p q):=fun c ρ σ H Φ t s h=>by
 obtain⟨b',h1,h⟩:=Zz0.mp h
 obtain⟨X,a1⟩:=z c ρ σ H Φ b' s h1
 cases b' with
 | true=>
  obtain⟨v,Y,F,b1,b2,b3,b4⟩:=x c ρ σ (H++X) Φ t (s.ext X) (by simpa using h)
  exact⟨v,X++Y,F,by simp[eIf,a1,b1],by rw[←List.append_assoc];exact b2,fun a m=>(b3 a m).back.mono fun i hi=>List.mem_append_left _ hi,b4⟩
 | false=>
  obtain⟨v,Y,F,b1,b2,b3,b4⟩:=y c ρ σ (H++X) Φ t (s.ext X) (by simpa using h)
  exact⟨v,X++Y,F,by simp[eIf,a1,b1],by rw[←List.append_assoc];exact b2,fun a m=>(b3 a m).back.mono fun i hi=>List.mem_append_right _ hi,b4⟩
theorem ZlN{e:Ex}{p:PE}(x:E O N u e p): E O [] true (ZeP e) (ZeR p):=fun c ρ σ H Φ t s h=>by
 obtain⟨t1,h1,h⟩:=Zz0.mp h
 obtain⟨b,h2,h⟩:=Zz1.mp h
 subst h
 obtain⟨v,X,F,a1,a2,a3,a4⟩:=x c ρ σ H Φ t1 s h1
 exact⟨.bool !b,X,[],by simp only[ZeP,a1,Option.bind_some,Zce a2 h2,Option.map_some],.bool _,by simp,by simp⟩
theorem Zc4{M:List Nat}{e f:Ex}{p q:PE}(x:E O N u e p)(y:E O M u f q): E O (N++M) u (ZbS e f) (ZbU p q):=fun c ρ σ H Φ t s h=>by
 obtain⟨t1,h1,h⟩:=Zz0.mp h
 obtain⟨b,h2,h⟩:=Zz0.mp h
 obtain⟨v,X,F,a1,a2,a3,a4⟩:=x c ρ σ H Φ t1 s h1
 cases b with
 | true=>
  obtain⟨w,Y,F',b1,b2,b3,b4⟩:=y c ρ σ (H++X) Φ t (s.ext X) (by simpa using h)
  exact⟨w,X++Y,F',by simp[ZbS,a1,Zce a2 h2,b1],by rw[←List.append_assoc];exact b2,fun a m=>(b3 a m).back.mono fun i hi=>List.mem_append_right _ hi,b4⟩
 | false=>
  cases h
  exact⟨v,X,F,by simp[ZbS,a1,Zce a2 h2],a2,fun a m=>(a3 a m).mono fun i hi=>List.mem_append_left _ hi,a4⟩
theorem Zl7{M:List Nat}{e f:Ex}{p q:PE}(x:E O N u e p)(y:E O M u f q): E O (N++M) u (eOr e f) (pOr p q):=fun c ρ σ H Φ t s h=>by
 obtain⟨t1,h1,h⟩:=Zz0.mp h
 obtain⟨b,h2,h⟩:=Zz0.mp h
 obtain⟨v,X,F,a1,a2,a3,a4⟩:=x c ρ σ H Φ t1 s h1
 cases b with
 | false=>
  obtain⟨w,Y,F',b1,b2,b3,b4⟩:=y c ρ σ (H++X) Φ t (s.ext X) (by simpa using h)
  exact⟨w,X++Y,F',by simp[eOr,a1,Zce a2 h2,b1],by rw[←List.append_assoc];exact b2,fun a m=>(b3 a m).back.mono fun i hi=>List.mem_append_right _ hi,b4⟩
 | true=>
  cases h
  exact⟨v,X,F,by simp[eOr,a1,Zce a2 h2],a2,fun a m=>(a3 a m).mono fun i hi=>List.mem_append_left _ hi,a4⟩
noncomputable def Zgb: T→String
 | .none=>"NoneType"
 | .bool _=>"bool"
 | .int _=>"int"
 | .str _=>"str"
 | .tup _=>"tuple"
 | .lst _=>"list"
end
end TM
end
section
set_option autoImplicit false
namespace TM
open PySem PM
section
variable {O N:List Nat} {u:Bool}
noncomputable def Zeu(K:String)(t:T): Bool:=Zgb t == K || (K == "int" && Zgb t == "bool")
noncomputable def pIs(K:String)(p:PE): PE:=fun σ=>(p σ).map fun t=>.bool (Zeu K t)
theorem ZjZ{H:Hp}{v:V}{t:T}{F:List Nat}(r:RF H v t F): Zga v=Zgb t:=by cases r <;> rfl
theorem Zb7{K:String}{e:Ex}{p:PE}(x:E O N u e p): E O [] true (eIs K e) (pIs K p):=fun c ρ σ H Φ t s h=>by
 obtain⟨t1,h1,h⟩:=Zz1.mp h
 subst h
 obtain⟨v,X,F,a1,a2,a3,a4⟩:=x c ρ σ H Φ t1 s h1
 exact⟨.bool (Zeu K t1),X,[],by simp only[eIs,a1,Option.map_some,Zgt,Zeu,ZjZ a2],.bool _,by simp,by simp⟩
noncomputable def Zda: T→T→Option T
 | .int a,.int b=>some (.int (a-b))
 | _,_=>none
noncomputable def ZcM: T→T→Option T
 | .int a,.int b=>if b≠0∧Builtin.divisionGoesByPylong a b=false then some (.int (a.fdiv b))else none
 | _,_=>none
noncomputable def Zaz: T→T→Option T
 | .int a,.int b=>if b≠0 then some (.int (a.fmod b))else none
 | _,_=>none
noncomputable def ZbH: T→T→Option T
 | .int a,.int b=>if 0≤b∧(Builtin.Int.intBits a:Int)*b≤2 ^ 27 then some (.int (a ^ b.toNat))else none
 | _,_=>none
noncomputable def ZdS(p:Int→Int→Bool): T→T→Option T
 | .int a,.int b=>some (.bool (p a b))
 | _,_=>none
noncomputable def qLt:=ZdS fun a b=>decide (a<b)
noncomputable def qLe:=ZdS fun a b=>decide (a≤b)
noncomputable def qGt:=ZdS fun a b=>decide (b<a)
noncomputable def qGe:=ZdS fun a b=>decide (b≤a)
theorem ZeJ: OA2 Zc7 Zda:=fun H v1 v2 t1 t2 t F1 F2 r1 r2 h=>by
 cases r1 <;> first | (cases h;done) | (cases r2 <;> first | (cases h;done) | (cases h;exact⟨_,rfl,.int _⟩))
theorem ZgD: OA2 oDiv ZcM:=fun H v1 v2 t1 t2 t F1 F2 r1 r2 h=>by
 cases r1 <;> first | (cases h;done) | skip
 cases r2 <;> first | (cases h;done) | skip
 simp only[ZcM]at h
 split at h
 ·rename_i hc;cases h;exact⟨_,by simp only[oDiv];rw[if_pos hc],.int _⟩
 ·cases h
theorem ZaT: OA2 oMod Zaz:=fun H v1 v2 t1 t2 t F1 F2 r1 r2 h=>by
 cases r1 <;> first | (cases h;done) | skip
 cases r2 <;> first | (cases h;done) | skip
 simp only[Zaz]at h
 split at h
 ·rename_i hc;cases h;exact⟨_,by simp only[oMod];rw[if_pos hc],.int _⟩
 ·cases h
theorem ZgE: OA2 oPow ZbH:=fun H v1 v2 t1 t2 t F1 F2 r1 r2 h=>by
 cases r1 <;> first | (cases h;done) | skip
 cases r2 <;> first | (cases h;done) | skip
 simp only[ZbH]at h
 split at h
 ·rename_i hc;cases h;exact⟨_,by simp only[oPow];rw[if_pos hc],.int _⟩
 ·cases h
theorem ZeK(p:Int→Int→Bool): OA2 (ZdP p) (ZdS p):=fun H v1 v2 t1 t2 t F1 F2 r1 r2 h=>by
 cases r1 <;> first | (cases h;done) | (cases r2 <;> first | (cases h;done) | (cases h;exact⟨_,rfl,.bool _⟩))
theorem Zdb: OA2 oLt qLt:=ZeK _
theorem ZdT: OA2 oLe qLe:=ZeK _
theorem Zh2: OA2 oGt qGt:=ZeK _
theorem Zh3: OA2 oGe qGe:=ZeK _
noncomputable def ZcI(f:T→Option PyData): List T→Option (List PyData)
 | []=>some []
 | v::vs=>(f v).bind fun d=>(ZcI f vs).bind fun ds=>some (d::ds)
noncomputable def ZbI: Nat→T→Option PyData
 | _,.none=>some .none
 | _,.bool b=>some (.bool b)
 | _,.int i=>some (.int i)
 | _,.str x=>some (.str x)
 | n+1,.tup vs=>(ZcI (ZbI n) vs).map .tuple
 | n+1,.lst vs=>(ZcI (ZbI n) vs).map .list
 | 0,.tup _=>none
 | 0,.lst _=>none
theorem Zgc{H:Hp}{f:V→Option PyData}{g:T→Option PyData}(h:∀v t F,RF H v t F→f v=g t): ∀{vs:List V} {ts:List T} {F:List Nat},RFs H vs ts F→Zc8 f vs=ZcI g ts
 | _,_,_,.nil=>rfl
 | _,_,_,.cons a b=>by simp only[Zc8,ZcI,h _ _ _ a,Zgc h b]
theorem ZhJ{H:Hp}: ∀(n:Nat) (v:V) (t:T) (F:List Nat),RF H v t F→toD H n v=ZbI n t:=by
 intro n
 induction n with
 | zero=>intro v t F r;cases r <;> rfl
 | succ n ih=>
  intro v t F r
  cases r with
  | none=>rfl
  | bool=>rfl
  | int=>rfl
  | str=>rfl
  | tup hs=>simp only[toD,ZbI,Zgc ih hs]
  | ref e hs=>simp only[toD,ZbI,e,Option.bind_some,Zgc ih hs]
noncomputable def Zcq(a b:T): Option Bool:=(ZbI ZbG a).bind fun d=>(ZbI ZbG b).bind fun e=>if SeqAt.shaped d=true∧SeqAt.shaped e=true then some (PyData.eqv d e)else none
noncomputable def qEq(a b:T): Option T:=(Zcq a b).map .bool
noncomputable def qNe(a b:T): Option T:=(Zcq a b).map fun c=>.bool !c
theorem ZhK{H:Hp}{v1 v2:V}{t1 t2:T}{F1 F2:List Nat}(r1:RF H v1 t1 F1)(r2:RF H v2 t2 F2): ZeQ v1 v2 H=Zcq t1 t2:=by
 simp only[ZeQ,Zcq,ZhJ ZbG _ _ _ r1,ZhJ ZbG _ _ _ r2]
theorem Za8: OA2 oEq qEq:=fun H v1 v2 t1 t2 t F1 F2 r1 r2 h=>by
 obtain⟨c,h1,h⟩:=Zz1.mp h
 subst h
 exact⟨_,by simp only[oEq,ZhK r1 r2,h1,Option.map_some],.bool _⟩
theorem ZbV: OA2 oNe qNe:=fun H v1 v2 t1 t2 t F1 F2 r1 r2 h=>by
 obtain⟨c,h1,h⟩:=Zz1.mp h
 subst h
 exact⟨_,by simp only[oNe,ZhK r1 r2,h1,Option.map_some],.bool _⟩
noncomputable def qIs: T→T→Option T
 | .none,.none=>some (.bool true)
 | _,.none=>some (.bool false)
 | _,_=>none
noncomputable def ZbN: T→T→Option T
 | .none,.none=>some (.bool false)
 | _,.none=>some (.bool true)
 | _,_=>none
theorem ZaZ: OA2 oIs qIs:=fun H v1 v2 t1 t2 t F1 F2 r1 r2 h=>by
 cases r1 <;> cases r2 <;> first | (cases h;done) | (cases h;exact⟨_,rfl,.bool _⟩)
theorem ZcV: OA2 Zch ZbN:=fun H v1 v2 t1 t2 t F1 F2 r1 r2 h=>by
 cases r1 <;> cases r2 <;> first | (cases h;done) | (cases h;exact⟨_,rfl,.bool _⟩)
noncomputable def Zv: T→T→Option T
 | .lst ts,.int k=>(seqIndex? k ts.length).bind fun j=>ts[j]?
 | .tup ts,.int k=>(seqIndex? k ts.length).bind fun j=>ts[j]?
 | _,_=>none
theorem ZC: OI2 Zq Zv:=fun H v1 v2 t1 t2 t F1 F2 r1 r2 h=>by
 cases r1 with
 | none=>cases h
 | bool=>cases h
 | int=>cases h
 | str=>cases h
 | tup hs=>
  cases r2 <;> first | (cases h;done) | skip
  obtain⟨j,h1,h2⟩:=Zz0.mp h
  obtain⟨v,G,e1,e2,e3⟩:=hs.at h2
  exact⟨v,G,by simp only[Zq,hs.length,h1,Option.bind_some,e1,Option.map_some],e2,e3⟩
 | ref e hs=>
  cases r2 <;> first | (cases h;done) | skip
  obtain⟨j,h1,h2⟩:=Zz0.mp h
  obtain⟨v,G,e1,e2,e3⟩:=hs.at h2
  exact⟨v,G,by simp only[Zq,e,Option.bind_some,hs.length,h1,e1,Option.map_some],e2,e3.trans (List.sublist_cons_self _ _)⟩
noncomputable def Zat: List T→Option T
 | [.lst ts]=>some (.int ts.length)
 | [.tup ts]=>some (.int ts.length)
 | _=>none
theorem RFs.one_inv{H:Hp}{vs:List V}{t:T}{F:List Nat}(r:RFs H vs [t] F): ∃v,vs=[v]∧RF H v t F:=by
 cases r with
 | cons a b=>cases b;rw[List.append_nil];exact⟨_,rfl,a⟩
theorem RFs.two_inv{H:Hp}{vs:List V}{t t':T}{F:List Nat}(r:RFs H vs [t,t'] F): ∃v v' F1 F2,vs=[v,v']∧RF H v t F1∧RF H v' t' F2∧F=F1++F2:=by
 cases r with
 | cons a b=>obtain⟨v',h1,h2⟩:=b.one_inv;subst h1;exact⟨_,_,_,_,rfl,a,h2,rfl⟩
theorem ZaU: OAn Zaw Zat:=fun H vs ts t F r h=>by
 unfold Zat at h
 split at h
 ·obtain⟨v,rfl,r'⟩:=r.one_inv
  cases r' with
  | ref e hs=>cases h;exact⟨_,by simp only[Zaw,e,Option.map_some,hs.length],.int _⟩
 ·obtain⟨v,rfl,r'⟩:=r.one_inv
  cases r' with
  | tup hs=>cases h;exact⟨_,by simp only[Zaw,hs.length],.int _⟩
 ·cases h
noncomputable def ZdU: List T→Option T
 | [.int a]=>some (.int (if a<0 then -a else a))
 | _=>none
theorem ZhX: OAn ZdQ ZdU:=fun H vs ts t F r h=>by
 unfold ZdU at h
 split at h
 ·obtain⟨v,rfl,r'⟩:=r.one_inv
  cases r';cases h;exact⟨_,rfl,.int _⟩
 ·cases h
noncomputable def Zc5: List T→Option (List Int)
 | []=>some []
 | .int k::vs=>(Zc5 vs).map fun ks=>k::ks
 | _::_=>none
theorem Zhv{H:Hp}: ∀{vs:List V} {ts:List T} {F:List Nat} {ks:List Int},RFs H vs ts F→Zc5 ts=some ks→ZcE vs=some ks
 | _,_,_,_,.nil,h=>h
 | _,_,_,_,.cons a b,h=>by
  cases a <;> first | (cases h;done) | skip
  obtain⟨js,h1,h2⟩:=Zz1.mp h
  subst h2
  simp only[ZcE,Zhv b h1,Option.map_some]
noncomputable def Zmc: List T→Option T
 | [.lst ts]=>(Zc5 ts).map fun ks=>.int ks.sum
 | _=>none
theorem Zdc{H:Hp}{vs:List V}{ts:List T}{F:List Nat}(r:RFs H vs ts F): RF (H++[vs]) (.ref H.length) (.lst ts) (H.length::F):=.ref (by simp) (r.ext _)
theorem Zdr{H:Hp}{vs:List V}{ts:List T}{F:List Nat}(r:RFs H vs ts F)(h:T.flatIn (.lst ts)=true): (H.length::F).Nodup∧∀a∈H.length::F,H.length≤a:=by
 rw[r.flats (by simpa [T.flatIn]using h)]
 simp
theorem Zjp{H:Hp}{v:V}{t:T}{F:List Nat}(r:RF H v t F)(h:F=[]): F.Nodup∧∀a∈F,H.length≤a:=by subst h;simp
noncomputable def ZgI(ts:List T): Nat→List T
 | 0=>[]
 | n+1=>ZgI ts n++ts
noncomputable def Zab: T→T→Option T
 | .int a,.int b=>some (.int (a+b))
 | .lst a,.lst b=>if(a++b).length≤ZZ then some (.lst (a++b))else none
 | .tup a,.tup b=>if(a++b).length≤ZZ then some (.tup (a++b))else none
 | _,_=>none
noncomputable def ZaK: T→T→Option T
 | .int a,.int b=>if Zby a b=true then some (.int (a*b))else none
 | .lst a,.int k=>if a.length*k.toNat≤ZZ∧-(2 ^ 63:Int)≤k∧k<2 ^ 63 then some (.lst (ZgI a k.toNat))else none
 | _,_=>none
theorem ZhL{H:Hp}{vs:List V}{ts:List T}{F:List Nat}(r:RFs H vs ts F): ∀n,∃G,RFs H (ZcL vs n) (ZgI ts n) G∧∀a∈G,a∈F
 | 0=>⟨_,.nil,by simp⟩
 | n+1=>by
  obtain⟨G,h1,h2⟩:=ZhL r n
  exact⟨_,h1.append r,fun a m=>(Zz8.mp m).elim (h2 a) id⟩
theorem Zak: OC2 Z9 Zab:=fun H v1 v2 t1 t2 t F1 F2 r1 r2 h=>by
 cases r1 with
 | none=>cases h
 | bool=>cases h
 | str=>cases h
 | int a=>
  cases r2 <;> first | (cases h;done) | skip
  cases h;exact⟨_,[],[],by simp[Z9],.int _,by simp,by simp⟩
 | tup hs1=>
  cases r2 with
  | none=>cases h
  | bool=>cases h
  | str=>cases h
  | int=>cases h
  | ref=>cases h
  | tup hs2=>
   simp only[Zab]at h
   split at h
   ·rename_i hl
    cases h
    refine⟨_,[],_,?_,.tup (by simpa using hs1.append hs2),fun a m=>.inr (Zz8.mp m),fun hf=>Zjp (H:=H) (.tup (hs1.append hs2)) ((RF.tup (hs1.append hs2)).flat (by simpa [T.flatIn]using hf))⟩
    simp only[Z9,List.append_nil]
    rw[if_pos (by rw[List.length_append]at hl ⊢;rw[hs1.length,hs2.length];exact hl)]
   ·cases h
 | ref e1 hs1=>
  cases r2 with
  | none=>cases h
  | bool=>cases h
  | str=>cases h
  | int=>cases h
  | tup=>cases h
  | ref e2 hs2=>
   simp only[Zab]at h
   split at h
   ·rename_i hl
    cases h
    refine⟨_,_,_,?_,Zdc (hs1.append hs2),fun a m=>?_,Zdr (hs1.append hs2)⟩
    ·simp only[Z9,e1,e2,Option.bind_some]
     rw[if_pos (by rw[List.length_append]at hl ⊢;rw[hs1.length,hs2.length];exact hl)]
    ·rcases Zz7.mp m with rfl | m
     ·exact .inl (Zz10 _)
     ·rcases Zz8.mp m with m | m
      ·exact .inr (.inl (Zz2 _ m))
      ·exact .inr (.inr (Zz2 _ m))
   ·cases h
theorem Zbz: OC2 ZaW ZaK:=fun H v1 v2 t1 t2 t F1 F2 r1 r2 h=>by
 cases r1 with
 | none=>cases h
 | bool=>cases h
 | str=>cases h
 | tup=>cases h
 | int a=>
  cases r2 <;> first | (cases h;done) | skip
  simp only[ZaK]at h
  split at h
  ·rename_i hm
   cases h;exact⟨_,[],[],by simp only[ZaW];rw[if_pos hm];simp,.int _,by simp,by simp⟩
  ·cases h
 | ref e1 hs1=>
  cases r2 with
  | none=>cases h
  | bool=>cases h
  | str=>cases h
  | tup=>cases h
  | ref=>cases h
  | int k=>
   simp only[ZaK]at h
   split at h
   ·rename_i hl
    cases h
    obtain⟨G,h1,h2⟩:=ZhL hs1 k.toNat
    refine⟨_,_,_,?_,Zdc h1,fun a m=>?_,Zdr h1⟩
    ·simp only[ZaW,e1,Option.bind_some]
     rw[if_pos (by rw[hs1.length];exact hl)]
    ·rcases Zz7.mp m with rfl | m
     ·exact .inl (Zz10 _)
     ·exact .inr (.inl (Zz2 _ (h2 a m)))
   ·cases h
noncomputable def Zbn: List T→Option T
 | [.lst ts]=>some (.lst ts)
 | [.tup ts]=>some (.lst ts)
 | _=>none
noncomputable def Zev: List T→Option T
 | [.lst ts]=>some (.tup ts)
 | [.tup ts]=>some (.tup ts)
 | _=>none
theorem ZcC: OCn ZbM Zbn:=fun H vs ts t F hp r h=>by
 unfold Zbn at h
 split at h
 ·obtain⟨v,rfl,r'⟩:=r.one_inv
  cases r' with
  | ref e hs=>cases h;exact⟨_,_,_,by simp only[ZbM,e,Option.map_some],Zdc hs,fun a m=>(Zz7.mp m).imp (fun q=>Nat.le_of_eq q.symm) (Zz2 _),Zdr hs⟩
 ·obtain⟨v,rfl,r'⟩:=r.one_inv
  cases r' with
  | tup hs=>cases h;exact⟨_,_,_,by simp only[ZbM],Zdc hs,fun a m=>(Zz7.mp m).imp (fun q=>Nat.le_of_eq q.symm) id,Zdr hs⟩
 ·cases h
end
end TM
end
section
set_option autoImplicit false
namespace TM
open PySem PM
theorem St.from_src{c:Ctx}{O N:List Nat}{ρ:Lc}{σ:TL}{H:Hp}{Φ:Nat→List Nat}(s:St c O ρ σ H Φ){a:Nat}(f:From H N σ Φ a): c.H0.length≤a∨c.P a:=by
 rcases f with h | ⟨i,hi,⟨t,e⟩,m⟩
 ·exact .inl (Nat.le_trans s.len h)
 ·exact s.src i t e a m
theorem St.from_off{c:Ctx}{O N:List Nat}{ρ:Lc}{σ:TL}{H:Hp}{Φ:Nat→List Nat}(s:St c O ρ σ H Φ)(hN:∀i∈N,i∉O){a:Nat}(f:From H N σ Φ a){i:Nat}(hi:i∈O){t:T}(e:σ i=some t): a∉Φ i:=by
 intro m
 obtain⟨v,_,r⟩:=s.slot i t e
 have hl:=r.lt a m
 rcases f with h | ⟨j,hj,⟨t',e'⟩,m'⟩
 ·omega
 ·exact(s.own i hi t e).2.2 j t' (fun q=>hN j hj (q▸hi)) e' a m m'
noncomputable abbrev PPt:=TL→Option (Option Int)
noncomputable def ZkZ: PPt:=fun _=>some none
noncomputable def ZcZ(p:PE): PPt:=fun σ=>(p σ).bind fun t=>match t with
 | .int k=>some (some k)
 | _=>none
noncomputable def Pe(O:List Nat)(f:Pt)(p:PPt): Prop:=∀(c:Ctx) (ρ:Lc) (σ:TL) (H:Hp) (Φ:Nat→List Nat) (k:Option Int),St c O ρ σ H Φ→p σ=some k→∃o X,f ρ H=some (o,H++X)∧ZeH o=some k
section
variable {O N:List Nat} {u:Bool}
theorem Pe.none: Pe O PM.ZgB ZkZ:=fun c ρ σ H Φ k s h=>by
 cases h;exact⟨Option.none,[],by simp[PM.ZgB],rfl⟩
theorem Pe.some{e:Ex}{p:PE}(x:E O N u e p): Pe O (ZdL e) (ZcZ p):=fun c ρ σ H Φ k s h=>by
 obtain⟨t,h1,h⟩:=Zz0.mp h
 obtain⟨v,X,F,a1,a2,a3,a4⟩:=x c ρ σ H Φ t s h1
 cases a2 <;> first | (cases h;done) | skip
 rename_i k'
 cases h
 exact⟨Option.some (.int k'),X,by simp only[ZdL,a1,Option.map_some],rfl⟩
noncomputable def ZdF(p:PE)(lo hi:PPt): PE:=fun σ=>(p σ).bind fun t=>(lo σ).bind fun a=>(hi σ).bind fun b=>match t with
 | .lst ts=>Option.some (.lst (ZaS ts a b))
 | _=>Option.none
theorem RFs.pick{H:Hp}{vs:List V}{ts:List T}{F:List Nat}(h:RFs H vs ts F)(l:List Nat): ∃G,RFs H (l.filterMap fun i=>vs[i]?) (l.filterMap fun i=>ts[i]?) G∧∀a∈G,a∈F:=by
 induction l with
 | nil=>exact⟨_,.nil,by simp⟩
 | cons i l ih=>
  obtain⟨G,h1,h2⟩:=ih
  simp only[List.filterMap_cons]
  have hl:=h.length
  cases e:ts[i]? with
  | none=>
   have:vs[i]?=none:=by rw[List.getElem?_eq_none_iff]at e ⊢;omega
   rw[this]
   exact⟨G,h1,h2⟩
  | some t=>
   obtain⟨x,G',hx,hr,hs⟩:=h.at e
   rw[hx]
   exact⟨_,.cons hr h1,fun a m=>(Zz8.mp m).elim (fun q=>hs.subset q) (h2 a)⟩
theorem ZiG{c:Ctx}{ρ:Lc}{σ:TL}{H:Hp}{Φ:Nat→List Nat}{t:T}{e:Ex}{p:PE}{lo hi:Pt}{plo phi:PPt}(x:E O N u e p)(y:Pe O lo plo)(z:Pe O hi phi)(s:St c O ρ σ H Φ)(h:ZdF p plo phi σ=Option.some t):
  ∃v X F,ZdE e lo hi ρ H=Option.some (v,H++X)∧RF (H++X) v t F∧(∀a∈F,From H N σ Φ a)∧(t.flatIn=true→F.Nodup∧∀a∈F,H.length≤a):=by
 obtain⟨t1,h1,h⟩:=Zz0.mp h
 obtain⟨a,h2,h⟩:=Zz0.mp h
 obtain⟨b,h3,h⟩:=Zz0.mp h
 obtain⟨v,X,F,a1,a2,a3,a4⟩:=x c ρ σ H Φ t1 s h1
 obtain⟨o1,Y,b1,b2⟩:=y c ρ σ (H++X) Φ a (s.ext X) h2
 obtain⟨o2,Z,c1,c2⟩:=z c ρ σ (H++X++Y) Φ b ((s.ext X).ext Y) h3
 cases a2 with
 | none=>cases h
 | bool=>cases h
 | int=>cases h
 | str=>cases h
 | tup=>cases h
 | @ref i vs ts F e1 hs=>
 cases h
 have e3:((H++X)++(Y++Z))[i]?=Option.some vs:=by rw[List.getElem?_append_left (Zz6.mp e1).1];exact e1
 have hs':=hs.ext (Y++Z)
 have hlen:=hs.length
 obtain⟨G,g1,g2⟩:=hs'.pick (sliceRange (sliceBounds a b none vs.length).1 (sliceBounds a b none vs.length).2.1 (sliceBounds a b none vs.length).2.2)
 have g1':RFs (H++X++(Y++Z)) (ZaS vs a b) (ZaS ts a b) G:=by unfold ZaS;rw[←hlen];exact g1
 refine⟨.ref (H++X++(Y++Z)).length,X++(Y++Z)++[ZaS vs a b],(H++X++(Y++Z)).length::G,?_,?_,fun q m=>?_,fun hf=>?_⟩
 ·simp only[ZdE,a1,Option.bind_some,b1,c1,b2,c2]
  rw[List.append_assoc (H++X),e3]
  simp
 ·have:=Zdc g1'
  simpa using this
 ·rcases Zz7.mp m with rfl | m
  ·exact .inl (by simp)
  ·exact a3 q (Zz2 _ (g2 q m))
 ·have:=Zdr g1' hf
  exact⟨this.1,fun q m=>by have:=this.2 q m;simp at this;omega⟩
theorem Zj0{e:Ex}{p:PE}{lo hi:Pt}{plo phi:PPt}(x:E O N u e p)(y:Pe O lo plo)(z:Pe O hi phi): E O N false (ZdE e lo hi) (ZdF p plo phi):=fun c ρ σ H Φ t s h=>by
 obtain⟨v,X,F,a1,a2,a3,a4⟩:=ZiG x y z s h
 exact⟨v,X,F,a1,a2,a3,by simp⟩
noncomputable def Zma(p:PE)(k:Nat): PE:=fun σ=>(p σ).bind fun t=>match t with
 | .lst ts=>Option.some (.lst (ts.drop k))
 | .tup ts=>if 1≤k∧k≤ts.length then Option.some (.tup (ts.drop k))else Option.none
 | _=>Option.none
end
noncomputable def Gs(O N:List Nat)(g:Src)(q:PG): Prop:=∀(c:Ctx) (ρ:Lc) (σ:TL) (H:Hp) (Φ:Nat→List Nat) (ts:List T),St c O ρ σ H Φ→q σ=some ts →
 ∃(nx:Nx) (X:Hp) (vs:List V) (F G:List Nat),g ρ H=some (nx,ts.length+1,H++X)∧RFs (H++X) vs ts F∧(∀a∈F,a∈G)∧(∀a∈G,a<(H++X).length∧From H N σ Φ a)∧∀K:Hp,(∀a∈G,K[a]?=(H++X)[a]?)→∀i,i≤vs.length→nx i K=some vs[i]?
section
variable {O N M:List Nat} {u u':Bool}
noncomputable def Za9(p:PE): PG:=fun σ=>(p σ).bind fun t=>match t with
 | .lst ts=>some ts
 | .tup ts=>some ts
 | _=>none
theorem Gs.seq{e:Ex}{p:PE}(x:E O N u e p): Gs O N (ZbC e) (Za9 p):=fun c ρ σ H Φ ts s h=>by
 obtain⟨t1,h1,h⟩:=Zz0.mp h
 obtain⟨v,X,F,a1,a2,a3,a4⟩:=x c ρ σ H Φ t1 s h1
 have hlt:=a2.lt
 cases a2 with
 | none=>cases h
 | bool=>cases h
 | int=>cases h
 | str=>cases h
 | @tup vs _ _ hs=>
  cases h
  exact⟨ZhH vs,X,vs,F,F,by simp only[ZbC,a1,Option.bind_some,hs.length],hs,fun _ m=>m,fun a m=>⟨hlt a m,a3 a m⟩,fun K _ i hi=>rfl⟩
 | @ref b vs _ F' e1 hs=>
  cases h
  refine⟨Zgu b,X,vs,F',b::F',by simp only[ZbC,a1,Option.bind_some,e1,Option.map_some,hs.length],hs,fun _ m=>List.mem_cons_of_mem _ m,fun a m=>⟨hlt a m,a3 a m⟩,fun K hK i hi=>?_⟩
  simp only[Zgu,hK b Zz5,e1,Option.map_some]
noncomputable def ZbJ(a b c:Int): Option (List T):=if c≠0∧Builtin.Range.small a b c=true∧0≤Builtin.Range.rangeSize a b c∧rngN a b c≤ZZ∧Builtin.divisionGoesByPylong (b-a) c=false then some ((List.range (rngN a b c)).map fun(i:Nat)=>.int (a+(i:Int)*c))else none
noncomputable def ZaE(p:PEs): PG:=fun σ=>(p σ).bind fun ts=>match ts with
 | [.int b]=>ZbJ 0 b 1
 | [.int a,.int b]=>ZbJ a b 1
 | [.int a,.int b,.int c]=>ZbJ a b c
 | _=>none
theorem Zhg(H:Hp)(a c:Int): ∀(l:List Nat),RFs H (l.map fun(i:Nat)=>.int (a+(i:Int)*c)) (l.map fun(i:Nat)=>.int (a+(i:Int)*c)) []
 | []=>.nil
 | i::l=>by have:=RFs.cons (RF.int (H:=H) (a+i*c)) (Zhg H a c l);exact this
theorem Zf0{a b c:Int}{H:Hp}{ts:List T}(h:ZbJ a b c=some ts): ∃(nx:Nx) (vs:List V),Zba a b c H=some (nx,ts.length+1,H)∧RFs H vs ts []∧∀K:Hp,∀i,i≤vs.length→nx i K=some vs[i]?:=by
 unfold ZbJ at h
 split at h
 ·rename_i hc
  cases h
  refine⟨ZcT a c (rngN a b c),(List.range (rngN a b c)).map fun(i:Nat)=>.int (a+(i:Int)*c),?_,Zhg H a c _,fun K i hi=>?_⟩
  ·unfold Zba
   rw[if_pos hc]
   simp
  ·simp only[ZcT,List.getElem?_map]
   by_cases q:i<rngN a b c
   ·rw[if_pos q,List.getElem?_range q];rfl
   ·rw[if_neg q,List.getElem?_eq_none (by simpa using Nat.le_of_not_lt q)];rfl
 ·cases h
theorem RFs.three_inv{H:Hp}{vs:List V}{t t' t'':T}{F:List Nat}(r:RFs H vs [t,t',t''] F): ∃v v' v'' F1 F2 F3,vs=[v,v',v'']∧RF H v t F1∧RF H v' t' F2∧RF H v'' t'' F3:=by
 cases r with
 | cons a b=>obtain⟨v',v'',F2,F3,h1,h2,h3,_⟩:=b.two_inv;subst h1;exact⟨_,_,_,_,_,_,rfl,a,h2,h3⟩
theorem Gs.range{n:Nat}{e:Exs}{p:PEs}(x:Es O N u n e p): Gs O [] (ZaL e) (ZaE p):=fun c ρ σ H Φ ts s h=>by
 obtain⟨t1,h1,h⟩:=Zz0.mp h
 obtain⟨_,vs,X,F,a1,a2,a3,a4⟩:=x c ρ σ H Φ t1 s h1
 split at h
 ·obtain⟨v,rfl,r⟩:=a2.one_inv
  cases r
  obtain⟨nx,us,q1,q2,q3⟩:=Zf0 (H:=H++X) h
  exact⟨nx,X,us,[],[],by simp only[ZaL,a1,Option.bind_some,q1],q2,by simp,by simp,fun K _=>q3 K⟩
 ·obtain⟨v,v',F1,F2,rfl,r,r',_⟩:=a2.two_inv
  cases r;cases r'
  obtain⟨nx,us,q1,q2,q3⟩:=Zf0 (H:=H++X) h
  exact⟨nx,X,us,[],[],by simp only[ZaL,a1,Option.bind_some,q1],q2,by simp,by simp,fun K _=>q3 K⟩
 ·obtain⟨v,v',v'',F1,F2,F3,rfl,r,r',r''⟩:=a2.three_inv
  cases r;cases r';cases r''
  obtain⟨nx,us,q1,q2,q3⟩:=Zf0 (H:=H++X) h
  exact⟨nx,X,us,[],[],by simp only[ZaL,a1,Option.bind_some,q1],q2,by simp,by simp,fun K _=>q3 K⟩
 ·cases h
noncomputable def Zdd(p q:PE): PG:=fun σ=>(p σ).bind fun t=>(q σ).bind fun s=>match t,s with
 | .lst ts,.lst ss=>some (List.zipWith (fun x y=>.tup [x,y]) ts ss)
 | _,_=>none
theorem RFs.zip{H:Hp}: ∀{vs us:List V} {ts ss:List T} {F G:List Nat},RFs H vs ts F→RFs H us ss G→∃D,RFs H (List.zipWith (fun x y=>.tup [x,y]) vs us) (List.zipWith (fun x y=>.tup [x,y]) ts ss) D∧∀a∈D,a∈F∨a∈G
 | _,_,_,_,_,_,.nil,_=>⟨_,.nil,by simp⟩
 | _,_,_,_,_,_,.cons _ _,.nil=>⟨_,.nil,by simp⟩
 | _,_,_,_,_,_,.cons a b,.cons a' b'=>by
  obtain⟨D,h1,h2⟩:=b.zip b'
  refine⟨_,.cons (.tup (.cons a (.one a'))) h1,fun x m=>?_⟩
  rcases Zz8.mp m with m | m
  ·rcases Zz8.mp m with m | m
   ·exact .inl (Zz4 _ m)
   ·exact .inr (Zz4 _ m)
  ·exact(h2 x m).imp (Zz3 _) (Zz3 _)
theorem Gs.zip{e1 e2:Ex}{p1 p2:PE}(x:E O N u e1 p1)(y:E O M u' e2 p2): Gs O (N++M) (Zc9 e1 e2) (Zdd p1 p2):=fun c ρ σ H Φ ts s h=>by
 obtain⟨t1,h1,h⟩:=Zz0.mp h
 obtain⟨t2,h2,h⟩:=Zz0.mp h
 obtain⟨v,X,F,a1,a2,a3,a4⟩:=x c ρ σ H Φ t1 s h1
 obtain⟨w,Y,G,b1,b2,b3,b4⟩:=y c ρ σ (H++X) Φ t2 (s.ext X) h2
 have a2:=a2.ext Y
 have l1:=a2.lt
 have l2:=b2.lt
 rw[List.append_assoc]at a2 b2 l1 l2 b1
 cases a2 with
 | none=>cases h
 | bool=>cases h
 | int=>cases h
 | str=>cases h
 | tup=>cases b2 <;> cases h
 | @ref a vs _ F' e1 hs=>
  cases b2 with
  | none=>cases h
  | bool=>cases h
  | int=>cases h
  | str=>cases h
  | tup=>cases h
  | @ref b us _ G' e2 hs2=>
   cases h
   obtain⟨D,d1,d2⟩:=hs.zip hs2
   refine⟨ZdM a b,X++Y,_,D,a::b::D,?_,d1,fun q m=>List.mem_cons_of_mem _ (Zz2 _ m),fun q m=>?_,fun K hK i hi=>?_⟩
   ·simp only[Zc9,a1,Option.bind_some,b1,e1,e2,Option.map_some,List.length_zipWith,hs.length,hs2.length]
   ·rcases Zz7.mp m with rfl | m
    ·exact⟨l1 _ Zz5,(a3 _ Zz5).mono fun i hi=>List.mem_append_left _ hi⟩
    ·rcases Zz7.mp m with rfl | m
     ·exact⟨l2 _ Zz5,(b3 _ Zz5).back.mono fun i hi=>List.mem_append_right _ hi⟩
     ·rcases d2 q m with m | m
      ·exact⟨l1 _ (Zz2 _ m),(a3 _ (Zz2 _ m)).mono fun i hi=>List.mem_append_left _ hi⟩
      ·exact⟨l2 _ (Zz2 _ m),(b3 _ (Zz2 _ m)).back.mono fun i hi=>List.mem_append_right _ hi⟩
   ·simp only[ZdM,hK a Zz5,hK b (Zz2 _ Zz5),e1,e2,Option.bind_some,List.getElem?_zipWith]
    rw[List.length_zipWith]at hi
    by_cases q:i<min vs.length us.length
    ·rw[List.getElem?_eq_getElem (show i<vs.length by omega),List.getElem?_eq_getElem (show i<us.length by omega)]
    ·have q':i=min vs.length us.length:=by omega
     by_cases q2:i<vs.length
     ·rw[List.getElem?_eq_getElem q2,List.getElem?_eq_none (show us.length≤i by omega)]
      simp[q']
     ·rw[List.getElem?_eq_none (show vs.length≤i by omega)]
      simp[q']
end
noncomputable def PutOk(O J:List Nat)(put:V→Lc→Option Lc)(q:T→TL→Option TL): Prop:=∀(c:Ctx) (ρ:Lc) (σ:TL) (H:Hp) (Φ:Nat→List Nat) (v:V) (t:T) (F:List Nat) (σ1:TL),St c O ρ σ H Φ→RF H v t F→(∀a∈F,c.H0.length≤a∨c.P a)→(∀i∈O,∀t',σ i=some t'→∀a∈Φ i,a∉F)→q t σ=some σ1 →
 ∃ρ1 Φ1,put v ρ=some ρ1∧St c O ρ1 σ1 H Φ1∧(∀i,i∉J→σ1 i=σ i∧Φ1 i=Φ i)∧∀i∈J,∀a∈Φ1 i,a∈F
noncomputable def ZM(Φ:Nat→List Nat)(j:Nat)(F:List Nat): Nat→List Nat:=fun i=>if i=j then F else Φ i
theorem St.put{c:Ctx}{O:List Nat}{ρ:Lc}{σ:TL}{H:Hp}{Φ:Nat→List Nat}{v:V}{t:T}{F:List Nat}{j:Nat}(s:St c O ρ σ H Φ)(hj:j∉O)(r:RF H v t F)(hs:∀a∈F,c.H0.length≤a∨c.P a)(ho:∀i∈O,∀t',σ i=some t'→∀a∈Φ i,a∉F): St c O (upd ρ j v) (ZF σ j t) H (ZM Φ j F):=by
 refine⟨fun i u e=>?_,fun i u e=>?_,fun i hi u e=>?_,s.len,s.keep,s.pos,s.f0⟩
 ·by_cases q:i=j
  ·subst q
   simp[ZF]at e
   subst e
   exact⟨v,by simp[upd],by simpa [ZM]using r⟩
  ·simp[ZF,q]at e
   simpa [upd,ZM,q]using s.slot i u e
 ·by_cases q:i=j
  ·subst q;simpa [ZM]using hs
  ·simp[ZF,q]at e
   simpa [ZM,q]using s.src i u e
 ·have q:i≠j:=fun q=>hj (q▸hi)
  simp[ZF,q]at e
  obtain⟨h1,h2,h3⟩:=s.own i hi u e
  refine⟨by simpa [ZM,q]using h1,by simpa [ZM,q]using h2,fun k w hk ek=>?_⟩
  by_cases q2:k=j
  ·subst q2
   simpa [ZM,q]using ho i hi u e
  ·simp[ZF,q2]at ek
   simpa [ZM,q,q2]using h3 k w hk ek
noncomputable def Z4(j:Nat): T→TL→Option TL:=fun t σ=>some (ZF σ j t)
noncomputable def Zc6(i j:Nat): T→TL→Option TL
 | .tup [a,b],σ=>some (ZF (ZF σ i a) j b)
 | _,_=>none
theorem PutOk.one{O:List Nat}{j:Nat}(hj:j∉O:=by decide): PutOk O [j] (Zag j) (Z4 j):=fun c ρ σ H Φ v t F σ1 s r hs ho h=>by
 cases h
 refine⟨_,_,rfl,s.put hj r hs ho,fun i hi=>?_,fun i hi a m=>?_⟩
 ·have:i≠j:=fun q=>hi (by simp[q])
  simp[ZF,ZM,this]
 ·simp at hi;subst hi;simpa [ZM]using m
theorem PutOk.two{O:List Nat}{i j:Nat}(hi:i∉O:=by decide)(hj:j∉O:=by decide)(hij:i≠j:=by decide): PutOk O [i,j] (ZbT i j) (Zc6 i j):=fun c ρ σ H Φ v t F σ1 s r hs ho h=>by
 unfold Zc6 at h
 split at h
 ·cases h
  cases r with
  | tup hh=>
   obtain⟨v1,v2,F1,F2,rfl,r1,r2,rfl⟩:=hh.two_inv
   have s1:=s.put hi r1 (fun a m=>hs a (Zz4 _ m)) (fun k hk t' e a m q=>ho k hk t' e a m (Zz4 _ q))
   have s2:=s1.put hj r2 (fun a m=>hs a (Zz3 _ m)) (fun k hk t' e a m q=>by
    have:k≠i:=fun q=>hi (q▸hk)
    simp[ZF,ZM,this]at e m
    exact ho k hk t' e a m (Zz3 _ q))
   refine⟨_,_,rfl,s2,fun k hk=>?_,fun k hk a m=>?_⟩
   ·simp at hk
    simp[ZF,ZM,hk.1,hk.2]
   ·simp at hk
    rcases hk with rfl | rfl
    ·simp[ZM,hij]at m
     exact Zz4 _ m
    ·simp[ZM]at m
     exact Zz3 _ m
 ·cases h
noncomputable def ZbR(put:T→TL→Option TL)(c:PB)(f:PE)(σ:TL): List T→Option (List T)
 | []=>some []
 | t::ts=>(put t σ).bind fun σ1=>(c σ1).bind fun b=>if b then(f σ1).bind fun x=>(ZbR put c f σ ts).map fun xs=>x::xs else ZbR put c f σ ts
noncomputable def Zao(g:PG)(put:T→TL→Option TL)(c:PB)(f:PE): PE:=fun σ=>(g σ).bind fun ts=>if ts.length≤ZZ then(ZbR put c f σ ts).map .lst else none
section
variable {O Ns Ne J:List Nat} {u:Bool}
theorem comp_core{put:V→Lc→Option Lc}{pput:T→TL→Option TL}{tc:Ts}{pc:PB}{f:Ex}{pf:PE}(hj:PutOk O J put pput)(hN:∀i∈Ns,i∉O)(hc:Bt O tc pc)(hf:E O Ne u f pf)(hu:u=true→Ne=[])
  {c:Ctx} {ρ:Lc} {σ:TL} {Φ:Nat→List Nat} {H0 H1:Hp} {nx:Nx} {vs:List V} {G:List Nat} (h0:H0.length≤H1.length)
  (hG:∀a∈G,a<H1.length∧From H0 Ns σ Φ a) (hoff:∀a∈G,∀i∈O,∀t,σ i=some t→a∉Φ i) (hsrc:∀a∈G,c.H0.length≤a∨c.P a) (hnx:∀K:Hp,(∀a∈G,K[a]?=H1[a]?)→∀i,i≤vs.length→nx i K=some vs[i]?):
  ∀(rs:List T) (ws:List V) (i:Nat) (acc:List V) (K:Hp) (Fr:List Nat) (out:List T),(∀j,vs[i+j]?=ws[j]?)→i+ws.length=vs.length→St c O ρ σ K Φ→H1.length≤K.length→(∀a∈G,K[a]?=H1[a]?)→RFs K ws rs Fr→(∀a∈Fr,a∈G)→acc.length+rs.length≤ZZ→ZbR pput pc pf σ rs=some out →
   ∃xs X F,Zbo nx put tc f ρ (rs.length+1) i acc K=some (acc++xs,K++X)∧RFs (K++X) xs out F∧(∀a∈F,(u=true→K.length≤a)∧From H0 (Ns++Ne) σ Φ a)∧(u=true→F.Nodup)
 | [],ws,i,acc,K,Fr,out,hat,hlen,s,hl,hk,r,hfr,hacc,h=>by
  cases r
  cases h
  have e:=hnx K hk i (by simp at hlen;omega)
  have e2:vs[i]?=none:=by have:=hat 0;simpa using this
  refine⟨[],[],[],?_,.nil,by simp,by simp⟩
  simp[Zbo,e,e2]
 | t::rs,ws0,i,acc,K,Fr0,out,hat,hlen,s,hl,hk,r,hfr,hacc,h=>by
  cases r with
  | @cons v _ F1 ws _ F2 a b=>
  simp only[List.length_cons]at hlen hacc
  obtain⟨σ1,h1,h⟩:=Zz0.mp h
  obtain⟨bb,h2,h⟩:=Zz0.mp h
  have e:=hnx K hk i (by omega)
  have e2:vs[i]?=some v:=by have:=hat 0;simpa using this
  have hat':∀j,vs[i+1+j]?=ws[j]?:=fun j=>by have:=hat (j+1);rw[show i+1+j=i+(j+1)by omega,this];simp
  obtain⟨ρ1,Φ1,p1,s1,p3,p4⟩:=hj c ρ σ K Φ v t F1 σ1 s a (fun x m=>hsrc x (hfr x (Zz4 _ m))) (fun k hk t' e x m q=>hoff x (hfr x (Zz4 _ q)) k hk t' e m) h1
  obtain⟨X1,c1⟩:=hc c ρ1 σ1 K Φ1 bb s1 h2
  cases bb with
  | true=>
   obtain⟨y,h3,h⟩:=Zz0.mp h
   obtain⟨ys,h4,h⟩:=Zz1.mp h
   subst h
   obtain⟨w,X2,Fw,d1,d2,d3,d4⟩:=hf c ρ1 σ1 (K++X1) Φ1 y (s1.ext X1) h3
   have hext:∀a∈G,(K++X1++X2)[a]?=H1[a]?:=fun a m=>by
    have:=(hG a m).1
    rw[List.append_assoc,List.getElem?_append_left (by omega)];exact hk a m
   obtain⟨xs,X3,F3,f1,f2,f3,f4⟩:=comp_core hj hN hc hf hu h0 hG hoff hsrc hnx rs ws (i+1) (acc++[w]) (K++X1++X2) F2 ys hat' (by omega) ((s.ext X1).ext X2) (by simp;omega) hext (by rw[List.append_assoc];exact b.ext _) (fun x m=>hfr x (Zz3 _ m)) (by simp;omega) h4
   refine⟨w::xs,X1++X2++X3,Fw++F3,?_,?_,fun x m=>?_,fun hu'=>?_⟩
   ·rw[List.length_cons,Zbo,e,e2]
    simp only[Option.bind_some,p1,c1,d1,if_true]
    rw[if_pos (by omega)]
    simpa using f1
   ·have:=RFs.cons (d2.ext X3) f2
    simpa using this
   ·rcases Zz8.mp m with m | m
    ·refine⟨fun hu'=>?_,?_⟩
     ·have hne:=hu hu'
      subst hne
      have:=(d3 x m).nil
      simp at this;omega
     ·rcases d3 x m with q | ⟨k,hk1,⟨tk,ek⟩,mk⟩
      ·exact .inl (by simp at q;omega)
      ·by_cases hkJ:k∈J
       ·exact(hG x (hfr x (Zz4 _ (p4 k hkJ x mk)))).2.mono fun i hi=>List.mem_append_left _ hi
       ·obtain⟨q1,q2⟩:=p3 k hkJ
        exact .inr ⟨k,List.mem_append_right _ hk1,⟨tk,q1▸ek⟩,q2▸mk⟩
    ·obtain⟨g1,g2⟩:=f3 x m
     exact⟨fun hu'=>by have:=g1 hu';simp at this;omega,g2⟩
   ·rw[List.nodup_append]
    refine⟨d4 hu',f4 hu',fun x hx y hy e=>?_⟩
    have l1:=d2.lt x hx
    have l2:=(f3 y hy).1 hu'
    omega
  | false=>
   have hext:∀a∈G,(K++X1)[a]?=H1[a]?:=fun a m=>by
    have:=(hG a m).1
    rw[List.getElem?_append_left (by omega)];exact hk a m
   obtain⟨xs,X3,F3,f1,f2,f3,f4⟩:=comp_core hj hN hc hf hu h0 hG hoff hsrc hnx rs ws (i+1) acc (K++X1) F2 out hat' (by omega) (s.ext X1) (by simp;omega) hext (b.ext _) (fun x m=>hfr x (Zz3 _ m)) (by omega) (by simpa using h)
   refine⟨xs,X1++X3,F3,?_,by simpa using f2,fun x m=>?_,f4⟩
   ·rw[List.length_cons,Zbo,e,e2]
    simp only[Option.bind_some,p1,c1]
    simpa using f1
   ·obtain⟨g1,g2⟩:=f3 x m
    exact⟨fun hu'=>by have:=g1 hu';simp at this;omega,g2⟩
theorem ZhM{g:Src}{q:PG}{put:V→Lc→Option Lc}{pput:T→TL→Option TL}{tc:Ts}{pc:PB}{f:Ex}{pf:PE}(hg:Gs O Ns g q)(hj:PutOk O J put pput)(hN:∀i∈Ns,i∉O)(hc:Bt O tc pc)(hf:E O Ne u f pf)(hu:u=true→Ne=[]): E O (if u then []else Ns++Ne) u (Zar g put tc f) (Zao q pput pc pf):=fun c ρ σ H Φ t s h=>by
 obtain⟨ts,h1,h⟩:=Zz0.mp h
 split at h
 ·rename_i hl
  obtain⟨out,h2,h⟩:=Zz1.mp h
  subst h
  obtain⟨nx,X,vs,F,G,g1,g2,g3,g4,g5⟩:=hg c ρ σ H Φ ts s h1
  obtain⟨xs,Y,F',d1,d2,d3,d4⟩:=comp_core hj hN hc hf hu (H0:=H) (H1:=H++X) (by simp) g4 (fun a m i hi t e=>s.from_off hN (g4 a m).2 hi e) (fun a m=>s.from_src (g4 a m).2) g5 ts vs 0 [] (H++X) F out (by simp) (by simp) (s.ext X) (Zz10 _) (fun _ _=>rfl) g2 g3 (by simpa using hl) h2
  refine⟨.ref (H++X++Y).length,X++Y++[xs],(H++X++Y).length::F',?_,?_,fun a m=>?_,fun hu'=>?_⟩
  ·simp only[Zar,g1,Option.bind_some,d1,Option.map_some,List.nil_append,List.append_assoc]
  ·have:=Zdc d2
   simpa using this
  ·rcases Zz7.mp m with rfl | m
   ·exact .inl (by simp)
   ·obtain⟨q1,q2⟩:=d3 a m
    cases u with
    | true=>exact .inl (by have:=q1 rfl;simp at this;omega)
    | false=>exact q2
  ·rw[List.nodup_cons]
   exact⟨fun m=>Nat.lt_irrefl _ (d2.lt _ m),d4 hu'⟩
 ·cases h
end
end TM
end
section
set_option autoImplicit false
namespace TM
open PySem PM
noncomputable abbrev PS:=TL→Option (Option T×TL)
noncomputable def Zbj(σ:TL)(N:List Nat): TL:=fun j=>if j∈N then none else σ j
noncomputable def Held(O:List Nat)(σ:TL)(Φ:Nat→List Nat)(a:Nat): Prop:=∃j∈O,(∃t,σ j=some t)∧a∈Φ j
noncomputable def Aft(c:Ctx)(O O' R:List Nat)(fr:Bool)(σ:TL)(H:Hp)(Φ:Nat→List Nat)(g:Option (Option V×Lc×Hp))(r:Option T×TL): Prop:=
 ∃ρ' H' Φ',H.length≤H'.length∧(∀a,a<H.length→¬Held O σ Φ a→H'[a]?=H[a]?) ∧
  ((r.1=none∧g=some (none,ρ',H')∧St c O' ρ' r.2 H' Φ'∧∀a,Held O' r.2 Φ' a→H.length≤a∨Held O σ Φ a) ∨
  ∃t v F,r.1=some t∧g=some (some v,ρ',H')∧RF H' v t F∧St c R ρ' r.2 H' Φ'∧(∀a∈F,c.H0.length≤a∨c.P a)∧(fr=true→F.Nodup∧∀a∈F,c.H0.length≤a∨a∈c.F0))
noncomputable def S(O O' R:List Nat)(fr:Bool)(g:Sm)(q:PS): Prop:=∀(c:Ctx) (ρ:Lc) (σ:TL) (H:Hp) (Φ:Nat→List Nat) (r:Option T×TL),St c O ρ σ H Φ→q σ=some r→Aft c O O' R fr σ H Φ (g ρ H) r
theorem Held.mono{O O':List Nat}{σ:TL}{Φ:Nat→List Nat}{a:Nat}(h:Held O σ Φ a)(s:∀i∈O,i∈O'): Held O' σ Φ a:=by
 obtain⟨j,hj,q⟩:=h;exact⟨j,s j hj,q⟩
section
variable {O O' R:List Nat} {fr:Bool}
theorem Zk0{O1:List Nat}{g:Sm}{q:PS}(x:S O O1 R fr g q)(h:∀i∈O',i∈O1): S O O' R fr g q:=fun c ρ σ H Φ r s e=>by
 obtain⟨ρ',H',Φ',h1,h2,h3⟩:=x c ρ σ H Φ r s e
 refine⟨ρ',H',Φ',h1,h2,?_⟩
 rcases h3 with⟨k1,k2,k3,k4⟩ | k
 ·exact .inl ⟨k1,k2,k3.less h,fun a m=>k4 a (m.mono h)⟩
 ·exact .inr k
noncomputable def ZR: PS:=fun σ=>some (none,σ)
theorem ZU: S O O R fr ZQ ZR:=fun c ρ σ H Φ r s e=>by
 cases e
 exact⟨ρ,H,Φ,Nat.le_refl _,fun _ _ _=>rfl,.inl ⟨rfl,rfl,s,fun a m=>.inr m⟩⟩
noncomputable def Zx(a b:PS): PS:=fun σ=>(a σ).bind fun r=>match r.1 with
 | some _=>some r
 | none=>b r.2
theorem Zz{O1:List Nat}{a b:Sm}{p q:PS}(x:S O O1 R fr a p)(y:S O1 O' R fr b q): S O O' R fr (Zw a b) (Zx p q):=fun c ρ σ H Φ r s e=>by
 obtain⟨r1,e1,e⟩:=Zz0.mp e
 obtain⟨ρ1,H1,Φ1,h1,h2,h3⟩:=x c ρ σ H Φ r1 s e1
 rcases h3 with⟨k1,k2,k3,k4⟩ | ⟨t,v,F,k1,k2,k3⟩
 ·rw[k1]at e
  obtain⟨ρ2,H2,Φ2,g1,g2,g3⟩:=y c ρ1 r1.2 H1 Φ1 r k3 e
  refine⟨ρ2,H2,Φ2,Nat.le_trans h1 g1,fun a ha hn=>?_,?_⟩
  ·rw[g2 a (by omega) fun q=>(k4 a q).elim (fun q=>by omega) hn,h2 a ha hn]
  ·have eg:Zw a b ρ H=b ρ1 H1:=by simp only[Zw,k2,Option.bind_some]
   rw[eg]
   rcases g3 with⟨l1,l2,l3,l4⟩ | l
   ·refine .inl ⟨l1,l2,l3,fun a m=>?_⟩
    rcases l4 a m with q | q
    ·exact .inl (by omega)
    ·exact k4 a q
   ·exact .inr l
 ·rw[k1]at e
  cases e
  exact⟨ρ1,H1,Φ1,h1,h2,.inr ⟨t,v,F,k1,by simp only[Zw,k2,Option.bind_some],k3⟩⟩
noncomputable def ZE(p:PE): PS:=fun σ=>(p σ).map fun t=>(some t,σ)
theorem ZN{N:List Nat}{u:Bool}{e:Ex}{p:PE}(x:E O N u e p)(hR:∀i∈R,i∈O:=by decide): S O O' R false (ZD e) (ZE p):=fun c ρ σ H Φ r s q=>by
 obtain⟨t,h1,h⟩:=Zz1.mp q
 subst h
 obtain⟨v,X,F,a1,a2,a3,a4⟩:=x c ρ σ H Φ t s h1
 refine⟨ρ,H++X,Φ,by simp,fun a ha _=>List.getElem?_append_left ha,.inr ⟨t,v,F,rfl,by simp only[ZD,a1,Option.map_some],a2,(s.ext X).less hR,fun a m=>s.from_src (a3 a m),by simp⟩⟩
theorem ZbO{N:List Nat}{e:Ex}{p:PE}(x:E O N true e p)(hN:∀i∈N,i∈O:=by decide)(hR:∀i∈R,i∈O:=by decide): S O O' R fr (ZD e) (ZE p):=fun c ρ σ H Φ r s q=>by
 obtain⟨t,h1,h⟩:=Zz1.mp q
 subst h
 obtain⟨v,X,F,a1,a2,a3,a4⟩:=x c ρ σ H Φ t s h1
 refine⟨ρ,H++X,Φ,by simp,fun a ha _=>List.getElem?_append_left ha,.inr ⟨t,v,F,rfl,by simp only[ZD,a1,Option.map_some],a2,(s.ext X).less hR,fun a m=>s.from_src (a3 a m),fun _=>⟨a4 rfl,fun a m=>?_⟩⟩⟩
 rcases a3 a m with q | ⟨i,hi,⟨t',e'⟩,m'⟩
 ·exact .inl (Nat.le_trans s.len q)
 ·exact(s.own i (hN i hi) t' e').2.1 a m'
noncomputable def Zac(i:Nat)(p:PE): PS:=fun σ=>(p σ).map fun t=>(none,ZF σ i t)
theorem Zau{N:List Nat}{u:Bool}{i:Nat}{e:Ex}{p:PE}(x:E O N u e p)(hi:i∉O':=by decide)(hN:∀j∈N,j∉O':=by decide)(hO:∀j∈O',j∈O:=by decide): S O O' R fr (Z1 i e) (Zac i p):=fun c ρ σ H Φ r s q=>by
 obtain⟨t,h1,h⟩:=Zz1.mp q
 subst h
 obtain⟨v,X,F,a1,a2,a3,a4⟩:=x c ρ σ H Φ t s h1
 have s':=s.less hO
 refine⟨upd ρ i v,H++X,ZM Φ i F,by simp,fun a ha _=>List.getElem?_append_left ha,.inl ⟨rfl,by simp only[Z1,a1,Option.map_some],(s'.ext X).put hi a2 (fun a m=>s.from_src (a3 a m)) (fun k hk t' e' a m q=>?_),fun a m=>?_⟩⟩
 ·exact s'.from_off hN (a3 a q) hk e' m
 ·obtain⟨k,hk,⟨t',e'⟩,m⟩:=m
  have:k≠i:=fun q=>hi (q▸hk)
  simp[ZF,this]at e'
  simp[ZM,this]at m
  exact .inr ⟨k,hO k hk,⟨t',e'⟩,m⟩
theorem ZcF{i:Nat}{e:Ex}{p:PE}(x:E O [] true e p)(hO:∀j∈O',j∈O∨j=i:=by decide): S O O' R fr (Z1 i e) (Zac i p):=fun c ρ σ H Φ r s q=>by
 obtain⟨t,h1,h⟩:=Zz1.mp q
 subst h
 obtain⟨v,X,F,a1,a2,a3,a4⟩:=x c ρ σ H Φ t s h1
 have hnew:∀a∈F,H.length≤a:=fun a m=>(a3 a m).nil
 have hold:∀k t',σ k=some t'→∀a∈Φ k,a<H.length:=fun k t' e a m=>by
  obtain⟨_,_,r⟩:=s.slot k t' e
  exact r.lt a m
 refine⟨upd ρ i v,H++X,ZM Φ i F,by simp,fun a ha _=>List.getElem?_append_left ha,.inl ⟨rfl,by simp only[Z1,a1,Option.map_some],⟨fun k t' e'=>?_,fun k t' e'=>?_,fun k hk t' e'=>?_,(s.ext X).len,(s.ext X).keep,s.pos,s.f0⟩,fun a m=>?_⟩⟩
 ·by_cases q:k=i
  ·subst q
   simp[ZF]at e'
   subst e'
   exact⟨v,by simp[upd],by simpa [ZM]using a2⟩
  ·simp[ZF,q]at e'
   simpa [upd,ZM,q]using (s.ext X).slot k t' e'
 ·by_cases q:k=i
  ·subst q;simpa [ZM]using fun a m=>s.from_src (a3 a m)
  ·simp[ZF,q]at e'
   simpa [ZM,q]using s.src k t' e'
 ·by_cases q:k=i
  ·subst q
   simp only[ZM,if_true]
   refine⟨a4 rfl,fun a m=>.inl (Nat.le_trans s.len (hnew a m)),fun j w hj ej a m q=>?_⟩
   simp[ZF,hj]at ej
   rw[if_neg hj]at q
   have:=hold j w ej a q
   have:=hnew a m
   omega
  ·have hk':=(hO k hk).resolve_right q
   simp[ZF,q]at e'
   obtain⟨o1,o2,o3⟩:=s.own k hk' t' e'
   refine⟨by simpa [ZM,q]using o1,by simpa [ZM,q]using o2,fun j w hj ej a m=>?_⟩
   simp[ZM,q]at m
   by_cases q2:j=i
   ·subst q2
    simp only[ZM,if_true]
    intro m2
    have:=hold k t' e' a m
    have:=hnew a m2
    omega
   ·simp[ZF,q2]at ej
    simpa [ZM,q2]using o3 j w hj ej a m
 ·obtain⟨k,hk,⟨t',e'⟩,m⟩:=m
  by_cases q:k=i
  ·subst q
   simp[ZM]at m
   exact .inl (hnew a m)
  ·simp[ZF,q]at e'
   simp[ZM,q]at m
   exact .inr ⟨k,(hO k hk).resolve_right q,⟨t',e'⟩,m⟩
noncomputable def ZP(b:PB)(p q:PS): PS:=fun σ=>(b σ).bind fun x=>if x then p σ else q σ
theorem Aft.grow{c:Ctx}{σ:TL}{H X:Hp}{Φ:Nat→List Nat}{g:Option (Option V×Lc×Hp)}{r:Option T×TL}(h:Aft c O O' R fr σ (H++X) Φ g r): Aft c O O' R fr σ H Φ g r:=by
 obtain⟨ρ',H',Φ',h1,h2,h3⟩:=h
 rw[List.length_append]at h1
 refine⟨ρ',H',Φ',by omega,fun a ha hn=>?_,?_⟩
 ·rw[h2 a (by rw[List.length_append];omega) hn,List.getElem?_append_left ha]
 ·rcases h3 with⟨k1,k2,k3,k4⟩ | k
  ·exact .inl ⟨k1,k2,k3,fun a m=>(k4 a m).imp (fun q=>by rw[List.length_append]at q;omega) id⟩
  ·exact .inr k
theorem ZV{t:Ts}{pb:PB}{a b:Sm}{p q:PS}(z:Bt O t pb)(x:S O O' R fr a p)(y:S O O' R fr b q): S O O' R fr (ZO t a b) (ZP pb p q):=fun c ρ σ H Φ r s e=>by
 obtain⟨bb,e1,e⟩:=Zz0.mp e
 obtain⟨X,h1⟩:=z c ρ σ H Φ bb s e1
 cases bb with
 | true=>
  have:=x c ρ σ (H++X) Φ r (s.ext X) (by simpa using e)
  have eg:ZO t a b ρ H=a ρ (H++X):=by simp[ZO,h1]
  rw[eg]
  exact this.grow
 | false=>
  have:=y c ρ σ (H++X) Φ r (s.ext X) (by simpa using e)
  have eg:ZO t a b ρ H=b ρ (H++X):=by simp[ZO,h1]
  rw[eg]
  exact this.grow
noncomputable def follow(H:Hp): List Int→V→Option V
 | [],v=>some v
 | k::ks,v=>(Zq v (.int k) H).bind fun q=>follow H ks q.1
theorem Lead.follow{H:Hp}{ks:List Int}{v:V}{a:Nat}(l:Lead H ks v a): follow H ks v=some (.ref a):=by
 induction l with
 | nil=>rfl
 | ref h1 h2 h3 _ ih=>simp only[TM.follow,Zq,h1,Option.bind_some,h2,h3,Option.map_some,ih]
 | tup h2 h3 _ ih=>simp only[TM.follow,Zq,Option.bind_some,h2,h3,Option.map_some,ih]
theorem Zg8{H:Hp}{v w z:V}{K:Hp}(h:Zq v z H=some (w,K))(X:Hp): K=H∧Zq v z (H++X)=some (w,H++X):=by
 unfold Zq at h
 split at h
 ·obtain⟨vs,e1,h⟩:=Zz0.mp h
  obtain⟨j,e2,h⟩:=Zz0.mp h
  obtain⟨x,e3,h⟩:=Zz1.mp h
  cases h
  exact⟨rfl,by simp only[Zq,List.getElem?_append_left (Zz6.mp e1).1,e1,Option.bind_some,e2,e3,Option.map_some]⟩
 ·obtain⟨j,e2,h⟩:=Zz0.mp h
  obtain⟨x,e3,h⟩:=Zz1.mp h
  cases h
  exact⟨rfl,by simp only[Zq,Option.bind_some,e2,e3,Option.map_some]⟩
 ·cases h
theorem ZgY{H:Hp}{k:Int}: ∀{ks:List Int} {v:V},follow H (ks++[k]) v=(follow H ks v).bind fun w=>(Zq w (.int k) H).map (·.1)
 | [],v=>by
  simp only[List.nil_append,follow,Option.bind_some]
  cases Zq v (.int k) H <;> rfl
 | j::ks,v=>by
  simp only[List.cons_append,follow]
  cases Zq v (.int j) H with
  | none=>rfl
  | some q=>simp only[Option.bind_some];exact ZgY
noncomputable abbrev PPa:=TL→Option (List Int)
noncomputable def ZaM: PPa:=fun _=>some []
noncomputable def Zb4(p:PPa)(i:PE): PPa:=fun σ=>(p σ).bind fun ks=>(i σ).bind fun t=>match t with
 | .int k=>some (ks++[k])
 | _=>none
noncomputable def Pa(O:List Nat)(x:Nat)(e:Ex)(p:PPa): Prop:=∀(c:Ctx) (ρ:Lc) (σ:TL) (H:Hp) (Φ:Nat→List Nat) (ks:List Int) (v w:V),St c O ρ σ H Φ→p σ=some ks→ρ x=some v→follow H ks v=some w→∃X,e ρ H=some (w,H++X)
theorem Zcj{x:Nat}: Pa O x (Za x) ZaM:=fun c ρ σ H Φ ks v w s h e f=>by
 cases h;cases f
 exact⟨[],by simp[Za,e]⟩
theorem ZdG{x:Nat}{N:List Nat}{u:Bool}{e i:Ex}{p:PPa}{pi:PE}(y:Pa O x e p)(z:E O N u i pi): Pa O x (Zd Zq e i) (Zb4 p pi):=fun c ρ σ H Φ ks v w s h ev f=>by
 obtain⟨ks0,h1,h⟩:=Zz0.mp h
 obtain⟨t,h2,h⟩:=Zz0.mp h
 cases t <;> first | (cases h;done) | skip
 rename_i k
 cases h
 rw[ZgY]at f
 obtain⟨w0,f1,f⟩:=Zz0.mp f
 obtain⟨⟨w1,K⟩,f2,f⟩:=Zz1.mp f
 cases f
 obtain⟨X,a1⟩:=y c ρ σ H Φ ks0 v w0 s h1 ev f1
 obtain⟨vi,Y,F,b1,b2,b3,b4⟩:=z c ρ σ (H++X) Φ _ (s.ext X) h2
 cases b2
 refine⟨X++Y,?_⟩
 simp only[Zd,a1,Option.bind_some,b1]
 have:=(Zg8 f2 (X++Y)).2
 rw[List.append_assoc]
 exact this
theorem ZhN{c:Ctx}{ρ:Lc}{σ:TL}{H:Hp}{Φ:Nat→List Nat}{N:List Nat}{x a b:Nat}{t t':T}{v:V}{Fw F':List Nat}{vs':List V}(s:St c O ρ σ H Φ)(hx:x∈O)(ex:σ x=some t)(ev:ρ x=some v)(hb:c.H0.length≤b)(hlow:∀k t,σ k=some t→∀a∈Φ k,a<b)
  (hFw:∀a∈Fw,b≤a∨∃j∈N,(∃t,σ j=some t)∧a∈Φ j) (hN:∀j∈N,j∈O∧j≠x) (ha:a∈Φ x) (r:RF (H.set a vs') v t' F') (nd:F'.Nodup) (sub:∀y∈F',y∈Φ x∨y∈Fw) (hO:∀j∈O',j∈O∧j∉N):
  St c O' ρ (Zbj (ZF σ x t') N) (H.set a vs') (ZM Φ x F')∧(∀y,Held O' (Zbj (ZF σ x t') N) (ZM Φ x F') y→b≤y∨Held O σ Φ y):=by
 obtain⟨o1,o2,o3⟩:=s.own x hx t ex
 have old:∀k u,k≠x→Zbj (ZF σ x t') N k=some u→σ k=some u∧k∉N:=fun k u hk e=>by
  unfold Zbj at e
  split at e
  ·cases e
  ·rename_i hn
   simp[ZF,hk]at e
   exact⟨e,hn⟩
 have self:∀u,Zbj (ZF σ x t') N x=some u→u=t':=fun u e=>by
  unfold Zbj at e
  split at e
  ·cases e
  ·simp[ZF]at e;exact e.symm
 have foff:∀y∈F',∀k u,k≠x→σ k=some u→k∉N→y∉Φ k:=fun y hy k u hk e hkn m=>by
  rcases sub y hy with q | q
  ·exact o3 k u hk e y q m
  ·rcases hFw y q with q | ⟨j,hj,⟨tj,ej⟩,mj⟩
   ·have:=hlow k u e y m;omega
   ·exact(s.own j (hN j hj).1 tj ej).2.2 k u (fun q=>hkn (q▸hj)) e y mj m
 refine⟨⟨fun k u e=>?_,fun k u e=>?_,fun k hk u e=>?_,by simpa using s.len,fun y hy hn=>?_,s.pos,s.f0⟩,fun y hy=>?_⟩
 ·by_cases q:k=x
  ·subst q
   have:=self u e
   subst this
   exact⟨v,ev,by simpa [ZM]using r⟩
  ·obtain⟨e1,e2⟩:=old k u q e
   obtain⟨w,h1,h2⟩:=s.slot k u e1
   refine⟨w,h1,?_⟩
   simp only[ZM,q,if_false]
   refine h2.frame fun y hy=>List.getElem?_set_ne fun q'=>?_
   exact o3 k u q e1 a ha (q'▸hy)
 ·by_cases q:k=x
  ·subst q
   simp only[ZM,if_true]
   intro y hy
   rcases sub y hy with q | q
   ·exact s.src k t ex y q
   ·rcases hFw y q with q | ⟨j,hj,⟨tj,ej⟩,mj⟩
    ·exact .inl (by omega)
    ·exact s.src j tj ej y mj
  ·obtain⟨e1,e2⟩:=old k u q e
   simpa [ZM,q]using s.src k u e1
 ·by_cases q:k=x
  ·subst q
   simp only[ZM,if_true]
   refine⟨nd,fun y hy=>?_,fun j w hj ej y hy=>?_⟩
   ·rcases sub y hy with q | q
    ·exact o2 y q
    ·rcases hFw y q with q | ⟨j,hj,⟨tj,ej⟩,mj⟩
     ·exact .inl (by omega)
     ·exact(s.own j (hN j hj).1 tj ej).2.1 y mj
   ·obtain⟨e1,e2⟩:=old j w hj ej
    simpa [hj]using foff y hy j w hj e1 e2
  ·obtain⟨e1,e2⟩:=old k u q e
   obtain⟨p1,p2,p3⟩:=s.own k (hO k hk).1 u e1
   simp only[ZM,q,if_false]
   refine⟨p1,p2,fun j w hj ej y hy=>?_⟩
   by_cases q2:j=x
   ·subst q2
    simp only[if_true]
    exact fun m=>foff y m k u q e1 e2 hy
   ·obtain⟨f1,f2⟩:=old j w q2 ej
    simpa [q2]using p3 j w hj f1 y hy
 ·have:a≠y:=fun q=>by
   subst q
   rcases o2 a ha with q | q
   ·omega
   ·exact hn q
  rw[List.getElem?_set_ne this]
  exact s.keep y hy hn
 ·obtain⟨k,hk,⟨u,e⟩,m⟩:=hy
  by_cases q:k=x
  ·subst q
   simp only[ZM,if_true]at m
   rcases sub y m with q | q
   ·exact .inr ⟨k,hx,⟨t,ex⟩,q⟩
   ·rcases hFw y q with q | ⟨j,hj,q⟩
    ·exact .inl q
    ·exact .inr ⟨j,(hN j hj).1,q⟩
  ·obtain⟨e1,e2⟩:=old k u q e
   simp only[ZM,q,if_false]at m
   exact .inr ⟨k,(hO k hk).1,⟨u,e1⟩,m⟩
theorem Zgd{c:Ctx}{ρ:Lc}{σ:TL}{H:Hp}{Φ:Nat→List Nat}{x a:Nat}{t:T}(s:St c O ρ σ H Φ)(hx:x∈O)(ex:σ x=some t)(ha:a∈Φ x): a≠0:=by
 have:=s.pos
 rcases(s.own x hx t ex).2.1 a ha with q | q
 ·omega
 ·exact fun e=>s.f0 (e▸q)
noncomputable def Zcr(w:T)(ts:List T): Option (List T):=if ts.length<ZZ then some (ts++[w])else none
noncomputable def Zde(k:Int)(w:T)(ts:List T): Option (List T):=if 0≤k∧k<ts.length then some (ts.set k.toNat w)else none
noncomputable def ZbW(x:Nat)(N:List Nat)(po:PPa)(p:PE): PS:=fun σ=>(po σ).bind fun ks=>(p σ).bind fun w=>(σ x).bind fun t=>(Zbe (Zcr w) ks t).map fun t'=>(none,Zbj (ZF σ x t') N)
noncomputable def ZbX(x:Nat)(N:List Nat)(p:PE)(po:PPa)(pi:PE): PS:=fun σ=>(p σ).bind fun w=>(po σ).bind fun ks=>(pi σ).bind fun k=>match k with
 | .int k=>(σ x).bind fun t=>(Zbe (Zde k w) ks t).map fun t'=>(none,Zbj (ZF σ x t') N)
 | _=>none
theorem Zdo{H:Hp}(X:Hp): ∀{ks:List Int} {v w:V},follow H ks v=some w→follow (H++X) ks v=some w
 | [],_,_,h=>h
 | k::ks,v,w,h=>by
  obtain⟨⟨w1,K⟩,h1,h2⟩:=Zz0.mp h
  simp only[follow,(Zg8 h1 X).2,Option.bind_some]
  exact Zdo X h2
theorem ZeL{x:Nat}{N:List Nat}{o e:Ex}{po:PPa}{p:PE}(hx:x∈O)(y:Pa O x o po)(z:E O N true e p)(hN:∀j∈N,j∈O∧j≠x)(hO:∀j∈O',j∈O∧j∉N): S O O' R fr (ZaX (ZcB o e)) (ZbW x N po p):=fun c ρ σ H Φ r s q=>by
 obtain⟨ks,h1,q⟩:=Zz0.mp q
 obtain⟨w,h2,q⟩:=Zz0.mp q
 obtain⟨t,h3,q⟩:=Zz0.mp q
 obtain⟨t',h4,q⟩:=Zz1.mp q
 subst q
 obtain⟨v,ev,rv⟩:=s.slot x t h3
 have hlow:∀k t,σ k=some t→∀a∈Φ k,a<H.length:=fun k t e a m=>by
  obtain⟨_,_,r⟩:=s.slot k t e
  exact r.lt a m
 obtain⟨o1,o2,o3⟩:=s.own x hx t h3
 obtain⟨a,vs0,ts0,ts0',G0,l0,_⟩:=ZcY (Gn:=[]) ks rv o1 (by simp) h4
 obtain⟨X,a1⟩:=y c ρ σ H Φ ks v (.ref a) s h1 ev l0.follow
 obtain⟨vw,Y,Fw,b1,b2,b3,b4⟩:=z c ρ σ (H++X) Φ w (s.ext X) h2
 have s2:=(s.ext X).ext Y
 have rv2:RF (H++X++Y) v t (Φ x):=(rv.ext X).ext Y
 have hFw:∀a∈Fw,H.length≤a∨∃j∈N,(∃t,σ j=some t)∧a∈Φ j:=fun a m=>(b3 a m).back
 have dsj:∀a∈Fw,a∉Φ x:=fun a m q=>by
  rcases hFw a m with h | ⟨j,hj,⟨tj,ej⟩,mj⟩
  ·have:=hlow x t h3 a q;omega
  ·exact o3 j tj (hN j hj).2 ej a q mj
 obtain⟨a',vs,ts,ts',G,l,am,ea,hs,hf,gn,na,gs,go⟩:=ZcY (Gn:=Fw) ks rv2 o1 dsj h4
 have haa:a'=a:=by
  have f2:=Zdo Y (Zdo X l0.follow)
  rw[l.follow]at f2
  cases f2
  rfl
 subst haa
 unfold Zcr at hf
 split at hf
 ·rename_i hl
  cases hf
  obtain⟨F',r',n',sub'⟩:=go (vs++[vw]) (G++Fw) (hs.snoc b2) (by
   rw[List.nodup_append]
   exact⟨gn,b4 rfl,fun y hy z hz e=>dsj z hz (e▸gs y hy)⟩) (fun m=>(Zz8.mp m).elim na fun m=>dsj _ m am) (fun y m=>List.mem_append.mp m)
  obtain⟨st,com⟩:=ZhN (O':=O') (b:=H.length) s2 hx h3 ev s.len hlow hFw hN am r' n' sub' hO
  refine⟨ρ,(H++X++Y).set a' (vs++[vw]),ZM Φ x F',by simp,fun y hy hn=>?_,.inl ⟨rfl,?_,st,com⟩⟩
  ·have:a'≠y:=fun q=>hn ⟨x,hx,⟨t,h3⟩,q▸am⟩
   rw[List.getElem?_set_ne this,List.append_assoc,List.getElem?_append_left hy]
  ·simp only[ZaX,ZcB,a1,Option.bind_some,b1,Zdv,ea]
   rw[if_pos ⟨Zgd s hx h3 am,by rw[hs.length];exact hl⟩]
   rfl
 ·cases hf
theorem S.put{x:Nat}{N M:List Nat}{u:Bool}{o e i:Ex}{po:PPa}{p pi:PE}(hx:x∈O)(z:E O N true e p)(y:Pa O x o po)(zi:E O M u i pi)(hN:∀j∈N,j∈O∧j≠x)(hO:∀j∈O',j∈O∧j∉N): S O O' R fr (Zcp e o i) (ZbX x N p po pi):=fun c ρ σ H Φ r s q=>by
 obtain⟨w,h2,q⟩:=Zz0.mp q
 obtain⟨ks,h1,q⟩:=Zz0.mp q
 obtain⟨tk,h5,q⟩:=Zz0.mp q
 cases tk <;> first | (cases q;done) | skip
 rename_i k
 obtain⟨t,h3,q⟩:=Zz0.mp q
 obtain⟨t',h4,q⟩:=Zz1.mp q
 subst q
 obtain⟨v,ev,rv⟩:=s.slot x t h3
 have hlow:∀k t,σ k=some t→∀a∈Φ k,a<H.length:=fun k t e a m=>by
  obtain⟨_,_,r⟩:=s.slot k t e
  exact r.lt a m
 obtain⟨o1,o2,o3⟩:=s.own x hx t h3
 obtain⟨vw,X,Fw,b1,b2,b3,b4⟩:=z c ρ σ H Φ w s h2
 obtain⟨a,vs0,ts0,ts0',G0,l0,_⟩:=ZcY (Gn:=[]) ks (rv.ext X) o1 (by simp) h4
 obtain⟨Y,a1⟩:=y c ρ σ (H++X) Φ ks v (.ref a) (s.ext X) h1 ev l0.follow
 obtain⟨vk,Z,Fk,d1,d2,d3,d4⟩:=zi c ρ σ (H++X++Y) Φ _ ((s.ext X).ext Y) h5
 cases d2
 have s2:=((s.ext X).ext Y).ext Z
 have rv2:RF (H++X++Y++Z) v t (Φ x):=((rv.ext X).ext Y).ext Z
 have hFw:∀a∈Fw,H.length≤a∨∃j∈N,(∃t,σ j=some t)∧a∈Φ j:=b3
 have dsj:∀a∈Fw,a∉Φ x:=fun a m q=>by
  rcases hFw a m with h | ⟨j,hj,⟨tj,ej⟩,mj⟩
  ·have:=hlow x t h3 a q;omega
  ·exact o3 j tj (hN j hj).2 ej a q mj
 obtain⟨a',vs,ts,ts',G,l,am,ea,hs,hf,gn,na,gs,go⟩:=ZcY (Gn:=Fw) ks rv2 o1 dsj h4
 have haa:a'=a:=by
  have f2:=Zdo Z (Zdo Y l0.follow)
  rw[l.follow]at f2
  cases f2
  rfl
 subst haa
 unfold Zde at hf
 split at hf
 ·rename_i hl
  cases hf
  have hk:k.toNat<ts.length:=by omega
  obtain⟨v0,Gk,F1,F2,e0,r0,eG,rb⟩:=hs.split (List.getElem?_eq_getElem hk)
  have b2':RF (H++X++Y++Z) vw w Fw:=(b2.ext Y).ext Z
  have rs:=rb (H++X++Y++Z) vw w Fw b2' (fun _ _=>rfl) (fun _ _=>rfl)
  have sub0:∀a∈Fw,a∈Gk∨a∈Fw:=fun a m=>.inr m
  subst eG
  obtain⟨F',r',n',sub'⟩:=go _ _ rs (nd3 gn (b4 rfl) sub0 fun a m q=>dsj a m (gs a q)) (fun m=>by
   rcases in3 (G:=Gk) sub0 _ m with m | m
   ·exact na m
   ·exact dsj _ m am) (in3 sub0)
  obtain⟨st,com⟩:=ZhN (O':=O') (b:=H.length) s2 hx h3 ev s.len hlow hFw hN am r' n' sub' hO
  refine⟨ρ,(H++X++Y++Z).set a' (vs.set k.toNat vw),ZM Φ x F',by simp,fun y hy hn=>?_,.inl ⟨rfl,?_,st,com⟩⟩
  ·have:a'≠y:=fun q=>hn ⟨x,hx,⟨t,h3⟩,q▸am⟩
   rw[List.getElem?_set_ne this,List.append_assoc,List.append_assoc,List.getElem?_append_left hy]
  ·simp only[Zcp,b1,Option.bind_some,a1,d1,ZgH,ea]
   rw[if_pos ⟨Zgd s hx h3 am,by rw[hs.length];exact hl⟩]
   rfl
 ·cases hf
noncomputable def Zdf(put:T→TL→Option TL)(b:PS): TL→List T→Option (Option T×TL)
 | σ,[]=>some (none,σ)
 | σ,t::ts=>(put t σ).bind fun σ1=>(b σ1).bind fun r=>match r.1 with
  | some _=>some r
  | none=>Zdf put b r.2 ts
noncomputable def ZaN(g:PG)(put:T→TL→Option TL)(b:PS): PS:=fun σ=>(g σ).bind fun ts=>Zdf put b σ ts
theorem Zhh{J:List Nat}{put:V→Lc→Option Lc}{pput:T→TL→Option TL}{b:Sm}{qb:PS}(hj:PutOk O J put pput)(hJ:∀i∈J,i∉O)(hb:S O O R fr b qb){c:Ctx}{nx:Nx}{vs:List V}{G:List Nat}{H1:Hp}(hG:∀a∈G,a<H1.length)(hsrc:∀a∈G,c.H0.length≤a∨c.P a)(hnx:∀K:Hp,(∀a∈G,K[a]?=H1[a]?)→∀i,i≤vs.length→nx i K=some vs[i]?):
  ∀(rs:List T) (ws:List V) (i:Nat) (ρ:Lc) (σ:TL) (K:Hp) (Φ:Nat→List Nat) (Fr:List Nat) (r:Option T×TL),(∀j,vs[i+j]?=ws[j]?)→i+ws.length=vs.length→St c O ρ σ K Φ→H1.length≤K.length→(∀a∈G,K[a]?=H1[a]?)→(∀a∈G,¬Held O σ Φ a)→RFs K ws rs Fr→(∀a∈Fr,a∈G)→Zdf pput qb σ rs=some r →
   Aft c O O R fr σ K Φ (Zck nx put b (rs.length+1) i ρ K) r
 | [],ws,i,ρ,σ,K,Φ,Fr,r,hat,hlen,s,hl,hk,hoff,rr,hfr,h=>by
  cases rr
  cases h
  have e:=hnx K hk i (by simp at hlen;omega)
  have e2:vs[i]?=none:=by have:=hat 0;simpa using this
  exact⟨ρ,K,Φ,Nat.le_refl _,fun _ _ _=>rfl,.inl ⟨rfl,by simp[Zck,e,e2],s,fun a m=>.inr m⟩⟩
 | t::rs,ws0,i,ρ,σ,K,Φ,Fr0,r,hat,hlen,s,hl,hk,hoff,rr,hfr,h=>by
  cases rr with
  | @cons v _ F1 ws _ F2 a b'=>
  simp only[List.length_cons]at hlen
  obtain⟨σ1,h1,h⟩:=Zz0.mp h
  obtain⟨r1,h2,h⟩:=Zz0.mp h
  have e:=hnx K hk i (by omega)
  have e2:vs[i]?=some v:=by have:=hat 0;simpa using this
  have hat':∀j,vs[i+1+j]?=ws[j]?:=fun j=>by have:=hat (j+1);rw[show i+1+j=i+(j+1)by omega,this];simp
  obtain⟨ρ1,Φ1,p1,s1,p3,p4⟩:=hj c ρ σ K Φ v t F1 σ1 s a (fun x m=>hsrc x (hfr x (Zz4 _ m))) (fun k hk t' e x m q=>hoff x (hfr x (Zz4 _ q)) ⟨k,hk,⟨t',e⟩,m⟩) h1
  have hh:∀x,Held O σ1 Φ1 x→Held O σ Φ x:=fun x ⟨k,hk,⟨t',e⟩,m⟩=>by
   obtain⟨q1,q2⟩:=p3 k fun q=>hJ k q hk
   exact⟨k,hk,⟨t',q1▸e⟩,q2▸m⟩
  obtain⟨ρ2,K2,Φ2,g1,g2,g3⟩:=hb c ρ1 σ1 K Φ1 r1 s1 h2
  have estep:Zck nx put b ((t::rs).length+1) i ρ K=(b ρ1 K).bind fun q=>match q.1 with
    | some _=>some q
    | none=>Zck nx put b (rs.length+1) (i+1) q.2.1 q.2.2:=by
   rw[List.length_cons]
   show(nx i K).bind _=_
   rw[e,e2]
   first | (simp only[Option.bind_some,p1];done) | (simp only[Option.bind_some,p1];rfl)
  rcases g3 with⟨k1,k2,k3,k4⟩ | ⟨t',v',F',k1,k2,k3⟩
  ·rw[k1]at h
   have hG2:∀a∈G,K2[a]?=K[a]?:=fun x m=>g2 x (by have:=hG x m;omega) fun q=>hoff x m (hh x q)
   have hoff2:∀a∈G,¬Held O r1.2 Φ2 a:=fun x m q=>by
    rcases k4 x q with q | q
    ·have:=hG x m;omega
    ·exact hoff x m (hh x q)
   have ih:=Zhh hj hJ hb hG hsrc hnx rs ws (i+1) ρ2 r1.2 K2 Φ2 F2 r hat' (by omega) k3 (by omega) (fun x m=>(hG2 x m).trans (hk x m)) hoff2 (b'.frame fun x m=>hG2 x (hfr x (Zz3 _ m))) (fun x m=>hfr x (Zz3 _ m)) h
   rw[estep,k2]
   simp only[Option.bind_some]
   obtain⟨ρ3,K3,Φ3,l1,l2,l3⟩:=ih
   refine⟨ρ3,K3,Φ3,by omega,fun x hx hn=>?_,?_⟩
   ·rw[l2 x (by omega) fun q=>(k4 x q).elim (fun q=>by omega) fun q=>hn (hh x q),g2 x hx fun q=>hn (hh x q)]
   ·rcases l3 with⟨m1,m2,m3,m4⟩ | l
    ·refine .inl ⟨m1,m2,m3,fun x q=>?_⟩
     rcases m4 x q with q | q
     ·exact .inl (by omega)
     ·exact(k4 x q).imp id (hh x)
    ·exact .inr l
  ·rw[k1]at h
   cases h
   refine⟨ρ2,K2,Φ2,g1,fun x hx hn=>g2 x hx fun q=>hn (hh x q),.inr ⟨t',v',F',k1,?_,k3⟩⟩
   rw[estep,k2]
   rfl
theorem Zbq{J Ns:List Nat}{g:Src}{q:PG}{put:V→Lc→Option Lc}{pput:T→TL→Option TL}{b:Sm}{qb:PS}(hg:Gs O Ns g q)(hj:PutOk O J put pput)(hJ:∀i∈J,i∉O)(hN:∀i∈Ns,i∉O)(hb:S O O R fr b qb): S O O R fr (ZaY g put b) (ZaN q pput qb):=fun c ρ σ H Φ r s h=>by
 obtain⟨ts,h1,h⟩:=Zz0.mp h
 obtain⟨nx,X,vs,F,G,g1,g2,g3,g4,g5⟩:=hg c ρ σ H Φ ts s h1
 have:=Zhh hj hJ hb (H1:=H++X) (fun a m=>(g4 a m).1) (fun a m=>s.from_src (g4 a m).2) g5 ts vs 0 ρ σ (H++X) Φ F r (by simp) (by simp) (s.ext X) (Zz10 _) (fun _ _=>rfl) (fun a m ⟨k,hk,⟨t,e⟩,q⟩=>s.from_off hN (g4 a m).2 hk e q) g2 g3 h
 have eg:ZaY g put b ρ H=Zck nx put b (ts.length+1) 0 ρ (H++X):=by simp only[ZaY,g1,Option.bind_some]
 rw[eg]
 exact this.grow
noncomputable def Zk1(t:PB)(b:PS): Nat→PS
 | 0=>fun _=>none
 | n+1=>fun σ=>(t σ).bind fun p=>if p then(b σ).bind fun q=>(match q.1 with
   | some _=>some q
   | none=>Zk1 t b n q.2)else some (none,σ)
end
noncomputable def Z6(n:Nat)(q:PS): List T→Option T:=fun ts=>if ts.length=n then(q fun i=>ts[i]?).map fun r=>r.1.getD .none else none
theorem RFs.slots{H:Hp}: ∀{vs:List V} {ts:List T} {F:List Nat},RFs H vs ts F→∃Φ:Nat→List Nat,∀i t,ts[i]?=some t→∃v,vs[i]?=some v∧RF H v t (Φ i)∧∀a∈Φ i,a∈F
 | _,_,_,.nil=>⟨fun _=>[],fun i t e=>by simp at e⟩
 | _,_,_,.cons (F:=F1) a b=>by
  obtain⟨Φ,h⟩:=b.slots
  refine⟨fun i=>match i with | 0=>F1 | i+1=>Φ i,fun i t e=>?_⟩
  cases i with
  | zero=>simp at e;subst e;exact⟨_,by simp,a,fun x m=>List.mem_append_left _ m⟩
  | succ i=>
   simp at e
   obtain⟨v,h1,h2,h3⟩:=h i t e
   exact⟨v,by simpa using h1,h2,fun x m=>List.mem_append_right _ (h3 x m)⟩
theorem Zg3{H H':Hp}(hl:H.length≤H'.length)(h:∀a,a<H.length→H'[a]?=H[a]?): H'=H++H'.drop H.length:=by
 conv=>lhs;rw[←List.take_append_drop H.length H']
 congr 1
 refine List.ext_getElem? fun i=>?_
 by_cases q:i<H.length
 ·rw[List.getElem?_take_of_lt q,h i q]
 ·rw[List.getElem?_eq_none (by simp;omega),List.getElem?_eq_none (by omega)]
theorem Zai{O':List Nat}{fr:Bool}{n:Nat}{g:Sm}{q:PS}(h:S [] O' [] fr g q): SimF fr (Z2 n g) (Z6 n q):=fun H vs ts t F1 hp r e=>by
 unfold Z6 at e
 split at e
 ·rename_i hl
  obtain⟨r1,e1,e2⟩:=Zz1.mp e
  obtain⟨Φ,hΦ⟩:=r.slots
  have st:St ⟨H,[],fun a=>a∈F1⟩ [] (fun i=>vs[i]?) (fun i=>ts[i]?) H Φ:=
   ⟨(fun i t e=>by obtain⟨v,h1,h2,_⟩:=hΦ i t e;exact⟨v,h1,h2⟩),fun i t e a m=>(by obtain⟨v,h1,h2,h3⟩:=hΦ i t e;exact .inr (h3 a m)),(fun i hi=>nomatch hi),Nat.le_refl _,fun a _ _=>rfl,hp,by simp⟩
  obtain⟨ρ',H',Φ',h1,h2,h3⟩:=h _ _ _ _ _ _ st e1
  rcases h3 with⟨k1,k2,k3,k4⟩ | ⟨t',v',F',k1,k2,k3,k4,k5,k6⟩
  ·have eh:=Zg3 k3.len fun a ha=>k3.keep a ha (by simp)
   refine⟨.none,H'.drop H.length,[],?_,?_,by simp,by simp⟩
   ·have hv:vs.length=n:=r.length.trans hl
    simp only[Z2,hv,if_true,k2,Option.map_some,Option.getD_none]
    rw[←eh]
   ·rw[k1]at e2
    subst e2
    exact .none
  ·have eh:=Zg3 k4.len fun a ha=>k4.keep a ha (by simp)
   refine⟨v',H'.drop H.length,F',?_,?_,k5,fun hf=>⟨(k6 hf).1,fun a m=>((k6 hf).2 a m).elim id fun q=>by cases q⟩⟩
   ·have hv:vs.length=n:=r.length.trans hl
    simp only[Z2,hv,if_true,k2,Option.map_some,Option.getD_some]
    rw[←eh]
   ·rw[k1]at e2
    subst e2
    rw[←eh]
    exact k3
 ·cases e
theorem Zi7{f:List V→Hp→Option (V×Hp)}{p:List T→Option T}{fr:Bool}(h:SimF fr f p)(ns:List Int)(e:p [.lst (ns.map T.int)]=some (.bool true)): ∃H',f [.ref 0] [ns.map V.int]=some (.bool true,H'):=by
 have intsAre:∀l:List Int,RFs [ns.map V.int] (l.map V.int) (l.map T.int) []:=fun l=>by
  induction l with
  | nil=>exact .nil
  | cons a l ih=>exact .cons (.int a) ih
 obtain⟨v,X,F,h1,h2,_⟩:=h [ns.map V.int] [.ref 0] [.lst (ns.map T.int)] _ _ (by simp) (.one (.ref rfl (intsAre ns))) e
 cases h2
 exact⟨_,h1⟩
end TM
end
section
set_option autoImplicit false
namespace TM
open PySem PM
section
variable {O Ns Ne J:List Nat}
theorem Zew{u:Bool}{g:Src}{q:PG}{put:V→Lc→Option Lc}{pput:T→TL→Option TL}{tc:Ts}{pc:PB}{f:Ex}{pf:PE}(hg:Gs O Ns g q)(hj:PutOk O J put pput)(hN:∀i∈Ns,i∉O)(hc:Bt O tc pc)(hf:E O Ne u f pf): E O (Ns++Ne) false (Zar g put tc f) (Zao q pput pc pf):=
 ZhM hg hj hN hc hf.sh (by simp)
theorem Zcf{g:Src}{q:PG}{put:V→Lc→Option Lc}{pput:T→TL→Option TL}{tc:Ts}{pc:PB}{f:Ex}{pf:PE}(hg:Gs O Ns g q)(hj:PutOk O J put pput)(hN:∀i∈Ns,i∉O)(hc:Bt O tc pc)(hf:E O [] true f pf): E O [] true (Zar g put tc f) (Zao q pput pc pf):=
 ZhM hg hj hN hc hf (by simp)
end
end TM
end
section
set_option autoImplicit false
/-! Forward reckoning over trees. -/
namespace TM
open PySem PM
noncomputable def dec(P:Prop): Bool:=@decide P (Classical.propDecidable P)
theorem dec_iff{P:Prop}: dec P=true↔P:=by unfold dec;exact @decide_eq_true_iff P (Classical.propDecidable P)
theorem Zas{P:Prop}(h:P): dec P=true:=dec_iff.mpr h
theorem ZaV{P:Prop}(h:¬P): dec P=false:=by
 cases e:dec P with
 | true=>exact absurd (dec_iff.mp e) h
 | false=>rfl
theorem Zcx{P Q:Prop}(h:P↔Q): dec P=dec Q:=by
 by_cases p:P
 ·rw[Zas p,Zas (h.mp p)]
 ·rw[ZaV p,ZaV fun q=>p (h.mpr q)]
theorem Zk2{P:Prop}{b:Bool}(h:b=true↔P): dec P=b:=by
 cases b with
 | true=>exact Zas (h.mp rfl)
 | false=>exact ZaV fun p=>by simpa using h.mpr p
theorem Zdp{P:Prop}[i:Decidable P]: decide P=dec P:=by
 unfold dec;congr
noncomputable def tab{α:Type}(n:Nat)(f:Nat→α): List α:=(List.range n).map f
theorem Zae{α:Type}{n:Nat}{f:Nat→α}: (tab n f).length=n:=by simp[tab]
theorem Zbw{α:Type}{n:Nat}{f:Nat→α}{i:Nat}(h:i<n): (tab n f)[i]?=some (f i):=by simp[tab,h]
theorem Zk3{α:Type}{n:Nat}{f:Nat→α}{i:Nat}(h:n≤i): (tab n f)[i]?=none:=by simp[tab,h]
theorem Zhi{α:Type}{n:Nat}{f:Nat→α}: tab n f++[f n]=tab (n+1) f:=by simp[tab,List.range_succ]
theorem Zex{α:Type}{n:Nat}{xs:List α}{f:Nat→α}(hl:xs.length=n)(h:∀i,i<n→xs[i]?=some (f i)): xs=tab n f:=by
 refine List.ext_getElem? fun i=>?_
 by_cases q:i<n
 ·rw[h i q,Zbw q]
 ·rw[List.getElem?_eq_none (by omega),Zk3 (by omega)]
theorem Zcc{α:Type}{n:Nat}{f g:Nat→α}(h:∀i,i<n→f i=g i): tab n f=tab n g:=by
 refine Zex Zae fun i hi=>?_
 rw[Zbw hi,h i hi]
theorem Zge{α:Type}{n k:Nat}{f:Nat→α}{v:α}: (tab n f).set k v=tab n fun i=>if i=k then v else f i:=by
 refine Zex (by rw[List.length_set,Zae]) fun i hi=>?_
 by_cases q:i=k
 ·subst q
  rw[List.getElem?_set_self (by rw[Zae];exact hi),if_pos rfl]
 ·rw[List.getElem?_set_ne (Ne.symm q),Zbw hi,if_neg q]
theorem Zj1{α β:Type}{n:Nat}{f:Nat→α}{g:α→β}: (tab n f).map g=tab n fun i=>g (f i):=by simp[tab]
noncomputable def cn{α:Type}(a:α)(f:Nat→α): Nat→α
 | 0=>a
 | i+1=>f i
theorem Zjq{α:Type}{n:Nat}{a:α}{f:Nat→α}: a::tab n f=tab (n+1) (cn a f):=by
 refine Zex (by rw[List.length_cons,Zae]) fun i hi=>?_
 cases i with
 | zero=>rfl
 | succ i=>rw[List.getElem?_cons_succ,Zbw (by omega)];rfl
theorem Zj2{α β γ:Type}{n m:Nat}{f:Nat→α}{g:Nat→β}{h:α→β→γ}: List.zipWith h (tab n f) (tab m g)=tab (min n m) fun i=>h (f i) (g i):=by
 refine Zex (by rw[List.length_zipWith,Zae,Zae]) fun i hi=>?_
 rw[List.getElem?_zipWith,Zbw (show i<n by omega),Zbw (show i<m by omega)]
noncomputable def Pk(c:Option T)(Q:T→Prop): Prop:=∃t,c=some t∧Q t
noncomputable def Pl(c:Option (List T))(Q:List T→Prop): Prop:=∃t,c=some t∧Q t
noncomputable def Pb(c:Option Bool)(Q:Bool→Prop): Prop:=∃t,c=some t∧Q t
noncomputable def Psk(c:Option (Option T×TL))(R:T→Prop)(N:TL→Prop): Prop:=∃o σ,c=some (o,σ)∧(∀t,o=some t→R t)∧(o=none→N σ)
theorem ZY{c:Option T}{Q:T→Prop}{t:T}(h:c=some t)(k:Q t): Pk c Q:=⟨t,h,k⟩
theorem Pk.eq{c:Option T}{t:T}(h:Pk c fun v=>v=t): c=some t:=by obtain⟨v,e,rfl⟩:=h;exact e
theorem Pk.mono{c:Option T}{Q Q':T→Prop}(h:Pk c Q)(k:∀t,Q t→Q' t): Pk c Q':=by obtain⟨v,e,q⟩:=h;exact⟨v,e,k v q⟩
section
variable {σ:TL} {Q:T→Prop} {L:List T→Prop} {B:Bool→Prop} {R:T→Prop} {N:TL→Prop}
theorem Zk4{k:Int}(h:Q (.int k)): Pk (Zh k σ) Q:=⟨_,rfl,h⟩
theorem Zk5(h:Q .none): Pk (Zaa σ) Q:=⟨_,rfl,h⟩
theorem Zj3{k:Bool}(h:Q (.bool k)): Pk (ZaF k σ) Q:=⟨_,rfl,h⟩
theorem Zk6{i:Nat}{t:T}(e:σ i=some t)(h:Q t): Pk (Zb i σ) Q:=⟨_,e,h⟩
theorem Zk7{q:T→T→Option T}{f g:PE}(h:Pk (f σ) fun x=>Pk (g σ) fun y=>Pk (q x y) Q): Pk (Ze q f g σ) Q:=by
 obtain⟨x,a,y,b,z,c,k⟩:=h
 exact⟨z,by simp only[Ze,a,b,Option.bind_some,c],k⟩
theorem Zj4{q:List T→Option T}{f:PEs}(h:Pl (f σ) fun x=>Pk (q x) Q): Pk (Zu q f σ) Q:=by
 obtain⟨x,a,z,c,k⟩:=h
 exact⟨z,by simp only[Zu,a,Option.bind_some,c],k⟩
theorem Zk8(h:L []): Pl (Zm σ) L:=⟨_,rfl,h⟩
theorem Zj5{f:PE}{g:PEs}(h:Pk (f σ) fun x=>Pl (g σ) fun xs=>L (x::xs)): Pl (Zg f g σ) L:=by
 obtain⟨x,a,y,b,k⟩:=h
 exact⟨_,by simp only[Zg,a,b,Option.bind_some],k⟩
theorem Zk9{g:PEs}(h:Pl (g σ) fun xs=>Q (.tup xs)): Pk (Za7 g σ) Q:=by
 obtain⟨x,a,k⟩:=h;exact⟨_,by simp only[Za7,a,Option.map_some],k⟩
theorem Zj6{g:PEs}(h:Pl (g σ) fun xs=>Q (.lst xs)): Pk (ZbF g σ) Q:=by
 obtain⟨x,a,k⟩:=h;exact⟨_,by simp only[ZbF,a,Option.map_some],k⟩
theorem Zj7{f:PE}(h:Pk (f σ) fun t=>t.flat=true∧Q t): Pk (Zb6 f σ) Q:=by
 obtain⟨x,a,b,k⟩:=h;exact⟨_,by simp only[Zb6,a,Option.bind_some,b,if_true],k⟩
theorem ZlO{f:PE}(h:Pk (f σ) fun t=>t.flatIn=true∧Q t): Pk (pFl f σ) Q:=by
 obtain⟨x,a,b,k⟩:=h;exact⟨_,by simp only[pFl,a,Option.bind_some,b,if_true],k⟩
theorem ZlP{b:PB}{f g:PE}(h:Pb (b σ) fun x=>(x=true→Pk (f σ) Q)∧(x=false→Pk (g σ) Q)): Pk (pIf b f g σ) Q:=by
 obtain⟨x,a,h1,h2⟩:=h
 cases x with
 | true=>obtain⟨t,c,q⟩:=h1 rfl;exact⟨t,by simp[pIf,a,c],q⟩
 | false=>obtain⟨t,c,q⟩:=h2 rfl;exact⟨t,by simp[pIf,a,c],q⟩
theorem Zla{f:PE}(h:Pk (f σ) fun x=>Pb (Zbg x) fun b=>Q (.bool (!b))): Pk (ZeR f σ) Q:=by
 obtain⟨x,a,b,e,q⟩:=h;exact⟨_,by simp only[ZeR,a,Option.bind_some,e,Option.map_some],q⟩
theorem Zlb{f g:PE}(h:Pk (f σ) fun x=>Pb (Zbg x) fun b=>(b=true→Pk (g σ) Q)∧(b=false→Q x)): Pk (ZbU f g σ) Q:=by
 obtain⟨x,a,b,e,h1,h2⟩:=h
 cases b with
 | true=>obtain⟨t,c,q⟩:=h1 rfl;exact⟨t,by simp[ZbU,a,e,c],q⟩
 | false=>exact⟨x,by simp[ZbU,a,e],h2 rfl⟩
theorem ZlQ{f g:PE}(h:Pk (f σ) fun x=>Pb (Zbg x) fun b=>(b=true→Q x)∧(b=false→Pk (g σ) Q)): Pk (pOr f g σ) Q:=by
 obtain⟨x,a,b,e,h1,h2⟩:=h
 cases b with
 | false=>obtain⟨t,c,q⟩:=h2 rfl;exact⟨t,by simp[pOr,a,e,c],q⟩
 | true=>exact⟨x,by simp[pOr,a,e],h1 rfl⟩
theorem ZlR{K:String}{f:PE}(h:Pk (f σ) fun x=>Q (.bool (Zeu K x))): Pk (pIs K f σ) Q:=by
 obtain⟨x,a,q⟩:=h;exact⟨_,by simp only[pIs,a,Option.map_some],q⟩
theorem Zlc{f:PE}(h:Pk (f σ) fun x=>Pb (Zbg x) B): Pb (ZH f σ) B:=by
 obtain⟨x,a,b,e,q⟩:=h;exact⟨_,by simp only[ZH,a,Option.bind_some,e],q⟩
theorem Zj8{f:PB}(h:Pb (f σ) fun b=>B (!b)): Pb (ZaJ f σ) B:=by
 obtain⟨x,a,q⟩:=h;exact⟨_,by simp only[ZaJ,a,Option.map_some],q⟩
theorem Zj9(h:B true): Pb (Zal σ) B:=⟨_,rfl,h⟩
theorem Zjr(h:B false): Pb (Zbh σ) B:=⟨_,rfl,h⟩
theorem Zka{f g:PB}(h:Pb (f σ) fun b=>(b=true→Pb (g σ) B)∧(b=false→B false)): Pb (ZbD f g σ) B:=by
 obtain⟨x,a,h1,h2⟩:=h
 cases x with
 | true=>obtain⟨t,c,q⟩:=h1 rfl;exact⟨t,by simp[ZbD,a,c],q⟩
 | false=>exact⟨_,by simp[ZbD,a],h2 rfl⟩
theorem Zld{f g:PB}(h:Pb (f σ) fun b=>(b=true→B true)∧(b=false→Pb (g σ) B)): Pb (bOr f g σ) B:=by
 obtain⟨x,a,h1,h2⟩:=h
 cases x with
 | false=>obtain⟨t,c,q⟩:=h2 rfl;exact⟨t,by simp[bOr,a,c],q⟩
 | true=>exact⟨_,by simp[bOr,a],h1 rfl⟩
theorem Zg4{b:Bool}(h:B b): Pb (Zbg (.bool b)) B:=⟨_,rfl,h⟩
theorem Zkb(h:N σ): Psk (ZR σ) R N:=⟨_,_,rfl,by simp,fun _=>h⟩
theorem Zle{f:PE}(h:Pk (f σ) R): Psk (ZE f σ) R N:=by
 obtain⟨x,a,q⟩:=h;exact⟨some x,σ,by simp only[ZE,a,Option.map_some],fun t e=>by cases e;exact q,by simp⟩
theorem Zlf{i:Nat}{f:PE}(h:Pk (f σ) fun t=>N (ZF σ i t)): Psk (Zac i f σ) R N:=by
 obtain⟨x,a,q⟩:=h;exact⟨none,ZF σ i x,by simp only[Zac,a,Option.map_some],by simp,fun _=>q⟩
theorem Zlg{a b:PS}(h:Psk (a σ) R fun σ1=>Psk (b σ1) R N): Psk (Zx a b σ) R N:=by
 obtain⟨o,σ1,e,h1,h2⟩:=h
 cases o with
 | some t=>exact⟨some t,σ1,by simp only[Zx,e,Option.bind_some],h1,by simp⟩
 | none=>
  obtain⟨o2,σ2,e2,k1,k2⟩:=h2 rfl
  exact⟨o2,σ2,by simp only[Zx,e,Option.bind_some,e2],k1,k2⟩
theorem Zlh{b:PB}{f g:PS}(h:Pb (b σ) fun x=>(x=true→Psk (f σ) R N)∧(x=false→Psk (g σ) R N)): Psk (ZP b f g σ) R N:=by
 obtain⟨x,a,h1,h2⟩:=h
 cases x with
 | true=>obtain⟨o,s,c,q⟩:=h1 rfl;exact⟨o,s,by simp[ZP,a,c],q⟩
 | false=>obtain⟨o,s,c,q⟩:=h2 rfl;exact⟨o,s,by simp[ZP,a,c],q⟩
theorem Zli{n:Nat}{q:PS}{ts:List T}(hn:ts.length=n)(h:Psk (q fun i=>ts[i]?) Q fun _=>Q .none): Pk (Z6 n q ts) Q:=by
 obtain⟨o,s,e,h1,h2⟩:=h
 cases o with
 | some t=>exact⟨t,by simp only[Z6,hn,if_true,e,Option.map_some,Option.getD_some],h1 t rfl⟩
 | none=>exact⟨.none,by simp only[Z6,hn,if_true,e,Option.map_some,Option.getD_none],h2 rfl⟩
theorem ZhO{b:Bool}{A C:Prop}(h:b=true)(k:A): (b=true→A)∧(b=false→C):=⟨fun _=>k,fun e=>(by rw[h]at e;cases e)⟩
theorem Zlj{b:Bool}{A C:Prop}(h:b=false)(k:C): (b=true→A)∧(b=false→C):=⟨fun e=>(by rw[h]at e;cases e),fun _=>k⟩
theorem Zlk{a b:Int}(h:Q (.int (a+b))): Pk (Zab (.int a) (.int b)) Q:=⟨_,rfl,h⟩
theorem Zll{a b:Int}(h:Q (.int (a-b))): Pk (Zda (.int a) (.int b)) Q:=⟨_,rfl,h⟩
theorem ZlS{a b:Int}(h:Q (.bool (decide (a<b)))): Pk (qLt (.int a) (.int b)) Q:=⟨_,rfl,h⟩
theorem ZlT{a b:Int}(h:Q (.bool (decide (a≤b)))): Pk (qLe (.int a) (.int b)) Q:=⟨_,rfl,h⟩
theorem ZlU{a b:Int}(h:Q (.bool (decide (b<a)))): Pk (qGt (.int a) (.int b)) Q:=⟨_,rfl,h⟩
theorem ZlV{a b:Int}(h:Q (.bool (decide (b≤a)))): Pk (qGe (.int a) (.int b)) Q:=⟨_,rfl,h⟩
theorem Zlm{a b:Int}(hb:b≠0)(h:Q (.int (a.fmod b))): Pk (Zaz (.int a) (.int b)) Q:=⟨_,by simp only[Zaz];rw[if_pos hb],h⟩
theorem Zgw{a b:Int}(hb:b≠0)(hd:Builtin.divisionGoesByPylong a b=false)(h:Q (.int (a.fdiv b))): Pk (ZcM (.int a) (.int b)) Q:=⟨_,by simp only[ZcM];rw[if_pos ⟨hb,hd⟩],h⟩
theorem Zgx{a b:Int}(hm:Zby a b=true)(h:Q (.int (a*b))): Pk (ZaK (.int a) (.int b)) Q:=⟨_,by simp only[ZaK];rw[if_pos hm],h⟩
theorem Zln{a:Int}(h:Q (.int (if a<0 then -a else a))): Pk (ZdU [.int a]) Q:=⟨_,rfl,h⟩
theorem Zhw(a b:Int): Zcq (.int a) (.int b)=some (decide (a=b)):=by
 simp[Zcq,ZbI,SeqAt.shaped,PyData.canLay0,PyData.depth,PyData.eqv]
 by_cases h:a=b <;> simp[h]
theorem ZlW{a b:Int}(h:Q (.bool (decide (a=b)))): Pk (qEq (.int a) (.int b)) Q:=⟨_,by simp only[qEq,Zhw,Option.map_some],h⟩
theorem ZlX{a b:Int}(h:Q (.bool (decide (a≠b)))): Pk (qNe (.int a) (.int b)) Q:=⟨.bool (decide (a≠b)),by simp only[qNe,Zhw,Option.map_some];simp,h⟩
theorem Zlo(h:Q (.bool true)): Pk (qIs .none .none) Q:=⟨_,rfl,h⟩
theorem Zlp{a:Int}(h:Q (.bool false)): Pk (qIs (.int a) .none) Q:=⟨_,rfl,h⟩
theorem Zlq{a:List T}(h:Q (.bool false)): Pk (qIs (.tup a) .none) Q:=⟨_,rfl,h⟩
theorem Zkc(h:Q (.bool false)): Pk (ZbN .none .none) Q:=⟨_,rfl,h⟩
theorem Zkd{a:Int}(h:Q (.bool true)): Pk (ZbN (.int a) .none) Q:=⟨_,rfl,h⟩
theorem Zke{n:Nat}{f:Nat→T}(h:Q (.int n)): Pk (Zat [.lst (tab n f)]) Q:=⟨_,by simp only[Zat,Zae],h⟩
theorem Zlr{ts:List T}(h:Q (.int ts.length)): Pk (Zat [.lst ts]) Q:=⟨_,rfl,h⟩
theorem Zkf{ts:List T}(h:Q (.int ts.length)): Pk (Zat [.tup ts]) Q:=⟨_,rfl,h⟩
theorem Zcm{k:Int}{n:Nat}(h0:0≤k)(h1:k<n): seqIndex? k n=some k.toNat:=by
 unfold seqIndex?
 have:¬k<0:=by omega
 simp[this]
 omega
theorem Zkg{n i:Nat}{f:Nat→T}(hi:i<n)(h:Q (f i)): Pk (Zv (.lst (tab n f)) (.int (i:Nat))) Q:=⟨_,by
 simp only[Zv,Zae,Zcm (show(0:Int)≤(i:Int)by omega) (show(i:Int)<(n:Int)by omega),Option.bind_some,Int.toNat_natCast]
 exact Zbw hi,h⟩
theorem Zgf{ts:List T}{k:Int}{t:T}(h0:0≤k)(e:ts[k.toNat]?=some t)(h:Q t): Pk (Zv (.lst ts) (.int k)) Q:=⟨_,by
 simp only[Zv]
 rw[Zcm h0 (by have:=(Zz6.mp e).1;omega)]
 exact e,h⟩
theorem Zkh{ts:List T}{k:Int}{t:T}(h0:0≤k)(e:ts[k.toNat]?=some t)(h:Q t): Pk (Zv (.tup ts) (.int k)) Q:=⟨_,by
 simp only[Zv]
 rw[Zcm h0 (by have:=(Zz6.mp e).1;omega)]
 exact e,h⟩
theorem Zki{n:Nat}{a:T}{f:Nat→T}(hn:n<10000)(h:Q (.lst (tab (n+1) (cn a f)))): Pk (Zab (.lst [a]) (.lst (tab n f))) Q:=⟨_,by
 simp only[Zab]
 rw[if_pos (by rw[ZaC,List.length_append,Zae];simp;omega),List.singleton_append,Zjq],h⟩
theorem Zjs{ts:List T}(h:Q (.lst ts)): Pk (Zbn [.lst ts]) Q:=⟨_,rfl,h⟩
theorem Zkj{ts:List T}(h:Q (.tup ts)): Pk (Zev [.lst ts]) Q:=⟨_,rfl,h⟩
noncomputable def SqP(x:T)(L:List T→Prop): Prop:=∃ts,(x=.lst ts∨x=.tup ts)∧L ts
theorem Zgg{f:PE}(h:Pk (f σ) fun t=>SqP t L): Pl (Za9 f σ) L:=by
 obtain⟨t,a,ts,rfl | rfl,q⟩:=h <;> exact⟨_,by simp only[Za9,a,Option.bind_some],q⟩
theorem Sq.lst{ts:List T}(h:L ts): SqP (.lst ts) L:=⟨ts,.inl rfl,h⟩
theorem ZhP{a b c:Int}{H:Hp}{z:Nx×Nat×Hp}(h:Zba a b c H=some z): ZbJ a b c=some ((List.range (rngN a b c)).map fun(i:Nat)=>.int (a+(i:Int)*c)):=by
 unfold Zba at h
 split at h
 ·rename_i hc
  unfold ZbJ
  rw[if_pos hc]
 ·cases h
theorem Zjt{n:Nat}(hn:n≤1000): ZbJ 0 n 1=some (tab n fun i=>.int i):=by
 rw[ZhP (ZkU (H:=[]) (b:=n) (by omega) (by omega))]
 have e:rngN 0 n 1=n:=by
  unfold rngN Builtin.Range.rangeSize
  by_cases q:(0:Int)<n
  ·rw[if_pos (by decide),if_pos (by omega)];omega
  ·rw[if_pos (by decide),if_neg (by omega)];omega
 rw[e]
 simp[tab]
theorem Zkk{a n:Nat}(ha:0<n)(hn:a+n≤1000): ZbJ a (a+n) 1=some (tab n fun i=>.int (a+i)):=by
 rw[ZhP (ZkV (H:=[]) (a:=a) (b:=a+n) (c:=1) (by omega) (by omega) (by omega) (by omega) (by omega))]
 have e:rngN a (a+n) 1=n:=by
  unfold rngN
  rw[ZhW (by omega) (by omega)]
  omega
 rw[e]
 simp[tab]
theorem Zkl{g:PEs}{b:Int}{o:Option (List T)}(e:g σ=some [.int b])(h:ZbJ 0 b 1=o): ZaE g σ=o:=by
 subst h;unfold ZaE;rw[e];rfl
theorem Zkm{g:PEs}{a b:Int}{o:Option (List T)}(e:g σ=some [.int a,.int b])(h:ZbJ a b 1=o): ZaE g σ=o:=by
 subst h;unfold ZaE;rw[e];rfl
noncomputable def RnP(xs:List T)(L:List T→Prop): Prop:=(∃n:Nat,xs=[.int n]∧n≤1000∧L (tab n fun i=>.int i))∨∃(a:Nat) (n:Nat),xs=[.int a,.int (a+n)]∧0<n∧a+n≤1000∧L (tab n fun i=>.int (a+i))
theorem Zju{g:PEs}(h:Pl (g σ) fun xs=>RnP xs L): Pl (ZaE g σ) L:=by
 obtain⟨xs,e,h⟩:=h
 rcases h with⟨n,h0,h1,q⟩ | ⟨a,n,h0,h1,h2,q⟩
 ·subst h0;exact⟨_,Zkl e (Zjt h1),q⟩
 ·subst h0;exact⟨_,Zkm e (Zkk h1 h2),q⟩
theorem Rn.one{n:Nat}(hn:n≤1000)(h:L (tab n fun i=>.int i)): RnP [.int n] L:=.inl ⟨n,rfl,hn,h⟩
theorem ZhY{k:Int}(n:Nat)(e:k=n)(hn:n≤1000)(h:L (tab n fun i=>.int i)): RnP [.int k] L:=.inl ⟨n,by rw[e],hn,h⟩
noncomputable def ZiP(x y:T)(L:List T→Prop): Prop:=∃xs ys,x=.lst xs∧y=.lst ys∧L (List.zipWith (fun a b=>.tup [a,b]) xs ys)
theorem Zls{f g:PE}(h:Pk (f σ) fun x=>Pk (g σ) fun y=>ZiP x y L): Pl (Zdd f g σ) L:=by
 obtain⟨x,a,y,b,xs,ys,rfl,rfl,q⟩:=h;exact⟨_,by simp only[Zdd,a,b,Option.bind_some],q⟩
theorem Zi.eq{n:Nat}{f g:Nat→T}(h:L (tab n fun i=>.tup [f i,g i])): ZiP (.lst (tab n f)) (.lst (tab n g)) L:=⟨_,_,rfl,rfl,by rw[Zj2,Nat.min_self];exact h⟩
theorem Zg9{j:Nat}{f:PE}{h:T→T}: ∀{ts:List T},(∀t∈ts,f (ZF σ j t)=some (h t))→ZbR (Z4 j) Zal f σ ts=some (ts.map h)
 | [],_=>rfl
 | t::ts,k=>by
  simp only[ZbR,Z4,Zal,Option.bind_some,if_true,k t Zz5,Zg9 fun t m=>k t (Zz2 _ m),Option.map_some,List.map_cons]
theorem Zgh{put:T→TL→Option TL}{f:PE}: ∀{ts us:List T},us.length=ts.length→(∀(i:Nat) t u,ts[i]?=some t→us[i]?=some u→∃σ1,put t σ=some σ1∧f σ1=some u)→ZbR put Zal f σ ts=some us
 | [],us,hl,_=>by cases us with
  | nil=>rfl
  | cons _ _=>simp at hl
 | t::ts,us,hl,k=>by
  cases us with
  | nil=>simp at hl
  | cons u us=>
   obtain⟨σ1,h1,h2⟩:=k 0 t u (by simp) (by simp)
   have:=Zgh (ts:=ts) (us:=us) (f:=f) (put:=put) (by simpa using hl) fun i t' u' h3 h4=>k (i+1) t' u' (by simpa using h3) (by simpa using h4)
   simp only[ZbR,h1,Zal,Option.bind_some,if_true,h2,this,Option.map_some]
theorem Zdy{g:PG}{j n:Nat}{a b:Nat→T}{f:PE}(hn:n<10000)(hg:Pl (g σ) fun ts=>ts=tab n a)(hf:∀i,i<n→Pk (f (ZF σ j (a i))) fun t=>t=b i)(h:Q (.lst (tab n b))): Pk (Zao g (Z4 j) Zal f σ) Q:=by
 obtain⟨ts,e,rfl⟩:=hg
 refine⟨_,?_,h⟩
 simp only[Zao,e,Option.bind_some,Zae]
 rw[if_pos (by rw[ZaC];omega),Zgh (us:=tab n b) (by rw[Zae,Zae]) fun i t u h1 h2=>?_]
 ·rfl
 ·have hi:i<n:=by have:=(Zz6.mp h1).1;rwa [Zae]at this
  rw[Zbw hi]at h1 h2
  cases h1;cases h2
  exact⟨_,rfl,(hf i hi).eq⟩
theorem Zf1{g:PG}{j k n:Nat}{a b c:Nat→T}{f:PE}(hn:n<10000)(hg:Pl (g σ) fun ts=>ts=tab n fun i=>.tup [a i,b i])(hf:∀i,i<n→Pk (f (ZF (ZF σ j (a i)) k (b i))) fun t=>t=c i)(h:Q (.lst (tab n c))): Pk (Zao g (Zc6 j k) Zal f σ) Q:=by
 obtain⟨ts,e,rfl⟩:=hg
 refine⟨_,?_,h⟩
 simp only[Zao,e,Option.bind_some,Zae]
 rw[if_pos (by rw[ZaC];omega),Zgh (us:=tab n c) (by rw[Zae,Zae]) fun i t u h1 h2=>?_]
 ·rfl
 ·have hi:i<n:=by have:=(Zz6.mp h1).1;rwa [Zae]at this
  rw[Zbw hi]at h1 h2
  cases h1;cases h2
  exact⟨_,rfl,(hf i hi).eq⟩
theorem Zgy{put:T→TL→Option TL}{b:PS}: ∀{ts:List T} (P:Nat→TL→Prop) {σ:TL},P 0 σ→(∀(i:Nat) t σ,ts[i]?=some t→P i σ→∃σ1,put t σ=some σ1∧Psk (b σ1) R (P (i+1)))→(∀σ,P ts.length σ→N σ)→Psk (Zdf put b σ ts) R N
 | [],P,σ,h0,_,h2=>⟨_,_,rfl,by simp,fun _=>h2 _ h0⟩
 | t::ts,P,σ,h0,h1,h2=>by
  obtain⟨σ1,e1,o,σ2,e2,k1,k2⟩:=h1 0 t σ (by simp) h0
  cases o with
  | some v=>exact⟨some v,σ2,by simp only[Zdf,e1,Option.bind_some,e2],k1,by simp⟩
  | none=>
   obtain⟨o3,σ3,e3,l1,l2⟩:=Zgy (ts:=ts) (fun i=>P (i+1)) (k2 rfl) (fun i t' σ' h3 h4=>h1 (i+1) t' σ' (by simpa using h3) h4) (fun σ' h=>h2 σ' (by simpa using h))
   exact⟨o3,σ3,by simp only[Zdf,e1,Option.bind_some,e2,e3],l1,l2⟩
theorem Zbx{g:PG}{j n:Nat}{a:Nat→T}{b:PS}(hg:Pl (g σ) fun ts=>ts=tab n a)(P:Nat→TL→Prop)(h0:P 0 σ)(h1:∀i σ,i<n→P i σ→Psk (b (ZF σ j (a i))) R (P (i+1)))(h2:∀σ,P n σ→N σ): Psk (ZaN g (Z4 j) b σ) R N:=by
 obtain⟨ts,e,rfl⟩:=hg
 have:=Zgy (R:=R) (N:=N) (put:=Z4 j) (b:=b) (ts:=tab n a) P h0 (fun i t σ' h3 h4=>by
  have hi:i<n:=by have:=(Zz6.mp h3).1;rwa [Zae]at this
  rw[Zbw hi]at h3
  cases h3
  exact⟨_,rfl,h1 i σ' hi h4⟩) (by rw[Zae];exact h2)
 obtain⟨o,s,e2,q⟩:=this
 exact⟨o,s,by simp only[ZaN,e,Option.bind_some,e2],q⟩
theorem Zkn{g:PG}{j:Nat}{ts:List T}{b:PS}(hg:Pl (g σ) fun us=>us=ts)(P:Nat→TL→Prop)(h0:P 0 σ)(h1:∀(i:Nat) t σ,ts[i]?=some t→P i σ→Psk (b (ZF σ j t)) R (P (i+1)))(h2:∀σ,P ts.length σ→N σ): Psk (ZaN g (Z4 j) b σ) R N:=by
 obtain⟨us,e,rfl⟩:=hg
 obtain⟨o,s,e2,q⟩:=Zgy (R:=R) (N:=N) (put:=Z4 j) (b:=b) (ts:=us) P h0 (fun i t σ' h3 h4=>⟨_,rfl,h1 i t σ' h3 h4⟩) h2
 exact⟨o,s,by simp only[ZaN,e,Option.bind_some,e2],q⟩
theorem Zep: Zbj σ []=σ:=by funext i;simp[Zbj]
noncomputable def AppP(σ:TL)(x:Nat)(w:T)(N:TL→Prop): Prop:=∃ts,σ x=some (.lst ts)∧ts.length<10000∧N (ZF σ x (.lst (ts++[w])))
theorem Zko{x:Nat}{w:T}{ts:List T}(e:σ x=some (.lst ts))(hl:ts.length<10000)(h:N (ZF σ x (.lst (ts++[w])))): AppP σ x w N:=⟨ts,e,hl,h⟩
theorem Zlt{x:Nat}{f:PE}(h:Pk (f σ) fun w=>AppP σ x w N): Psk (ZbW x [] ZaM f σ) R N:=by
 obtain⟨w,e,ts,h1,h2,q⟩:=h
 refine⟨none,_,?_,by simp,fun _=>q⟩
 simp only[ZbW,ZaM,Option.bind_some,e,h1,Zbe,Zcr]
 rw[if_pos (by rw[ZaC];omega)]
 simp only[Option.map_some,Zep]
noncomputable def AppQ(σ:TL)(x y:Nat)(w:T)(N:TL→Prop): Prop:=∃ts,σ x=some (.lst ts)∧ts.length<10000∧N (Zbj (ZF σ x (.lst (ts++[w]))) [y])
theorem Zkp{x y:Nat}{w:T}{ts:List T}(e:σ x=some (.lst ts))(hl:ts.length<10000)(h:N (Zbj (ZF σ x (.lst (ts++[w]))) [y])): AppQ σ x y w N:=⟨ts,e,hl,h⟩
theorem Zkq{x y:Nat}{f:PE}(h:Pk (f σ) fun w=>AppQ σ x y w N): Psk (ZbW x [y] ZaM f σ) R N:=by
 obtain⟨w,e,ts,h1,h2,q⟩:=h
 refine⟨none,_,?_,by simp,fun _=>q⟩
 simp only[ZbW,ZaM,Option.bind_some,e,h1,Zbe,Zcr]
 rw[if_pos (by rw[ZaC];omega)]
 simp only[Option.map_some]
noncomputable def PutP(σ:TL)(x:Nat)(w k:T)(N:TL→Prop): Prop:=∃ts m,k=.int m∧σ x=some (.lst ts)∧0≤m∧m<ts.length∧N (ZF σ x (.lst (ts.set m.toNat w)))
theorem PutP.tab{x n i:Nat}{w:T}{f:Nat→T}(e:σ x=some (.lst (TM.tab n f)))(hi:i<n)(h:N (ZF σ x (.lst (TM.tab n fun k=>if k=i then w else f k)))): PutP σ x w (.int i) N:=⟨_,_,rfl,e,by omega,by rw[Zae];omega,by rw[Int.toNat_natCast,Zge];exact h⟩
theorem Zlu{x:Nat}{f i:PE}(h:Pk (f σ) fun w=>Pk (i σ) fun k=>PutP σ x w k N): Psk (ZbX x [] f ZaM i σ) R N:=by
 obtain⟨w,e,k,e2,ts,m,rfl,h1,h2,h3,q⟩:=h
 refine⟨none,_,?_,by simp,fun _=>q⟩
 simp only[ZbX,ZaM,Option.bind_some,e,e2,h1,Zbe,Zde]
 rw[if_pos ⟨h2,h3⟩]
 simp only[Option.map_some,Zep]
noncomputable def Put2(σ:TL)(x:Nat)(w a k:T)(N:TL→Prop): Prop:=∃ts us l m,a=.int l∧k=.int m∧σ x=some (.lst ts)∧0≤l∧ts[l.toNat]?=some (.lst us)∧0≤m∧m<us.length∧N (ZF σ x (.lst (ts.set l.toNat (.lst (us.set m.toNat w)))))
theorem Put2.tab{x n m i j:Nat}{w:T}{f:Nat→Nat→T}(e:σ x=some (.lst (TM.tab n fun a=>.lst (TM.tab m (f a)))))(hi:i<n)(hj:j<m)(h:N (ZF σ x (.lst (TM.tab n fun a=>.lst (TM.tab m fun b=>if a=i∧b=j then w else f a b))))): Put2 σ x w (.int i) (.int j) N:=by
 refine⟨_,TM.tab m (f i),i,j,rfl,rfl,e,by omega,?_,by omega,by rw[Zae];omega,?_⟩
 ·rw[Int.toNat_natCast,Zbw hi]
 ·rw[Int.toNat_natCast,Int.toNat_natCast,Zge,Zge]
  have:(TM.tab n fun a=>if a=i then T.lst (TM.tab m fun b=>if b=j then w else f i b)else T.lst (TM.tab m (f a)))=TM.tab n fun a=>.lst (TM.tab m fun b=>if a=i∧b=j then w else f a b):=Zcc fun a _=>by
   by_cases q:a=i
   ·subst q;simp
   ·simp[q]
  rw[this];exact h
theorem Zkr{x:Nat}{f i j:PE}(h:Pk (f σ) fun w=>Pk (i σ) fun a=>Pk (j σ) fun k=>Put2 σ x w a k N): Psk (ZbX x [] f (Zb4 ZaM i) j σ) R N:=by
 obtain⟨w,e,a,e1,k,e2,ts,us,l,m,rfl,rfl,h1,h0,h4,h2,h3,q⟩:=h
 refine⟨none,_,?_,by simp,fun _=>q⟩
 have hl:=(Zz6.mp h4).1
 simp only[ZbX,ZaM,Zb4,Option.bind_some,e,e1,e2,h1,List.nil_append,Zbe,Zde,Zcm h0 (show l<ts.length by omega),h4]
 rw[if_pos ⟨h2,h3⟩]
 simp only[Option.map_some,Zep]
theorem Zhx{i j:Nat}{t:T}{o:Option T}(h:j≠i)(e:σ j=o): ZF σ i t j=o:=by simp[ZF,h,e]
theorem Zjv{j:Nat}{J:List Nat}{o:Option T}(h:j∉J)(e:σ j=o): Zbj σ J j=o:=by simp[Zbj,h,e]
end
end TM
end
section
set_option autoImplicit false
namespace TM
open PySem PM
inductive Pln: Nat→T→Prop where
 | none {n:Nat}:Pln n .none
 | int {n:Nat} {i:Int}:Pln n (.int i)
 | str {n:Nat} {x:Str}:PyData.strOk x=true→Pln n (.str x)
 | tup {n:Nat} {ts:List T}:(∀t∈ts,Pln n t)→Pln (n+1) (.tup ts)
 | lst {n:Nat} {ts:List T}:(∀t∈ts,Pln n t)→Pln (n+1) (.lst ts)
mutual
noncomputable def dd: T→PyData
 | .none=>.none
 | .bool b=>.bool b
 | .int i=>.int i
 | .str x=>.str x
 | .tup ts=>.tuple (dds ts)
 | .lst ts=>.list (dds ts)
noncomputable def dds: List T→List PyData
 | []=>[]
 | t::ts=>dd t::dds ts
end
theorem Zf2{f:T→Option PyData}: ∀{ts:List T},(∀t∈ts,f t=some (dd t))→ZcI f ts=some (dds ts)
 | [],_=>rfl
 | t::ts,h=>by simp only[ZcI,h t Zz5,Zf2 fun t m=>h t (Zz2 _ m),Option.bind_some,dds]
theorem Zgi: ∀{ts:List T},(∀t∈ts,PyData.canLay0 (dd t)=true)→PyData.canLayAll0 (dds ts)=true
 | [],_=>rfl
 | t::ts,h=>by simp only[dds,PyData.canLayAll0,h t Zz5,Zgi fun t m=>h t (Zz2 _ m),Bool.and_self]
theorem Zgj{n:Nat}: ∀{ts:List T},(∀t∈ts,PyData.depth (dd t)≤n)→PyData.depthAll (dds ts)≤n
 | [],_=>by simp[dds,PyData.depthAll]
 | t::ts,h=>by
  have h1:=h t Zz5
  have h2:=Zgj fun t m=>h t (Zz2 _ m)
  simp only[dds,PyData.depthAll]
  omega
theorem Pln.dat{n:Nat}{t:T}(h:Pln n t): ZbI n t=some (dd t)∧PyData.canLay0 (dd t)=true∧PyData.depth (dd t)≤n:=by
 induction h with
 | @none n=>cases n <;> exact⟨rfl,rfl,by simp[dd,PyData.depth]⟩
 | @int n i=>cases n <;> exact⟨rfl,rfl,by simp[dd,PyData.depth]⟩
 | @str n x h=>cases n <;> exact⟨rfl,by simpa [dd,PyData.canLay0]using h,by simp[dd,PyData.depth]⟩
 | @tup n ts _ ih=>
  refine⟨?_,?_,?_⟩
  ·simp only[ZbI,Zf2 fun t m=>(ih t m).1,Option.map_some,dd]
  ·simp only[dd,PyData.canLay0];exact Zgi fun t m=>(ih t m).2.1
  ·simp only[dd,PyData.depth]
   have:=Zgj fun t m=>(ih t m).2.2
   omega
 | @lst n ts _ ih=>
  refine⟨?_,?_,?_⟩
  ·simp only[ZbI,Zf2 fun t m=>(ih t m).1,Option.map_some,dd]
  ·simp only[dd,PyData.canLay0];exact Zgi fun t m=>(ih t m).2.1
  ·simp only[dd,PyData.depth]
   have:=Zgj fun t m=>(ih t m).2.2
   omega
theorem Zgk: ∀{ts us:List T},(∀t∈ts,∀u∈us,(PyData.eqv (dd t) (dd u)=true↔t=u))→(PyData.eqvAll (dds ts) (dds us)=true↔ts=us)
 | [],[],_=>by simp[dds,PyData.eqvAll]
 | [],_::_,_=>by simp[dds,PyData.eqvAll]
 | _::_,[],_=>by simp[dds,PyData.eqvAll]
 | t::ts,u::us,h=>by
  simp only[dds,PyData.eqvAll,Bool.and_eq_true,h t Zz5 u Zz5,Zgk fun t m u n=>h t (Zz2 _ m) u (Zz2 _ n),List.cons.injEq]
theorem Pln.eqv{n:Nat}{t:T}(h:Pln n t): ∀{m:Nat} {u:T},Pln m u→(PyData.eqv (dd t) (dd u)=true↔t=u):=by
 induction h with
 | none=>intro m u h;cases h <;> simp[dd,PyData.eqv]
 | int=>intro m u h;cases h <;> simp[dd,PyData.eqv]
 | str _=>intro m u h;cases h <;> simp[dd,PyData.eqv]
 | tup hs ih=>
  intro m u h
  cases h with
  | tup hu=>simp only[dd,PyData.eqv,T.tup.injEq];exact Zgk fun t a u b=>ih t a (hu u b)
  | none=>simp[dd,PyData.eqv]
  | int=>simp[dd,PyData.eqv]
  | str=>simp[dd,PyData.eqv]
  | lst=>simp[dd,PyData.eqv]
 | lst hs ih=>
  intro m u h
  cases h with
  | lst hu=>simp only[dd,PyData.eqv,T.lst.injEq];exact Zgk fun t a u b=>ih t a (hu u b)
  | none=>simp[dd,PyData.eqv]
  | int=>simp[dd,PyData.eqv]
  | str=>simp[dd,PyData.eqv]
  | tup=>simp[dd,PyData.eqv]
theorem Pln.mono{n:Nat}{t:T}(h:Pln n t): ∀{m:Nat},n≤m→Pln m t:=by
 induction h with
 | none=>intro m _;exact .none
 | int=>intro m _;exact .int
 | str h=>intro m _;exact .str h
 | tup hs ih=>
  intro m hm
  cases m with
  | zero=>omega
  | succ m=>exact .tup fun t a=>ih t a (by omega)
 | lst hs ih=>
  intro m hm
  cases m with
  | zero=>omega
  | succ m=>exact .lst fun t a=>ih t a (by omega)
theorem Zhy{n m:Nat}{a b:T}(ha:Pln n a)(hb:Pln m b)(hn:n≤8:=by decide)(hm:m≤8:=by decide): Zcq a b=some (dec (a=b)):=by
 have ha:=ha.mono hn
 have hb:=hb.mono hm
 obtain⟨a1,a2,a3⟩:=ha.dat
 obtain⟨b1,b2,b3⟩:=hb.dat
 unfold Zcq ZbG
 rw[a1,b1]
 simp only[Option.bind_some]
 rw[if_pos ⟨by simp only[SeqAt.shaped,a2,Bool.true_and,decide_eq_true_eq];omega,by simp only[SeqAt.shaped,b2,Bool.true_and,decide_eq_true_eq];omega⟩,Zk2 (ha.eqv hb)]
section
variable {Q:T→Prop}
theorem Zgz{n m:Nat}{a b:T}(ha:Pln n a)(hb:Pln m b)(h:Q (.bool (dec (a=b))))(hn:n≤8:=by decide)(hm:m≤8:=by decide): Pk (qEq a b) Q:=⟨_,by simp only[qEq,Zhy ha hb hn hm,Option.map_some],h⟩
theorem ZeD{n m:Nat}{a b:T}(ha:Pln n a)(hb:Pln m b)(h:Q (.bool (!dec (a=b))))(hn:n≤8:=by decide)(hm:m≤8:=by decide): Pk (qNe a b) Q:=⟨_,by simp only[qNe,Zhy ha hb hn hm,Option.map_some],h⟩
end
theorem Zdz{α:Type}{n:Nat}{f:Nat→α}{x:α}(h:x∈tab n f): ∃i,i<n∧x=f i:=by
 obtain⟨i,hi,e⟩:=Zz11.mp h
 exact⟨i,List.mem_range.mp hi,e.symm⟩
theorem Zi8{n:Nat}{f:Nat→T}(h:∀i,i<n→(f i).flat=true): T.flats (tab n f)=true:=by
 have key:∀l:List T,(∀t∈l,t.flat=true)→T.flats l=true:=fun l=>by
  induction l with
  | nil=>intro _;rfl
  | cons t l ih=>intro h;simp only[T.flats,h t Zz5,ih fun t m=>h t (Zz2 _ m),Bool.and_self]
 exact key _ fun t m=>by obtain⟨i,hi,rfl⟩:=Zdz m;exact h i hi
theorem ZiH{n:Nat}{f:Nat→T}(h:∀i,i<n→(f i).flat=true): T.flatIn (.lst (tab n f))=true:=Zi8 h
noncomputable def oT: Option Int→T
 | none=>.none
 | some x=>.int x
noncomputable def Z3(q:Int×Int): T:=.tup [.int q.1,.int q.2]
noncomputable def Zh4(n:Nat)(x:Nat→Int): T:=.lst (tab n fun i=>.int (x i))
noncomputable def Z7(n:Nat)(b:Nat→Option Int): T:=.lst (tab n fun j=>oT (b j))
noncomputable def Zaf(n:Nat)(G:Nat→Nat→Option Int): T:=.lst (tab n fun i=>Z7 n (G i))
noncomputable def Zav(n:Nat)(R:Nat→Int×Int): T:=.lst (tab n fun i=>Z3 (R i))
noncomputable def ZK(n:Nat)(G:Nat→Nat→Option Int)(R:Nat→Int×Int): T:=.tup [Zaf (n+1) G,Zav n R]
theorem Zbt: oT none=.none:=rfl
theorem Zbf{c:Int}: oT (some c)=.int c:=rfl
theorem Zgl{b:Option Int}: (oT b).flat=true:=by cases b <;> rfl
theorem Zf3{q:Int×Int}: (Z3 q).flat=true:=rfl
theorem Zhz{a b:Int×Int}: Z3 a=Z3 b↔a=b:=by cases a;cases b;simp[Z3]
theorem ZgA{n k:Nat}{f:Nat→T}(h:∀i,i<k→Pln n (f i)): Pln (n+1) (.lst (tab k f)):=.lst fun t m=>by obtain⟨i,hi,rfl⟩:=Zdz m;exact h i hi
theorem ZlY{n:Nat}{b:Option Int}: Pln n (oT b):=by cases b;exact .none;exact .int
theorem ZdH{n:Nat}{q:Int×Int}: Pln (n+1) (Z3 q):=.tup fun t m=>by
 simp at m;rcases m with rfl | rfl <;> exact .int
theorem Zks{n:Nat}{b:Nat→Option Int}: Pln 1 (Z7 n b):=ZgA fun _ _=>ZlY
theorem Zjw{n:Nat}{G:Nat→Nat→Option Int}: Pln 2 (Zaf n G):=ZgA fun _ _=>Zks
theorem Zjx{n:Nat}{R:Nat→Int×Int}: Pln 2 (Zav n R):=ZgA fun _ _=>ZdH
theorem Zb2{n:Nat}{G:Nat→Nat→Option Int}{R:Nat→Int×Int}: Pln 3 (ZK n G R):=.tup fun t m=>by
 simp at m;rcases m with rfl | rfl
 ·exact Zjw
 ·exact Zjx
theorem Zds{σ:TL}{i:Nat}{t:T}: ZF σ i t i=some t:=by simp[ZF]
end TM
end
section
set_option autoImplicit false
namespace PM
open PySem PySem.W PySem.Calls PyProof.Rows PyProof
noncomputable def ZdI(o1 o2:V→V→Hp→Option (V×Hp))(f g h:Ex): Ts:=fun ρ H=>(f ρ H).bind fun p=>(g ρ p.2).bind fun q=>(o1 p.1 q.1 q.2).bind fun u=>(Zcg u.1 u.2).bind fun b=>if b then(h ρ u.2).bind fun x=>(o2 q.1 x.1 x.2).bind fun y=>(Zcg y.1 y.2).map fun c=>(c,y.2)else some (false,u.2)
section
variable {prog:Program} {w:World} {Γ:Cx}
theorem Zjy{e1 e2 e3:Expr}{op1 op2:CmpOp}{pos:Pos}{f g h:Ex}{o1 o2:V→V→Hp→Option (V×Hp)}(h1:J prog w Γ e1 f)(h2:J prog w Γ e2 g)(h3:J prog w Γ e3 h)(k1:Op2 prog w (compareOp op1) o1)(k2:Op2 prog w (compareOp op2) o2)(hm:lastMarks [op1,op2] [e2,e3]=false:=by with_unfolding_all rfl): JT prog w Γ (.Compare e1 [op1,op2] [e2,e3] pos) (ZdI o1 o2 f g h):=by
 intro W ρ H fr s Q E b H' r hf post
 obtain⟨p,a1,hf⟩:=Zz0.mp hf
 obtain⟨q,a2,hf⟩:=Zz0.mp hf
 obtain⟨u,a3,hf⟩:=Zz0.mp hf
 obtain⟨c,a4,hf⟩:=Zz0.mp hf
 refine isTrue_chain (h1 W ρ H fr s _ E _ _ r a1 fun W1 n1 t1 x l1 r1 x1=>?_) hm
 refine test_link (h2 W1 ρ _ fr _ _ E _ _ r1 a2 fun W2 n2 t2 y l2 r2 y2=>?_)
 refine k1 Γ W2 ρ _ fr _ _ E _ _ x y _ _ r2 (x1.mono l2) y2 a3 fun W3 n3 t3 z l3 r3 z3=>?_
 refine ZcH Γ W3 ρ _ fr _ _ E _ z c r3 z3 a4 fun W4 n4 t4 l4 r4=>?_
 cases c with
 | false=>
  cases hf
  exact post W4 n4 t4 (((l1.trans l2).trans l3).trans l4) r4
 | true=>
  simp only[if_true]at hf
  obtain⟨v,a5,hf⟩:=Zz0.mp hf
  obtain⟨v2,a6,hf⟩:=Zz0.mp hf
  obtain⟨d,a7,a8⟩:=Zz1.mp hf
  cases a8
  refine test_last (h3 W4 ρ _ fr _ _ E _ _ r4 a5 fun W5 n5 t5 y5 l5 r5 x5=>?_)
  refine k2 Γ W5 ρ _ fr _ _ E _ _ y y5 _ _ r5 (((y2.mono l3).mono l4).mono l5) x5 a6 fun W6 n6 t6 z6 l6 r6 x6=>?_
  exact ZcH Γ W6 ρ _ fr _ _ E _ z6 b r6 x6 a7 fun W7 n7 t7 l7 r7=>post W7 n7 t7 ((((((l1.trans l2).trans l3).trans l4).trans l5).trans l6).trans l7) r7
end
end PM
end
section
set_option autoImplicit false
namespace TM
open PySem PM
section
variable {O N M K:List Nat} {u u' u'':Bool}
noncomputable def ZdJ(q1 q2:T→T→Option T)(p1 p2 p3:PE): PB:=fun σ=>(p1 σ).bind fun x=>(p2 σ).bind fun y=>(q1 x y).bind fun z=>(Zbg z).bind fun b=>if b then(p3 σ).bind fun v=>(q2 y v).bind Zbg else some false
theorem Zjz{e1 e2 e3:Ex}{p1 p2 p3:PE}{q1 q2:T→T→Option T}{o1 o2:V→V→Hp→Option (V×Hp)}(k1:OA2 o1 q1)(k2:OA2 o2 q2)(x:E O N u e1 p1)(y:E O M u' e2 p2)(z:E O K u'' e3 p3): Bt O (ZdI o1 o2 e1 e2 e3) (ZdJ q1 q2 p1 p2 p3):=fun c ρ σ H Φ b s h=>by
 obtain⟨t1,h1,h⟩:=Zz0.mp h
 obtain⟨t2,h2,h⟩:=Zz0.mp h
 obtain⟨t3,h3,h⟩:=Zz0.mp h
 obtain⟨b0,h4,h⟩:=Zz0.mp h
 obtain⟨v1,X,F,a1,a2,_,_⟩:=x c ρ σ H Φ t1 s h1
 obtain⟨v2,Y,G,b1,b2,_,_⟩:=y c ρ σ (H++X) Φ t2 (s.ext X) h2
 obtain⟨v3,c1,c2⟩:=k1 _ v1 v2 t1 t2 t3 F G (a2.ext Y) b2 h3
 have d1:=Zce c2 h4
 cases b0 with
 | false=>
  cases h
  exact⟨X++Y,by simp only[ZdI,a1,b1,Option.bind_some,c1,d1];simp⟩
 | true=>
  simp only[if_true]at h
  obtain⟨t5,h5,h⟩:=Zz0.mp h
  obtain⟨t6,h6,h⟩:=Zz0.mp h
  obtain⟨v5,Z,F5,e1,e2,_,_⟩:=z c ρ σ (H++X++Y) Φ t5 ((s.ext X).ext Y) h5
  obtain⟨v6,f1,f2⟩:=k2 _ v2 v5 t2 t5 t6 G F5 (b2.ext Z) e2 h6
  have g1:=Zce f2 h
  exact⟨X++Y++Z,by simp only[ZdI,a1,b1,Option.bind_some,c1,d1,if_true,e1,f1,g1,Option.map_some];simp⟩
noncomputable def OIn(o:List V→Hp→Option (V×Hp))(q:List T→Option T): Prop:=∀(H:Hp) (vs:List V) (ts:List T) (t:T) (F1:List Nat),RFs H vs ts F1→q ts=some t→∃v F,o vs H=some (v,H)∧RF H v t F∧F.Sublist F1
theorem Zkt{n:Nat}{es:Exs}{ps:PEs}{q:List T→Option T}{o:List V→Hp→Option (V×Hp)}(k:OIn o q)(x:Es O N u n es ps): E O N u (Zr o es) (Zu q ps):=fun c ρ σ H Φ t s h=>by
 obtain⟨ts,h1,h⟩:=Zz0.mp h
 obtain⟨_,vs,X,F,a1,a2,a3,a4⟩:=x c ρ σ H Φ ts s h1
 obtain⟨w,G,b1,b2,b3⟩:=k _ vs ts t F a2 h
 exact⟨w,X,G,by simp only[Zr,a1,Option.bind_some,b1],b2,fun a m=>a3 a (b3.subset m),fun hu=>(a4 hu).sublist b3⟩
theorem ZjA: OIn ZcU Zev:=fun H vs ts t F r h=>by
 unfold Zev at h
 split at h
 ·obtain⟨v,rfl,r'⟩:=r.one_inv
  cases r' with
  | @ref a vs1 _ F1 e hs=>cases h;exact⟨.tup vs1,F1,by simp only[ZcU,e,Option.map_some],.tup hs,List.sublist_cons_self _ _⟩
 ·obtain⟨v,rfl,r'⟩:=r.one_inv
  cases r' with
  | @tup vs1 _ _ hs=>cases h;exact⟨.tup vs1,_,by simp only[ZcU],.tup hs,List.Sublist.refl _⟩
 ·cases h
end
section
variable {σ:TL} {Q:T→Prop} {B:Bool→Prop} {R:T→Prop} {N:TL→Prop}
theorem ZjB{q1 q2:T→T→Option T}{f g h:PE}(k:Pk (f σ) fun x=>Pk (g σ) fun y=>Pk (q1 x y) fun z=>Pb (Zbg z) fun b=>(b=true→Pk (h σ) fun v=>Pk (q2 y v) fun w=>Pb (Zbg w) B)∧(b=false→B false)): Pb (ZdJ q1 q2 f g h σ) B:=by
 obtain⟨x,a1,y,a2,z,a3,b,a4,k1,k2⟩:=k
 cases b with
 | false=>exact⟨false,by simp[ZdJ,a1,a2,a3,a4],k2 rfl⟩
 | true=>
  obtain⟨v,b1,w,b2,c,b3,q⟩:=k1 rfl
  exact⟨c,by simp[ZdJ,a1,a2,a3,a4,b1,b2,b3],q⟩
end
end TM
end
section
set_option autoImplicit false
namespace TM
open PySem PM
theorem Zi9{fr:Bool}: SimF fr (fun _ _=>none) (fun _=>none):=by
 intro H vs ts t F1 hp r h
 cases h
end TM
end
section
set_option autoImplicit false
namespace TM
open PySem PM
noncomputable def Keep0(g:Sm): Prop:=∀ρ H r,g ρ H=some r→r.2.1 0=ρ 0
theorem Keep0.next: Keep0 ZQ:=fun ρ H r h=>by cases h;rfl
theorem Zja{e:Ex}: Keep0 (ZaX e):=fun ρ H r h=>by
 obtain⟨_,_,q⟩:=Zz1.mp h
 subst q;rfl
theorem Keep0.ret{e:Ex}: Keep0 (ZD e):=fun ρ H r h=>by
 obtain⟨_,_,q⟩:=Zz1.mp h
 subst q;rfl
theorem Keep0.put{f o i:Ex}: Keep0 (Zcp f o i):=fun ρ H r h=>by
 obtain⟨_,_,h⟩:=Zz0.mp h
 obtain⟨_,_,h⟩:=Zz0.mp h
 obtain⟨_,_,h⟩:=Zz0.mp h
 obtain⟨_,_,q⟩:=Zz1.mp h
 subst q;rfl
theorem Keep0.seq{a b:Sm}(x:Keep0 a)(y:Keep0 b): Keep0 (Zw a b):=fun ρ H r h=>by
 obtain⟨r1,e1,h⟩:=Zz0.mp h
 have h1:=x ρ H r1 e1
 split at h
 ·cases h;exact h1
 ·exact(y _ _ _ h).trans h1
theorem Zjb{t:Ts}{a b:Sm}(x:Keep0 a)(y:Keep0 b): Keep0 (ZO t a b):=fun ρ H r h=>by
 obtain⟨p,_,h⟩:=Zz0.mp h
 split at h
 ·exact x _ _ _ h
 ·exact y _ _ _ h
theorem Keep0.set{i:Nat}{e:Ex}(hi:0≠i): Keep0 (Z1 i e):=fun ρ H r h=>by
 obtain⟨_,_,q⟩:=Zz1.mp h
 subst q
 simp[upd,hi]
noncomputable def SimM(f:List V→Hp→Option (V×Hp))(p:List T→Option T): Prop:=∀(H:Hp) (v:V) (vs:List V) (t:T) (ts:List T) (t':T) (F0 F1:List Nat),0<H.length→RF H v t F0→F0.Nodup→0∉F0→RFs H vs ts F1→(∀a∈F0,a∉F1)→p (t::ts)=some t' →
 ∃w H' F',f (v::vs) H=some (w,H')∧H.length≤H'.length∧(∀a,a<H.length→a∉F0→H'[a]?=H[a]?)∧RF H' v t' F'∧F'.Nodup∧∀a∈F',H.length≤a∨a∈F0
noncomputable def ZdV(n:Nat)(q:PS): List T→Option T:=fun ts=>if ts.length=n then(q fun i=>ts[i]?).bind fun r=>r.2 0 else none
theorem Zku{O':List Nat}{n:Nat}{g:Sm}{q:PS}(h:S [0] O' [0] false g q)(h0:0∈O')(hk:Keep0 g): SimM (Z2 n g) (ZdV n q):=fun H v vs t ts t' F0 F1 hp r0 nd n0 rs dj e=>by
 unfold ZdV at e
 split at e
 ·rename_i hl
  obtain⟨r1,e1,e2⟩:=Zz0.mp e
  obtain⟨Φ,hΦ⟩:=rs.slots
  have st:St ⟨H,F0,fun a=>a∈F0∨a∈F1⟩ [0] (fun i=>(v::vs)[i]?) (fun i=>(t::ts)[i]?) H (fun i=>match i with | 0=>F0 | i+1=>Φ i):=by
   refine⟨fun i u e=>?_,fun i u e a m=>?_,fun i hi u e=>?_,Nat.le_refl _,fun a _ _=>rfl,hp,n0⟩
   ·cases i with
    | zero=>simp at e;subst e;exact⟨v,rfl,r0⟩
    | succ i=>
     simp at e
     obtain⟨w,h1,h2,_⟩:=hΦ i u e
     exact⟨w,by simpa using h1,h2⟩
   ·cases i with
    | zero=>exact .inr (.inl m)
    | succ i=>
     simp at e
     obtain⟨w,h1,h2,h3⟩:=hΦ i u e
     exact .inr (.inr (h3 a m))
   ·have:i=0:=by simpa using hi
    subst this
    refine⟨nd,fun a m=>.inr m,fun j u' hj ej a m=>?_⟩
    cases j with
    | zero=>exact absurd rfl hj
    | succ j=>
     simp at ej
     obtain⟨w,h1,h2,h3⟩:=hΦ j u' ej
     exact fun q=>dj a m (h3 a q)
  obtain⟨ρ',H',Φ',h1,h2,h3⟩:=h _ _ _ _ _ _ st e1
  have hv:(v::vs).length=n:=by rw[←hl];simp[rs.length]
  have go:∀(o:Option V) (O2:List Nat),0∈O2→g (fun i=>(v::vs)[i]?) H=some (o,ρ',H')→St ⟨H,F0,fun a=>a∈F0∨a∈F1⟩ O2 ρ' r1.2 H' Φ'→∃w H' F',Z2 n g (v::vs) H=some (w,H')∧H.length≤H'.length∧(∀a,a<H.length→a∉F0→H'[a]?=H[a]?)∧RF H' v t' F'∧F'.Nodup∧∀a∈F',H.length≤a∨a∈F0:=by
   intro o O2 hO eg s2
   obtain⟨v',ev,rv⟩:=s2.slot 0 t' e2
   have kk:=hk _ _ _ eg
   have:v'=v:=by
    have k2:ρ' 0=some v:=kk
    rw[ev]at k2
    cases k2
    rfl
   subst this
   obtain⟨o1,o2,_⟩:=s2.own 0 hO t' e2
   exact⟨o.getD .none,H',Φ' 0,by simp only[Z2,hv,if_true,eg,Option.map_some],h1,s2.keep,rv,o1,o2⟩
  rcases h3 with⟨k1,k2,k3,k4⟩ | ⟨u,v',F',k1,k2,k3,k4,k5,k6⟩
  ·exact go none O' h0 k2 k3
  ·exact go (some v') [0] List.mem_cons_self k2 k4
 ·cases e
noncomputable def Zdg(x:Nat)(p:List T→Option T)(ps:PEs): PS:=fun σ=>(ps σ).bind fun ts=>(σ x).bind fun t=>(p (t::ts)).map fun t'=>(none,ZF σ x t')
section
variable {O O' R N:List Nat} {fr u:Bool}
theorem Zlv{x n:Nat}{f:List V→Hp→Option (V×Hp)}{p:List T→Option T}{es:Exs}{ps:PEs}(hx:x∈O)(k:SimM f p)(y:Es O N u n es ps)(hN:x∉N)(hO:∀j∈O',j∈O): S O O' R fr (ZaX (Zr f (Zf (Za x) es))) (Zdg x p ps):=fun c ρ σ H Φ r s q=>by
 obtain⟨ts,h1,q⟩:=Zz0.mp q
 obtain⟨t,h2,q⟩:=Zz0.mp q
 obtain⟨t',h3,q⟩:=Zz1.mp q
 subst q
 obtain⟨v,ev,rv⟩:=s.slot x t h2
 obtain⟨o1,o2,o3⟩:=s.own x hx t h2
 have hlow:∀k t,σ k=some t→∀a∈Φ k,a<H.length:=fun k t e a m=>by
  obtain⟨_,_,r⟩:=s.slot k t e
  exact r.lt a m
 obtain⟨_,vs,X,F,a1,a2,a3,_⟩:=y c ρ σ H Φ ts s h1
 have hp:0<(H++X).length:=by have:=s.pos;have:=s.len;rw[List.length_append];omega
 have hlen:(H++X).length=H.length+X.length:=List.length_append
 have dj:∀a∈Φ x,a∉F:=fun a m q=>by
  rcases a3 a q with h | ⟨j,hj,⟨tj,ej⟩,mj⟩
  ·have:=hlow x t h2 a m;omega
  ·exact o3 j tj (fun e=>hN (e▸hj)) ej a m mj
 obtain⟨w,H',F',b1,b2,b3,b4,b5,b6⟩:=k (H++X) v vs t ts t' (Φ x) F hp (rv.ext X) o1 (fun m=>Zgd s hx h2 m rfl) a2 dj h3
 have same:∀a,a<H.length→a∉Φ x→H'[a]?=H[a]?:=fun a ha hn=>by
  rw[b3 a (by omega) hn,List.getElem?_append_left ha]
 have eg:ZaX (Zr f (Zf (Za x) es)) ρ H=some (none,ρ,H'):=by
  simp only[ZaX,Zr,Zf,Za,ev,Option.map_some,Option.bind_some,a1,b1]
 refine⟨ρ,H',ZM Φ x F',by omega,fun a ha hn=>same a ha fun m=>hn ⟨x,hx,⟨t,h2⟩,m⟩,.inl ⟨rfl,eg,⟨fun i u' e=>?_,fun i u' e a m=>?_,fun i hi u' e=>?_,by have:=s.len;omega,fun a ha hn=>?_,s.pos,s.f0⟩,fun a hh=>?_⟩⟩
 ·by_cases c1:i=x
  ·subst c1
   simp only[ZF,if_true,Option.some.injEq]at e
   subst e
   exact⟨v,ev,by simpa [ZM]using b4⟩
  ·simp only[ZF,c1,if_false]at e
   obtain⟨v2,e2,r2⟩:=s.slot i u' e
   refine⟨v2,e2,?_⟩
   simp only[ZM,c1,if_false]
   exact r2.frame fun a m=>same a (hlow i u' e a m) fun q=>o3 i u' c1 e a q m
 ·by_cases c1:i=x
  ·subst c1
   simp only[ZM,if_true]at m
   rcases b6 a m with h | h
   ·exact .inl (by have:=s.len;omega)
   ·exact s.src i t h2 a h
  ·simp only[ZF,c1,if_false]at e
   simp only[ZM,c1,if_false]at m
   exact s.src i u' e a m
 ·by_cases c1:i=x
  ·subst c1
   refine⟨by simpa [ZM]using b5,fun a m=>?_,fun j u2 hj ej a m=>?_⟩
   ·simp only[ZM,if_true]at m
    rcases b6 a m with h | h
    ·exact .inl (by have:=s.len;omega)
    ·exact o2 a h
   ·simp only[ZM,if_true]at m
    simp only[ZF,hj,if_false]at ej
    simp only[ZM,hj,if_false]
    intro q
    have hq:=hlow j u2 ej a q
    rcases b6 a m with h | h
    ·omega
    ·exact o3 j u2 hj ej a h q
  ·simp only[ZF,c1,if_false]at e
   obtain⟨q1,q2,q3⟩:=s.own i (hO i hi) u' e
   refine⟨by simpa [ZM,c1]using q1,fun a m=>?_,fun j u2 hj ej a m=>?_⟩
   ·simp only[ZM,c1,if_false]at m
    exact q2 a m
   ·simp only[ZM,c1,if_false]at m
    by_cases c2:j=x
    ·subst c2
     simp only[ZM,if_true]
     intro q
     have hm:=hlow i u' e a m
     rcases b6 a q with h | h
     ·omega
     ·exact q3 j t hj h2 a m h
    ·simp only[ZF,c2,if_false]at ej
     simp only[ZM,c2,if_false]
     exact q3 j u2 hj ej a m
 ·have hs:=s.keep a ha hn
  rw[same a (by have:=s.len;omega) fun m=>?_]
  ·exact hs
  ·rcases o2 a m with h | h
   ·omega
   ·exact hn h
 ·obtain⟨j,hj,⟨u',e⟩,m⟩:=hh
  by_cases c1:j=x
  ·subst c1
   simp only[ZM,if_true]at m
   rcases b6 a m with h | h
   ·exact .inl (by omega)
   ·exact .inr ⟨j,hx,⟨t,h2⟩,h⟩
  ·simp only[ZF,c1,if_false]at e
   simp only[ZM,c1,if_false]at m
   exact .inr ⟨j,hO j hj,⟨u',e⟩,m⟩
end
section
variable {σ:TL} {R:T→Prop} {N:TL→Prop}
theorem ZhQ{x:Nat}{p:List T→Option T}{ps:PEs}{t:T}(e:σ x=some t)(h:Pl (ps σ) fun ts=>Pk (p (t::ts)) fun t'=>N (ZF σ x t')): Psk (Zdg x p ps σ) R N:=by
 obtain⟨ts,e1,t',e2,q⟩:=h
 exact⟨none,ZF σ x t',by simp only[Zdg,e1,e,Option.bind_some,e2,Option.map_some],by simp,fun _=>q⟩
theorem Zkv{n:Nat}{q:PS}{ts:List T}{Q:T→Prop}(hn:ts.length=n)(h:Psk (q fun i=>ts[i]?) (fun _=>False) fun σ=>∃t,σ 0=some t∧Q t): Pk (ZdV n q ts) Q:=by
 obtain⟨o,s,e,h1,h2⟩:=h
 cases o with
 | none=>
  obtain⟨t,e2,q2⟩:=h2 rfl
  exact⟨t,by simp only[ZdV,hn,if_true,e,Option.bind_some,e2],q2⟩
 | some u=>exact absurd (h1 u rfl) (by simp)
end
end TM
end
section
set_option autoImplicit false
namespace TM
open PySem PM
noncomputable def ZeM(k:Int)(f:List V→Hp→Option (V×Hp)): List V→Hp→Option (V×Hp):=fun vs H=>match vs with
 | v::us=>(Zq v (.int k) H).bind fun q=>f (q.1::us) q.2
 | []=>none
noncomputable def ZcJ(k:Int)(p:List T→Option T): List T→Option T
 | .lst us::ts=>(seqIndex? k us.length).bind fun j=>us[j]?.bind fun u=>(p (u::ts)).map fun u'=>.lst (us.set j u')
 | _=>none
theorem SimM.part{f:List V→Hp→Option (V×Hp)}{p:List T→Option T}(k:Int)(h:SimM f p): SimM (ZeM k f) (ZcJ k p):=fun H v vs t ts t' F0 F1 hp r nd n0 rs dj e=>by
 unfold ZcJ at e
 split at e
 ·rename_i us ts' heq
  cases heq
  obtain⟨j,e0,e⟩:=Zz0.mp e
  obtain⟨u,e1,e⟩:=Zz0.mp e
  obtain⟨u',e2,e3⟩:=Zz1.mp e
  subst e3
  have hlt:=r.lt
  cases r with
  | @ref b ws _ G eb hs=>
   have hl:=hs.length
   obtain⟨w,G1,Fa,Fb,e4,g1,eF,rb⟩:=hs.split e1
   subst eF
   rw[List.nodup_cons]at nd
   obtain⟨nb,nd⟩:=nd
   obtain⟨a1,a2,a5⟩:=List.nodup_append.mp nd
   obtain⟨n1,a3,a4⟩:=List.nodup_append.mp a2
   have hin:∀x∈G1,x∈Fa++(G1++Fb):=fun x m=>List.mem_append_right _ (Zz4 _ m)
   obtain⟨w',H',F',b1,b2,b3,b4,b5,b6⟩:=h H w vs u ts u' G1 F1 hp g1 n1 (fun m=>n0 (Zz2 _ (hin _ m))) rs (fun a m=>dj a (Zz2 _ (hin a m))) e2
   have sub:∀a∈F',a∈G1∨a∈F'.filter fun a=>H.length≤a:=fun a m=>(b6 a m).elim (fun q=>.inr (List.mem_filter.mpr ⟨m,by simpa using q⟩)) .inl
   have ds:∀a∈F'.filter (fun a=>H.length≤a),a∉Fa++(G1++Fb):=fun a m q=>by
    have h1:H.length≤a:=by simpa using (List.mem_filter.mp m).2
    have h2:=hlt a (Zz2 _ q)
    omega
   have hb:=hlt b Zz5
   have tot:=rb H' w u' F' b4 (fun a m=>b3 a (hlt a (Zz2 _ (Zz4 _ m))) fun q=>a5 a m a (Zz4 _ q) rfl) (fun a m=>b3 a (hlt a (Zz2 _ (Zz3 _ (Zz3 _ m)))) fun q=>a4 a q a m rfl)
   rw[ZfZ e4]at tot
   refine⟨w',H',b::(Fa++(F'++Fb)),?_,b2,fun a ha hn=>b3 a ha fun m=>hn (Zz2 _ (hin a m)),.ref ((b3 b hb fun m=>nb (hin b m)).trans eb) tot,List.nodup_cons.mpr ⟨fun q=>?_,nd3 nd b5 sub ds⟩,fun a m=>?_⟩
   ·simp only[ZeM,Zq,eb,Option.bind_some,hl,e0,e4,Option.map_some,b1]
   ·rcases in3 sub b q with m | m
    ·exact nb m
    ·have h1:H.length≤b:=by simpa using (List.mem_filter.mp m).2
     omega
   ·rcases Zz7.mp m with rfl | m
    ·exact .inr Zz5
    ·rcases in3 sub a m with q | q
     ·exact .inr (Zz2 _ q)
     ·exact .inl (by simpa using (List.mem_filter.mp q).2)
 ·cases e
theorem Zkw{x:Nat}{k:Int}{f:List V→Hp→Option (V×Hp)}: ZaX (Zr f (Zf (Zd Zq (Za x) (Zj k)) Zn))=ZaX (Zr (ZeM k f) (Zf (Za x) Zn)):=by
 funext ρ H
 simp only[ZaX,Zr,Zf,Zd,Za,Zj,Zn,ZeM]
 cases h:ρ x with
 | none=>simp
 | some v=>
  simp only[Option.map_some,Option.bind_some]
  cases Zq v (.int k) H with
  | none=>simp
  | some q=>simp
section
variable {O O' R:List Nat} {fr:Bool}
theorem ZhR{x:Nat}{k:Int}{f:List V→Hp→Option (V×Hp)}{p:List T→Option T}(hx:x∈O)(h:SimM f p)(hO:∀j∈O',j∈O): S O O' R fr (ZaX (Zr f (Zf (Zd Zq (Za x) (Zj k)) Zn))) (Zdg x (ZcJ k p) Zm):=by
 rw[Zkw]
 exact Zlv hx (h.part k) Zo (by simp) hO
end
section
variable {Q:T→Prop}
theorem ZhA{k:Int}{j:Nat}{us ts:List T}{u:T}{p:List T→Option T}(h0:seqIndex? k us.length=some j)(h1:us[j]?=some u)(h:Pk (p (u::ts)) fun u'=>Q (.lst (us.set j u'))): Pk (ZcJ k p (.lst us::ts)) Q:=by
 obtain⟨u',e,q⟩:=h
 exact⟨_,by simp only[ZcJ,h0,Option.bind_some,h1,e,Option.map_some],q⟩
end
end TM
end
section
namespace My
open PySem
section
variable {prog:Program} {w:World} {A:Around} {R:Result→Shared→Prop} {I:Addr} {fp wr:List Addr} {n:Nat} {P:Nat→Value→Prop} {St:Nat→Heap→Prop}
end
section
variable {prog:Program} {w:World} {A:Around} {E:Value→Shared→Prop} {s:Shared}
theorem kw_tree{id:String}{b:Builtin}{args:List Value}{kw:List (Str×Value)}{Q:Value→Shared→Prop}(e1:builtinKind id=none)(e2:plainId id=true)(e3:entryFor table id=some b)(e4:argsOk id ⟨args,kw⟩)
  (go:wpAny (model prog w) A.in1 (b ⟨args,kw⟩) (fun fin s'=>match fin with
   | .done f=>(match (Except.ok f:Result)with
    | .ok (.ret v)=>Q v s'
    | .ok _=>False
    | .error e=>E e s')
   | .again c'=>c'.quiet=true∧codeAny (model prog w) A c' (fun r s'=>match r with
    | .ok (.ret v)=>Q v s'
    | .ok _=>False
    | .error e=>E e s') s') E s):wpAny (model prog w) A (call (.builtin id) args kw) Q E s:=by
 refine wpAny_call (codeAny_call_builtin e2 e3 ?_)
 simp only[checkBuiltinCall,e1]
 cases sg:Manifest.signature? id with
 | none=>exact wpAny_pure go
 | some sig=>
  have e5:Bind.checkArgs id sig ⟨args,kw⟩=pure ():=by simpa only[argsOk,sg]using e4
  simp only[e5]
  exact wpAny_pure go
end
section
variable {prog:Program} {w:World} {A:Around} {R:Result→Shared→Prop} {I:Addr} {fp wr:List Addr} {n:Nat} {P:Nat→Value→Prop} {St:Nat→Heap→Prop}
theorem mn_rest(W:Walks prog w A.in1 I fp wr n P St)(bt:Nat→Nat→Bool)(cmp:CmpOf prog w A.in1 .Lt P bt)(S:Addr)(off:S∉fp)(kw:List (Str×Value)):
  ∀(k j:Nat) (s:Shared) (best:Value) (c:Nat),n-(j+1)=k→j+1≤n→St (j+1) s.heap→P (argBest bt j) best→s.heap.get? S=some { cls:=.type "list",dict:=none,data:=.seq #[best,best] c,slots:=#[] } →
   (∀v g tk,P (argBest bt (n-1)) v→(∀b o,b∉wr→b≠S→s.heap.get? b=some o→g.get? b=some o)→R (.ok (.ret v)) { s with heap:=g,toks:=tk }) →
   codeAny (model prog w) A (.builtin "min.loop" ⟨[.ref I,.none,.ref S],kw⟩) R s:=by
 have offw:S∉wr:=fun q=>off (W.sub _ q)
 have nm:(toString "min"++toString ".loop":String)="min.loop":=by decide
 intro k
 induction k with
 | zero=>
  intro j s best c ek ej st pb at_S out
  have last:j+1=n:=by omega
  refine codeAny_builtin F.entry_min_loop ?_;rw[Around.under_plainId F.plain_min_loop _]
  show wpAny _ A.in1 (seqItems? (.ref S) >>= _) _ _ s;refine wpAny_bind (wpAny_seqItems at_S rfl ?_)
  show wpAny _ A.in1 (tryCatch (pyNext (.ref I)) _ >>= _) _ _ s;refine wpAny_bind (wpAny_tryCatch (W.done s _ _ (last▸st) fun g tk keeps=>?_))
  have at_S':=keeps S _ offw at_S
  show wpAny _ A.in1 (updateSeq S (fun _=>#[]) >>= _) _ _ _
  refine wpAny_bind ?_;refine wpAny_updateSeq at_S' rfl (wpAny_bind (wpAny_letGo (wpAny_pure ?_)))
  exact out best _ tk (by rw[←last];exact pb) fun b o bw bS e=>(Heap.get?_update_other _ _ (Ne.symm bS)).trans (keeps b o bw e)
 | succ k ih=>
  intro j s best c ek ej st pb at_S out
  have more:j+1<n:=by omega
  refine codeAny_builtin F.entry_min_loop ?_;rw[Around.under_plainId F.plain_min_loop _]
  show wpAny _ A.in1 (seqItems? (.ref S) >>= _) _ _ s;refine wpAny_bind (wpAny_seqItems at_S rfl ?_)
  show wpAny _ A.in1 (tryCatch (pyNext (.ref I)) _ >>= _) _ _ s;refine wpAny_bind (wpAny_tryCatch (W.item (j+1) s _ _ more st fun v g tk pv st' keeps=>?_))
  have at_S':=keeps S _ offw at_S
  show wpAny _ A.in1 (tryCatch (holding [v,v] (richCompare .Lt v best >>= _)) _ >>= _) _ _ _;refine wpAny_bind (wpAny_tryCatch (wpAny_holding (wpAny_bind (cmp (j+1) (argBest bt j) v best _ _ _ pv pb ?_))))
  refine wpAny_bind (wpAny_holding (wpAny_truthy_bool ?_));refine wpAny_bind (wpAny_letGo (wpAny_pure ?_))
  cases hb:bt (j+1) (argBest bt j)with
  | true=>
   simp only[if_true];refine wpAny_bind ?_;refine wpAny_updateSeq at_S' rfl (wpAny_bind (wpAny_letGo ?_));rw[nm]
   refine wpAny_pure ⟨plainId_quiet F.plain_min_loop _,ih (j+1) _ v _ (by omega) more (W.frame _ _ _ st' fun b bf o e=>?_) (by simp only[argBest,hb,if_true];exact pv) (Heap.get?_update_self _ at_S' rfl) fun v' g' tk' pv' keeps'=>?_⟩
   ·exact(Heap.get?_update_other _ _ (fun q:S=b=>off (by rw[q];exact bf))).trans e
   ·exact out v' g' tk' pv' fun b o bw bS e=>keeps' b o bw bS ((Heap.get?_update_other _ _ (Ne.symm bS)).trans (keeps b o bw e))
  | false=>
   simp only[Bool.false_eq_true,if_false];refine wpAny_bind (wpAny_letGo ?_);rw[nm]
   refine wpAny_pure ⟨plainId_quiet F.plain_min_loop _,ih (j+1) _ best c (by omega) more st' (by simp only[argBest,hb,Bool.false_eq_true,if_false];exact pb) at_S' fun v' g' tk' pv' keeps'=>?_⟩
   exact out v' g' tk' pv' fun b o bw bS e=>keeps' b o bw bS (keeps b o bw e)
theorem mn_first(W:Walks prog w A.in1 I fp wr n P St)(bt:Nat→Nat→Bool)(cmp:CmpOf prog w A.in1 .Lt P bt)(S:Addr)(off:S∉fp)(kw:List (Str×Value))(some_:0<n){s:Shared}{c:Nat}(st:St 0 s.heap)
  (at_S:s.heap.get? S=some { cls:=.type "list",dict:=none,data:=.seq #[] c,slots:=#[] })
  (out:∀v g tk,P (argBest bt (n-1)) v→(∀b o,b∉wr→b≠S→s.heap.get? b=some o→g.get? b=some o)→R (.ok (.ret v)) { s with heap:=g,toks:=tk }):
  codeAny (model prog w) A (.builtin "min.loop" ⟨[.ref I,.none,.ref S],kw⟩) R s:=by
 have offw:S∉wr:=fun q=>off (W.sub _ q)
 have nm:(toString "min"++toString ".loop":String)="min.loop":=by decide
 refine codeAny_builtin F.entry_min_loop ?_;rw[Around.under_plainId F.plain_min_loop _]
 show wpAny _ A.in1 (seqItems? (.ref S) >>= _) _ _ s;refine wpAny_bind (wpAny_seqItems at_S rfl ?_)
 show wpAny _ A.in1 (tryCatch (pyNext (.ref I)) _ >>= _) _ _ s;refine wpAny_bind (wpAny_tryCatch (W.item 0 s _ _ some_ st fun v g tk pv st' keeps=>?_))
 have at_S':=keeps S _ offw at_S
 show wpAny _ A.in1 (updateSeq S (fun _=>#[v,v]) >>= _) _ _ _
 refine wpAny_bind ?_;refine wpAny_updateSeq at_S' rfl ?_;rw[nm]
 refine wpAny_pure ⟨plainId_quiet F.plain_min_loop _,mn_rest W bt cmp S off kw _ 0 _ v _ rfl some_ (W.frame _ _ _ st' fun b bf o e=>?_) pv (Heap.get?_update_self _ at_S' rfl) fun v' g' tk' pv' keeps'=>?_⟩
 ·exact(Heap.get?_update_other _ _ (fun q:S=b=>off (by rw[q];exact bf))).trans e
 ·exact out v' g' tk' pv' fun b o bw bS e=>keeps' b o bw bS ((Heap.get?_update_other _ _ (Ne.symm bS)).trans (keeps b o bw e))
theorem mn_none(W:Walks prog w A.in1 I fp wr 0 P St)(S:Addr)(x:Str)(d:Value)(kw:List (Str×Value)){s:Shared}{c:Nat}(st:St 0 s.heap)
  (at_S:s.heap.get? S=some { cls:=.type "list",dict:=none,data:=.seq #[] c,slots:=#[] })
  (out:∀g tk,(∀b o,b∉wr→s.heap.get? b=some o→g.get? b=some o)→R (.ok (.ret d)) { s with heap:=g,toks:=tk }):
  codeAny (model prog w) A (.builtin "min.loop" ⟨[.ref I,.none,.ref S],(x,d)::kw⟩) R s:=by
 refine codeAny_builtin F.entry_min_loop ?_;rw[Around.under_plainId F.plain_min_loop _]
 show wpAny _ A.in1 (seqItems? (.ref S) >>= _) _ _ s;refine wpAny_bind (wpAny_seqItems at_S rfl ?_)
 show wpAny _ A.in1 (tryCatch (pyNext (.ref I)) _ >>= _) _ _ s;refine wpAny_bind (wpAny_tryCatch (W.done s _ _ st fun g tk keeps=>?_))
 show wpAny _ A.in1 (rule _ >>= _) _ _ _
 exact wpAny_bind (wpAny_rule (wpAny_pure (out g tk keeps)))
end
section
variable {prog:Program} {w:World} {A:Around} {E:Value→Shared→Prop} {s:Shared}
theorem mn_args(a d:Value): argsOk "min" ⟨[a],[(Str.ofString "default",d)]⟩:=by unfold argsOk;kernel_rfl
theorem mn_walk{x d:Value}{Q:Value→Shared→Prop}
  (h:wpAny (model prog w) A.in1 (pyIter x) (fun it s₂=>∃I fp wr n P St bt,it=.ref I∧Walks prog w A.in1 I fp wr n P St∧St 0 s₂.heap∧(∀b∈fp,b<s₂.heap.objs.size)∧CmpOf prog w A.in1 .Lt P bt ∧
   (n=0→∀g tk,(∀b o,b∉wr→s₂.heap.get? b=some o→g.get? b=some o)→Q d { s₂ with heap:=g,toks:=tk }) ∧
   (0<n→∀v g tk,P (argBest bt (n-1)) v→(∀b o,b∉wr→s₂.heap.get? b=some o→g.get? b=some o)→Q v { s₂ with heap:=g,toks:=tk })) E s):
  wpAny (model prog w) A (call (.builtin "min") [x] [(Str.ofString "default",d)]) Q E s:=by
 have nm:(toString "min"++toString ".loop":String)="min.loop":=by decide
 refine kw_tree F.kind_min F.plain_min F.entry_min (mn_args _ _) ?_
 show wpAny _ A.in1 (Builtin.Builtins.bindParams "min" ["key","default"] 0 ⟨[],[(Str.ofString "default",d)]⟩ >>= _) _ _ s
 refine wpAny_bind (wpAny_of_eq (show Builtin.Builtins.bindParams "min" ["key","default"] 0 ⟨[],[(Str.ofString "default",d)]⟩=pure [none,some d]from rfl) ?_)
 refine wpAny_bind (wpAny_pure ?_)
 refine wpAny_bind (wpAny_mono h (fun it s₂ h₂=>?_) fun _ _ e=>e)
 obtain⟨I,fp,wr,n,P,St,bt,rfl,W,st,below,cmp,q0,q1⟩:=h₂
 refine wpAny_bind (wpAny_newObj_type ?_)
 have off:s₂.heap.objs.size∉fp:=fun hm=>Nat.lt_irrefl _ (below _ hm)
 rw[nm]
 by_cases z:n=0
 ·subst z
  exact wpAny_pure ⟨plainId_quiet F.plain_min_loop _,mn_none W _ _ d [] (W.frame _ _ _ st fun b _ o e=>Heap.get?_push_of_some _ e) (Heap.get?_push_size _ rfl) fun g tk keeps=>q0 rfl g tk fun b o bw e=>keeps b o bw (Heap.get?_push_of_some _ e)⟩
 ·refine wpAny_pure ⟨plainId_quiet F.plain_min_loop _,mn_first W bt cmp _ off _ (Nat.pos_of_ne_zero z) (W.frame _ _ _ st fun b _ o e=>Heap.get?_push_of_some _ e) (Heap.get?_push_size _ rfl) fun v g tk pv keeps=>?_⟩
  exact q1 (Nat.pos_of_ne_zero z) v g tk pv fun b o bw e=>keeps b o bw (Nat.ne_of_lt (Heap.lt_size e)) (Heap.get?_push_of_some _ e)
end
section
variable {prog:Program} {w:World} {A:Around} {E:Value→Shared→Prop} {s:Shared} {l:Addr} {d:Value} {Q:Value→Shared→Prop}
end
section
variable {prog:Program} {w:World} {A:Around} {E:Value→Shared→Prop} {s:Shared} {l:Addr} {d:Value} {Q:Value→Shared→Prop}
theorem mn_ints(xs:Array (Int×Tok))(hh:A.handled=none)(hl:s.heap.IsList l (intItems xs))
  (q0:xs.size=0→∀g tk,(∀b o,s.heap.get? b=some o→g.get? b=some o)→Q d { s with heap:=g,toks:=tk })
  (q1:0<xs.size→∀v g tk,(intItems xs)[argBest (fun i j=>decide (numAt xs i<numAt xs j)) (xs.size-1)]?=some v→(∀b o,s.heap.get? b=some o→g.get? b=some o)→Q v { s with heap:=g,toks:=tk }):
  wpAny (model prog w) A (call (.builtin "min") [.ref l] [(Str.ofString "default",d)]) Q E s:=by
 refine mn_walk (iter_intList hl fun s₂ e st below ne=>?_)
 subst e
 have sz:(intItems xs).size=xs.size:=by simp[intItems]
 refine⟨_,_,_,_,_,_,_,rfl,Walks.list (A:=A.in1) hh _ l ne (intItems xs),st,below,CmpOf.ints_lt (numAt xs) (fun _ _=>intItems_at),fun z g tk k=>q0 (sz▸z) g tk (old_kept k),fun z v g tk pv k=>?_⟩
 rw[sz]at z pv
 exact q1 z v g tk pv (old_kept k)
end
end My
end
section
set_option autoImplicit false
namespace PM
open PySem PySem.W PySem.Calls PyProof.Rows PyProof PyProof.Rows.LCg PyProof.Rows.LCp
noncomputable def Zh5: Option Int→V
 | some k=>.int k
 | none=>.none
noncomputable def ZdN: List V→Hp→Option (V×Hp)
 | [.ref a],H=>H[a]?.bind fun vs=>(ZcE vs).map fun ks=>(Zh5 ks.min?,H)
 | _,_=>none
theorem ZjC(f:Nat→Int)(j:Nat): ∀i:Nat,i≤j→f (argBest (fun a b=>decide (f a<f b)) j)≤f i:=by
 induction j with
 | zero=>
  intro i h
  have:i=0:=by omega
  subst this
  exact Int.le_refl _
 | succ j ih=>
  intro i h
  simp only[argBest]
  split
  ·rename_i c
   have c:=of_decide_eq_true c
   rcases Nat.lt_or_ge j i with h1 | h1
   ·have:i=j+1:=by omega
    subst this
    exact Int.le_refl _
   ·exact Int.le_trans (Int.le_of_lt c) (ih i h1)
  ·rename_i c
   have c:¬f (j+1)<f (argBest (fun a b=>decide (f a<f b)) j):=fun q=>c (decide_eq_true q)
   rcases Nat.lt_or_ge j i with h1 | h1
   ·have:i=j+1:=by omega
    subst this
    omega
   ·exact ih i h1
theorem ZhB(bt:Nat→Nat→Bool): ∀j:Nat,argBest bt j≤j
 | 0=>Nat.le_refl _
 | j+1=>by
  have:=ZhB bt j
  simp only[argBest];split <;> omega
theorem Zhj{W:Wd}: ∀{vs:List V} {xs:List Value} {ks:List Int},VRs W vs xs→ZcE vs=some ks→∃ts:List (Int×Tok),xs=ts.map (fun p=>Value.int p.1 p.2)∧ts.map (·.1)=ks
 | [],_,_,h,e=>by cases h;cases e;exact⟨[],rfl,rfl⟩
 | v::vs,xs,ks,h,e=>by
  cases h with
  | cons a b=>
   cases a <;> simp only[ZcE]at e <;> try cases e
   obtain⟨ks',e1,e2⟩:=Zz1.mp e
   obtain⟨ts,h1,h2⟩:=Zhj b e1
   exact⟨(_,_)::ts,by rw[h1];rfl,by simp[h2,←e2]⟩
section
variable {prog:Program} {w:World} {Γ:Cx}
theorem Zlw{x:Str}{np pos kp p2:Pos}{n2:Nat}{e1:Expr}{f:Ex}(hn:Nm prog w Γ x (.builtin "min"))(h1:J prog w Γ e1 f)
  (he:backTo pos (starEach [e1] Γ.env)=(false,eval e1 Γ.env)::backTo pos (starEach [] Γ.env):=by rfl) (he2:starEach [e1] Γ.env=(false,eval e1 Γ.env)::starEach [] Γ.env:=by rfl)
  (hp:(backTo pos (starEach [e1] Γ.env)).any (·.1)=false:=by rfl):
  J prog w Γ (.Call (.Name x np) [e1] [⟨some (Str.ofString "default"),.Constant .none n2 p2,kp⟩] pos) (Zr ZdN (Zf f Zn)):=by
 intro W ρ H fr s Q E v H' r hf post
 obtain⟨p,a1,hf⟩:=Zz0.mp hf
 obtain⟨p1,b1,b2⟩:=Zz0.mp a1
 obtain⟨u1,H1⟩:=p1
 cases b2
 simp only at hf
 refine wpAny_Call_ofName (hn.use r ?_)
 refine callWith_kw (wpAny_items_cons (h1 W ρ H fr s _ E _ _ r b1 fun W1 k1 t1 y1 l1 r1 v1=>wpAny_items_nil ?_) he2) he hp rfl rfl
 refine kws_cons (wpAny_Constant_none (kws_nil ?_))
 show wpAny (model prog w) Γ.A (call (.builtin "min") [y1] [(Str.ofString "default",.none)]) Q E _
 unfold ZdN at hf
 split at hf
 ·rename_i a b heq
  cases heq
  obtain⟨vs,e1,e2⟩:=Zz0.mp hf
  obtain⟨ks,e3,e4⟩:=Zz1.mp e2
  cases e4
  cases v1 with
  | ref ea=>
   obtain⟨hl,ys,k,hg,hv⟩:=r1.at e1 ea
   obtain⟨ts,g1,g2⟩:=Zhj hv e3
   have isl:k1.IsList _ (intItems ts.toArray):=⟨_,hg,rfl,k,by rw[g1];simp[intItems]⟩
   have nums:∀i (hi:i<ts.length),numAt ts.toArray i=ts[i].1:=fun i hi=>by simp[numAt,hi]
   refine My.mn_ints (s:={ s with heap:=k1,toks:=t1 }) (d:=.none) ts.toArray Γ.hh isl (fun z g tk up=>?_) fun z v' g tk pv up=>?_
   ·have:ks=[]:=by
     have z:ts.length=0:=by simpa using z
     have:ts=[]:=List.length_eq_zero_iff.mp z
     subst this;exact g2.symm
    subst this
    exact post W1 g tk _ l1 (r1.grown up) .none
   ·have z:0<ts.length:=by simpa using z
    have hb:=ZhB (fun i j=>decide (numAt ts.toArray i<numAt ts.toArray j)) (ts.toArray.size-1)
    have hlow:=ZjC (numAt ts.toArray) (ts.toArray.size-1)
    generalize argBest (fun i j=>decide (numAt ts.toArray i<numAt ts.toArray j)) (ts.toArray.size-1)=b at hb hlow pv
    have hb':b<ts.length:=by simp at hb;omega
    have ev:v'=Value.int ts[b].1 ts[b].2:=by
     have:(intItems ts.toArray)[b]?=some (Value.int ts[b].1 ts[b].2):=by simp[intItems,hb']
     rw[this]at pv;exact(Option.some.inj pv).symm
    have hm:ks.min? = some ts[b].1:=by
     rw[List.min?_eq_some_iff]
     refine⟨by rw[←g2];exact Zz11.mpr ⟨ts[b],List.getElem_mem _,rfl⟩,fun c hc=>?_⟩
     rw[←g2]at hc
     obtain⟨q,hq,rfl⟩:=Zz11.mp hc
     obtain⟨i,hi,rfl⟩:=List.getElem_of_mem hq
     have:=hlow i (by simp;omega)
     rw[nums i hi,nums b hb']at this
     exact this
    subst ev
    exact post W1 g tk _ l1 (r1.grown up) (by rw[hm];exact .int _ _)
 ·cases hf
end
end PM
end
section
set_option autoImplicit false
namespace TM
open PySem PM
noncomputable def Zh6: Option Int→T
 | some k=>.int k
 | none=>.none
noncomputable def ZeN: List T→Option T
 | [.lst ts]=>(Zc5 ts).map fun ks=>Zh6 ks.min?
 | _=>none
theorem Zlx: OAn ZdN ZeN:=fun H vs ts t F r h=>by
 unfold ZeN at h
 split at h
 ·obtain⟨v,rfl,r'⟩:=r.one_inv
  cases r' with
  | ref e hs=>
   obtain⟨ks,h1,h2⟩:=Zz1.mp h
   subst h2
   refine⟨Zh5 ks.min?,by simp only[ZdN,e,Option.bind_some,Zhv hs h1,Option.map_some],?_⟩
   cases ks.min? with
   | some k=>exact .int _
   | none=>exact .none
 ·cases h
section
variable {σ:TL} {L:List T→Prop}
end
end TM
end
section
set_option autoImplicit false
namespace PM
open PySem PySem.W PySem.Calls PyProof.Rows PyProof PyProof.Rows.LCg PyProof.Rows.LCp
section
variable {prog:Program} {w:World} {Γ:Cx}
theorem Zio{elt iter:Expr}{x x₂ y:Str}{px px₂ tp py pos spos:Pos}{kt:Nat}{scope:Scope}{cl:List (Str×Addr)}{t t₂ i:Nat}{g:Src}{f:Ex}(hy:Sto prog w Γ y i)(hg:JI2 prog w Γ iter g)(hel:∀C ρ,J prog w (Zam Γ scope cl C [(x,t),(x₂,t₂)] ρ) elt f)
  (hsw:swapsWith (.ListComp elt [⟨.Tuple [.Name x px,.Name x₂ px₂] kt tp,iter,[],0⟩] scope pos) (some (.Name y py)) spos.line Γ.env=pure true)
  (hclos:closureFor scope Γ.env=pure cl) (hcell:∀y∈scope.names,y.2≠.cell) (hkind:scope.kind=.function) (hnames:∀y∈scope.names,y.2=.local→scope.names.lookup y.1=some .local) (hx:scope.names.lookup x=some .local) (hx₂:scope.names.lookup x₂=some .local) (hxx:x≠x₂) (htt:t≠t₂) (hs:∀x,foldedSetIterable iter Γ.env x=pure x:=by intro _;rfl):
  S1 prog w Γ (.Assign [.Name y py] (.ListComp elt [⟨.Tuple [.Name x px,.Name x₂ px₂] kt tp,iter,[],0⟩] scope pos) spos) (Z1 i (Zar g (ZbT t t₂) Zaq f)):=by
 intro W ρ H fr s Q E r rp hf post
 obtain⟨p,e0,e9⟩:=Zz1.mp hf
 cases e9
 obtain⟨z,e1,hf⟩:=Zz0.mp e0
 obtain⟨q,e2,e3⟩:=Zz1.mp hf
 cases e3
 rw[exec_Assign_Name_used _ _ _ _ hsw]
 refine wpAny_bind (wpAny_standAt (wpAny_bind ?_))
 show wpAny _ Γ.A (do let _ ←comprehension (.ListComp elt [⟨.Tuple [.Name x px,.Name x₂ px₂] kt tp,iter,[],0⟩] scope pos) scope Γ.env _ (newList []) false (eval iter Γ.env) (some (assign (.Name y py) Γ.env))) _ _ s
 refine wpAny_bind (wpAny_mono (wpAny_comprehension_free (use:=some (assign (.Name y py) Γ.env)) (Q:=fun _ s'=>Q .next s') rfl hs hclos hkind hnames ?_) (fun _ s' h'=>wpAny_pure (wpAny_pure h')) fun _ _ e=>e)
 refine Zg2 (RR:=fun acc C=>compPost (model prog w) Γ.A E (some (assign (.Name y py) Γ.env)) (fun _ s'=>Q .next s') acc C) hg hel hcell hkind hx hx₂ hxx htt rp (q:=q) (by rw[e1];exact e2) fun W2 h' tk' C D oC m₂ ys l2 hC hv hl aD aC cd r3=>?_
 have r4:Rep Γ W2 ρ q.2 ((D,lst ys)::(C,oC)::fr) h':=r3.less fun t ht=>by
  rcases Zz7.mp ht with e | ht
  ·exact e▸List.mem_cons_of_mem _ Zz5
  ·rcases Zz7.mp ht with e | ht
   ·exact e▸List.mem_cons_self
   ·exact Zz2 _ (Zz2 _ ht)
 obtain⟨W5,l5,r5,v5⟩:=Zeo r4 (fun t ht=>by
  rcases Zz7.mp ht with e | ht
  ·rw[e]
   exact cd.symm
  ·exact aD t ht) hv hl
 refine wpAny_assign_Name (hy W5 ρ _ _ _ _ _ _ _ r5 v5 fun h6 t6 r6=>?_)
 refine⟨m₂,hC.ns (r6.frAt (q:=(C,oC)) Zz5),fun h'' sb=>?_⟩
 have r7:Rep Γ W5 (upd ρ i (.ref q.2.length)) (q.2++[q.1]) ([]++fr) h'':=
  Rep.swap (fs:=[(C,oC)]) (fs':=[]) r6 (fun q hq t ht=>by rw[List.mem_singleton.mp hq];exact aC t ht) (fun b o hb e=>sb.extBut b o (fun z=>hb (by simp[z])) e) fun q hq=>nomatch hq
 exact post W5 h'' t6 (l2.trans l5) r7
end
end PM
end
section
set_option autoImplicit false
namespace PM
open PySem PySem.W PySem.Calls PyProof.Rows PyProof PySem.Spec
noncomputable def ZeE: Expr→Bool
 | .Starred _ _=>true
 | _=>false
theorem ZgF{e:Expr}{es:List Expr}{env:Env}(h:ZeE e=false): starEach (e::es) env=(false,eval e env)::starEach es env:=by
 cases e <;> first | rfl | cases h
noncomputable def ZeF: List Expr→Bool
 | []=>true
 | e::es=>!ZeE e && ZeF es
theorem ZhZ{env:Env}: ∀{es:List Expr} (pos:Pos),ZeF es=true→(backTo pos (starEach es env)).any (·.1)=false
 | [],pos,_=>by rfl
 | e::es,pos,h=>by
  simp only[ZeF,Bool.and_eq_true,Bool.not_eq_true']at h
  have ih:=ZhZ (env:=env) (es:=es) pos h.2
  rw[ZgF h.1]
  unfold backTo at ih ⊢
  simp only[List.map_cons,List.any_cons,Bool.false_or]
  exact ih
section
variable {prog:Program} {w:World} {Γ:Cx}
theorem jc{e:Expr}{es:List Expr}{f:Ex}{g:Exs}(h1:J prog w Γ e f)(h2:Js prog w Γ es g)(hs:ZeE e=false:=by exact rfl): Js prog w Γ (e::es) (Zf f g):=ZjP h1 h2 (ZgF hs)
end
section
variable {prog:Program} {w:World} {K:Frag} {p:Program} {loose:List Str} {mean:ExcName→Option Value} {mg mb:Str→Option Value}
theorem ZjD{f:Addr}{room:Nat}: Def prog w K p loose mean mg mb f room (fun _ _=>none):=by
 intro Γ dp un clr hd hu W ρ H fr s Q E as xs v H' r hx hF post
 cases hF
end
end PM
end
section
set_option autoImplicit false
namespace PM
open PySem PySem.W PySem.Calls PyProof.Rows PyProof PySem.Spec
section
variable {prog:Program} {w:World} {Γ:Cx}
theorem ln1{α:Type _}: ∀{xs:List α},xs.length=1→∃x0,xs=[x0]
 | [x0],_=>⟨x0,rfl⟩
theorem ln2{α:Type _}: ∀{xs:List α},xs.length=2→∃x0 x1,xs=[x0,x1]
 | [x0,x1],_=>⟨x0,x1,rfl⟩
theorem ln3{α:Type _}: ∀{xs:List α},xs.length=3→∃x0 x1 x2,xs=[x0,x1,x2]
 | [x0,x1,x2],_=>⟨x0,x1,x2,rfl⟩
theorem ln4{α:Type _}: ∀{xs:List α},xs.length=4→∃x0 x1 x2 x3,xs=[x0,x1,x2,x3]
 | [x0,x1,x2,x3],_=>⟨x0,x1,x2,x3,rfl⟩
theorem ln5{α:Type _}: ∀{xs:List α},xs.length=5→∃x0 x1 x2 x3 x4,xs=[x0,x1,x2,x3,x4]
 | [x0,x1,x2,x3,x4],_=>⟨x0,x1,x2,x3,x4,rfl⟩
theorem ln6{α:Type _}: ∀{xs:List α},xs.length=6→∃x0 x1 x2 x3 x4 x5,xs=[x0,x1,x2,x3,x4,x5]
 | [x0,x1,x2,x3,x4,x5],_=>⟨x0,x1,x2,x3,x4,x5,rfl⟩
theorem ln7{α:Type _}: ∀{xs:List α},xs.length=7→∃x0 x1 x2 x3 x4 x5 x6,xs=[x0,x1,x2,x3,x4,x5,x6]
 | [x0,x1,x2,x3,x4,x5,x6],_=>⟨x0,x1,x2,x3,x4,x5,x6,rfl⟩
theorem jI{k:Int}{n:Nat}{pos:Pos}: J prog w Γ (.Constant (.int k) n pos) (Zj k):=J.int _ _ _
theorem jN{n:Nat}{pos:Pos}: J prog w Γ (.Constant .none n pos) Z8:=J.none _ _
theorem jB{b:Bool}{n:Nat}{pos:Pos}: J prog w Γ (.Constant (.bool b) n pos) (Zax b):=J.bool _ _ _
theorem cO{elt iter:Expr}{x:Str}{px:Pos}{ifs:List Expr}{scope:Scope}{pos:Pos}{cl:List (Str×Addr)}{t:Nat}{g:Src}{c:Ts}{f:Ex}(hg:JI prog w Γ iter g)(hel:∀C ρ,J prog w (Zam Γ scope cl C [(x,t)] ρ) elt f)(hif:∀C ρ,JF prog w (Zam Γ scope cl C [(x,t)] ρ) ifs c)
  (hclos:closureFor scope Γ.env=pure cl:=by with_unfolding_all rfl) (hcell:∀y∈scope.names,y.2≠.cell:=by decide) (hkind:scope.kind=.function:=by exact rfl) (hnames:∀y∈scope.names,y.2=.local→scope.names.lookup y.1=some .local:=by decide) (hx:scope.names.lookup x=some .local:=by exact rfl) (hs:∀x,foldedSetIterable iter Γ.env x=pure x:=by intro _;rfl):
  J prog w Γ (.ListComp elt [⟨.Name x px,iter,ifs,0⟩] scope pos) (Zar g (Zag t) c f):=ZkQ hg hel hif hclos hcell hkind hnames hx hs
theorem cT{elt iter:Expr}{x x₂:Str}{px px₂ tp:Pos}{kt:Nat}{scope:Scope}{pos:Pos}{cl:List (Str×Addr)}{t t₂:Nat}{g:Src}{f:Ex}(hg:JI2 prog w Γ iter g)(hel:∀C ρ,J prog w (Zam Γ scope cl C [(x,t),(x₂,t₂)] ρ) elt f)
  (hclos:closureFor scope Γ.env=pure cl:=by with_unfolding_all rfl) (hcell:∀y∈scope.names,y.2≠.cell:=by decide) (hkind:scope.kind=.function:=by exact rfl) (hnames:∀y∈scope.names,y.2=.local→scope.names.lookup y.1=some .local:=by decide) (hx:scope.names.lookup x=some .local:=by exact rfl) (hx₂:scope.names.lookup x₂=some .local:=by exact rfl) (hxx:x≠x₂:=by decide) (htt:t≠t₂:=by decide) (hs:∀x,foldedSetIterable iter Γ.env x=pure x:=by intro _;rfl):
  J prog w Γ (.ListComp elt [⟨.Tuple [.Name x px,.Name x₂ px₂] kt tp,iter,[],0⟩] scope pos) (Zar g (ZbT t t₂) Zaq f):=ZjT hg hel hclos hcell hkind hnames hx hx₂ hxx htt hs
theorem sO{elt iter:Expr}{x y:Str}{px py pos spos:Pos}{ifs:List Expr}{scope:Scope}{cl:List (Str×Addr)}{t i:Nat}{g:Src}{c:Ts}{f:Ex}(hy:Sto prog w Γ y i)(hg:JI prog w Γ iter g)(hel:∀C ρ,J prog w (Zam Γ scope cl C [(x,t)] ρ) elt f)(hif:∀C ρ,JF prog w (Zam Γ scope cl C [(x,t)] ρ) ifs c)
  (hsw:swapsWith (.ListComp elt [⟨.Name x px,iter,ifs,0⟩] scope pos) (some (.Name y py)) spos.line Γ.env=pure true:=by rfl)
  (hclos:closureFor scope Γ.env=pure cl:=by with_unfolding_all rfl) (hcell:∀y∈scope.names,y.2≠.cell:=by decide) (hkind:scope.kind=.function:=by exact rfl) (hnames:∀y∈scope.names,y.2=.local→scope.names.lookup y.1=some .local:=by decide) (hx:scope.names.lookup x=some .local:=by exact rfl) (hs:∀x,foldedSetIterable iter Γ.env x=pure x:=by intro _;rfl):
  S1 prog w Γ (.Assign [.Name y py] (.ListComp elt [⟨.Name x px,iter,ifs,0⟩] scope pos) spos) (Z1 i (Zar g (Zag t) c f)):=ZiE hy hg hel hif hsw hclos hcell hkind hnames hx hs
theorem sT{elt iter:Expr}{x x₂ y:Str}{px px₂ tp py pos spos:Pos}{kt:Nat}{scope:Scope}{cl:List (Str×Addr)}{t t₂ i:Nat}{g:Src}{f:Ex}(hy:Sto prog w Γ y i)(hg:JI2 prog w Γ iter g)(hel:∀C ρ,J prog w (Zam Γ scope cl C [(x,t),(x₂,t₂)] ρ) elt f)
  (hsw:swapsWith (.ListComp elt [⟨.Tuple [.Name x px,.Name x₂ px₂] kt tp,iter,[],0⟩] scope pos) (some (.Name y py)) spos.line Γ.env=pure true:=by rfl)
  (hclos:closureFor scope Γ.env=pure cl:=by with_unfolding_all rfl) (hcell:∀y∈scope.names,y.2≠.cell:=by decide) (hkind:scope.kind=.function:=by exact rfl) (hnames:∀y∈scope.names,y.2=.local→scope.names.lookup y.1=some .local:=by decide) (hx:scope.names.lookup x=some .local:=by exact rfl) (hx₂:scope.names.lookup x₂=some .local:=by exact rfl) (hxx:x≠x₂:=by decide) (htt:t≠t₂:=by decide) (hs:∀x,foldedSetIterable iter Γ.env x=pure x:=by intro _;rfl):
  S1 prog w Γ (.Assign [.Name y py] (.ListComp elt [⟨.Tuple [.Name x px,.Name x₂ px₂] kt tp,iter,[],0⟩] scope pos) spos) (Z1 i (Zar g (ZbT t t₂) Zaq f)):=Zio hy hg hel hsw hclos hcell hkind hnames hx hx₂ hxx htt hs
end
section
variable {prog:Program} {w:World} {dp un:Nat} {gd:Option (List Code)} {cn:Str} {cs:Scope} {L a:Addr} {ccd:Value} {cl:List (Str×Addr)} {outer:List Env} {h₀:Heap} {hu:un+200<cLine} {names:List Str}
theorem vL{x:Str}{i:Nat}{pos:Pos}(hi:names[i]?=some x:=by rfl)(hx:cs.names.lookup x=some .local:=by exact rfl)(hk:cs.kind=.function:=by exact rfl)(hd:(x == ("__debug__":Str))=false:=by exact rfl): J prog w (Zay dp un gd cn cs L a ccd cl outer h₀ hu names) (.Name x pos) (Za i):=ZeI (ZkO hi hx hk hd)
theorem vC{x:Str}{i:Nat}{pos:Pos}(hi:names[i]?=some x:=by rfl)(hx:cs.names.lookup x=some .cell:=by exact rfl)(hk:cs.kind=.function:=by exact rfl)(hd:(x == ("__debug__":Str))=false:=by exact rfl): J prog w (Zay dp un gd cn cs L a ccd cl outer h₀ hu names) (.Name x pos) (Za i):=ZeI (ZkP hi hx hk hd)
theorem sL{x:Str}{i:Nat}(nd:names.Nodup:=by decide)(hi:names[i]?=some x:=by rfl)(hx:cs.names.lookup x=some .local:=by exact rfl)(hk:cs.kind=.function:=by exact rfl): Sto prog w (Zay dp un gd cn cs L a ccd cl outer h₀ hu names) x i:=ZjR nd hi hx hk
theorem sC{x:Str}{i:Nat}(nd:names.Nodup:=by decide)(hi:names[i]?=some x:=by rfl)(hx:cs.names.lookup x=some .cell:=by exact rfl)(hk:cs.kind=.function:=by exact rfl)(hcl:(cl.lookup x).isSome=true:=by exact rfl): Sto prog w (Zay dp un gd cn cs L a ccd cl outer h₀ hu names) x i:=ZjS nd hi hx hk hcl
end
section
variable {prog:Program} {w:World} {K:Frag} {p:Program} {loose:List Str} {mean:ExcName→Option Value} {mg mb:Str→Option Value} {Γ:Cx} {dp un:Nat}
theorem nB{x:Str}{v:Value}(clr:Clr K p loose mean mg mb Γ dp un)(e:nsIn K mainGlobals x=some Option.none:=by k_is)(hv:bootBuiltins x=some v:=by boot_by_name)(hn:x≠"__name__":=by decide)(hg:Γ.env.globals=mainGlobals:=by exact rfl)(hb:Γ.env.builtins=builtinsNs:=by exact rfl)(hk:Γ.env.scope.kind=.function:=by exact rfl)(hx:Γ.env.kindOf x=some .globalImplicit:=by exact rfl)(hd:(x == ("__debug__":Str))=false:=by exact rfl): Nm prog w Γ x v:=Zjm clr e hv hn hg hb hk hx hd
theorem cF{x:Str}{np pos:Pos}{f:Addr}{room:Nat}{e:Expr}{es:List Expr}{g:Exs}{o:List V→Hp→Option (V×Hp)}(clr:Clr K p loose mean mg mb Γ dp un)(D:Def prog w K p loose mean mg mb f room o)(h:Js prog w Γ (e::es) g)
  (en:nsIn K mainGlobals x=some (some (.ref f)):=by k_is) (hg:Γ.env.globals=mainGlobals:=by exact rfl) (hk:Γ.env.scope.kind=.function:=by exact rfl) (hx:Γ.env.kindOf x=some .globalImplicit:=by exact rfl) (hd0:(x == ("__debug__":Str))=false:=by exact rfl)
  (hkeep:keepIn K (.ref f)=true:=by k_is) (hd:dp+room<recursionLimit:=by omega) (hu:un+10*room+300<cLine:=by omega)
  (he:ZeE e=false:=by exact rfl) (hp:ZeF es=true:=by exact rfl):J prog w Γ (.Call (.Name x np) (e::es) [] pos) (Zr o g):=ZjU clr (ZkT clr en hg hk hx hd0) hkeep D hd hu h (ZgF he) (fun pos=>ZhZ pos hp)
theorem Dof{name qual:Str}{params:Arguments}{body:List Stmt}{scope:Scope}{dV kV doc pm cdv ct oc:Value}{an od:Option Addr}{osl:Array (Option Value)}{f:Addr}{names:List Str}{n room:Nat}{g:Sm}
  (hbody:∀(dp un:Nat) (gd:Option (List Code)) (L:Addr) (outer:List Env) (h₀:Heap) (hu:un+200<cLine),Clr K p loose mean mg mb (Zay dp un gd qual scope L f cdv (cellsFrom (L+1) scope.names []) outer h₀ hu names) dp un→dp+room<recursionLimit→un+10*room+300<cLine →
   Ss prog w (Zay dp un gd qual scope L f cdv (cellsFrom (L+1) scope.names []) outer h₀ hu names) body g)
  (ho:K.lookup f=some ⟨oc,od,.func (fnOf name qual params body scope dV kV doc pm an cdv ct),osl⟩:=by k_is) (hcd:codeIn K cdv qual=true:=by k_is) (nd:names.Nodup:=by decide) (hn:n≤names.length:=by decide)
  (hbind:∀s xs,xs.length=n→BindsTo s (fnOf name qual params body scope dV kV doc pm an cdv ct) ⟨xs,[]⟩ ((names.take n).zip xs):=by
   intro s xs hx
   first
   | (obtain⟨x0,rfl⟩:=ln1 hx;exact BindsTo.of_eq rfl)
   | (obtain⟨x0,x1,rfl⟩:=ln2 hx;exact BindsTo.of_eq rfl)
   | (obtain⟨x0,x1,x2,rfl⟩:=ln3 hx;exact BindsTo.of_eq rfl)
   | (obtain⟨x0,x1,x2,x3,rfl⟩:=ln4 hx;exact BindsTo.of_eq rfl)
   | (obtain⟨x0,x1,x2,x3,x4,rfl⟩:=ln5 hx;exact BindsTo.of_eq rfl)
   | (obtain⟨x0,x1,x2,x3,x4,x5,rfl⟩:=ln6 hx;exact BindsTo.of_eq rfl)
   | (obtain⟨x0,x1,x2,x3,x4,x5,x6,rfl⟩:=ln7 hx;exact BindsTo.of_eq rfl)) (hkinds:∀x∈names.take n,scope.names.lookup x=some .local∨scope.names.lookup x=some .cell:=by decide) (hone:((cellsFrom 0 scope.names []).map (·.1)).Nodup:=by decide +kernel)
  (hco:scope.isCoroutine=false:=by exact rfl) (hgen:scope.isGenerator=false:=by exact rfl) (hk:scope.kind=.function:=by exact rfl):
  Def prog w K p loose mean mg mb f (room+1) (Z2 n g):=ZhI ho hcd nd hn hbind hkinds hone hco hgen hk hbody
end
section
variable {prog:Program} {w:World} {Γ:Cx} {scope:Scope} {cl:List (Str×Addr)} {C:Addr} {ts:List (Str×Nat)} {ρ0:Lc}
theorem vO{x:Str}{t:Nat}{pos:Pos}(hm:(x,t)∈ts:=by first | exact Zz5 | exact Zz2 _ Zz5)(hk:scope.kind=.function:=by exact rfl)(hl:(compEnvC scope cl C Γ.env).kindOf x=some .local:=by exact rfl)(hd:(x == ("__debug__":Str))=false:=by exact rfl): J prog w (Zam Γ scope cl C ts ρ0) (.Name x pos) (Za t):=ZeI (ZjW hm hk hl hd)
end
section
variable {prog:Program} {w:World} {dp un:Nat} {gd:Option (List Code)} {cn:Str} {cs:Scope} {L a:Addr} {ccd:Value} {clf:List (Str×Addr)} {outer:List Env} {h₀:Heap} {hu:un+200<cLine} {names:List Str} {scope:Scope} {cl:List (Str×Addr)} {C:Addr} {ts:List (Str×Nat)} {ρ0:Lc}
theorem vD{x:Str}{i:Nat}{pos:Pos}(hi:names[i]?=some x:=by rfl)(hx:cs.names.lookup x=some .cell:=by exact rfl)(hne:∀p∈ts,p.2≠i:=by decide)(hcl:cl.lookup x=clf.lookup x:=by exact rfl)(hk:scope.kind=.function:=by exact rfl)(hl:(compEnvC scope cl C (envX cn cs L a ccd clf)).kindOf x=some .cell:=by exact rfl)(hd:(x == ("__debug__":Str))=false:=by exact rfl):
  J prog w (Zam (Zay dp un gd cn cs L a ccd clf outer h₀ hu names) scope cl C ts ρ0) (.Name x pos) (Za i):=ZeI (ZjX hi hx hne hcl hk hl hd)
end
end PM
end
section
open PySem PM TM
namespace L
noncomputable def Zfc: Sm:=Zw (Z1 2 (Zd Z9 (Zd ZaW (Zd ZaW (Za 1) (Za 1)) (Zj 7919)) (Zj 11))) (Zw (ZO (ZG (Zd oGt (Zr Zaw (Zf (Za 0) Zn)) (Zj 0))) (Z1 2 (Zd Z9 (Za 2) (Zd Zq (Za 0) (Zd oMod (Za 1) (Zr Zaw (Zf (Za 0) Zn)))))) ZQ) (ZD (Za 2)))
noncomputable def Zd7:=Z2 2 Zfc
noncomputable def Zfd: PS:=(Zx (Zac 2 (Ze Zab (Ze ZaK (Ze ZaK (Zb 1) (Zb 1)) (Zh 7919)) (Zh 11))) (Zx (ZP (ZH (Ze qGt (Zu Zat (Zg (Zb 0) Zm)) (Zh 0))) (Zac 2 (Ze Zab (Zb 2) (Ze Zv (Zb 0) (Ze Zaz (Zb 1) (Zu Zat (Zg (Zb 0) Zm)))))) ZR) (ZE (Zb 2))))
noncomputable def Zdl:=Z6 2 Zfd
theorem ZgZ: SimF false Zd7 Zdl:=Zai (show S [] [] [] false Zfc Zfd from(Zz (Zau (O':=[]) (Z0 Zak (Z0 Zbz (Z0 Zbz (Zc 1) (Zc 1)) (Zl _)) (Zl _))) (Zz (ZV (ZJ (Zs Zh2 (ZaA ZaU (Zk (Zc 0) Zo)) (Zl _))) (Zau (O':=[]) (Z0 Zak (Zc 2) (ZB ZC (Zc 0) (Zs ZaT (Zc 1) (ZaA ZaU (Zk (Zc 0) Zo)))))) ZU) (ZN (Zc 2)))))
noncomputable def ZfC: Sm:=ZD (Zd oMod (Zd oMod (Zd ZaW (Zr Zd7 (Zf (Za 0) (Zf (Za 1) Zn))) (Zj 48271)) (Zj 2147483647)) (Za 2))
noncomputable def Zcu:=Z2 3 ZfC
noncomputable def ZfD: PS:=(ZE (Ze Zaz (Ze Zaz (Ze ZaK (Zu Zdl (Zg (Zb 0) (Zg (Zb 1) Zm))) (Zh 48271)) (Zh 2147483647)) (Zb 2)))
noncomputable def Zcb:=Z6 3 ZfD
theorem Zdq: SimF false Zcu Zcb:=Zai (show S [] [] [] false ZfC ZfD from(ZN (Zs ZaT (Zs ZaT (Z0 Zbz (Z5 ZgZ (Zk (Zc 0) (Zk (Zc 1) Zo))) (Zl _)) (Zl _)) (Zc 2))))
noncomputable def Ze5: Sm:=Zw (Z1 2 (Zr Zd7 (Zf (Za 0) (Zf (Za 1) Zn)))) (Zw (Z1 3 (Zd Zq (ZbP (Zf (Zj 3) (Zf (Zj 9) (Zf (Zd oPow (Zj 10) (Zj 9)) (Zf (Zd oPow (Zj 10) (Zj 40)) Zn))))) (Zd oMod (Zd oMod (Zd ZaW (Za 2) (Zj 69621)) (Zj 2147483629)) (Zj 4)))) (ZD (Zd Zc7 (Zd oMod (Zd ZaW (Za 2) (Zd oPow (Zj 48271) (Zj 9))) (Zd Z9 (Zd ZaW (Zj 2) (Za 3)) (Zj 1))) (Za 3))))
noncomputable def ZcN:=Z2 2 Ze5
noncomputable def Ze6: PS:=(Zx (Zac 2 (Zu Zdl (Zg (Zb 0) (Zg (Zb 1) Zm)))) (Zx (Zac 3 (Ze Zv (ZbF (Zg (Zh 3) (Zg (Zh 9) (Zg (Ze ZbH (Zh 10) (Zh 9)) (Zg (Ze ZbH (Zh 10) (Zh 40)) Zm))))) (Ze Zaz (Ze Zaz (Ze ZaK (Zb 2) (Zh 69621)) (Zh 2147483629)) (Zh 4)))) (ZE (Ze Zda (Ze Zaz (Ze ZaK (Zb 2) (Ze ZbH (Zh 48271) (Zh 9))) (Ze Zab (Ze ZaK (Zh 2) (Zb 3)) (Zh 1))) (Zb 3)))))
noncomputable def Zct:=Z6 2 Ze6
theorem Zd1: SimF false ZcN Zct:=Zai (show S [] [] [] false Ze5 Ze6 from(Zz (Zau (O':=[]) (Z5 ZgZ (Zk (Zc 0) (Zk (Zc 1) Zo)))) (Zz (Zau (O':=[]) (ZB ZC (E.list (Zk (Zl _) (Zk (Zl _) (Zk (Zs ZgE (Zl _) (Zl _)) (Zk (Zs ZgE (Zl _) (Zl _)) Zo))))) (Zs ZaT (Zs ZaT (Z0 Zbz (Zc 2) (Zl _)) (Zl _)) (Zl _)))) (ZN (Zs ZeJ (Zs ZaT (Z0 Zbz (Zc 2) (Zs ZgE (Zl _) (Zl _))) (Z0 Zak (Z0 Zbz (Zl _) (Zc 3)) (Zl _))) (Zc 3))))))
noncomputable def Zfe: Sm:=Zw (Z1 2 (Zr Zcu (Zf (Za 0) (Zf (Za 1) (Zf (Zj 42) Zn))))) (Zw (ZO (ZG (Zd oLt (Zd oMod (Za 2) (Zj 6)) (Zj 2))) (ZD (Z8)) ZQ) (Zw (ZO (ZG (Zd oLt (Zd oMod (Za 2) (Zj 6)) (Zj 4))) (ZD (Zj 0)) ZQ) (Zw (ZO (ZG (Zd oEq (Zd oMod (Za 2) (Zj 6)) (Zj 4))) (ZD (Zd oDiv (Za 2) (Zj 6))) ZQ) (ZD (Zr ZdQ (Zf (Zr ZcN (Zf (Za 0) (Zf (Za 1) Zn))) Zn))))))
noncomputable def Zff:=Z2 2 Zfe
noncomputable def Zfg: PS:=(Zx (Zac 2 (Zu Zcb (Zg (Zb 0) (Zg (Zb 1) (Zg (Zh 42) Zm))))) (Zx (ZP (ZH (Ze qLt (Ze Zaz (Zb 2) (Zh 6)) (Zh 2))) (ZE (Zaa)) ZR) (Zx (ZP (ZH (Ze qLt (Ze Zaz (Zb 2) (Zh 6)) (Zh 4))) (ZE (Zh 0)) ZR) (Zx (ZP (ZH (Ze qEq (Ze Zaz (Zb 2) (Zh 6)) (Zh 4))) (ZE (Ze ZcM (Zb 2) (Zh 6))) ZR) (ZE (Zu ZdU (Zg (Zu Zct (Zg (Zb 0) (Zg (Zb 1) Zm))) Zm)))))))
noncomputable def Zd8:=Z6 2 Zfg
theorem Zip: SimF false Zff Zd8:=Zai (show S [] [] [] false Zfe Zfg from(Zz (Zau (O':=[]) (Z5 Zdq (Zk (Zc 0) (Zk (Zc 1) (Zk (Zl _) Zo))))) (Zz (ZV (ZJ (Zs Zdb (Zs ZaT (Zc 2) (Zl _)) (Zl _))) (ZN (Zad)) ZU) (Zz (ZV (ZJ (Zs Zdb (Zs ZaT (Zc 2) (Zl _)) (Zl _))) (ZN (Zl _)) ZU) (Zz (ZV (ZJ (Zs Za8 (Zs ZaT (Zc 2) (Zl _)) (Zl _))) (ZN (Zs ZgD (Zc 2) (Zl _))) ZU) (ZN (ZaA ZhX (Zk (Z5 Zd1 (Zk (Zc 0) (Zk (Zc 1) Zo))) Zo))))))))
noncomputable def ZeV: Sm:=Zw (ZO (ZG (Zd oEq (Za 0) (Zj 0))) (ZD (Zbl (Zf (Zj 0) (Zf (Za 1) Zn)))) ZQ) (ZD (Zbl (Zf (Za 0) (Zf (Zd oMod (Za 1) (Za 0)) Zn))))
noncomputable def ZdW:=Z2 2 ZeV
noncomputable def ZeW: PS:=(Zx (ZP (ZH (Ze qEq (Zb 0) (Zh 0))) (ZE (Za7 (Zg (Zh 0) (Zg (Zb 1) Zm)))) ZR) (ZE (Za7 (Zg (Zb 0) (Zg (Ze Zaz (Zb 1) (Zb 0)) Zm)))))
noncomputable def Zdi:=Z6 2 ZeW
theorem ZgL: SimF false ZdW Zdi:=Zai (show S [] [] [] false ZeV ZeW from(Zz (ZV (ZJ (Zs Za8 (Zc 0) (Zl _))) (ZN (E.tup (Zk (Zl _) (Zk (Zc 1) Zo)))) ZU) (ZN (E.tup (Zk (Zc 0) (Zk (Zs ZaT (Zc 1) (Zc 0)) Zo))))))
noncomputable def ZfE: Sm:=Zw (Z1 3 (Zr Zcu (Zf (Za 0) (Zf (Za 1) (Zf (Zj 60) Zn))))) (Zw (ZO (ZG (Zd oLt (Zd oMod (Za 3) (Zj 5)) (Zj 2))) (ZD (Zbl (Zf (Zj 1) (Zf (Zj 0) Zn)))) ZQ) (Zw (ZO (ZG (Zd oEq (Zd oMod (Za 3) (Zj 5)) (Zj 2))) (ZD (Zbl (Zf (Zj 0) (Zf (Za 2) Zn)))) ZQ) (Zw (ZO (ZG (Zd oEq (Zd oMod (Za 3) (Zj 5)) (Zj 3))) (ZD (Zr ZdW (Zf (Zd Z9 (Zd oDiv (Za 3) (Zj 5)) (Zj 1)) (Zf (Za 2) Zn)))) ZQ) (ZD (Zr ZdW (Zf (Zr ZdQ (Zf (Zr ZcN (Zf (Za 0) (Zf (Za 1) Zn))) Zn)) (Zf (Za 2) Zn)))))))
noncomputable def ZfF:=Z2 3 ZfE
noncomputable def ZfG: PS:=(Zx (Zac 3 (Zu Zcb (Zg (Zb 0) (Zg (Zb 1) (Zg (Zh 60) Zm))))) (Zx (ZP (ZH (Ze qLt (Ze Zaz (Zb 3) (Zh 5)) (Zh 2))) (ZE (Za7 (Zg (Zh 1) (Zg (Zh 0) Zm)))) ZR) (Zx (ZP (ZH (Ze qEq (Ze Zaz (Zb 3) (Zh 5)) (Zh 2))) (ZE (Za7 (Zg (Zh 0) (Zg (Zb 2) Zm)))) ZR) (Zx (ZP (ZH (Ze qEq (Ze Zaz (Zb 3) (Zh 5)) (Zh 3))) (ZE (Zu Zdi (Zg (Ze Zab (Ze ZcM (Zb 3) (Zh 5)) (Zh 1)) (Zg (Zb 2) Zm)))) ZR) (ZE (Zu Zdi (Zg (Zu ZdU (Zg (Zu Zct (Zg (Zb 0) (Zg (Zb 1) Zm))) Zm)) (Zg (Zb 2) Zm))))))))
noncomputable def Zee:=Z6 3 ZfG
theorem ZiI: SimF false ZfF Zee:=Zai (show S [] [] [] false ZfE ZfG from(Zz (Zau (O':=[]) (Z5 Zdq (Zk (Zc 0) (Zk (Zc 1) (Zk (Zl _) Zo))))) (Zz (ZV (ZJ (Zs Zdb (Zs ZaT (Zc 3) (Zl _)) (Zl _))) (ZN (E.tup (Zk (Zl _) (Zk (Zl _) Zo)))) ZU) (Zz (ZV (ZJ (Zs Za8 (Zs ZaT (Zc 3) (Zl _)) (Zl _))) (ZN (E.tup (Zk (Zl _) (Zk (Zc 2) Zo)))) ZU) (Zz (ZV (ZJ (Zs Za8 (Zs ZaT (Zc 3) (Zl _)) (Zl _))) (ZN (Z5 ZgL (Zk (Z0 Zak (Zs ZgD (Zc 3) (Zl _)) (Zl _)) (Zk (Zc 2) Zo)))) ZU) (ZN (Z5 ZgL (Zk (ZaA ZhX (Zk (Z5 Zd1 (Zk (Zc 0) (Zk (Zc 1) Zo))) Zo)) (Zk (Zc 2) Zo)))))))))
noncomputable def ZfH: Sm:=Zw (Z1 3 (Zd Z9 (ZbP (Zf (Zj 0) Zn)) (Za 2))) (Zw (Z1 4 (Zr Zaw (Zf (Za 3) Zn))) (Zw (Z1 5 (ZbP Zn)) (Zw (ZaY (ZaL (Zf (Za 4) Zn)) (Zag 6) (Zw (Z1 7 (ZbP Zn)) (Zw (ZaY (ZaL (Zf (Za 4) Zn)) (Zag 8) (Zw (Z1 9 (Zr Zff (Zf (Za 0) (Zf (Zd Z9 (Zd Z9 (Za 1) (Zd ZaW (Za 6) (Za 4))) (Za 8)) Zn)))) (Zw (ZO (ZG (Zd Zch (Za 9) (Z8))) (Z1 9 (Zd Z9 (Zd Zc7 (Zd Zq (Za 3) (Za 6)) (Zd Zq (Za 3) (Za 8))) (Za 9))) ZQ) (ZaX (ZcB (Za 7) (Za 9)))))) (Zw (Zcp (Zj 0) (Za 7) (Za 6)) (ZaX (ZcB (Za 5) (Za 7))))))) (ZD (Zbl (Zf (Za 5) (Zf (Zar (ZaL (Zf (Zd Zc7 (Za 4) (Zj 1)) Zn)) (Zag 100) Zaq (Zr ZfF (Zf (Za 0) (Zf (Zd Z9 (Zd Z9 (Za 1) (Zd ZaW (Za 4) (Za 4))) (Za 100)) (Zf (Zd Zq (Za 2) (Za 100)) Zn))))) Zn)))))))
noncomputable def ZfI:=Z2 3 ZfH
noncomputable def ZfJ: PS:=(Zx (Zac 3 (Ze Zab (ZbF (Zg (Zh 0) Zm)) (Zb 2))) (Zx (Zac 4 (Zu Zat (Zg (Zb 3) Zm))) (Zx (Zac 5 (ZbF Zm)) (Zx (ZaN (ZaE (Zg (Zb 4) Zm)) (Z4 6) (Zx (Zac 7 (ZbF Zm)) (Zx (ZaN (ZaE (Zg (Zb 4) Zm)) (Z4 8) (Zx (Zac 9 (Zu Zd8 (Zg (Zb 0) (Zg (Ze Zab (Ze Zab (Zb 1) (Ze ZaK (Zb 6) (Zb 4))) (Zb 8)) Zm)))) (Zx (ZP (ZH (Ze ZbN (Zb 9) (Zaa))) (Zac 9 (Ze Zab (Ze Zda (Ze Zv (Zb 3) (Zb 6)) (Ze Zv (Zb 3) (Zb 8))) (Zb 9))) ZR) (ZbW 7 [] ZaM (Zb6 (Zb 9)))))) (Zx (ZbX 7 [] (Zh 0) ZaM (Zb 6)) (ZbW 5 [7] ZaM (Zb 7)))))) (ZE (Za7 (Zg (Zb 5) (Zg (Zao (ZaE (Zg (Ze Zda (Zb 4) (Zh 1)) Zm)) (Z4 100) Zal (Zb6 (Zu Zee (Zg (Zb 0) (Zg (Ze Zab (Ze Zab (Zb 1) (Ze ZaK (Zb 4) (Zb 4))) (Zb 100)) (Zg (Ze Zv (Zb 2) (Zb 100)) Zm)))))) Zm))))))))
noncomputable def Zef:=Z6 3 ZfJ
theorem ZiJ: SimF true ZfI Zef:=Zai (show S [] [5] [] true ZfH ZfJ from(Zz (Zau (O':=[]) (Z0 Zak (E.list (Zk (Zl _) Zo)) (Zc 2))) (Zz (Zau (O':=[]) (ZaA ZaU (Zk (Zc 3) Zo))) (Zz (ZcF (O':=[5]) (E.list Zo)) (Zz (Zbq (Gs.range (Zk (Zc 4) Zo)) PutOk.one (by decide) (by decide) (Zz (ZcF (O':=[5,7]) (Zbp (O':=[]) (E.list Zo))) (Zz (Zbq (Gs.range (Zk (Zc 4) Zo)) PutOk.one (by decide) (by decide) (Zz (Zau (O':=[5,7]) (Z5 Zip (Zk (Zc 0) (Zk (Z0 Zak (Z0 Zak (Zc 1) (Z0 Zbz (Zc 6) (Zc 4))) (Zc 8)) Zo)))) (Zz (ZV (ZJ (Zs ZcV (Zc 9) (Zad))) (Zau (O':=[5,7]) (Z0 Zak (Zs ZeJ (ZB ZC (Zc 3) (Zc 6)) (ZB ZC (Zc 3) (Zc 8))) (Zc 9))) ZU) (ZeL (O':=[5,7]) (by decide) Zcj (Zbp (O':=[5]) (E.flat (Zc 9))) (by decide) (by decide))))) (Zz (S.put (O':=[5,7]) (by decide) (Zbp (O':=[5]) (Zl _)) Zcj (Zc 6) (by decide) (by decide)) (ZeL (O':=[5]) (by decide) Zcj (Zbp (O':=[7]) (E.own (by decide))) (by decide) (by decide)))))) (ZbO (E.tup (ZaP (E.own (by decide)) (ZaP (Zcf (Gs.range (Zk (Zs ZeJ (Zc 4) (Zl _)) Zo)) PutOk.one (by decide) Zbb (Zbp (O':=[]) (E.flat (Z5 ZiI (Zk (Zc 0) (Zk (Z0 Zak (Z0 Zak (Zc 1) (Z0 Zbz (Zc 4) (Zc 4))) (Zc 100)) (Zk (ZB ZC (Zc 2) (Zc 100)) Zo))))))) Zo (by decide) (by decide)) (by decide) (by decide)))))))))
noncomputable def Zeg: Sm:=Zw (ZO (ZG (Zd oIs (Za 0) (Z8))) (ZD (Z8)) ZQ) (ZD (Zbl (Zf (Zar (ZbC (Zd Zq (Za 0) (Zj 0))) (Zag 100) Zaq (Zr ZbM (Zf (Za 100) Zn))) (Zf (Zr ZbM (Zf (Zd Zq (Za 0) (Zj 1)) Zn)) Zn))))
noncomputable def ZcP:=Z2 1 Zeg
noncomputable def Zeh: PS:=(Zx (ZP (ZH (Ze qIs (Zb 0) (Zaa))) (ZE (Zaa)) ZR) (ZE (Za7 (Zg (Zao (Za9 (Ze Zv (Zb 0) (Zh 0))) (Z4 100) Zal (Zu Zbn (Zg (Zb 100) Zm))) (Zg (Zu Zbn (Zg (Ze Zv (Zb 0) (Zh 1)) Zm)) Zm)))))
noncomputable def Zcv:=Z6 1 Zeh
theorem ZiK: SimF false ZcP Zcv:=Zai (show S [] [] [] false Zeg Zeh from(Zz (ZV (ZJ (Zs ZaZ (Zc 0) (Zad))) (ZN (Zad)) ZU) (ZN (E.tup (Zk (Zew (Gs.seq (ZB ZC (Zc 0) (Zl _))) PutOk.one (by decide) Zbb (Zhu ZcC (Zk (Zc 100) Zo))) (Zk (Zhu ZcC (Zk (ZB ZC (Zc 0) (Zl _)) Zo)) Zo))))))
noncomputable def Zfh: Sm:=ZD (eOr (Zd oIs (Za 1) (Z8)) (ZbS (Zd Zch (Za 0) (Z8)) (Zd oLe (Za 0) (Za 1))))
noncomputable def Zfi:=Z2 2 Zfh
noncomputable def Zfj: PS:=(ZE ((pOr (Ze qIs (Zb 1) (Zaa)) ((ZbU (Ze ZbN (Zb 0) (Zaa)) (Ze qLe (Zb 0) (Zb 1)))))))
noncomputable def Zd9:=Z6 2 Zfj
theorem Ziq: SimF false Zfi Zd9:=Zai (show S [] [] [] false Zfh Zfj from(ZN ((Zl7 (E.sh (Zs ZaZ (Zc 1) (Zad))) (E.sh ((Zc4 (E.sh (Zs ZcV (Zc 0) (Zad))) (E.sh (Zs ZdT (Zc 0) (Zc 1))))))))))
noncomputable def ZfK: Sm:=Zw (ZO (ZG (Zd oEq (Zd Zq (Za 0) (Zj 0)) (Zj 0))) (ZD (Zd oEq (Za 1) (Zd Zq (Za 0) (Zj 1)))) ZQ) (ZD (Zd oEq (Zd oMod (Za 1) (Zd Zq (Za 0) (Zj 0))) (Zd Zq (Za 0) (Zj 1))))
noncomputable def ZfL:=Z2 2 ZfK
noncomputable def ZfM: PS:=(Zx (ZP (ZH (Ze qEq (Ze Zv (Zb 0) (Zh 0)) (Zh 0))) (ZE (Ze qEq (Zb 1) (Ze Zv (Zb 0) (Zh 1)))) ZR) (ZE (Ze qEq (Ze Zaz (Zb 1) (Ze Zv (Zb 0) (Zh 0))) (Ze Zv (Zb 0) (Zh 1)))))
noncomputable def Zei:=Z6 2 ZfM
theorem ZiL: SimF false ZfL Zei:=Zai (show S [] [] [] false ZfK ZfM from(Zz (ZV (ZJ (Zs Za8 (ZB ZC (Zc 0) (Zl _)) (Zl _))) (ZN (Zs Za8 (Zc 1) (ZB ZC (Zc 0) (Zl _)))) ZU) (ZN (Zs Za8 (Zs ZaT (Zc 1) (ZB ZC (Zc 0) (Zl _))) (ZB ZC (Zc 0) (Zl _))))))
noncomputable def ZeX: Sm:=Zw (ZO (ZG (Zd oEq (Zd Zq (Za 1) (Zj 0)) (Zj 0))) (ZD (Zd oEq (Za 0) (Za 1))) ZQ) (ZD (ZbS (Zd oEq (Zd oMod (Zd Zq (Za 0) (Zj 0)) (Zd Zq (Za 1) (Zj 0))) (Zj 0)) (Zr ZfL (Zf (Za 1) (Zf (Zd Zq (Za 0) (Zj 1)) Zn)))))
noncomputable def ZeY:=Z2 2 ZeX
noncomputable def ZeZ: PS:=(Zx (ZP (ZH (Ze qEq (Ze Zv (Zb 1) (Zh 0)) (Zh 0))) (ZE (Ze qEq (Zb 0) (Zb 1))) ZR) (ZE ((ZbU (Ze qEq (Ze Zaz (Ze Zv (Zb 0) (Zh 0)) (Ze Zv (Zb 1) (Zh 0))) (Zh 0)) (Zu Zei (Zg (Zb 1) (Zg (Ze Zv (Zb 0) (Zh 1)) Zm)))))))
noncomputable def ZdX:=Z6 2 ZeZ
theorem Zh9: SimF false ZeY ZdX:=Zai (show S [] [] [] false ZeX ZeZ from(Zz (ZV (ZJ (Zs Za8 (ZB ZC (Zc 1) (Zl _)) (Zl _))) (ZN (Zs Za8 (Zc 0) (Zc 1))) ZU) (ZN ((Zc4 (E.sh (Zs Za8 (Zs ZaT (ZB ZC (Zc 0) (Zl _)) (ZB ZC (Zc 1) (Zl _))) (Zl _))) (E.sh (Z5 ZiL (Zk (Zc 1) (Zk (ZB ZC (Zc 0) (Zl _)) Zo)))))))))
noncomputable def Ze0: Sm:=Zw (ZO (ZG (Zd oEq (Zd Zq (Za 1) (Zj 0)) (Zj 0))) (ZD (Zd oEq (Za 0) (Za 1))) ZQ) (ZD (ZbS (Zd oEq (Zd oMod (Zd Zq (Za 0) (Zj 0)) (Zd Zq (Za 1) (Zj 0))) (Zj 0)) (Zd oEq (Zd oMod (Zd Zc7 (Zd Zq (Za 0) (Zj 1)) (Zd Zq (Za 1) (Zj 1))) (Zd Zq (Za 1) (Zj 0))) (Zj 0))))
noncomputable def ZdY:=Z2 2 Ze0
noncomputable def Ze1: PS:=(Zx (ZP (ZH (Ze qEq (Ze Zv (Zb 1) (Zh 0)) (Zh 0))) (ZE (Ze qEq (Zb 0) (Zb 1))) ZR) (ZE ((ZbU (Ze qEq (Ze Zaz (Ze Zv (Zb 0) (Zh 0)) (Ze Zv (Zb 1) (Zh 0))) (Zh 0)) (Ze qEq (Ze Zaz (Ze Zda (Ze Zv (Zb 0) (Zh 1)) (Ze Zv (Zb 1) (Zh 1))) (Ze Zv (Zb 1) (Zh 0))) (Zh 0))))))
noncomputable def Zdj:=Z6 2 Ze1
theorem ZgM: SimF false ZdY Zdj:=Zai (show S [] [] [] false Ze0 Ze1 from(Zz (ZV (ZJ (Zs Za8 (ZB ZC (Zc 1) (Zl _)) (Zl _))) (ZN (Zs Za8 (Zc 0) (Zc 1))) ZU) (ZN ((Zc4 (E.sh (Zs Za8 (Zs ZaT (ZB ZC (Zc 0) (Zl _)) (ZB ZC (Zc 1) (Zl _))) (Zl _))) (E.sh (Zs Za8 (Zs ZaT (Zs ZeJ (ZB ZC (Zc 0) (Zl _)) (ZB ZC (Zc 1) (Zl _))) (ZB ZC (Zc 1) (Zl _))) (Zl _))))))))
noncomputable def Zfk: Sm:=Zw (ZO (ZG (Zd oIs (Za 1) (Z8))) (ZD (Zax true)) ZQ) (ZD (ZbS (Zd Zch (Za 0) (Z8)) (Zd oLe (Za 0) (Za 1))))
noncomputable def Zfl:=Z2 2 Zfk
noncomputable def Zfm: PS:=(Zx (ZP (ZH (Ze qIs (Zb 1) (Zaa))) (ZE (ZaF true)) ZR) (ZE ((ZbU (Ze ZbN (Zb 0) (Zaa)) (Ze qLe (Zb 0) (Zb 1))))))
noncomputable def Zea:=Z6 2 Zfm
theorem Zir: SimF false Zfl Zea:=Zai (show S [] [] [] false Zfk Zfm from(Zz (ZV (ZJ (Zs ZaZ (Zc 1) (Zad))) (ZN (E.bool _)) ZU) (ZN ((Zc4 (E.sh (Zs ZcV (Zc 0) (Zad))) (E.sh (Zs ZdT (Zc 0) (Zc 1))))))))
noncomputable def Ze7: Sm:=Zw (ZO (tOr (ZG (Zd oIs (Za 0) (Z8))) (tOr (ZG (Zd oIs (Za 1) (Z8))) Zbc)) (ZD (Zd oIs (Za 0) (Z8))) ZQ) (Zw (ZaY (ZaL (Zf (Zr Zaw (Zf (Zd Zq (Za 0) (Zj 0)) Zn)) Zn)) (Zag 2) (ZaY (ZaL (Zf (Zr Zaw (Zf (Zd Zq (Za 0) (Zj 0)) Zn)) Zn)) (Zag 3) (ZO (ZaI (ZG (Zr Zfl (Zf (Zd Zq (Zd Zq (Zd Zq (Za 0) (Zj 0)) (Za 2)) (Za 3)) (Zf (Zd Zq (Zd Zq (Zd Zq (Za 1) (Zj 0)) (Za 2)) (Za 3)) Zn))))) (ZD (Zax false)) ZQ))) (Zw (ZaY (ZaL (Zf (Zr Zaw (Zf (Zd Zq (Za 0) (Zj 1)) Zn)) Zn)) (Zag 4) (ZO (ZaI (ZG (Zr ZdY (Zf (Zd Zq (Zd Zq (Za 0) (Zj 1)) (Za 4)) (Zf (Zd Zq (Zd Zq (Za 1) (Zj 1)) (Za 4)) Zn))))) (ZD (Zax false)) ZQ)) (ZD (Zax true))))
noncomputable def Zd2:=Z2 2 Ze7
noncomputable def Zdk: PS:=(Zx (ZP (bOr (ZH (Ze qIs (Zb 0) (Zaa))) (bOr (ZH (Ze qIs (Zb 1) (Zaa))) Zbh)) (ZE (Ze qIs (Zb 0) (Zaa))) ZR) (Zx (ZaN (ZaE (Zg (Zu Zat (Zg (Ze Zv (Zb 0) (Zh 0)) Zm)) Zm)) (Z4 2) (ZaN (ZaE (Zg (Zu Zat (Zg (Ze Zv (Zb 0) (Zh 0)) Zm)) Zm)) (Z4 3) (ZP (ZaJ (ZH (Zu Zea (Zg (Ze Zv (Ze Zv (Ze Zv (Zb 0) (Zh 0)) (Zb 2)) (Zb 3)) (Zg (Ze Zv (Ze Zv (Ze Zv (Zb 1) (Zh 0)) (Zb 2)) (Zb 3)) Zm))))) (ZE (ZaF false)) ZR))) (Zx (ZaN (ZaE (Zg (Zu Zat (Zg (Ze Zv (Zb 0) (Zh 1)) Zm)) Zm)) (Z4 4) (ZP (ZaJ (ZH (Zu Zdj (Zg (Ze Zv (Ze Zv (Zb 0) (Zh 1)) (Zb 4)) (Zg (Ze Zv (Ze Zv (Zb 1) (Zh 1)) (Zb 4)) Zm))))) (ZE (ZaF false)) ZR)) (ZE (ZaF true)))))
noncomputable def ZbE:=Z6 2 Zdk
theorem ZgR: SimF false Zd2 ZbE:=Zai (show S [] [] [] false Ze7 Zdk from(Zz (ZV (Zaj (ZJ (Zs ZaZ (Zc 0) (Zad))) (Zaj (ZJ (Zs ZaZ (Zc 1) (Zad))) Zbs)) (ZN (Zs ZaZ (Zc 0) (Zad))) ZU) (Zz (Zbq (Gs.range (Zk (ZaA ZaU (Zk (ZB ZC (Zc 0) (Zl _)) Zo)) Zo)) PutOk.one (by decide) (by decide) (Zbq (Gs.range (Zk (ZaA ZaU (Zk (ZB ZC (Zc 0) (Zl _)) Zo)) Zo)) PutOk.one (by decide) (by decide) (ZV (Za2 (ZJ (Z5 Zir (Zk (ZB ZC (ZB ZC (ZB ZC (Zc 0) (Zl _)) (Zc 2)) (Zc 3)) (Zk (ZB ZC (ZB ZC (ZB ZC (Zc 1) (Zl _)) (Zc 2)) (Zc 3)) Zo))))) (ZN (E.bool _)) ZU))) (Zz (Zbq (Gs.range (Zk (ZaA ZaU (Zk (ZB ZC (Zc 0) (Zl _)) Zo)) Zo)) PutOk.one (by decide) (by decide) (ZV (Za2 (ZJ (Z5 ZgM (Zk (ZB ZC (ZB ZC (Zc 0) (Zl _)) (Zc 4)) (Zk (ZB ZC (ZB ZC (Zc 1) (Zl _)) (Zc 4)) Zo))))) (ZN (E.bool _)) ZU)) (ZN (E.bool _))))))
noncomputable def Zfn: Sm:=ZD (ZbS (eIs "int" (Za 0)) (ZeP (eIs "bool" (Za 0))))
noncomputable def Zdm:=Z2 1 Zfn
noncomputable def Zfo: PS:=(ZE ((ZbU (pIs "int" (Zb 0)) (ZeR (pIs "bool" (Zb 0))))))
noncomputable def ZcO:=Z6 1 Zfo
theorem Zfp: SimF false Zdm ZcO:=Zai (show S [] [] [] false Zfn Zfo from(ZN ((Zc4 (E.sh (Zb7 (Zc 0))) (E.sh (ZlN (Zb7 (Zc 0))))))))
noncomputable def ZfN: Sm:=Zw (ZO (tOr (ZaI (ZG (eIs "list" (Za 0)))) (tOr (ZG (Zd oNe (Zr Zaw (Zf (Za 0) Zn)) (Za 1))) Zbc)) (ZD (Zax false)) ZQ) (Zw (ZaY (ZaL (Zf (Za 1) Zn)) (Zag 2) (Zw (ZO (tOr (ZaI (ZG (eIs "list" (Zd Zq (Za 0) (Za 2))))) (tOr (ZG (Zd oNe (Zr Zaw (Zf (Zd Zq (Za 0) (Za 2)) Zn)) (Za 1))) Zbc)) (ZD (Zax false)) ZQ) (Zw (ZaY (ZbC (Zd Zq (Za 0) (Za 2))) (Zag 3) (ZO (ZbB (ZG (Zd Zch (Za 3) (Z8))) (ZbB (ZaI (ZG (Zr Zdm (Zf (Za 3) Zn)))) Zaq)) (ZD (Zax false)) ZQ)) (ZO (ZG (Zd oNe (Zd Zq (Zd Zq (Za 0) (Za 2)) (Za 2)) (Zj 0))) (ZD (Zax false)) ZQ)))) (ZD (Zax true)))
noncomputable def ZfO:=Z2 2 ZfN
noncomputable def ZfP: PS:=(Zx (ZP (bOr (ZaJ (ZH (pIs "list" (Zb 0)))) (bOr (ZH (Ze qNe (Zu Zat (Zg (Zb 0) Zm)) (Zb 1))) Zbh)) (ZE (ZaF false)) ZR) (Zx (ZaN (ZaE (Zg (Zb 1) Zm)) (Z4 2) (Zx (ZP (bOr (ZaJ (ZH (pIs "list" (Ze Zv (Zb 0) (Zb 2))))) (bOr (ZH (Ze qNe (Zu Zat (Zg (Ze Zv (Zb 0) (Zb 2)) Zm)) (Zb 1))) Zbh)) (ZE (ZaF false)) ZR) (Zx (ZaN (Za9 (Ze Zv (Zb 0) (Zb 2))) (Z4 3) (ZP (ZbD (ZH (Ze ZbN (Zb 3) (Zaa))) (ZbD (ZaJ (ZH (Zu ZcO (Zg (Zb 3) Zm)))) Zal)) (ZE (ZaF false)) ZR)) (ZP (ZH (Ze qNe (Ze Zv (Ze Zv (Zb 0) (Zb 2)) (Zb 2)) (Zh 0))) (ZE (ZaF false)) ZR)))) (ZE (ZaF true))))
noncomputable def Zej:=Z6 2 ZfP
theorem ZiM: SimF false ZfO Zej:=Zai (show S [] [] [] false ZfN ZfP from(Zz (ZV (Zaj (Za2 (ZJ (Zb7 (Zc 0)))) (Zaj (ZJ (Zs ZbV (ZaA ZaU (Zk (Zc 0) Zo)) (Zc 1))) Zbs)) (ZN (E.bool _)) ZU) (Zz (Zbq (Gs.range (Zk (Zc 1) Zo)) PutOk.one (by decide) (by decide) (Zz (ZV (Zaj (Za2 (ZJ (Zb7 (ZB ZC (Zc 0) (Zc 2))))) (Zaj (ZJ (Zs ZbV (ZaA ZaU (Zk (ZB ZC (Zc 0) (Zc 2)) Zo)) (Zc 1))) Zbs)) (ZN (E.bool _)) ZU) (Zz (Zbq (Gs.seq (ZB ZC (Zc 0) (Zc 2))) PutOk.one (by decide) (by decide) (ZV (Zci (ZJ (Zs ZcV (Zc 3) (Zad))) (Zci (Za2 (ZJ (Z5 Zfp (Zk (Zc 3) Zo)))) Zbb)) (ZN (E.bool _)) ZU)) (ZV (ZJ (Zs ZbV (ZB ZC (ZB ZC (Zc 0) (Zc 2)) (Zc 2)) (Zl _))) (ZN (E.bool _)) ZU)))) (ZN (E.bool _)))))
noncomputable def Zfq: Sm:=Zw (ZO (tOr (ZaI (ZG (eIs "tuple" (Za 0)))) (tOr (ZG (Zd oNe (Zr Zaw (Zf (Za 0) Zn)) (Zj 2))) (tOr (ZaI (ZG (Zr ZfO (Zf (Zd Zq (Za 0) (Zj 0)) (Zf (Zd Z9 (Za 1) (Zj 1)) Zn))))) Zbc))) (ZD (Zax false)) ZQ) (Zw (ZO (tOr (ZaI (ZG (eIs "list" (Zd Zq (Za 0) (Zj 1))))) (tOr (ZG (Zd oNe (Zr Zaw (Zf (Zd Zq (Za 0) (Zj 1)) Zn)) (Za 1))) Zbc)) (ZD (Zax false)) ZQ) (Zw (ZaY (ZbC (Zd Zq (Za 0) (Zj 1))) (Zag 2) (Zw (ZO (tOr (ZaI (ZG (eIs "tuple" (Za 2)))) (tOr (ZG (Zd oNe (Zr Zaw (Zf (Za 2) Zn)) (Zj 2))) Zbc)) (ZD (Zax false)) ZQ) (Zw (ZO (tOr (ZaI (ZG (Zr Zdm (Zf (Zd Zq (Za 2) (Zj 0)) Zn)))) (tOr (ZaI (ZG (Zr Zdm (Zf (Zd Zq (Za 2) (Zj 1)) Zn)))) Zbc)) (ZD (Zax false)) ZQ) (ZO (tOr (ZG (Zd oLt (Zd Zq (Za 2) (Zj 0)) (Zj 0))) (tOr (ZbB (ZG (Zd oGt (Zd Zq (Za 2) (Zj 0)) (Zj 0))) (ZbB (ZaI (ZdI oLe oLt (Zj 0) (Zd Zq (Za 2) (Zj 1)) (Zd Zq (Za 2) (Zj 0)))) Zaq)) Zbc)) (ZD (Zax false)) ZQ)))) (ZD (Zax true))))
noncomputable def Zfr:=Z2 2 Zfq
noncomputable def Zfs: PS:=(Zx (ZP (bOr (ZaJ (ZH (pIs "tuple" (Zb 0)))) (bOr (ZH (Ze qNe (Zu Zat (Zg (Zb 0) Zm)) (Zh 2))) (bOr (ZaJ (ZH (Zu Zej (Zg (Ze Zv (Zb 0) (Zh 0)) (Zg (Ze Zab (Zb 1) (Zh 1)) Zm))))) Zbh))) (ZE (ZaF false)) ZR) (Zx (ZP (bOr (ZaJ (ZH (pIs "list" (Ze Zv (Zb 0) (Zh 1))))) (bOr (ZH (Ze qNe (Zu Zat (Zg (Ze Zv (Zb 0) (Zh 1)) Zm)) (Zb 1))) Zbh)) (ZE (ZaF false)) ZR) (Zx (ZaN (Za9 (Ze Zv (Zb 0) (Zh 1))) (Z4 2) (Zx (ZP (bOr (ZaJ (ZH (pIs "tuple" (Zb 2)))) (bOr (ZH (Ze qNe (Zu Zat (Zg (Zb 2) Zm)) (Zh 2))) Zbh)) (ZE (ZaF false)) ZR) (Zx (ZP (bOr (ZaJ (ZH (Zu ZcO (Zg (Ze Zv (Zb 2) (Zh 0)) Zm)))) (bOr (ZaJ (ZH (Zu ZcO (Zg (Ze Zv (Zb 2) (Zh 1)) Zm)))) Zbh)) (ZE (ZaF false)) ZR) (ZP (bOr (ZH (Ze qLt (Ze Zv (Zb 2) (Zh 0)) (Zh 0))) (bOr (ZbD (ZH (Ze qGt (Ze Zv (Zb 2) (Zh 0)) (Zh 0))) (ZbD (ZaJ (ZdJ qLe qLt (Zh 0) (Ze Zv (Zb 2) (Zh 1)) (Ze Zv (Zb 2) (Zh 0)))) Zal)) Zbh)) (ZE (ZaF false)) ZR)))) (ZE (ZaF true)))))
noncomputable def Zeb:=Z6 2 Zfs
theorem Zis: SimF false Zfr Zeb:=Zai (show S [] [] [] false Zfq Zfs from(Zz (ZV (Zaj (Za2 (ZJ (Zb7 (Zc 0)))) (Zaj (ZJ (Zs ZbV (ZaA ZaU (Zk (Zc 0) Zo)) (Zl _))) (Zaj (Za2 (ZJ (Z5 ZiM (Zk (ZB ZC (Zc 0) (Zl _)) (Zk (Z0 Zak (Zc 1) (Zl _)) Zo))))) Zbs))) (ZN (E.bool _)) ZU) (Zz (ZV (Zaj (Za2 (ZJ (Zb7 (ZB ZC (Zc 0) (Zl _))))) (Zaj (ZJ (Zs ZbV (ZaA ZaU (Zk (ZB ZC (Zc 0) (Zl _)) Zo)) (Zc 1))) Zbs)) (ZN (E.bool _)) ZU) (Zz (Zbq (Gs.seq (ZB ZC (Zc 0) (Zl _))) PutOk.one (by decide) (by decide) (Zz (ZV (Zaj (Za2 (ZJ (Zb7 (Zc 2)))) (Zaj (ZJ (Zs ZbV (ZaA ZaU (Zk (Zc 2) Zo)) (Zl _))) Zbs)) (ZN (E.bool _)) ZU) (Zz (ZV (Zaj (Za2 (ZJ (Z5 Zfp (Zk (ZB ZC (Zc 2) (Zl _)) Zo)))) (Zaj (Za2 (ZJ (Z5 Zfp (Zk (ZB ZC (Zc 2) (Zl _)) Zo)))) Zbs)) (ZN (E.bool _)) ZU) (ZV (Zaj (ZJ (Zs Zdb (ZB ZC (Zc 2) (Zl _)) (Zl _))) (Zaj (Zci (ZJ (Zs Zh2 (ZB ZC (Zc 2) (Zl _)) (Zl _))) (Zci (Za2 (Zjz ZdT Zdb (Zl _) (ZB ZC (Zc 2) (Zl _)) (ZB ZC (Zc 2) (Zl _)))) Zbb)) Zbs)) (ZN (E.bool _)) ZU)))) (ZN (E.bool _))))))
noncomputable def Zgm(F:List V→Hp→Option (V×Hp)): Sm:=Zw (ZO (ZG (eIs "list" (Za 0))) (ZD (Zar (ZbC (Za 0)) (Zag 100) Zaq (Zr F (Zf (Za 100) Zn)))) ZQ) (Zw (ZO (ZG (eIs "tuple" (Za 0))) (ZD (Zr ZcU (Zf (Zar (ZbC (Za 0)) (Zag 102) Zaq (Zr F (Zf (Za 102) Zn))) Zn))) ZQ) (ZD (Za 0)))
noncomputable def ZcR: Nat→List V→Hp→Option (V×Hp)
 | 0=>fun _ _=>none
 | n+1=>Z2 1 (Zgm (ZcR n))
noncomputable def Zey: List V→Hp→Option (V×Hp):=ZcR 9
noncomputable def ZcW(F:List T→Option T): PS:=(Zx (ZP (ZH (pIs "list" (Zb 0))) (ZE (Zao (Za9 (Zb 0)) (Z4 100) Zal (Zu F (Zg (Zb 100) Zm)))) ZR) (Zx (ZP (ZH (pIs "tuple" (Zb 0))) (ZE (Zu Zev (Zg (Zao (Za9 (Zb 0)) (Z4 102) Zal (Zu F (Zg (Zb 102) Zm))) Zm))) ZR) (ZE (Zb6 (Zb 0)))))
noncomputable def Zcy: Nat→List T→Option T
 | 0=>fun _=>none
 | n+1=>Z6 1 (ZcW (Zcy n))
noncomputable def Zez: List T→Option T:=Zcy 9
theorem Zf4: ∀n:Nat,SimF true (ZcR n) (Zcy n)
 | 0=>Zi9
 | n+1=>Zai (show S [] [] [] true (Zgm (ZcR n)) (ZcW (Zcy n))from(Zz (ZV (ZJ (Zb7 (Zc 0))) (ZbO (Zcf (Gs.seq (Zc 0)) PutOk.one (by decide) Zbb (Zcl (Zf4 n) (Zk (Zc 100) Zo)))) ZU) (Zz (ZV (ZJ (Zb7 (Zc 0))) (ZbO (Zkt ZjA (ZaP (Zcf (Gs.seq (Zc 0)) PutOk.one (by decide) Zbb (Zcl (Zf4 n) (Zk (Zc 102) Zo))) Zo (by decide) (by decide)))) ZU) (ZbO (E.flat (Zc 0))))))
theorem ZhC: SimF true Zey Zez:=Zf4 9
noncomputable def ZfQ: Sm:=Zw (ZO (ZG (Zd oIs (Za 1) (Z8))) (ZD (Zd oIs (Za 0) (Z8))) ZQ) (ZD (ZbS (Zr Zfr (Zf (Za 0) (Zf (Zr Zaw (Zf (Zd Zq (Za 1) (Zj 1)) Zn)) Zn))) (Zd oEq (Za 0) (Za 1))))
noncomputable def ZfR:=Z2 2 ZfQ
noncomputable def Zek: PS:=(Zx (ZP (ZH (Ze qIs (Zb 1) (Zaa))) (ZE (Ze qIs (Zb 0) (Zaa))) ZR) (ZE ((ZbU (Zu Zeb (Zg (Zb 0) (Zg (Zu Zat (Zg (Ze Zv (Zb 1) (Zh 1)) Zm)) Zm))) (Ze qEq (Zb 0) (Zb 1))))))
noncomputable def Zcw:=Z6 2 Zek
theorem ZiN: SimF false ZfR Zcw:=Zai (show S [] [] [] false ZfQ Zek from(Zz (ZV (ZJ (Zs ZaZ (Zc 1) (Zad))) (ZN (Zs ZaZ (Zc 0) (Zad))) ZU) (ZN ((Zc4 (E.sh (Z5 Zis (Zk (Zc 0) (Zk (ZaA ZaU (Zk (ZB ZC (Zc 1) (Zl _)) Zo)) Zo)))) (E.sh (Zs Za8 (Zc 0) (Zc 1))))))))
noncomputable def Zd3: Sm:=ZO (ZG (Zd Zch (Za 0) (Z8))) (Zw (Zcp (Zj 7) (Zd Zq (Zd Zq (Za 0) (Zj 0)) (Zj 0)) (Zj 0)) (Zw (ZaX (ZcB (Zd Zq (Za 0) (Zj 0)) (ZbP (Zf (Zj 7) Zn)))) (ZaX (ZcB (Zd Zq (Za 0) (Zj 1)) (Zbl (Zf (Zj 7) (Zf (Zj 7) Zn))))))) ZQ
noncomputable def Zd4:=Z2 1 Zd3
noncomputable def Ze8: PS:=(ZP (ZH (Ze ZbN (Zb 0) (Zaa))) (Zx (ZbX 0 [] (Zh 7) (Zb4 (Zb4 ZaM (Zh 0)) (Zh 0)) (Zh 0)) (Zx (ZbW 0 [] (Zb4 ZaM (Zh 0)) (ZbF (Zg (Zh 7) Zm))) (ZbW 0 [] (Zb4 ZaM (Zh 1)) (Za7 (Zg (Zh 7) (Zg (Zh 7) Zm)))))) ZR)
noncomputable def Zb9:=ZdV 1 Ze8
theorem ZgS: SimM Zd4 Zb9:=Zku (show S [0] [0] [0] false Zd3 Ze8 from(ZV (ZJ (Zs ZcV (Zc 0) (Zad))) (Zz (S.put (O':=[0]) (by decide) (Zbp (O':=[]) (Zl _)) (ZdG (ZdG Zcj (Zl _)) (Zl _)) (Zl _) (by decide) (by decide)) (Zz (ZeL (O':=[0]) (by decide) (ZdG Zcj (Zl _)) (Zbp (O':=[]) (E.list (ZaP (Zl _) Zo (by decide) (by decide)))) (by decide) (by decide)) (ZeL (O':=[0]) (by decide) (ZdG Zcj (Zl _)) (Zbp (O':=[]) (E.tup (ZaP (Zl _) (ZaP (Zl _) Zo (by decide) (by decide)) (by decide) (by decide)))) (by decide) (by decide)))) ZU)) (by decide) (by unfold Zd3;repeat' first | exact Keep0.next | exact Zja | exact Keep0.ret | exact Keep0.put | apply Keep0.seq | apply Zjb | exact Keep0.set (by decide))
noncomputable def Zec: PS:=(Zx (ZP (ZH (Ze qIs (Zb 0) (Zaa))) (ZE (Zaa)) ZR) (ZE (Za7 (Zg (Zao (Za9 (Ze Zv (Zb 0) (Zh 0))) (Z4 100) Zal (pFl (Zu Zbn (Zg (Zb 100) Zm)))) (Zg (pFl (Zu Zbn (Zg (Ze Zv (Zb 0) (Zh 1)) Zm))) Zm)))))
noncomputable def ZbY:=Z6 1 Zec
theorem Zg0: SimF true ZcP ZbY:=Zai (show S [] [] [] true Zeg Zec from(Zz (ZV (ZJ (Zs ZaZ (Zc 0) (Zad))) (ZbO (Zad)) ZU) (ZbO (E.tup (ZaP (Zcf (Gs.seq (ZB ZC (Zc 0) (Zl _))) PutOk.one (by decide) Zbb (Zdx ZcC (Zk (Zc 100) Zo))) (ZaP (Zdx ZcC (Zk (ZB ZC (Zc 0) (Zl _)) Zo)) Zo (by decide) (by decide)) (by decide) (by decide))))))
noncomputable def ZfU: Sm:=Zw (ZO (ZG (Zd oEq (Zr Zcu (Zf (Za 0) (Zf (Za 1) (Zf (Zj 7) Zn)))) (Zj 3))) (ZD (Z8)) ZQ) (ZD (Zr ZfI (Zf (Za 0) (Zf (Zd Z9 (Za 1) (Za 2)) (Zf (Zar (ZaL (Zf (Za 2) Zn)) (Zag 100) Zaq (Zr ZcN (Zf (Za 0) (Zf (Zd Z9 (Za 1) (Za 100)) Zn)))) Zn)))))
noncomputable def ZfV:=Z2 3 ZfU
noncomputable def ZfW: PS:=(Zx (ZP (ZH (Ze qEq (Zu Zcb (Zg (Zb 0) (Zg (Zb 1) (Zg (Zh 7) Zm)))) (Zh 3))) (ZE (Zaa)) ZR) (ZE (Zu Zef (Zg (Zb 0) (Zg (Ze Zab (Zb 1) (Zb 2)) (Zg (Zao (ZaE (Zg (Zb 2) Zm)) (Z4 100) Zal (Zu Zct (Zg (Zb 0) (Zg (Ze Zab (Zb 1) (Zb 100)) Zm)))) Zm))))))
noncomputable def Zeq:=Z6 3 ZfW
theorem Zjc: SimF false ZfV Zeq:=Zai (show S [] [] [] false ZfU ZfW from(Zz (ZV (ZJ (Zs Za8 (Z5 Zdq (Zk (Zc 0) (Zk (Zc 1) (Zk (Zl _) Zo)))) (Zl _))) (ZN (Zad)) ZU) (ZN (Z5 ZiJ (Zk (Zc 0) (Zk (Z0 Zak (Zc 1) (Zc 2)) (Zk (Zew (Gs.range (Zk (Zc 2) Zo)) PutOk.one (by decide) Zbb (Z5 Zd1 (Zk (Zc 0) (Zk (Z0 Zak (Zc 1) (Zc 100)) Zo)))) Zo)))))))
noncomputable def Ze2: Sm:=Zw (ZO (ZG (Zr Zfi (Zf (Za 1) (Zf (Za 0) Zn)))) (ZD (Za 0)) ZQ) (Zw (ZO (ZG (Zd oIs (Za 1) (Z8))) (ZD (Z8)) ZQ) (ZD (Zr ZdN (Zf (Zar (ZbC (Za 2)) (Zag 100) (ZG (Zd oGe (Za 100) (Za 1))) (Za 100)) Zn))))
noncomputable def Ze3:=Z2 3 Ze2
noncomputable def Ze4: PS:=(Zx (ZP (ZH (Zu Zd9 (Zg (Zb 1) (Zg (Zb 0) Zm)))) (ZE (Zb 0)) ZR) (Zx (ZP (ZH (Ze qIs (Zb 1) (Zaa))) (ZE (Zaa)) ZR) (ZE (Zu ZeN (Zg (Zao (Za9 (Zb 2)) (Z4 100) (ZH (Ze qGe (Zb 100) (Zb 1))) (Zb 100)) Zm)))))
noncomputable def ZdZ:=Z6 3 Ze4
theorem Zia: SimF false Ze3 ZdZ:=Zai (show S [] [] [] false Ze2 Ze4 from(Zz (ZV (ZJ (Z5 Ziq (Zk (Zc 1) (Zk (Zc 0) Zo)))) (ZN (Zc 0)) ZU) (Zz (ZV (ZJ (Zs ZaZ (Zc 1) (Zad))) (ZN (Zad)) ZU) (ZN (ZaA Zlx (Zk (Zew (Gs.seq (Zc 2)) PutOk.one (by decide) (ZJ (Zs Zh3 (Zc 100) (Zc 1))) (Zc 100)) Zo))))))
noncomputable def Zft: Sm:=ZD (Zar (Zc9 (Za 0) (Za 1)) (ZbT 100 101) Zaq (Zr Ze3 (Zf (Za 100) (Zf (Za 101) (Zf (Za 2) Zn)))))
noncomputable def Zfu:=Z2 3 Zft
noncomputable def Zfv: PS:=(ZE (Zao (Zdd (Zb 0) (Zb 1)) (Zc6 100 101) Zal (Zb6 (Zu ZdZ (Zg (Zb 100) (Zg (Zb 101) (Zg (Zb 2) Zm)))))))
noncomputable def Zed:=Z6 3 Zfv
theorem Zit: SimF true Zfu Zed:=Zai (show S [] [] [] true Zft Zfv from(ZbO (Zcf (Gs.zip (Zc 0) (Zc 1)) PutOk.two (by decide) Zbb (E.flat (Z5 Zia (Zk (Zc 100) (Zk (Zc 101) (Zk (Zc 2) Zo))))))))
noncomputable def Zgn: Sm:=Zw (ZO (ZG (Zd oIs (Za 0) (Z8))) (ZD (Zr Zey (Zf (Za 1) Zn))) ZQ) (Zw (ZO (ZG (Zd oIs (Za 1) (Z8))) (ZD (Zr Zey (Zf (Za 0) Zn))) ZQ) (Zw (Z1 3 (Zar (Zc9 (Zd Zq (Za 0) (Zj 0)) (Zd Zq (Za 1) (Zj 0))) (ZbT 100 101) Zaq (Zr Zfu (Zf (Za 100) (Zf (Za 101) (Zf (Za 2) Zn)))))) (Zw (Z1 4 (Zar (Zc9 (Zd Zq (Za 0) (Zj 1)) (Zd Zq (Za 1) (Zj 1))) (ZbT 102 103) Zaq (eIf (ZG (Zr ZeY (Zf (Za 103) (Zf (Za 102) Zn)))) (Za 102) (Zbl (Zf (Zj 1) (Zf (Zj 0) Zn)))))) (ZD (Zbl (Zf (Za 3) (Zf (Za 4) Zn)))))))
noncomputable def Zgo:=Z2 3 Zgn
noncomputable def ZdA: PS:=(Zx (ZP (ZH (Ze qIs (Zb 0) (Zaa))) (ZE (Zu Zez (Zg (Zb 1) Zm))) ZR) (Zx (ZP (ZH (Ze qIs (Zb 1) (Zaa))) (ZE (Zu Zez (Zg (Zb 0) Zm))) ZR) (Zx (Zac 3 (Zao (Zdd (Ze Zv (Zb 0) (Zh 0)) (Ze Zv (Zb 1) (Zh 0))) (Zc6 100 101) Zal (Zu Zed (Zg (Zb 100) (Zg (Zb 101) (Zg (Zb 2) Zm)))))) (Zx (Zac 4 (Zao (Zdd (Ze Zv (Zb 0) (Zh 1)) (Ze Zv (Zb 1) (Zh 1))) (Zc6 102 103) Zal (pIf (ZH (Zu ZdX (Zg (Zb 103) (Zg (Zb 102) Zm)))) (Zb6 (Zb 102)) (Za7 (Zg (Zh 1) (Zg (Zh 0) Zm)))))) (ZE (Za7 (Zg (Zb 3) (Zg (Zb 4) Zm))))))))
noncomputable def Zb3:=Z6 3 ZdA
theorem Zkx: SimF true Zgo Zb3:=Zai (show S [] [3,4] [] true Zgn ZdA from(Zz (ZV (ZJ (Zs ZaZ (Zc 0) (Zad))) (ZbO (Zcl ZhC (Zk (Zc 1) Zo))) ZU) (Zz (ZV (ZJ (Zs ZaZ (Zc 1) (Zad))) (ZbO (Zcl ZhC (Zk (Zc 0) Zo))) ZU) (Zz (ZcF (O':=[3]) (Zcf (Gs.zip (ZB ZC (Zc 0) (Zl _)) (ZB ZC (Zc 1) (Zl _))) PutOk.two (by decide) Zbb (Zcl Zit (Zk (Zc 100) (Zk (Zc 101) (Zk (Zc 2) Zo)))))) (Zz (ZcF (O':=[3,4]) (Zbp (O':=[]) (Zcf (Gs.zip (ZB ZC (Zc 0) (Zl _)) (ZB ZC (Zc 1) (Zl _))) PutOk.two (by decide) Zbb (ZlM (ZJ (Z5 Zh9 (Zk (Zc 103) (Zk (Zc 102) Zo)))) (E.flat (Zc 102)) (E.tup (ZaP (Zl _) (ZaP (Zl _) Zo (by decide) (by decide)) (by decide) (by decide))))))) (ZbO (E.tup (ZaP (E.own (by decide)) (ZaP (E.own (by decide)) Zo (by decide) (by decide)) (by decide) (by decide)))))))))
noncomputable def Ze9: Sm:=Zw (ZO (tOr (ZG (Zd oIs (Za 0) (Z8))) (tOr (ZbB (ZG (Zd Zch (Za 1) (Z8))) (ZbB (ZG (Zd oLe (Za 1) (Za 0))) Zaq)) Zbc)) (ZD (Za 0)) ZQ) (Zw (ZO (ZG (Zd oIs (Za 1) (Z8))) (ZD (Z8)) ZQ) (Zw (Z1 3 (Z8)) (Zw (ZaY (ZbC (Za 2)) (Zag 4) (ZO (ZbB (ZG (Zd oGe (Za 4) (Za 1))) (ZbB (tOr (ZG (Zd oIs (Za 3) (Z8))) (tOr (ZG (Zd oLt (Za 4) (Za 3))) Zbc)) Zaq)) (Z1 3 (Za 4)) ZQ)) (ZD (Za 3)))))
noncomputable def Zfa:=Z2 3 Ze9
noncomputable def Zfb: PS:=(Zx (ZP (bOr (ZH (Ze qIs (Zb 0) (Zaa))) (bOr (ZbD (ZH (Ze ZbN (Zb 1) (Zaa))) (ZbD (ZH (Ze qLe (Zb 1) (Zb 0))) Zal)) Zbh)) (ZE (Zb 0)) ZR) (Zx (ZP (ZH (Ze qIs (Zb 1) (Zaa))) (ZE (Zaa)) ZR) (Zx (Zac 3 (Zaa)) (Zx (ZaN (Za9 (Zb 2)) (Z4 4) (ZP (ZbD (ZH (Ze qGe (Zb 4) (Zb 1))) (ZbD (bOr (ZH (Ze qIs (Zb 3) (Zaa))) (bOr (ZH (Ze qLt (Zb 4) (Zb 3))) Zbh)) Zal)) (Zac 3 (Zb 4)) ZR)) (ZE (Zb 3))))))
noncomputable def Zd5:=Z6 3 Zfb
theorem Zig: SimF false Zfa Zd5:=Zai (show S [] [] [] false Ze9 Zfb from(Zz (ZV (Zaj (ZJ (Zs ZaZ (Zc 0) (Zad))) (Zaj (Zci (ZJ (Zs ZcV (Zc 1) (Zad))) (Zci (ZJ (Zs ZdT (Zc 1) (Zc 0))) Zbb)) Zbs)) (ZN (Zc 0)) ZU) (Zz (ZV (ZJ (Zs ZaZ (Zc 1) (Zad))) (ZN (Zad)) ZU) (Zz (Zau (O':=[]) (Zad)) (Zz (Zbq (Gs.seq (Zc 2)) PutOk.one (by decide) (by decide) (ZV (Zci (ZJ (Zs Zh3 (Zc 4) (Zc 1))) (Zci (Zaj (ZJ (Zs ZaZ (Zc 3) (Zad))) (Zaj (ZJ (Zs Zdb (Zc 4) (Zc 3))) Zbs)) Zbb)) (Zau (O':=[]) (Zc 4)) ZU)) (ZN (Zc 3)))))))
noncomputable def Zfw: Sm:=Zw (ZO (ZG (Zd oIs (Za 0) (Z8))) (ZD (Za 1)) ZQ) (Zw (ZO (ZG (Zd oIs (Za 1) (Z8))) (ZD (Za 0)) ZQ) (Zw (Z1 3 (Zar (ZbC (Zd Zq (Za 0) (Zj 0))) (Zag 100) Zaq (Zr ZbM (Zf (Za 100) Zn)))) (Zw (ZaY (ZaL (Zf (Zr Zaw (Zf (Za 3) Zn)) Zn)) (Zag 4) (ZaY (ZaL (Zf (Zr Zaw (Zf (Za 3) Zn)) Zn)) (Zag 5) (Zcp (Zr Zfa (Zf (Zd Zq (Zd Zq (Zd Zq (Za 0) (Zj 0)) (Za 4)) (Za 5)) (Zf (Zd Zq (Zd Zq (Zd Zq (Za 1) (Zj 0)) (Za 4)) (Za 5)) (Zf (Za 2) Zn)))) (Zd Zq (Za 3) (Za 4)) (Za 5)))) (Zw (Z1 6 (Zr ZbM (Zf (Zd Zq (Za 0) (Zj 1)) Zn))) (Zw (ZaY (ZaL (Zf (Zr Zaw (Zf (Za 6) Zn)) Zn)) (Zag 7) (ZO (ZaI (ZG (Zr ZdY (Zf (Zd Zq (Zd Zq (Za 1) (Zj 1)) (Za 7)) (Zf (Zd Zq (Zd Zq (Za 0) (Zj 1)) (Za 7)) Zn))))) (Zcp (Zbl (Zf (Zj 1) (Zf (Zj 0) Zn))) (Za 6) (Za 7)) ZQ)) (ZD (Zbl (Zf (Za 3) (Zf (Za 6) Zn)))))))))
noncomputable def Zfx:=Z2 3 Zfw
noncomputable def Zdn: PS:=(Zx (ZP (ZH (Ze qIs (Zb 0) (Zaa))) (ZE (Zb 1)) ZR) (Zx (ZP (ZH (Ze qIs (Zb 1) (Zaa))) (ZE (Zb 0)) ZR) (Zx (Zac 3 (Zao (Za9 (Ze Zv (Zb 0) (Zh 0))) (Z4 100) Zal (pFl (Zu Zbn (Zg (Zb 100) Zm))))) (Zx (ZaN (ZaE (Zg (Zu Zat (Zg (Zb 3) Zm)) Zm)) (Z4 4) (ZaN (ZaE (Zg (Zu Zat (Zg (Zb 3) Zm)) Zm)) (Z4 5) (ZbX 3 [] (Zb6 (Zu Zd5 (Zg (Ze Zv (Ze Zv (Ze Zv (Zb 0) (Zh 0)) (Zb 4)) (Zb 5)) (Zg (Ze Zv (Ze Zv (Ze Zv (Zb 1) (Zh 0)) (Zb 4)) (Zb 5)) (Zg (Zb 2) Zm))))) (Zb4 ZaM (Zb 4)) (Zb 5)))) (Zx (Zac 6 (pFl (Zu Zbn (Zg (Ze Zv (Zb 0) (Zh 1)) Zm)))) (Zx (ZaN (ZaE (Zg (Zu Zat (Zg (Zb 6) Zm)) Zm)) (Z4 7) (ZP (ZaJ (ZH (Zu Zdj (Zg (Ze Zv (Ze Zv (Zb 1) (Zh 1)) (Zb 7)) (Zg (Ze Zv (Ze Zv (Zb 0) (Zh 1)) (Zb 7)) Zm))))) (ZbX 6 [] (Za7 (Zg (Zh 1) (Zg (Zh 0) Zm))) ZaM (Zb 7)) ZR)) (ZE (Za7 (Zg (Zb 3) (Zg (Zb 6) Zm))))))))))
noncomputable def ZbZ:=Z6 3 Zdn
theorem Ziu: SimF false Zfx ZbZ:=Zai (show S [] [3,6] [] false Zfw Zdn from(Zz (ZV (ZJ (Zs ZaZ (Zc 0) (Zad))) (ZN (Zc 1)) ZU) (Zz (ZV (ZJ (Zs ZaZ (Zc 1) (Zad))) (ZN (Zc 0)) ZU) (Zz (ZcF (O':=[3]) (Zcf (Gs.seq (ZB ZC (Zc 0) (Zl _))) PutOk.one (by decide) Zbb (Zdx ZcC (Zk (Zc 100) Zo)))) (Zz (Zbq (Gs.range (Zk (ZaA ZaU (Zk (Zc 3) Zo)) Zo)) PutOk.one (by decide) (by decide) (Zbq (Gs.range (Zk (ZaA ZaU (Zk (Zc 3) Zo)) Zo)) PutOk.one (by decide) (by decide) (S.put (O':=[3]) (by decide) (Zbp (O':=[]) (E.flat (Z5 Zig (Zk (ZB ZC (ZB ZC (ZB ZC (Zc 0) (Zl _)) (Zc 4)) (Zc 5)) (Zk (ZB ZC (ZB ZC (ZB ZC (Zc 1) (Zl _)) (Zc 4)) (Zc 5)) (Zk (Zc 2) Zo)))))) (ZdG Zcj (Zc 4)) (Zc 5) (by decide) (by decide)))) (Zz (ZcF (O':=[3,6]) (Zbp (O':=[]) (Zdx ZcC (Zk (ZB ZC (Zc 0) (Zl _)) Zo)))) (Zz (Zbq (Gs.range (Zk (ZaA ZaU (Zk (Zc 6) Zo)) Zo)) PutOk.one (by decide) (by decide) (ZV (Za2 (ZJ (Z5 ZgM (Zk (ZB ZC (ZB ZC (Zc 1) (Zl _)) (Zc 7)) (Zk (ZB ZC (ZB ZC (Zc 0) (Zl _)) (Zc 7)) Zo))))) (S.put (O':=[3,6]) (by decide) (Zbp (O':=[3]) (E.tup (ZaP (Zl _) (ZaP (Zl _) Zo (by decide) (by decide)) (by decide) (by decide)))) Zcj (Zc 7) (by decide) (by decide)) ZU)) (ZN (E.tup (Zk (Zc 3) (Zk (Zc 6) Zo)))))))))))
noncomputable def Zf5: Sm:=Zw (Z1 1 (Zd Z9 (Zj 1) (Zr Zcu (Zf (Za 0) (Zf (Zj 0) (Zf (Zj 4) Zn)))))) (Zw (Z1 2 (Zar (ZaL (Zf (Zd Zq (ZbP (Zf (Zj 0) (Zf (Zj 1) (Zf (Zj 2) (Zf (Zj 3) (Zf (Zj 4) (Zf (Zj 20) Zn))))))) (Zr Zcu (Zf (Za 0) (Zf (Zj 5) (Zf (Zj 6) Zn))))) Zn)) (Zag 100) Zaq (Zr ZcN (Zf (Za 0) (Zf (Zd Z9 (Zj 70) (Za 100)) Zn))))) (Zw (Z1 3 (Zd Z9 (Zd Z9 (Za 1) (Zd ZaW (Zd Z9 (Za 1) (Zj 1)) (Zd Z9 (Za 1) (Zj 1)))) (Za 1))) (Zw (Z1 4 (Z8)) (Zw (Z1 5 (Zj 0)) (Zw (ZaY (ZaL (Zf (Zd Z9 (Zj 3) (Zd oDiv (Zr Zaw (Zf (ZdE (Za 0) (ZdL (Zj 6)) (ZdL (Zj 138))) Zn)) (Za 3))) Zn)) (Zag 6) (Zw (Z1 7 (Zr ZfV (Zf (Za 0) (Zf (Zd Z9 (Zj 6) (Zd ZaW (Za 6) (Za 3))) (Zf (Za 1) Zn))))) (Zw (Z1 8 (Zr ZcP (Zf (Zr Zfx (Zf (Za 4) (Zf (Za 7) (Zf (Za 2) Zn)))) Zn))) (Zw (Z1 9 (ZbP (Zf (Zr ZcP (Zf (Za 4) Zn)) (Zf (Zr ZcP (Zf (Za 7) Zn)) (Zf (Zr ZbM (Zf (Za 2) Zn)) Zn))))) (Zw (Z1 10 (Zr Zgo (Zf (Zd Zq (Za 9) (Zj 0)) (Zf (Zd Zq (Za 9) (Zj 1)) (Zf (Zd Zq (Za 9) (Zj 2)) Zn))))) (Zw (ZO (tOr (ZG (Zd oNe (Zd Zq (Za 9) (Zj 0)) (Za 4))) (tOr (ZG (Zd oNe (Zd Zq (Za 9) (Zj 1)) (Za 7))) (tOr (ZG (Zd oNe (Zd Zq (Za 9) (Zj 2)) (Za 2))) Zbc))) (ZD (Zax false)) ZQ) (Zw (ZaX (Zr Zd4 (Zf (Zd Zq (Za 9) (Zj 0)) Zn))) (Zw (ZaX (Zr Zd4 (Zf (Zd Zq (Za 9) (Zj 1)) Zn))) (Zw (ZO (tOr (ZaI (ZG (Zr ZfR (Zf (Za 10) (Zf (Za 8) Zn))))) (tOr (ZaI (ZG (Zr Zd2 (Zf (Za 4) (Zf (Za 10) Zn))))) (tOr (ZaI (ZG (Zr Zd2 (Zf (Za 7) (Zf (Za 10) Zn))))) Zbc))) (ZD (Zax false)) ZQ) (Zw (ZO (ZG (Zd oNe (Za 10) (Za 4))) (Z1 5 (Zd Z9 (Za 5) (Zj 1))) ZQ) (Z1 4 (Za 8)))))))))))) (ZD (Zd oLe (Za 5) (Zd Z9 (Zd Z9 (Zd ZaW (Zd ZaW (Zd Z9 (Za 1) (Zj 1)) (Zd Z9 (Za 1) (Zj 1))) (Zd Z9 (Zr Zaw (Zf (Za 2) Zn)) (Zj 1))) (Za 1)) (Zj 1)))))))))
noncomputable def Zhk:=Z2 1 Zf5
noncomputable def Zf6: PS:=(Zx (Zac 1 (Ze Zab (Zh 1) (Zu Zcb (Zg (Zb 0) (Zg (Zh 0) (Zg (Zh 4) Zm)))))) (Zx (Zac 2 (Zao (ZaE (Zg (Ze Zv (ZbF (Zg (Zh 0) (Zg (Zh 1) (Zg (Zh 2) (Zg (Zh 3) (Zg (Zh 4) (Zg (Zh 20) Zm))))))) (Zu Zcb (Zg (Zb 0) (Zg (Zh 5) (Zg (Zh 6) Zm))))) Zm)) (Z4 100) Zal (Zu Zct (Zg (Zb 0) (Zg (Ze Zab (Zh 70) (Zb 100)) Zm))))) (Zx (Zac 3 (Ze Zab (Ze Zab (Zb 1) (Ze ZaK (Ze Zab (Zb 1) (Zh 1)) (Ze Zab (Zb 1) (Zh 1)))) (Zb 1))) (Zx (Zac 4 (Zaa)) (Zx (Zac 5 (Zh 0)) (Zx (ZaN (ZaE (Zg (Ze Zab (Zh 3) (Ze ZcM (Zu Zat (Zg (ZdF (Zb 0) (ZcZ (Zh 6)) (ZcZ (Zh 138))) Zm)) (Zb 3))) Zm)) (Z4 6) (Zx (Zac 7 (Zu Zeq (Zg (Zb 0) (Zg (Ze Zab (Zh 6) (Ze ZaK (Zb 6) (Zb 3))) (Zg (Zb 1) Zm))))) (Zx (Zac 8 (Zu Zcv (Zg (Zu ZbZ (Zg (Zb 4) (Zg (Zb 7) (Zg (Zb 2) Zm)))) Zm))) (Zx (Zac 9 (ZbF (Zg (Zu ZbY (Zg (Zb 4) Zm)) (Zg (Zu ZbY (Zg (Zb 7) Zm)) (Zg (pFl (Zu Zbn (Zg (Zb 2) Zm))) Zm))))) (Zx (Zac 10 (Zu Zb3 (Zg (Ze Zv (Zb 9) (Zh 0)) (Zg (Ze Zv (Zb 9) (Zh 1)) (Zg (Ze Zv (Zb 9) (Zh 2)) Zm))))) (Zx (ZP (bOr (ZH (Ze qNe (Ze Zv (Zb 9) (Zh 0)) (Zb 4))) (bOr (ZH (Ze qNe (Ze Zv (Zb 9) (Zh 1)) (Zb 7))) (bOr (ZH (Ze qNe (Ze Zv (Zb 9) (Zh 2)) (Zb 2))) Zbh))) (ZE (ZaF false)) ZR) (Zx (Zdg 9 (ZcJ 0 Zb9) Zm) (Zx (Zdg 9 (ZcJ 1 Zb9) Zm) (Zx (ZP (bOr (ZaJ (ZH (Zu Zcw (Zg (Zb 10) (Zg (Zb 8) Zm))))) (bOr (ZaJ (ZH (Zu ZbE (Zg (Zb 4) (Zg (Zb 10) Zm))))) (bOr (ZaJ (ZH (Zu ZbE (Zg (Zb 7) (Zg (Zb 10) Zm))))) Zbh))) (ZE (ZaF false)) ZR) (Zx (ZP (ZH (Ze qNe (Zb 10) (Zb 4))) (Zac 5 (Ze Zab (Zb 5) (Zh 1))) ZR) (Zac 4 (Zb 8)))))))))))) (ZE (Ze qLe (Zb 5) (Ze Zab (Ze Zab (Ze ZaK (Ze ZaK (Ze Zab (Zb 1) (Zh 1)) (Ze Zab (Zb 1) (Zh 1))) (Ze Zab (Zu Zat (Zg (Zb 2) Zm)) (Zh 1))) (Zb 1)) (Zh 1))))))))))
noncomputable def Zf7:=Z6 1 Zf6
theorem ZjE: SimF false Zhk Zf7:=Zai (show S [] [] [] false Zf5 Zf6 from(Zz (Zau (O':=[]) (Z0 Zak (Zl _) (Z5 Zdq (Zk (Zc 0) (Zk (Zl _) (Zk (Zl _) Zo)))))) (Zz (Zau (O':=[]) (Zew (Gs.range (Zk (ZB ZC (E.list (Zk (Zl _) (Zk (Zl _) (Zk (Zl _) (Zk (Zl _) (Zk (Zl _) (Zk (Zl _) Zo))))))) (Z5 Zdq (Zk (Zc 0) (Zk (Zl _) (Zk (Zl _) Zo))))) Zo)) PutOk.one (by decide) Zbb (Z5 Zd1 (Zk (Zc 0) (Zk (Z0 Zak (Zl _) (Zc 100)) Zo))))) (Zz (Zau (O':=[]) (Z0 Zak (Z0 Zak (Zc 1) (Z0 Zbz (Z0 Zak (Zc 1) (Zl _)) (Z0 Zak (Zc 1) (Zl _)))) (Zc 1))) (Zz (Zau (O':=[]) (Zad)) (Zz (Zau (O':=[]) (Zl _)) (Zz (Zbq (Gs.range (Zk (Z0 Zak (Zl _) (Zs ZgD (ZaA ZaU (Zk (Zj0 (Zc 0) (Pe.some (Zl _)) (Pe.some (Zl _))) Zo)) (Zc 3))) Zo)) PutOk.one (by decide) (by decide) (Zk0 (O1:=[9]) (Zz (Zau (O':=[]) (Z5 Zjc (Zk (Zc 0) (Zk (Z0 Zak (Zl _) (Z0 Zbz (Zc 6) (Zc 3))) (Zk (Zc 1) Zo))))) (Zz (Zau (O':=[]) (Z5 ZiK (Zk (Z5 Ziu (Zk (Zc 4) (Zk (Zc 7) (Zk (Zc 2) Zo)))) Zo))) (Zz (ZcF (O':=[9]) (E.list (ZaP (Zcl Zg0 (Zk (Zc 4) Zo)) (ZaP (Zcl Zg0 (Zk (Zc 7) Zo)) (ZaP (Zdx ZcC (Zk (Zc 2) Zo)) Zo (by decide) (by decide)) (by decide) (by decide)) (by decide) (by decide)))) (Zz (Zau (O':=[9]) (Zbp (O':=[]) (Zcl Zkx (Zk (ZB ZC (Zc 9) (Zl _)) (Zk (ZB ZC (Zc 9) (Zl _)) (Zk (ZB ZC (Zc 9) (Zl _)) Zo)))))) (Zz (ZV (Zaj (ZJ (Zs ZbV (ZB ZC (Zc 9) (Zl _)) (Zc 4))) (Zaj (ZJ (Zs ZbV (ZB ZC (Zc 9) (Zl _)) (Zc 7))) (Zaj (ZJ (Zs ZbV (ZB ZC (Zc 9) (Zl _)) (Zc 2))) Zbs))) (ZN (E.bool _)) ZU) (Zz (ZhR (O':=[9]) (by decide) ZgS (by decide)) (Zz (ZhR (O':=[9]) (by decide) ZgS (by decide)) (Zz (ZV (Zaj (Za2 (ZJ (Z5 ZiN (Zk (Zc 10) (Zk (Zc 8) Zo))))) (Zaj (Za2 (ZJ (Z5 ZgR (Zk (Zc 4) (Zk (Zc 10) Zo))))) (Zaj (Za2 (ZJ (Z5 ZgR (Zk (Zc 7) (Zk (Zc 10) Zo))))) Zbs))) (ZN (E.bool _)) ZU) (Zz (ZV (ZJ (Zs ZbV (Zc 10) (Zc 4))) (Zau (O':=[9]) (Z0 Zak (Zc 5) (Zl _))) ZU) (Zau (O':=[9]) (Zc 8))))))))))) (by decide))) (ZN (Zs ZdT (Zc 5) (Z0 Zak (Z0 Zak (Z0 Zbz (Z0 Zbz (Z0 Zak (Zc 1) (Zl _)) (Z0 Zak (Zc 1) (Zl _))) (Z0 Zak (ZaA ZaU (Zk (Zc 2) Zo)) (Zl _))) (Zc 1)) (Zl _)))))))))))
end L
end
section
set_option autoImplicit false
open PySem PySem.W PyProof.Rows PM TM My
local macro_rules | `(tactic| walk_at "tkrd") => `(tactic| first | with_reducible assumption | with_reducible exact Zds | ((with_reducible apply Zhx); decide; walk_at "tkrd") | ((with_reducible apply Zjv); decide; walk_at "tkrd") | exact rfl | assumption)
local macro_rules | `(tactic| walk_at "tkyes") => `(tactic| first | rfl | (with_reducible assumption) | (simp only [Bool.not_eq_true', Bool.not_eq_false', decide_eq_true_eq, decide_eq_false_iff_not, beq_iff_eq, beq_eq_false_iff_ne, ne_eq, Bool.not_true, Bool.not_false, not_false_eq_true, not_true_eq_false, bne_iff_ne, Decidable.not_not, List.length_map] <;> first | done | omega | assumption))
local macro_rules | `(tactic| walk_at "tkflat") => `(tactic| first | rfl | exact Zgl | exact Zf3 | exact ZiH fun i hi => by first | rfl | exact Zgl | exact Zf3)
local macro_rules | `(tactic| walk_at "tkop") => `(tactic| first | with_reducible refine Zlk ?_ | with_reducible refine Zll ?_ | with_reducible refine tk_neg ?_ | with_reducible refine ZlS ?_ | with_reducible refine ZlT ?_ | with_reducible refine ZlU ?_ | with_reducible refine ZlV ?_ | with_reducible refine Zln ?_ | with_reducible refine tk_max ?_ | with_reducible refine tk_min ?_ | with_reducible refine ZlW ?_ | with_reducible refine ZlX ?_ | with_reducible refine tk_eqb ?_ | with_reducible refine tk_neb ?_ | with_reducible refine Zlo ?_ | with_reducible refine Zlp ?_ | with_reducible refine tk_isl ?_ | with_reducible refine Zlq ?_ | with_reducible refine Zkc ?_ | with_reducible refine Zkd ?_ | with_reducible refine tk_notl ?_ | with_reducible refine tk_nott ?_ | with_reducible refine Zke ?_ | with_reducible refine Zlr ?_ | with_reducible refine Zkf ?_ | ((with_reducible apply Zkg); (first | assumption | omega)) | ((with_reducible apply tk_idxT); (first | decide | omega); (first | decide | omega)) | ((with_reducible apply Zkh); (first | decide | omega); rfl) | ((with_reducible apply Zgf); (first | decide | omega); rfl) | ((with_reducible apply Zki); omega) | with_reducible refine Zjs ?_ | with_reducible refine tk_list1t ?_ | with_reducible refine Zkj ?_ | with_reducible refine tk_all ?_ | with_reducible refine tk_any ?_ | ((with_reducible apply Zlm); (first | decide | omega)))
local macro_rules | `(tactic| walk_at "tk1") => `(tactic| first | with_reducible refine Zk7 ?_ | with_reducible refine tk_un ?_ | with_reducible refine Zj5 ?_ | with_reducible refine Zk8 ?_ | with_reducible refine Zk9 ?_ | with_reducible refine Zj6 ?_ | with_reducible refine Zj4 ?_ | with_reducible refine Zj7 ?_ | with_reducible refine ZlO ?_ | with_reducible refine ZlP ?_ | with_reducible refine Zla ?_ | with_reducible refine Zlb ?_ | with_reducible refine ZlQ ?_ | with_reducible refine ZlR ?_ | with_reducible refine Zlc ?_ | with_reducible refine Zj8 ?_ | with_reducible refine Zj9 ?_ | with_reducible refine Zjr ?_ | with_reducible refine Zka ?_ | with_reducible refine Zld ?_ | with_reducible refine Zg4 ?_ | with_reducible refine tk_truth_n ?_ | with_reducible refine Zkb ?_ | with_reducible refine Zle ?_ | with_reducible refine Zlf ?_ | with_reducible refine tk_exp ?_ | with_reducible refine Zlg ?_ | with_reducible refine Zlh ?_ | with_reducible refine Zk4 ?_ | with_reducible refine Zk5 ?_ | with_reducible refine Zj3 ?_ | with_reducible refine tk_str ?_ | ((with_reducible apply Zk6); walk_at "tkrd") | ((with_reducible apply ZhO); walk_at "tkyes") | ((with_reducible apply Zlj); walk_at "tkyes") | ((with_reducible apply Zli); rfl) | (refine And.intro (show T.flat _ = true by walk_at "tkflat") ?_) | (refine And.intro (show T.flatIn _ = true by walk_at "tkflat") ?_) | with_reducible refine Zgg ?_ | with_reducible refine Sq.lst ?_ | with_reducible refine Sq.tup ?_ | with_reducible refine Zju ?_ | ((with_reducible apply Rn.one); omega) | with_reducible refine Zls ?_ | with_reducible refine tk_enum ?_ | with_reducible refine EnP.tab ?_ | with_reducible refine ZjB ?_ | with_reducible refine Zi.eq ?_ | with_reducible refine Zi.mn ?_ | with_reducible refine Zlt ?_ | with_reducible refine Zkq ?_ | with_reducible refine Zlu ?_ | with_reducible refine Zkr ?_ | ((with_reducible apply Zko); walk_at "tkrd"; (first | (rw [Zae]; omega) | (simp; done))) | ((with_reducible apply Zkp); walk_at "tkrd"; (first | (rw [Zae]; omega) | (simp; done))) | ((with_reducible apply PutP.tab); walk_at "tkrd"; (first | assumption | omega)) | ((with_reducible apply Put2.tab); walk_at "tkrd"; (first | assumption | omega); (first | assumption | omega)) | walk_at "tkop")
local macro_rules | `(tactic| walk_at "zz") => `(tactic| repeat' walk_at "tk1")
local macro_rules | `(tactic| walk_at "zr") => `(tactic| walk_at "tkrd")
namespace L
open PySem PySem.W PyProof.Rows PM TM My
variable {a v:Option Int} {b k x:Int} {ns:List Int} {i j n:Nat} {G:Nat→Nat→Option Int} {σ:TL} {g:PE} {Q:T→Prop} {R:Nat→Int×Int} {q:Int×Int} {t:T}
section
variable {Q:T→Prop}
theorem Zl8(h:Q (.int T9)): Pk (ZbH (.int 10) (.int 9)) Q:=by
 have:=ZlL []
 simp only[oPow]at this
 split at this
 ·rename_i hc
  refine⟨_,by simp only[ZbH];rw[if_pos hc],?_⟩
  simp only[Option.some.injEq,Prod.mk.injEq,V.int.injEq,and_true]at this
  rw[this];exact h
 ·cases this
theorem ZlZ(h:Q (.int T40)): Pk (ZbH (.int 10) (.int 40)) Q:=by
 have:=ZkX []
 simp only[oPow]at this
 split at this
 ·rename_i hc
  refine⟨_,by simp only[ZbH];rw[if_pos hc],?_⟩
  simp only[Option.some.injEq,Prod.mk.injEq,V.int.injEq,and_true]at this
  rw[this];exact h
 ·cases this
theorem Zl0(h:Q (.int M9)): Pk (ZbH (.int 48271) (.int 9)) Q:=by
 have:=ZkW []
 simp only[oPow]at this
 split at this
 ·rename_i hc
  refine⟨_,by simp only[ZbH];rw[if_pos hc],?_⟩
  simp only[Option.some.injEq,Prod.mk.injEq,V.int.injEq,and_true]at this
  rw[this];exact h
 ·cases this
theorem Zbu{a:Int}(h1:-(2 ^ 64)<b)(h2:b<2 ^ 64)(h:Q (.int (a*b))): Pk (ZaK (.int a) (.int b)) Q:=Zgx (Zi6 h1 h2) h
theorem Zky{a:Int}(h1:-(2 ^ 64)<a)(h2:a<2 ^ 64)(h:Q (.int (a*b))): Pk (ZaK (.int a) (.int b)) Q:=Zgx (ZiF h1 h2) h
end
noncomputable def scr(ns:List Int): T:=.lst (ns.map T.int)
noncomputable def Lay(ns:List Int): Prop:=PyData.layable0 (.list (ns.map .int))=true
noncomputable def Zbi(ns:List Int)(k:Int): Int:=k*k*7919+11+(if 0<ns.length then cellAt ns (k.fmod ns.length) 0 else 0)
theorem Zhl(h0:0≤k)(h9:k≤10000): Zdl [scr ns,.int k]=some (.int (Zbi ns k)):=by
 apply Pk.eq
 unfold Zdl Zfd Zbi scr
 by_cases hl:0<ns.length
 ·have a:=Int.fmod_nonneg_of_pos k (show(0:Int)<ns.length by omega)
  have b:=Int.fmod_lt_of_pos k (show(0:Int)<ns.length by omega)
  have e:(ns.map T.int).length=ns.length:=by simp
  walk_at "zz"
  refine Zbu (by omega) (by omega) ?_
  walk_at "zz"
  refine Zbu (by omega) (by omega) ?_
  walk_at "zz"
  refine Zgf (t:=.int (cellAt ns (k.fmod ns.length) 0)) (by rw[e];omega) ?_ ?_
  ·rw[e,List.getElem?_map,List.getElem?_eq_getElem (by omega),cellAt_def]
   simp only[Option.map_some,T.int.injEq,Option.some.injEq]
   rw[List.getD_eq_getElem?_getD,List.getElem?_eq_getElem (by omega)]
   rfl
  walk_at "zz"
  rw[if_pos hl]
 ·walk_at "zz"
  refine Zbu (by omega) (by omega) ?_
  walk_at "zz"
  refine Zbu (by omega) (by omega) ?_
  walk_at "zz"
  rw[if_neg hl]
  simp
theorem ZiO(hL:Lay ns)(h0:0≤k)(h9:k≤10000): Builtin.Int.intBits (Zbi ns k)≤2 ^ 21:=by
 unfold Zbi
 have h1:0≤k*k:=Int.mul_nonneg h0 h0
 have h2:k*k≤10000*10000:=Int.mul_le_mul h9 h9 h0 (by decide)
 have hb:Builtin.Int.intBits (k*k*7919+11)≤2 ^ 20:=Nat.le_trans (intBits_le_64 (by omega) (by omega)) (by decide)
 have hc:Builtin.Int.intBits (if 0<ns.length then cellAt ns (k.fmod ns.length) 0 else 0)≤2 ^ 20:=by
  split
  ·exact(cell_at hL _).bits
  ·exact bits_zero
 exact Nat.le_trans (PM.Zjn hb hc) (by decide)
noncomputable def Zbk(ns:List Int)(k many:Int): Int:=((Zbi ns k*48271).fmod 2147483647).fmod many
theorem ZdB(ns:List Int)(k:Int){many:Int}(h:0<many): 0≤Zbk ns k many∧Zbk ns k many<many:=⟨Int.fmod_nonneg_of_pos _ h,Int.fmod_lt_of_pos _ h⟩
theorem ZdC{many:Int}(h0:0≤k)(h9:k≤10000)(hm:0<many): Zcb [scr ns,.int k,.int many]=some (.int (Zbk ns k many)):=by
 apply Pk.eq
 unfold Zcb ZfD
 walk_at "zz"
 refine ZY (Zhl h0 h9) ?_
 walk_at "zz"
 refine Zbu (by decide) (by decide) ?_
 walk_at "zz"
 rfl
noncomputable def ZcG(ns:List Int)(k:Int): Int:=[3,9,T9,T40].getD (((Zbi ns k*69621).fmod 2147483629).fmod 4).toNat 0
theorem ZjF(ns:List Int)(k:Int): 0<ZcG ns k∧ZcG ns k≤T40:=by
 unfold ZcG
 have a:=Int.fmod_nonneg_of_pos ((Zbi ns k*69621).fmod 2147483629) (show(0:Int)<4 by decide)
 have b:=Int.fmod_lt_of_pos ((Zbi ns k*69621).fmod 2147483629) (show(0:Int)<4 by decide)
 generalize ((Zbi ns k*69621).fmod 2147483629).fmod 4=i at a b
 have h9:=T9_eq
 have h40:=ZkY
 have:i=0∨i=1∨i=2∨i=3:=by omega
 obtain rfl | rfl | rfl | rfl:=this
 ·show 0<3∧3≤T40;omega
 ·show 0<9∧9≤T40;omega
 ·show 0<T9∧T9≤T40;omega
 ·show 0<T40∧T40≤T40;omega
noncomputable def Zb8(ns:List Int)(k:Int): Int:=(Zbi ns k*M9).fmod (2*ZcG ns k+1)-ZcG ns k
theorem Zer(hL:Lay ns)(h0:0≤k)(h9:k≤10000): Zct [scr ns,.int k]=some (.int (Zb8 ns k)):=by
 apply Pk.eq
 unfold Zct Ze6
 have hb:=Zjo (ZiO hL h0 h9) ZjY
 obtain⟨r0,r1⟩:=ZjF ns k
 have a:=Int.fmod_nonneg_of_pos ((Zbi ns k*69621).fmod 2147483629) (show(0:Int)<4 by decide)
 have b:=Int.fmod_lt_of_pos ((Zbi ns k*69621).fmod 2147483629) (show(0:Int)<4 by decide)
 walk_at "zz"
 refine ZY (Zhl h0 h9) ?_
 walk_at "zz"
 refine Zl8 ?_
 walk_at "zz"
 refine ZlZ ?_
 walk_at "zz"
 refine Zbu (by decide) (by decide) ?_
 walk_at "zz"
 refine Zgf (t:=.int (ZcG ns k)) (by omega) ?_ ?_
 ·unfold ZcG
  have:(((Zbi ns k*69621).fmod 2147483629).fmod 4).toNat<4:=by omega
  generalize (((Zbi ns k*69621).fmod 2147483629).fmod 4).toNat=i at this
  match i,this with
  | 0,_=>rfl
  | 1,_=>rfl
  | 2,_=>rfl
  | 3,_=>rfl
 walk_at "zz"
 refine Zl0 ?_
 walk_at "zz"
 refine Zgx hb ?_
 walk_at "zz"
 refine Zky (by decide) (by decide) ?_
 walk_at "zz"
 rfl
noncomputable def ZeS(a:Int): Int:=if a<0 then -a else a
theorem Zkz(a:Int): 0≤ZeS a:=by unfold ZeS;split <;> omega
noncomputable def Zb5(ns:List Int)(k:Int): Option Int:=
 if(Zbk ns k 42).fmod 6<2 then none else if(Zbk ns k 42).fmod 6<4 then some 0 else if(Zbk ns k 42).fmod 6=4 then some ((Zbk ns k 42).fdiv 6)else some (ZeS (Zb8 ns k))
theorem ZfX{a:Int}(h0:0≤b)(h1:b<2 ^ 30): Builtin.divisionGoesByPylong a b=false:=PyProof.noPylong_small (by omega)
theorem ZjG(hL:Lay ns)(h0:0≤k)(h9:k≤10000): Zd8 [scr ns,.int k]=some (oT (Zb5 ns k)):=by
 apply Pk.eq
 unfold Zd8 Zfg Zb5
 obtain⟨p0,p1⟩:=ZdB ns k (show(0:Int)<42 by decide)
 walk_at "zz"
 refine ZY (ZdC h0 h9 (by decide)) ?_
 walk_at "zz"
 refine⟨fun c=>?_,fun c=>?_⟩
 ·walk_at "zz"
  rw[if_pos (by simpa using c)];rfl
 rw[if_neg (by simpa using c)]
 walk_at "zz"
 refine⟨fun c=>?_,fun c=>?_⟩
 ·walk_at "zz"
  rw[if_pos (by simpa using c)];rfl
 rw[if_neg (by simpa using c)]
 walk_at "zz"
 refine⟨fun c=>?_,fun c=>?_⟩
 ·walk_at "zz"
  refine Zgw (by decide) (ZfX (by decide) (by decide)) ?_
  rw[if_pos (by simpa using c)];rfl
 rw[if_neg (by simpa using c)]
 walk_at "zz"
 refine ZY (Zer hL h0 h9) ?_
 walk_at "zz"
 rfl
noncomputable def RestOk(q:Int×Int): Prop:=q.1=0∨(0<q.1∧0≤q.2∧q.2<q.1)
noncomputable def Zc0(m r:Int): Int×Int:=if m=0 then(0,r)else(m,r.fmod m)
theorem Zha{m:Int}(h:0≤m)(r:Int): RestOk (Zc0 m r):=by
 unfold RestOk Zc0
 split
 ·exact .inl rfl
 ·exact .inr ⟨by show 0<m;omega,Int.fmod_nonneg_of_pos _ (by omega),Int.fmod_lt_of_pos _ (by omega)⟩
theorem Zg5{m r:Int}: Zdi [.int m,.int r]=some (Z3 (Zc0 m r)):=by
 apply Pk.eq
 unfold Zdi ZeW Zc0
 by_cases c:m=0
 ·walk_at "zz"
  rw[if_pos c];rfl
 ·walk_at "zz"
  rw[if_neg c];rfl
noncomputable def ZdO(ns:List Int)(k x:Int): Int×Int:=
 if(Zbk ns k 60).fmod 5<2 then(1,0)else if(Zbk ns k 60).fmod 5=2 then(0,x)else if(Zbk ns k 60).fmod 5=3 then Zc0 ((Zbk ns k 60).fdiv 5+1) x else Zc0 (ZeS (Zb8 ns k)) x
noncomputable def ZeT(q:Int×Int)(x:Int): Prop:=(q.1=0→x=q.2)∧(0<q.1→(x-q.2).emod q.1=0)
theorem ZjH(ns:List Int)(k:Int): 0≤(Zbk ns k 60).fdiv 5∧(Zbk ns k 60).fdiv 5<12:=by
 obtain⟨p0,p1⟩:=ZdB ns k (show(0:Int)<60 by decide)
 rw[Int.fdiv_eq_ediv_of_nonneg _ (by decide)]
 omega
theorem ZjI(ns:List Int)(k x:Int): RestOk (ZdO ns k x):=by
 have:=ZjH ns k
 unfold ZdO
 split
 ·exact .inr ⟨by decide,by decide,by decide⟩
 ·split
  ·exact .inl rfl
  ·split
   ·exact Zha (by omega) x
   ·exact Zha (Zkz _) x
theorem ZkA(hL:Lay ns)(h0:0≤k)(h9:k≤10000): Zee [scr ns,.int k,.int x]=some (Z3 (ZdO ns k x)):=by
 apply Pk.eq
 unfold Zee ZfG ZdO
 obtain⟨p0,p1⟩:=ZdB ns k (show(0:Int)<60 by decide)
 walk_at "zz"
 refine ZY (ZdC h0 h9 (by decide)) ?_
 walk_at "zz"
 refine⟨fun c=>?_,fun c=>?_⟩
 ·walk_at "zz"
  rw[if_pos (by simpa using c)];rfl
 rw[if_neg (by simpa using c)]
 walk_at "zz"
 refine⟨fun c=>?_,fun c=>?_⟩
 ·walk_at "zz"
  rw[if_pos (by simpa using c)];rfl
 rw[if_neg (by simpa using c)]
 walk_at "zz"
 refine⟨fun c=>?_,fun c=>?_⟩
 ·walk_at "zz"
  refine Zgw (by decide) (ZfX (by decide) (by decide)) ?_
  walk_at "zz"
  refine ZY Zg5 ?_
  rw[if_pos (by simpa using c)]
 rw[if_neg (by simpa using c)]
 walk_at "zz"
 refine ZY (Zer hL h0 h9) ?_
 walk_at "zz"
 exact ZY Zg5 rfl
noncomputable def Zbd(x:Nat→Int): Nat→Int:=cn 0 x
theorem Zly(x:Nat→Int): cn (T.int 0) (fun i=>T.int (x i))=fun i=>T.int (Zbd x i):=by
 funext i;cases i <;> rfl
noncomputable def ZbA(ns:List Int)(k:Int)(n:Nat)(x:Nat→Int)(i j:Nat): Option Int:=if j=i then some 0 else(Zb5 ns (k+i*(n+1:Nat)+j)).map fun c=>Zbd x i-Zbd x j+c
noncomputable def ZgG(ns:List Int)(k:Int)(n:Nat)(x:Nat→Int)(t:Nat): Int×Int:=ZdO ns (k+(n+1:Nat)*(n+1:Nat)+t) (x t)
theorem ZiQ(ns:List Int)(k:Int)(n:Nat)(x:Nat→Int)(i:Nat): ZbA ns k n x i i=some 0:=by simp[ZbA]
theorem ZjJ(ns:List Int)(k:Int)(n:Nat)(x:Nat→Int)(i:Nat): (fun j=>if j=i then T.int 0 else oT ((Zb5 ns (k+i*(n+1:Nat)+j)).map fun c=>Zbd x i-Zbd x j+c))=fun j=>oT (ZbA ns k n x i j):=by
 funext j
 unfold ZbA
 split <;> rfl
theorem ZkB{x:Nat→Int}(hL:Lay ns)(h0:0≤k)(h9:k≤1000)(hn:n≤9): Zef [scr ns,.int k,Zh4 n x]=some (ZK n (ZbA ns k n x) (ZgG ns k n x)):=by
 apply Pk.eq
 unfold Zef ZfJ Zh4
 have hq:((n+1:Nat):Int)*((n+1:Nat):Int)≤10*10:=Int.mul_le_mul (by omega) (by omega) (by omega) (by decide)
 have hq0:(0:Int)≤((n+1:Nat):Int)*((n+1:Nat):Int):=Int.mul_nonneg (by omega) (by omega)
 walk_at "zz"
 rw[Zly]
 refine Zbx (n:=n+1) (a:=fun i=>.int i) (P:=fun i σ=>σ 0=some (scr ns)∧σ 1=some (.int k)∧σ 2=some (.lst (tab n fun i=>.int (x i)))∧σ 3=some (.lst (tab (n+1) fun i=>.int (Zbd x i)))∧σ 4=some (.int (n+1:Nat))∧σ 5=some (.lst (tab i fun i=>Z7 (n+1) (ZbA ns k n x i)))) ?_ ⟨rfl,rfl,rfl,rfl,rfl,rfl⟩ ?_ ?_
 ·walk_at "zz"
  rfl
 ·rintro i σ hi ⟨e0,e1,e2,e3,e4,e5⟩
  walk_at "zz"
  refine Zbx (n:=n+1) (a:=fun i=>.int i) (P:=fun j σ=>σ 0=some (scr ns)∧σ 1=some (.int k)∧σ 2=some (.lst (tab n fun i=>.int (x i)))∧σ 3=some (.lst (tab (n+1) fun i=>.int (Zbd x i)))∧σ 4=some (.int (n+1:Nat))∧σ 5=some (.lst (tab i fun i=>Z7 (n+1) (ZbA ns k n x i)))∧σ 6=some (.int i)∧σ 7=some (.lst (tab j fun j=>oT ((Zb5 ns (k+i*(n+1:Nat)+j)).map fun c=>Zbd x i-Zbd x j+c)))) ?_ ⟨?_,?_,?_,?_,?_,?_,?_,?_⟩ ?_ ?_
  ·walk_at "zz"
   rfl
  all_goals first | walk_at "zr" | skip
  ·rintro j σ hj ⟨e0,e1,e2,e3,e4,e5,e6,e7⟩
   have hb1:(0:Int)≤i*((n+1:Nat):Int):=Int.mul_nonneg (by omega) (by omega)
   have hb2:(i:Int)*((n+1:Nat):Int)≤10*10:=Int.mul_le_mul (by omega) (by omega) (by omega) (by decide)
   walk_at "zz"
   refine Zbu (by omega) (by omega) ?_
   walk_at "zz"
   refine ZY (ZjG hL (by omega) (by omega)) ?_
   have key:∀w,w=oT ((Zb5 ns (k+i*(n+1:Nat)+j)).map fun c=>Zbd x i-Zbd x j+c)→tab j (fun j=>oT ((Zb5 ns (k+i*(n+1:Nat)+j)).map fun c=>Zbd x i-Zbd x j+c))++[w]=tab (j+1) fun j=>oT ((Zb5 ns (k+i*(n+1:Nat)+j)).map fun c=>Zbd x i-Zbd x j+c):=fun w e=>by
    rw[e];exact Zhi
   cases hs:Zb5 ns (k + ↑i * ↑(n+1) + ↑j)with
   | none=>
    simp only[Zbt,Zbf]
    walk_at "zz"
    rw[key _ (by rw[hs];rfl)]
    refine⟨?_,?_,?_,?_,?_,?_,?_,?_⟩ <;> walk_at "zr"
   | some c=>
    simp only[Zbt,Zbf]
    walk_at "zz"
    rw[key _ (by rw[hs];rfl)]
    refine⟨?_,?_,?_,?_,?_,?_,?_,?_⟩ <;> walk_at "zr"
  ·rintro σ ⟨e0,e1,e2,e3,e4,e5,e6,e7⟩
   walk_at "zz"
   rw[ZjJ,show tab i (fun i=>Z7 (n+1) (ZbA ns k n x i))++[T.lst (tab (n+1) fun j=>oT (ZbA ns k n x i j))]=tab (i+1) fun i=>Z7 (n+1) (ZbA ns k n x i)from Zhi (f:=fun i=>Z7 (n+1) (ZbA ns k n x i))]
   refine⟨?_,?_,?_,?_,?_,?_⟩ <;> walk_at "zr"
 ·rintro σ ⟨e0,e1,e2,e3,e4,e5⟩
  walk_at "zz"
  refine Zdy (n:=n) (a:=fun i=>.int i) (b:=fun t=>Z3 (ZgG ns k n x t)) (by omega) ?_ (fun t ht=>?_) ?_
  ·walk_at "zz"
   refine ZhY n (by omega) (by omega) rfl
  ·walk_at "zz"
   refine Zbu (by omega) (by omega) ?_
   walk_at "zz"
   exact ZY (ZkA hL (by omega) (by omega)) ⟨Zf3,rfl⟩
  walk_at "zz"
  rfl
noncomputable def Zl9(n:Nat)(G:Nat→Nat→Option Int)(R:Nat→Int×Int): Prop:=(∀i,i<n+1→G i i=some 0)∧∀t,t<n→RestOk (R t)
theorem Zjd(ns:List Int)(k:Int)(n:Nat)(x:Nat→Int): Zl9 n (ZbA ns k n x) (ZgG ns k n x):=⟨fun i _=>ZiQ ns k n x i,fun t _=>ZjI ns _ _⟩
theorem Zje(hn:n<10000)(e:Pk (g σ) fun t=>t=Zaf n G)(h:Q (Zaf n G)): Pk (Zao (Za9 g) (Z4 j) Zal (Zu Zbn (Zg (Zb j) Zm)) σ) Q:=by
 refine Zdy (n:=n) (a:=fun i=>Z7 n (G i)) (b:=fun i=>Z7 n (G i)) hn ?_ (fun i hi=>?_) h
 ·refine Zgg (e.mono ?_)
  rintro _ rfl
  exact Sq.lst rfl
 ·unfold Z7
  walk_at "zz"
  rfl
theorem Zgp(hn:n≤100): Zcv [ZK n G R]=some (ZK n G R):=by
 apply Pk.eq
 unfold Zcv Zeh ZK Zav
 walk_at "zz"
 refine Zje (n:=n+1) (G:=G) (by omega) ?_ ?_
 ·walk_at "zz"
  rfl
 walk_at "zz"
 rfl
theorem Zjf: Zcv [.none]=some .none:=by
 apply Pk.eq
 unfold Zcv Zeh
 walk_at "zz"
 rfl
noncomputable def leO(a b:Option Int): Prop:=∀y,b=some y→∃x,a=some x∧x≤y
theorem Zcz: leO a none:=fun _ e=>by cases e
theorem leO_some{y:Int}: leO (some x) (some y)↔x≤y:=⟨fun h=>by obtain⟨z,e,q⟩:=h y rfl;cases e;exact q,fun h z e=>by cases e;exact⟨x,rfl,h⟩⟩
theorem Zgq{y:Int}: ¬leO none (some y):=fun h=>by obtain⟨z,e,_⟩:=h y rfl;cases e
theorem Zih{b:Option Int}: Zd9 [oT a,oT b]=some (.bool (dec (leO a b))):=by
 apply Pk.eq
 unfold Zd9 Zfj
 cases b with
 | none=>
  simp only[Zbt]
  walk_at "zz"
  rw[Zas Zcz]
 | some y=>
  cases a with
  | none=>
   simp only[Zbt,Zbf]
   walk_at "zz"
   rw[ZaV Zgq]
  | some x=>
   simp only[Zbf]
   walk_at "zz"
   rw[Zcx leO_some,Zdp]
noncomputable def RIn(p q:Int×Int): Prop:=if q.1=0 then p=q else p.1 % q.1=0∧(p.2-q.2) % q.1=0
theorem ZkC(h:0<q.1∧0≤q.2∧q.2<q.1)(x:Int): x.fmod q.1=q.2↔(x-q.2) % q.1=0:=by
 rw[Int.fmod_eq_emod_of_nonneg _ (by omega)]
 constructor
 ·intro e
  rw[←e,Int.sub_emod,Int.emod_emod,Int.sub_self]
  simp
 ·intro e
  have:x % q.1=q.2 % q.1:=Int.emod_eq_emod_iff_emod_sub_eq_zero.mpr e
  rw[this,Int.emod_eq_of_lt h.2.1 h.2.2]
theorem ZkD(h:RestOk q)(x:Int): (if q.1=0 then x=q.2 else x.fmod q.1=q.2)↔ZeT q x:=by
 unfold ZeT
 rcases h with h | h
 ·rw[if_pos h];simp[h]
 ·rw[if_neg (by omega),ZkC h]
  have h1:¬q.1=0:=by omega
  simp only[h1,false_implies,true_and,h.1,true_implies]
  rfl
theorem Ziv(h:RestOk q): Zei [Z3 q,.int x]=some (.bool (dec (ZeT q x))):=by
 apply Pk.eq
 unfold Zei ZfM Z3
 rw[←Zcx (ZkD h x)]
 by_cases c:q.1=0
 ·walk_at "zz"
  rw[if_pos c,Zdp]
 ·walk_at "zz"
  rw[if_neg c,Zdp]
theorem Zh7{p:Int×Int}(h:RestOk q): ZdX [Z3 p,Z3 q]=some (.bool (dec (RIn p q))):=by
 apply Pk.eq
 unfold ZdX ZeZ
 have hp:Z3 p=.tup [.int p.1,.int p.2]:=rfl
 have hq:Z3 q=.tup [.int q.1,.int q.2]:=rfl
 by_cases c:q.1=0
 ·rw[hp,hq]
  walk_at "zz"
  rw[←hp,←hq]
  refine Zgz (ZdH (n:=0)) (ZdH (n:=0)) ?_
  rw[Zcx (show Z3 p=Z3 q↔RIn p q by unfold RIn;rw[if_pos c,Zhz])]
 ·have hq0:0<q.1:=by rcases h with h | h <;> omega
  rw[hp,hq]
  walk_at "zz"
  refine⟨fun e=>?_,fun e=>?_⟩
  ·rw[←hq]
   refine ZY (Ziv h) ?_
   congr 1
   refine Zcx ?_
   unfold RIn ZeT
   rw[if_neg c]
   simp only[decide_eq_true_eq]at e
   rw[Int.fmod_eq_emod_of_nonneg _ (by omega)]at e
   simp[c,e,hq0]
   rfl
  ·rw[e]
   simp only[decide_eq_false_iff_not]at e
   rw[Int.fmod_eq_emod_of_nonneg _ (by omega)]at e
   rw[ZaV]
   unfold RIn
   rw[if_neg c]
   exact fun q=>e q.1
theorem ZgK{p:Int×Int}(h:RestOk q): Zdj [Z3 p,Z3 q]=some (.bool (dec (RIn p q))):=by
 apply Pk.eq
 unfold Zdj Ze1
 have hp:Z3 p=.tup [.int p.1,.int p.2]:=rfl
 have hq:Z3 q=.tup [.int q.1,.int q.2]:=rfl
 by_cases c:q.1=0
 ·rw[hp,hq]
  walk_at "zz"
  rw[←hp,←hq]
  refine Zgz (ZdH (n:=0)) (ZdH (n:=0)) ?_
  rw[Zcx (show Z3 p=Z3 q↔RIn p q by unfold RIn;rw[if_pos c,Zhz])]
 ·have hq0:0<q.1:=by rcases h with h | h <;> omega
  rw[hp,hq]
  walk_at "zz"
  refine⟨fun e=>?_,fun e=>?_⟩
  ·walk_at "zz"
   congr 1
   rw[Zdp]
   refine Zcx ?_
   unfold RIn
   rw[if_neg c]
   simp only[decide_eq_true_eq]at e
   rw[Int.fmod_eq_emod_of_nonneg _ (by omega)]at e ⊢
   simp[e]
  ·rw[e]
   simp only[decide_eq_false_iff_not]at e
   rw[Int.fmod_eq_emod_of_nonneg _ (by omega)]at e
   rw[ZaV]
   unfold RIn
   rw[if_neg c]
   exact fun q=>e q.1
noncomputable def Zlz(n:Nat)(G:Nat→Nat→Option Int)(R:Nat→Int×Int)(G':Nat→Nat→Option Int)(R':Nat→Int×Int): Prop:=(∀i,i<n+1→∀j,j<n+1→leO (G i j) (G' i j))∧∀t,t<n→RIn (R t) (R' t)
theorem Zii{b:Option Int}: Zea [oT a,oT b]=some (.bool (dec (leO a b))):=by
 apply Pk.eq
 unfold Zea Zfm
 cases b with
 | none=>
  simp only[Zbt]
  walk_at "zz"
  rw[Zas Zcz]
 | some y=>
  cases a with
  | none=>
   simp only[Zbt,Zbf]
   walk_at "zz"
   rw[ZaV Zgq]
  | some x=>
   simp only[Zbf]
   walk_at "zz"
   rw[Zcx leO_some,Zdp]
theorem Zd0{G':Nat→Nat→Option Int}{R':Nat→Int×Int}(hn:n<900)(h:∀t,t<n→RestOk (R' t)): ZbE [ZK n G R,ZK n G' R']=some (.bool (dec (Zlz n G R G' R'))):=by
 apply Pk.eq
 unfold ZbE Zdk ZK Zaf Z7 Zav
 walk_at "zz"
 refine Zbx (n:=n+1) (a:=fun i=>.int i) (P:=fun i σ=>σ 0=some (ZK n G R)∧σ 1=some (ZK n G' R')∧∀a,a<i→∀b,b<n+1→leO (G a b) (G' a b)) ?_ ⟨rfl,rfl,by omega⟩ ?_ ?_
 ·walk_at "zz"
  rfl
 ·rintro i σ hi ⟨e0,e1,e2⟩
  unfold ZK Zaf Z7 Zav at e0 e1
  refine Zbx (n:=n+1) (a:=fun i=>.int i) (P:=fun j σ=>σ 0=some (ZK n G R)∧σ 1=some (ZK n G' R')∧σ 2=some (.int i)∧∀b,b<j→leO (G i b) (G' i b)) ?_ ⟨?_,?_,?_,by omega⟩ ?_ ?_
  ·walk_at "zz"
   rfl
  ·walk_at "zr"
  ·walk_at "zr"
  ·walk_at "zr"
  ·rintro j σ hj ⟨f0,f1,f2,f3⟩
   unfold ZK Zaf Z7 Zav at f0 f1
   walk_at "zz"
   refine ZY Zii ?_
   walk_at "zz"
   refine⟨fun e=>?_,fun e=>?_⟩
   ·walk_at "zz"
    simp only[Bool.not_eq_true']at e
    rw[ZaV]
    rintro⟨h1,_⟩
    have:=Zas (h1 i hi j hj)
    rw[this]at e
    cases e
   ·walk_at "zz"
    refine⟨by walk_at "zr",by walk_at "zr",by walk_at "zr",fun b hb=>?_⟩
    by_cases q:b=j
    ·subst q
     simp only[Bool.not_eq_false']at e
     exact dec_iff.mp e
    ·exact f3 b (by omega)
  ·rintro σ ⟨f0,f1,f2,f3⟩
   refine⟨f0,f1,fun a ha=>?_⟩
   by_cases q:a=i
   ·subst q;exact f3
   ·exact e2 a (by omega)
 ·rintro σ ⟨e0,e1,e2⟩
  unfold ZK Zaf Z7 Zav at e0 e1
  walk_at "zz"
  refine Zbx (n:=n) (a:=fun i=>.int i) (P:=fun j σ=>σ 0=some (ZK n G R)∧σ 1=some (ZK n G' R')∧∀b,b<j→RIn (R b) (R' b)) ?_ ⟨e0,e1,by omega⟩ ?_ ?_
  ·walk_at "zz"
   rfl
  ·rintro j σ hj ⟨f0,f1,f3⟩
   unfold ZK Zaf Z7 Zav at f0 f1
   walk_at "zz"
   refine ZY (ZgK (h j hj)) ?_
   walk_at "zz"
   refine⟨fun e=>?_,fun e=>?_⟩
   ·walk_at "zz"
    simp only[Bool.not_eq_true']at e
    rw[ZaV]
    rintro⟨_,h1⟩
    have:=Zas (h1 j hj)
    rw[this]at e
    cases e
   ·walk_at "zz"
    refine⟨by walk_at "zr",by walk_at "zr",fun b hb=>?_⟩
    by_cases q:b=j
    ·subst q
     simp only[Bool.not_eq_false']at e
     exact dec_iff.mp e
    ·exact f3 b (by omega)
  ·rintro σ ⟨f0,f1,f3⟩
   walk_at "zz"
   rw[Zas]
   exact⟨e2,f3⟩
theorem ZgN: ZbE [.none,.none]=some (.bool true):=by
 apply Pk.eq
 unfold ZbE Zdk
 walk_at "zz"
 rfl
theorem ZgO: ZbE [.none,ZK n G R]=some (.bool true):=by
 apply Pk.eq
 unfold ZbE Zdk ZK
 walk_at "zz"
 rfl
theorem Zf8: RIn q q:=by
 unfold RIn
 split
 ·rfl
 ·simp
theorem Zg6(hn:n<10000)(e:Pk (g σ) fun t=>t=Zaf n G)(h:Q (Zaf n G)): Pk (Zao (Za9 g) (Z4 j) Zal (pFl (Zu Zbn (Zg (Zb j) Zm))) σ) Q:=by
 refine Zdy (n:=n) (a:=fun i=>Z7 n (G i)) (b:=fun i=>Z7 n (G i)) hn ?_ (fun i hi=>?_) h
 ·refine Zgg (e.mono ?_)
  rintro _ rfl
  exact Sq.lst rfl
 ·unfold Z7
  walk_at "zz"
  rfl
noncomputable def Zcs(G:Nat→Nat→Option Int)(i j:Nat)(v:Option Int): Nat→Nat→Option Int:=fun a b=>if a=i∧b=j then v else G a b
theorem ZlA: T.lst (tab n fun a=>T.lst (tab n fun b=>if a=i∧b=j then oT v else oT (G a b)))=Zaf n (Zcs G i j v):=by
 unfold Zaf Z7 Zcs
 congr 2
 funext a
 congr 2
 funext b
 split <;> rfl
theorem ZkE: Zcs G i j v i j=v:=by simp[Zcs]
theorem ZkF{a b:Nat}(h:¬(a=i∧b=j)): Zcs G i j v a b=G a b:=by simp[Zcs,h]
theorem Zes: leO a a:=fun y e=>⟨y,e,Int.le_refl y⟩
theorem ZlB(h0:0≤k)(h1:k<n): ∃i:Nat,k=i∧i<n:=⟨k.toNat,by omega,by omega⟩
theorem RestOk.nn(h:RestOk q): 0≤q.1:=by rcases h with h | h <;> omega
theorem ZfY: ZcO [.int k]=some (.bool true):=by
 apply Pk.eq
 unfold ZcO Zfo
 walk_at "zz"
 rfl
theorem ZkG(hn:n≤1000)(hd:∀i,i<n→G i i=some 0): Zej [Zaf n G,.int n]=some (.bool true):=by
 apply Pk.eq
 unfold Zej ZfP Zaf Z7
 walk_at "zz"
 refine Zbx (n:=n) (a:=fun i=>.int i) (P:=fun i σ=>σ 0=some (Zaf n G)∧σ 1=some (.int n)) ?_ ⟨rfl,rfl⟩ ?_ ?_
 ·walk_at "zz"
  rfl
 ·rintro i σ hi ⟨e0,e1⟩
  unfold Zaf Z7 at e0
  walk_at "zz"
  refine Zbx (n:=n) (a:=fun j=>oT (G i j)) (P:=fun j σ=>σ 0=some (Zaf n G)∧σ 1=some (.int n)∧σ 2=some (.int i)) ?_ ⟨by walk_at "zr",by walk_at "zr",by walk_at "zr"⟩ ?_ ?_
  ·walk_at "zz"
   rfl
  ·rintro j σ hj ⟨f0,f1,f2⟩
   cases G i j with
   | none=>
    rw[Zbt]
    walk_at "zz"
    exact⟨by walk_at "zr",by walk_at "zr",by walk_at "zr"⟩
   | some b=>
    rw[Zbf]
    walk_at "zz"
    refine ZY ZfY ?_
    walk_at "zz"
    exact⟨by walk_at "zr",by walk_at "zr",by walk_at "zr"⟩
  ·rintro σ ⟨f0,f1,f2⟩
   unfold Zaf Z7 at f0
   walk_at "zz"
   rw[hd i hi,Zbf]
   walk_at "zz"
   exact⟨by walk_at "zr",by walk_at "zr"⟩
 ·rintro σ ⟨e0,e1⟩
  walk_at "zz"
  rfl
theorem ZiR(hn:n≤100)(hd:∀i,i<n+1→G i i=some 0)(ok:∀t,t<n→RestOk (R t)): Zeb [ZK n G R,.int n]=some (.bool true):=by
 apply Pk.eq
 unfold Zeb Zfs ZK Zav
 walk_at "zz"
 rw[show(n:Int)+1=((n+1:Nat):Int)by omega]
 refine ZY (ZkG (by omega) hd) ?_
 walk_at "zz"
 refine Zbx (n:=n) (a:=fun i=>Z3 (R i)) (P:=fun _ _=>True) ?_ trivial ?_ ?_
 ·walk_at "zz"
  rfl
 ·rintro t σ ht _
  have ho:=ok t ht
  unfold Z3
  walk_at "zz"
  refine ZY ZfY ?_
  walk_at "zz"
  refine ZY ZfY ?_
  walk_at "zz"
  have h0:=ho.nn
  walk_at "zz"
  rcases ho with h | h
  ·walk_at "zz"
   trivial
  ·walk_at "zz"
   trivial
 ·rintro σ _
  walk_at "zz"
  rfl
inductive Dp: Nat→T→Prop where
 | none {n:Nat}:Dp n .none
 | int {n:Nat} {i:Int}:Dp n (.int i)
 | tup {n:Nat} {ts:List T}:(∀t∈ts,Dp n t)→ts.length≤10000→Dp (n+1) (.tup ts)
 | lst {n:Nat} {ts:List T}:(∀t∈ts,Dp n t)→ts.length≤10000→Dp (n+1) (.lst ts)
theorem Dp.mono(h:Dp n t): ∀{m:Nat},n≤m→Dp m t:=by
 induction h with
 | none=>intro m _;exact .none
 | int=>intro m _;exact .int
 | tup hs hl ih=>
  intro m hm
  cases m with
  | zero=>omega
  | succ m=>exact .tup (fun t a=>ih t a (by omega)) hl
 | lst hs hl ih=>
  intro m hm
  cases m with
  | zero=>omega
  | succ m=>exact .lst (fun t a=>ih t a (by omega)) hl
theorem ZhD{F:List T→Option T}{ts:List T}(hg:Za9 g σ=some ts)(hl:ts.length≤10000)(h:∀t∈ts,F [t]=some t)(q:Q (.lst ts)): Pk (Zao (Za9 g) (Z4 j) Zal (Zu F (Zg (Zb j) Zm)) σ) Q:=by
 refine⟨.lst ts,?_,q⟩
 have:=Zg9 (σ:=σ) (j:=j) (f:=Zu F (Zg (Zb j) Zm)) (h:=fun t=>t) (ts:=ts) fun t m=>by
  simp only[Zu,Zg,Zb,Zm,Zds,Option.bind_some,Option.map_some]
  exact h t m
 simp only[Zao,hg,Option.bind_some,this]
 rw[if_pos (by rw[ZaC];omega)]
 simp
theorem ZjK(h:Dp n t): Zcy (n+1) [t]=some t:=by
 induction h with
 | none=>rfl
 | int=>rfl
 | @tup n ts hs hl ih=>
  apply Pk.eq
  show Pk (Z6 1 (ZcW (Zcy (n+1))) [.tup ts]) _
  unfold ZcW
  walk_at "zz"
  refine ZhD (ts:=ts) rfl hl ih ?_
  walk_at "zz"
  rfl
 | @lst n ts hs hl ih=>
  apply Pk.eq
  show Pk (Z6 1 (ZcW (Zcy (n+1))) [.lst ts]) _
  unfold ZcW
  walk_at "zz"
  exact ZhD (ts:=ts) rfl hl ih rfl
theorem Zhm(h:Dp 8 t): Zez [t]=some t:=ZjK h
theorem Zl1: Dp n (oT a):=by cases a;exact .none;exact .int
theorem ZhE(hn:n≤100): Dp 3 (ZK n G R):=by
 refine .tup (fun t m=>?_) (by simp)
 simp at m
 rcases m with rfl | rfl
 ·refine .lst (fun t m=>?_) (by rw[Zae];omega)
  obtain⟨i,hi,rfl⟩:=Zdz m
  refine .lst (fun t m=>?_) (by rw[Zae];omega)
  obtain⟨j,hj,rfl⟩:=Zdz m
  exact Zl1
 ·refine .lst (fun t m=>?_) (by rw[Zae];omega)
  obtain⟨i,hi,rfl⟩:=Zdz m
  refine .tup (fun t m=>?_) (by simp)
  simp at m
  rcases m with rfl | rfl <;> exact .int
theorem Zl2: ∃l,Zbe (Zde 0 (.int 7)) [0,0] (ZK n G R)=some (.tup [.lst l,Zav n R])∧l.length=n+1:=by
 refine⟨((tab (n+1) fun i=>T.lst (tab (n+1) fun j=>oT (G i j))).set 0 (.lst ((tab (n+1) fun j=>oT (G 0 j)).set 0 (.int 7)))),?_,by rw[List.length_set,Zae]⟩
 unfold ZK Zaf Z7
 simp only[Zbe,List.length_cons,List.length_nil,Zae,Zcm (show(0:Int)≤0 by decide) (show(0:Int)<((0+1+1:Nat):Int)by decide),Zcm (show(0:Int)≤0 by decide) (show(0:Int)<((n+1:Nat):Int)by omega),Option.bind_some,Int.toNat_zero,List.getElem?_cons_zero,Zbw (show 0<n+1 by omega),Zde]
 rw[if_pos ⟨by omega,by omega⟩]
 rfl
theorem Zl3{l:List T}{w r:T}(hl:l.length≤1000): Zbe (Zcr w) [0] (.tup [.lst l,r])=some (.tup [.lst (l++[w]),r]):=by
 simp only[Zbe,List.length_cons,List.length_nil,Zcm (show(0:Int)≤0 by decide) (show(0:Int)<((0+1+1:Nat):Int)by decide),Option.bind_some,Zcr,show(0:Int).toNat=0 from rfl,List.getElem?_cons_zero]
 rw[if_pos (by rw[ZaC];omega)]
 rfl
theorem Zl4{g w:T}(hn:n≤100): ∃u,Zbe (Zcr w) [1] (.tup [g,Zav n R])=some u:=by
 refine⟨.tup [g,.lst ((tab n fun i=>Z3 (R i))++[w])],?_⟩
 unfold Zav
 simp only[Zbe,List.length_cons,List.length_nil,Zcm (show(0:Int)≤1 by decide) (show(1:Int)<((0+1+1:Nat):Int)by decide),Option.bind_some,Zcr,Zae,show(1:Int).toNat=1 from rfl,List.getElem?_cons_succ,List.getElem?_cons_zero]
 rw[if_pos (by rw[ZaC];omega)]
 rfl
theorem Ziw: Zcw [.none,.none]=some (.bool true):=by
 apply Pk.eq
 unfold Zcw Zek
 walk_at "zz"
 rfl
theorem Zfy(hn:n≤100)(hd:∀i,i<n+1→G i i=some 0)(ok:∀t,t<n→RestOk (R t)): Zcw [ZK n G R,ZK n G R]=some (.bool true):=by
 apply Pk.eq
 unfold Zcw Zek
 have ht:ZK n G R=.tup [Zaf (n+1) G,.lst (tab n fun i=>Z3 (R i))]:=rfl
 rw[ht]
 walk_at "zz"
 rw[←ht]
 refine ZY (ZiR hn hd ok) ?_
 walk_at "zz"
 refine Zgz Zb2 Zb2 ?_
 rw[Zas rfl]
section
variable {Q:T→Prop}
end
section
variable {σ:TL} {Q:T→Prop}
end
theorem Zcd{D:T}(hn:n≤100)(h:D=.none∨∃G R,D=ZK n G R): ∃t,Zb9 [D]=some t:=by
 have key:Pk (Zb9 [D]) fun _=>True:=by
  unfold Zb9 Ze8
  refine Zkv rfl ?_
  rcases h with rfl | ⟨G,R,rfl⟩
  ·walk_at "zz"
   exact⟨_,rfl,trivial⟩
  ·have hne:∀{Q:T→Prop},Q (.bool true)→Pk (ZbN (ZK n G R) .none) Q:=fun h=>⟨_,rfl,h⟩
   walk_at "zz"
   refine hne ?_
   refine Zg4 ?_
   refine ZhO rfl ?_
   obtain⟨l,hg,hl⟩:=Zl2 (n:=n) (G:=G) (R:=R)
   obtain⟨u,hu⟩:=Zl4 (n:=n) (g:=.lst (l++[.lst [.int 7]])) (w:=.tup [.int 7,.int 7]) (R:=R) hn
   have ha:=Zl3 (l:=l) (w:=.lst [.int 7]) (r:=Zav n R) (by omega)
   have w1:ZbF (Zg (Zh 7) Zm)=fun _=>some (.lst [.int 7]):=rfl
   have w2:Za7 (Zg (Zh 7) (Zg (Zh 7) Zm))=fun _=>some (.tup [.int 7,.int 7]):=rfl
   have e:(fun i=>[ZK n G R][i]?:TL) 0=some (ZK n G R):=rfl
   refine⟨none,ZF (ZF (ZF (fun i=>[ZK n G R][i]?) 0 (.tup [.lst l,Zav n R])) 0 (.tup [.lst (l++[.lst [.int 7]]),Zav n R])) 0 u,?_,by simp,fun _=>⟨u,Zds,trivial⟩⟩
   simp only[Zx,ZbX,ZbW,ZaM,Zb4,Zh,Option.bind_some,e,List.nil_append,List.cons_append,hg,Option.map_some,Zep,w1,w2,Zds,ha,hu]
 obtain⟨t,e,_⟩:=key
 exact⟨t,e⟩
end L
open PySem PySem.W PyProof.Rows PM TM My
namespace L
open PySem PySem.W PyProof.Rows PM TM My
variable {new old:Option Int} {ms:List Int} {n:Nat} {G:Nat→Nat→Option Int} {R:Nat→Int×Int}
theorem ZjL{σ:TL}{Q:T→Prop}{g:PG}{j:Nat}{ts:List T}{c:PB}{P:T→Bool}(hl:ts.length≤10000)(hg:g σ=some ts)(hc:∀t∈ts,c (ZF σ j t)=some (P t))(h:Q (.lst (ts.filter P))): Pk (Zao g (Z4 j) c (Zb j) σ) Q:=by
 have key:∀us:List T,(∀t∈us,t∈ts)→ZbR (Z4 j) c (Zb j) σ us=some (us.filter P):=by
  intro us
  induction us with
  | nil=>intro _;rfl
  | cons t us ih=>
   intro hs
   have ih:=ih fun x m=>hs x (Zz2 _ m)
   simp only[ZbR,Z4,Option.bind_some,hc t (hs t Zz5),ih,List.filter_cons,Zb,Zds,Option.map_some]
   split <;> rfl
 refine⟨_,?_,h⟩
 simp only[Zao,hg,Option.bind_some,key ts fun _ m=>m,Option.map_some]
 rw[if_pos (by rw[ZaC];omega)]
noncomputable def ZaG(old new:Option Int)(ms:List Int): Option Int:=if dec (leO new old)then old else match new with
 | none=>none
 | some b=>(ms.filter fun m=>decide (b≤m)).min?
theorem ZcA(h:leO new old): ZaG old new ms=old:=by unfold ZaG;rw[if_pos (Zas h)]
theorem ZdD{b:Int}(h:¬leO (some b) old): ZaG old (some b) ms=(ms.filter fun m=>decide (b≤m)).min?:=by unfold ZaG;rw[if_neg (by rw[ZaV h];simp)]
theorem Zdt(h:¬leO none old): ZaG old none ms=none:=by unfold ZaG;rw[if_neg (by rw[ZaV h];simp)]
noncomputable def mkT(ms:List Int): T:=.lst (ms.map T.int)
theorem ZkH(ms:List Int): Zc5 (ms.map T.int)=some ms:=by
 induction ms with
 | nil=>rfl
 | cons m ms ih=>simp only[List.map_cons,Zc5,ih,Option.map_some]
theorem Zjg(ms:List Int)(b:Int): (ms.map T.int).filter (fun t=>match t with | .int m=>decide (b≤m) | _=>false)=(ms.filter fun m=>decide (b≤m)).map T.int:=by
 induction ms with
 | nil=>rfl
 | cons m ms ih=>
  simp only[List.map_cons,List.filter_cons,ih]
  split <;> simp
theorem ZlC(o:Option Int): Zh6 o=oT o:=by cases o <;> rfl
theorem Zh8(hm:ms.length≤1000): ZdZ [oT old,oT new,mkT ms]=some (oT (ZaG old new ms)):=by
 apply Pk.eq
 unfold ZdZ Ze4
 walk_at "zz"
 refine ZY Zih ?_
 by_cases h:leO new old
 ·rw[ZcA h,Zas h]
  walk_at "zz"
  rfl
 ·rw[ZaV h]
  walk_at "zz"
  cases new with
  | none=>
   rw[Zdt h,Zbt]
   walk_at "zz"
   rfl
  | some b=>
   rw[ZdD h]
   rw[Zbf]
   walk_at "zz"
   refine ZjL (ts:=ms.map T.int) (P:=fun t=>match t with | .int m=>decide (b≤m) | _=>false) (by rw[List.length_map];omega) ?_ (fun t ht=>?_) ?_
   ·rfl
   ·obtain⟨m,_,rfl⟩:=Zz11.mp ht
    rfl
   ·rw[Zjg]
    walk_at "zz"
    exact⟨_,by simp only[ZeN,ZkH,Option.map_some],ZlC _⟩
theorem Zij{a b:Nat→Option Int}(hm:ms.length≤1000)(hn:n<10000): Zed [Z7 n a,Z7 n b,mkT ms]=some (Z7 n fun j=>ZaG (a j) (b j) ms):=by
 apply Pk.eq
 unfold Zed Zfv Z7
 walk_at "zz"
 refine Zf1 (n:=n) (a:=fun i=>oT (a i)) (b:=fun i=>oT (b i)) (c:=fun i=>oT (ZaG (a i) (b i) ms)) hn ?_ (fun i hi=>?_) ?_
 ·walk_at "zz"
  rfl
 ·walk_at "zz"
  exact ZY (Zh8 hm) ⟨Zgl,rfl⟩
 ·rfl
noncomputable def Za6(G G':Nat→Nat→Option Int)(ms:List Int): Nat→Nat→Option Int:=fun i j=>ZaG (G i j) (G' i j) ms
noncomputable def Zap(R R':Nat→Int×Int): Nat→Int×Int:=fun t=>if dec (RIn (R' t) (R t))then R t else(1,0)
theorem ZjM{G':Nat→Nat→Option Int}{R':Nat→Int×Int}(hm:ms.length≤1000)(hn:n≤100)(ok:∀t,t<n→RestOk (R t)): Zb3 [ZK n G R,ZK n G' R',mkT ms]=some (ZK n (Za6 G G' ms) (Zap R R')):=by
 apply Pk.eq
 unfold Zb3 ZdA
 have ht:∀{G:Nat→Nat→Option Int} {R:Nat→Int×Int},ZK n G R=.tup [.lst (tab (n+1) fun i=>Z7 (n+1) (G i)),.lst (tab n fun i=>Z3 (R i))]:=rfl
 rw[ht,ht]
 walk_at "zz"
 refine Zf1 (n:=n+1) (a:=fun i=>Z7 (n+1) (G i)) (b:=fun i=>Z7 (n+1) (G' i)) (c:=fun i=>Z7 (n+1) (Za6 G G' ms i)) (by omega) ?_ (fun i hi=>?_) ?_
 ·walk_at "zz"
  rfl
 ·walk_at "zz"
  exact ZY (Zij hm (by omega)) rfl
 walk_at "zz"
 refine Zf1 (n:=n) (a:=fun i=>Z3 (R i)) (b:=fun i=>Z3 (R' i)) (c:=fun i=>Z3 (Zap R R' i)) (by omega) ?_ (fun i hi=>?_) ?_
 ·walk_at "zz"
  rfl
 ·walk_at "zz"
  refine ZY (Zh7 (ok i hi)) ?_
  unfold Zap
  by_cases h:RIn (R' i) (R i)
  ·rw[Zas h]
   walk_at "zz"
   rfl
  ·rw[ZaV h]
   walk_at "zz"
   rfl
 walk_at "zz"
 rfl
theorem Zhn{t ms:T}(h:Dp 8 t): Zb3 [.none,t,ms]=some t:=by
 apply Pk.eq
 unfold Zb3 ZdA
 walk_at "zz"
 exact ZY (Zhm h) rfl
theorem ZjN{ms:T}(hn:n≤100): Zb3 [ZK n G R,.none,ms]=some (ZK n G R):=by
 apply Pk.eq
 unfold Zb3 ZdA
 have h:=Zhm ((ZhE (n:=n) (G:=G) (R:=R) hn).mono (m:=8) (by decide))
 have hne:∀{Q:T→Prop},Q (.bool false)→Pk (qIs (ZK n G R) .none) Q:=fun h=>⟨_,rfl,h⟩
 walk_at "zz"
 refine hne ?_
 walk_at "zz"
 exact ZY h rfl
noncomputable def Zcn(b:Int)(ms:List Int): Option Int:=(ms.filter fun m=>decide (b≤m)).min?
theorem ZiS{b m:Int}: Zcn b (ms++[m])=if b≤m∧(Zcn b ms=none∨∃c,Zcn b ms=some c∧m<c)then some m else Zcn b ms:=by
 unfold Zcn
 rw[List.filter_append]
 by_cases h:b≤m
 ·have e:([m].filter fun m=>decide (b≤m))=[m]:=by simp[h]
  rw[e]
  cases q:(ms.filter fun m=>decide (b≤m)).min? with
  | none=>
   rw[List.min?_eq_none_iff]at q
   rw[q];simp[h]
  | some c=>
   obtain⟨h1,h2⟩:=List.min?_eq_some_iff.mp q
   by_cases k:m<c
   ·rw[if_pos ⟨h,.inr ⟨c,rfl,k⟩⟩,List.min?_eq_some_iff]
    refine⟨by simp,fun x hx=>?_⟩
    rcases Zz8.mp hx with hx | hx
    ·have:=h2 x hx;omega
    ·rw[List.mem_singleton.mp hx];exact Int.le_refl _
   ·rw[if_neg (by simp;intro _;omega),List.min?_eq_some_iff]
    refine⟨Zz4 _ h1,fun x hx=>?_⟩
    rcases Zz8.mp hx with hx | hx
    ·exact h2 x hx
    ·rw[List.mem_singleton.mp hx];omega
 ·have e:([m].filter fun m=>decide (b≤m))=[]:=by simp[h]
  rw[e,List.append_nil,if_neg (fun q=>h q.1)]
theorem Zib(hm:ms.length≤1000): Zd5 [oT old,oT new,mkT ms]=some (oT (ZaG old new ms)):=by
 apply Pk.eq
 unfold Zd5 Zfb mkT
 cases old with
 | none=>
  rw[ZcA Zcz,Zbt]
  walk_at "zz"
  rfl
 | some a=>
  rw[Zbf]
  cases new with
  | none=>
   rw[Zdt Zgq,Zbt]
   walk_at "zz"
   rfl
  | some b=>
   rw[Zbf]
   by_cases h:b≤a
   ·rw[ZcA (leO_some.mpr h)]
    walk_at "zz"
    rfl
   ·rw[ZdD fun q=>h (leO_some.mp q)]
    walk_at "zz"
    refine Zkn (ts:=ms.map T.int) (P:=fun i σ=>σ 1=some (.int b)∧σ 3=some (oT (Zcn b (ms.take i)))) ?_ ?_ (fun i t σ hi hP=>?_) (fun σ hP=>?_)
    ·walk_at "zz"
     rfl
    ·exact⟨by walk_at "zr",by walk_at "zr"⟩
    ·obtain⟨e1,e3⟩:=hP
     rw[List.getElem?_map]at hi
     obtain⟨m,hm1,rfl⟩:=Zz1.mp hi
     have st:ms.take (i+1)=ms.take i++[m]:=by rw[List.take_add_one,hm1];rfl
     rw[st,ZiS]
     cases q:Zcn b (ms.take i)with
     | none=>
      rw[q,Zbt]at e3
      by_cases k:b≤m
      ·rw[if_pos ⟨k,.inl rfl⟩]
       walk_at "zz"
       exact⟨by walk_at "zr",by walk_at "zr"⟩
      ·rw[if_neg fun x=>k x.1]
       walk_at "zz"
       exact⟨by walk_at "zr",by rw[Zbt];walk_at "zr"⟩
     | some c=>
      rw[q,Zbf]at e3
      by_cases k:b≤m
      ·by_cases l:m<c
       ·rw[if_pos ⟨k,.inr ⟨c,rfl,l⟩⟩]
        walk_at "zz"
        exact⟨by walk_at "zr",by walk_at "zr"⟩
       ·rw[if_neg (by simp;intro _;omega)]
        walk_at "zz"
        exact⟨by walk_at "zr",by rw[Zbf];walk_at "zr"⟩
      ·rw[if_neg fun x=>k x.1]
       walk_at "zz"
       exact⟨by walk_at "zr",by rw[Zbf];walk_at "zr"⟩
    ·obtain⟨e1,e3⟩:=hP
     rw[List.length_map,List.take_length]at e3
     unfold Zcn at e3
     walk_at "zz"
     rfl
theorem Zik{G':Nat→Nat→Option Int}{R':Nat→Int×Int}(hm:ms.length≤1000)(hn:n≤100)(ok:∀t,t<n→RestOk (R t)): ZbZ [ZK n G R,ZK n G' R',mkT ms]=some (ZK n (Za6 G G' ms) (Zap R R')):=by
 apply Pk.eq
 unfold ZbZ Zdn
 have ht:∀{G:Nat→Nat→Option Int} {R:Nat→Int×Int},ZK n G R=.tup [.lst (tab (n+1) fun i=>.lst (tab (n+1) fun j=>oT (G i j))),.lst (tab n fun i=>.tup [.int (R i).1,.int (R i).2])]:=rfl
 rw[ht,ht]
 walk_at "zz"
 refine Zg6 (n:=n+1) (G:=G) (by omega) ?_ ?_
 ·walk_at "zz"
  rfl
 unfold Zaf Z7
 walk_at "zz"
 refine Zbx (n:=n+1) (a:=fun i=>.int i) (P:=fun i σ=>∃Γ,σ 0=some (ZK n G R)∧σ 1=some (ZK n G' R')∧σ 2=some (mkT ms)∧σ 3=some (Zaf (n+1) Γ)∧∀a b,Γ a b=if a<i∧b<n+1 then Za6 G G' ms a b else G a b) ?_ ⟨G,rfl,rfl,rfl,rfl,fun a b=>by rw[if_neg (by omega)]⟩ ?_ ?_
 ·walk_at "zz"
  rfl
 ·rintro i σ hi ⟨Γ0,e0,e1,e2,e3,s0⟩
  have e3':ZF σ 4 (.int i) 3=some (.lst (tab (n+1) fun i=>.lst (tab (n+1) fun j=>oT (Γ0 i j)))):=by rw[Zhx (by decide) e3];rfl
  refine Zbx (n:=n+1) (a:=fun i=>.int i) (P:=fun j σ=>∃Γ,σ 0=some (ZK n G R)∧σ 1=some (ZK n G' R')∧σ 2=some (mkT ms)∧σ 3=some (Zaf (n+1) Γ)∧σ 4=some (.int i)∧∀a b,Γ a b=if(a<i∧b<n+1)∨(a=i∧b<j)then Za6 G G' ms a b else G a b) ?_ ⟨Γ0,by walk_at "zr",by walk_at "zr",by walk_at "zr",by walk_at "zr",by walk_at "zr",fun a b=>by rw[s0 a b];by_cases c:a<i∧b<n+1;rw[if_pos c,if_pos (.inl c)];rw[if_neg c,if_neg (by omega)]⟩ ?_ ?_
  ·walk_at "zz"
   rfl
  ·rintro j σ hj ⟨Γ,e0,e1,e2,e3,e4,st⟩
   have e0':σ 0=some (.tup [.lst (tab (n+1) fun i=>.lst (tab (n+1) fun j=>oT (G i j))),.lst (tab n fun i=>.tup [.int (R i).1,.int (R i).2])]):=e0
   have e1':σ 1=some (.tup [.lst (tab (n+1) fun i=>.lst (tab (n+1) fun j=>oT (G' i j))),.lst (tab n fun i=>.tup [.int (R' i).1,.int (R' i).2])]):=e1
   have e3':σ 3=some (.lst (tab (n+1) fun i=>.lst (tab (n+1) fun j=>oT (Γ i j)))):=e3
   clear e0 e1 e3
   walk_at "zz"
   refine ZY (Zib hm) ?_
   have up:∀a b,Zcs Γ i j (ZaG (G i j) (G' i j) ms) a b=if(a<i∧b<n+1)∨(a=i∧b<j+1)then Za6 G G' ms a b else G a b:=fun a b=>by
    by_cases c:a=i∧b=j
    ·obtain⟨rfl,rfl⟩:=c
     rw[ZkE,if_pos (by omega)];rfl
    ·rw[ZkF c,st]
     by_cases d:(a<i∧b<n+1)∨(a=i∧b<j)
     ·rw[if_pos d,if_pos (by omega)]
     ·rw[if_neg d,if_neg (by omega)]
   walk_at "zz"
   exact⟨Zcs Γ i j (ZaG (G i j) (G' i j) ms),by walk_at "zr",by walk_at "zr",by walk_at "zr",by rw[←ZlA];walk_at "zr",by walk_at "zr",up⟩
  ·rintro σ ⟨Γ,e0,e1,e2,e3,e4,st⟩
   exact⟨Γ,e0,e1,e2,e3,fun a b=>by rw[st a b];by_cases c:a<i+1∧b<n+1;rw[if_pos c,if_pos (by omega)];rw[if_neg c,if_neg (by omega)]⟩
 ·rintro σ ⟨Γ,e0,e1,e2,e3,st⟩
  have e0':σ 0=some (.tup [.lst (tab (n+1) fun i=>.lst (tab (n+1) fun j=>oT (G i j))),.lst (tab n fun i=>.tup [.int (R i).1,.int (R i).2])]):=e0
  have e1':σ 1=some (.tup [.lst (tab (n+1) fun i=>.lst (tab (n+1) fun j=>oT (G' i j))),.lst (tab n fun i=>.tup [.int (R' i).1,.int (R' i).2])]):=e1
  have hg:Zaf (n+1) Γ=Zaf (n+1) (Za6 G G' ms):=by
   unfold Zaf Z7
   refine congrArg T.lst (Zcc fun a ha=>congrArg T.lst (Zcc fun b hb=>?_))
   rw[st,if_pos ⟨ha,hb⟩]
  rw[hg]at e3
  clear e0 e1
  walk_at "zz"
  refine Zbx (n:=n) (a:=fun i=>.int i) (P:=fun i σ=>∃S:Nat→Int×Int,σ 0=some (ZK n G R)∧σ 1=some (ZK n G' R')∧σ 3=some (Zaf (n+1) (Za6 G G' ms))∧σ 6=some (Zav n S)∧∀t,S t=if t<i then Zap R R' t else R t) ?_ ⟨R,by walk_at "zr",by walk_at "zr",by walk_at "zr",by walk_at "zr",fun t=>by rw[if_neg (by omega)]⟩ ?_ ?_
  ·walk_at "zz"
   rfl
  ·rintro i σ hi ⟨S,e0,e1,e3,e6,st⟩
   have e0':σ 0=some (.tup [.lst (tab (n+1) fun i=>.lst (tab (n+1) fun j=>oT (G i j))),.lst (tab n fun i=>Z3 (R i))]):=e0
   have e1':σ 1=some (.tup [.lst (tab (n+1) fun i=>.lst (tab (n+1) fun j=>oT (G' i j))),.lst (tab n fun i=>Z3 (R' i))]):=e1
   have e6':σ 6=some (.lst (tab n fun i=>Z3 (S i))):=e6
   clear e0 e1 e6
   walk_at "zz"
   refine ZY (ZgK (ok i hi)) ?_
   by_cases h:RIn (R' i) (R i)
   ·rw[Zas h]
    walk_at "zz"
    refine⟨S,by walk_at "zr",by walk_at "zr",by walk_at "zr",by walk_at "zr",fun t=>?_⟩
    rw[st]
    by_cases c:t=i
    ·subst c;rw[if_neg (by omega),if_pos (by omega)];unfold Zap;rw[Zas h];rfl
    ·by_cases d:t<i
     ·rw[if_pos d,if_pos (by omega)]
     ·rw[if_neg d,if_neg (by omega)]
   ·rw[ZaV h]
    walk_at "zz"
    refine⟨fun t=>if t=i then(1,0)else S t,by walk_at "zr",by walk_at "zr",by walk_at "zr",?_,fun t=>?_⟩
    ·have:Zav n (fun t=>if t=i then(1,0)else S t)=.lst (tab n fun t=>if t=i then .tup [.int 1,.int 0]else Z3 (S t)):=by
      unfold Zav
      refine congrArg T.lst (Zcc fun a ha=>?_)
      by_cases c:a=i <;> simp only[c,if_true,if_false] <;> rfl
     rw[this]
     walk_at "zr"
    ·by_cases c:t=i
     ·subst c;simp only[if_true];rw[if_pos (by omega)];unfold Zap;rw[ZaV h];rfl
     ·simp only[c,if_false];rw[st]
      by_cases d:t<i
      ·rw[if_pos d,if_pos (by omega)]
      ·rw[if_neg d,if_neg (by omega)]
  ·rintro σ ⟨S,e0,e1,e3,e6,st⟩
   have hr:Zav n S=Zav n (Zap R R'):=by
    unfold Zav
    refine congrArg T.lst (Zcc fun a ha=>?_)
    rw[st,if_pos ha]
   rw[hr]at e6
   walk_at "zz"
   rfl
theorem ZgT{t ms:T}: ZbZ [.none,t,ms]=some t:=by
 apply Pk.eq
 unfold ZbZ Zdn
 walk_at "zz"
 rfl
theorem Zil{ms:T}: ZbZ [ZK n G R,.none,ms]=some (ZK n G R):=by
 apply Pk.eq
 unfold ZbZ Zdn
 have hne:∀{Q:T→Prop},Q (.bool false)→Pk (qIs (ZK n G R) .none) Q:=fun h=>⟨_,rfl,h⟩
 walk_at "zz"
 refine hne ?_
 walk_at "zz"
 rfl
end L
open PySem PySem.W PyProof.Rows PM TM My
namespace L
open PySem PySem.W PyProof.Rows PM TM My
variable {ms:List Int} {new old:Option Int} {R R':Nat→Int×Int} {t:Nat}
noncomputable def ZaO(f:Nat→Nat): Nat→Nat
 | 0=>0
 | n+1=>ZaO f n+f n
theorem ZcD{f g:Nat→Nat}: ∀{n:Nat},(∀i,i<n→f i≤g i)→ZaO f n≤ZaO g n
 | 0,_=>Nat.le_refl _
 | n+1,h=>by
  have h1:=ZcD (n:=n) fun i hi=>h i (by omega)
  have h2:=h n (by omega)
  simp only[ZaO];omega
theorem ZeA{f g:Nat→Nat}: ∀{n:Nat},(∀i,i<n→f i≤g i)→(∃i,i<n∧f i<g i)→ZaO f n<ZaO g n
 | 0,_,⟨i,hi,_⟩=>by omega
 | n+1,h,⟨i,hi,q⟩=>by
  have h2:=h n (by omega)
  simp only[ZaO]
  by_cases c:i=n
  ·subst c
   have h1:=ZcD (n:=i) fun i hi=>h i (by omega)
   omega
  ·have h1:=ZeA (n:=n) (fun i hi=>h i (by omega)) ⟨i,by omega,q⟩
   omega
theorem ZeB{f:Nat→Nat}{c:Nat}: ∀{n:Nat},(∀i,i<n→f i≤c)→ZaO f n≤n*c
 | 0,_=>by simp[ZaO]
 | n+1,h=>by
  have h1:=ZeB (n:=n) fun i hi=>h i (by omega)
  have h2:=h n (by omega)
  simp only[ZaO,Nat.add_mul];omega
theorem Zhb{α:Type}{p q:α→Bool}(h:∀x,p x=true→q x=true): ∀(l:List α),(l.filter p).length≤(l.filter q).length
 | []=>Nat.le_refl _
 | x::l=>by
  have ih:=Zhb h l
  by_cases c:p x=true
  ·rw[List.filter_cons_of_pos c,List.filter_cons_of_pos (h x c)];simp;exact ih
  ·rw[List.filter_cons_of_neg c]
   by_cases d:q x=true
   ·rw[List.filter_cons_of_pos d];simp;omega
   ·rw[List.filter_cons_of_neg d];exact ih
theorem Zhc{α:Type}{p q:α→Bool}(h:∀x,p x=true→q x=true): ∀(l:List α),(∃x∈l,q x=true∧p x=false)→(l.filter p).length<(l.filter q).length
 | [],⟨x,m,_⟩=>by cases m
 | y::l,⟨x,m,qx,px⟩=>by
  by_cases e:y=x
  ·subst e
   rw[List.filter_cons_of_neg (by rw[px];simp),List.filter_cons_of_pos qx]
   have:=Zhb h l
   simp;omega
  ·have m':x∈l:=by
    rcases Zz7.mp m with r | r
    ·exact absurd r.symm e
    ·exact r
   have ih:=Zhc h l ⟨x,m',qx,px⟩
   by_cases c:p y=true
   ·rw[List.filter_cons_of_pos c,List.filter_cons_of_pos (h y c)];simp;omega
   ·rw[List.filter_cons_of_neg c]
    by_cases d:q y=true
    ·rw[List.filter_cons_of_pos d];simp;omega
    ·rw[List.filter_cons_of_neg d];exact ih
noncomputable def phi(ms:List Int): Option Int→Nat
 | none=>0
 | some b=>1+(ms.filter fun m=>decide (b<m)).length
theorem ZlD(ms:List Int)(o:Option Int): phi ms o≤ms.length+1:=by
 cases o with
 | none=>exact Nat.zero_le _
 | some b=>have:=List.length_filter_le (fun m=>decide (b<m)) ms;simp only[phi];omega
theorem phi_grow: phi ms (ZaG old new ms)≤phi ms old∧(ZaG old new ms≠old→phi ms (ZaG old new ms)<phi ms old):=by
 by_cases h:leO new old
 ·rw[ZcA h];exact⟨Zz10 _,fun q=>absurd rfl q⟩
 ·cases old with
  | none=>exact absurd Zcz h
  | some a=>
   have key:phi ms (ZaG (some a) new ms)<phi ms (some a):=by
    cases new with
    | none=>rw[Zdt h];simp only[phi];omega
    | some b=>
     have hb:¬b≤a:=fun q=>h (leO_some.mpr q)
     rw[ZdD h]
     cases q:(ms.filter fun m=>decide (b≤m)).min? with
     | none=>simp only[phi];omega
     | some c=>
      obtain⟨h1,h2⟩:=List.min?_eq_some_iff.mp q
      obtain⟨m1,m2⟩:=List.mem_filter.mp h1
      have m2:b≤c:=of_decide_eq_true m2
      have:=Zhc (p:=fun m=>decide (c<m)) (q:=fun m=>decide (a<m)) (fun x hx=>decide_eq_true (by have:=of_decide_eq_true hx;omega)) ms ⟨c,m1,decide_eq_true (by omega),by simp⟩
      simp only[phi];omega
   exact⟨Nat.le_of_lt key,fun _=>key⟩
noncomputable def psi(q:Int×Int): Nat:=if q=(1,0)then 0 else 1
theorem ZlE(q:Int×Int): psi q≤1:=by unfold psi;split <;> omega
theorem psi_grow: psi (Zap R R' t)≤psi (R t)∧(Zap R R' t≠R t→psi (Zap R R' t)<psi (R t)):=by
 unfold Zap
 by_cases h:RIn (R' t) (R t)
 ·rw[Zas h];exact⟨Zz10 _,fun q=>absurd rfl q⟩
 ·rw[ZaV h]
  have e:psi (1,0)=0:=by unfold psi;rw[if_pos rfl]
  refine⟨by show psi (1,0)≤_;omega,fun q=>?_⟩
  show psi (1,0)<_
  have q:(1,0)≠R t:=q
  rw[e]
  unfold psi
  rw[if_neg fun x=>q x.symm]
  decide
noncomputable def muG(ms:List Int)(n:Nat)(G:Nat→Nat→Option Int)(R:Nat→Int×Int): Nat:=ZaO (fun i=>ZaO (fun j=>phi ms (G i j)) (n+1)) (n+1)+ZaO (fun t=>psi (R t)) n
noncomputable def Zdh(ms:List Int)(n:Nat): Nat:=(n+1)*((n+1)*(ms.length+1))+n+1
theorem Zh0(ms:List Int)(n:Nat)(G:Nat→Nat→Option Int)(R:Nat→Int×Int): muG ms n G R<Zdh ms n:=by
 have h1:ZaO (fun i=>ZaO (fun j=>phi ms (G i j)) (n+1)) (n+1)≤(n+1)*((n+1)*(ms.length+1)):=ZeB fun i _=>ZeB fun j _=>ZlD ms _
 have h2:ZaO (fun t=>psi (R t)) n≤n*1:=ZeB fun t _=>ZlE _
 unfold muG Zdh
 omega
theorem mu_grow{n:Nat}{G G':Nat→Nat→Option Int}: muG ms n (Za6 G G' ms) (Zap R R')≤muG ms n G R∧(ZK n (Za6 G G' ms) (Zap R R')≠ZK n G R→muG ms n (Za6 G G' ms) (Zap R R')<muG ms n G R):=by
 have l1:∀i,i<n+1→ZaO (fun j=>phi ms (Za6 G G' ms i j)) (n+1)≤ZaO (fun j=>phi ms (G i j)) (n+1):=fun i _=>ZcD fun j _=>phi_grow.1
 have l2:∀t,t<n→psi (Zap R R' t)≤psi (R t):=fun t _=>psi_grow.1
 refine⟨Nat.add_le_add (ZcD l1) (ZcD l2),fun ne=>?_⟩
 by_cases c:∃i,i<n+1∧∃j,j<n+1∧Za6 G G' ms i j≠G i j
 ·obtain⟨i,hi,j,hj,q⟩:=c
  exact Nat.add_lt_add_of_lt_of_le (ZeA l1 ⟨i,hi,ZeA (fun j _=>phi_grow.1) ⟨j,hj,phi_grow.2 q⟩⟩) (ZcD l2)
 ·by_cases d:∃t,t<n∧Zap R R' t≠R t
  ·obtain⟨t,ht,q⟩:=d
   exact Nat.add_lt_add_of_le_of_lt (ZcD l1) (ZeA l2 ⟨t,ht,psi_grow.2 q⟩)
  ·refine absurd ?_ ne
   unfold ZK Zaf Z7 Zav
   congr 2
   ·refine congrArg T.lst (Zcc fun a ha=>congrArg T.lst (Zcc fun b hb=>?_))
    exact congrArg oT (Classical.byContradiction fun q=>c ⟨a,ha,b,hb,q⟩)
   ·refine congrArg (fun x=>[x]) (congrArg T.lst (Zcc fun a ha=>?_))
    exact congrArg Z3 (Classical.byContradiction fun q=>d ⟨a,ha,q⟩)
theorem ZlF: leO old (ZaG old new ms):=by
 by_cases h:leO new old
 ·rw[ZcA h];exact Zes
 ·cases new with
  | none=>rw[Zdt h];exact Zcz
  | some b=>
   rw[ZdD h]
   cases old with
   | none=>exact absurd Zcz h
   | some a=>
    intro y e
    obtain⟨h1,h2⟩:=List.min?_eq_some_iff.mp e
    have:=of_decide_eq_true (List.mem_filter.mp h1).2
    have hb:¬b≤a:=fun q=>h (leO_some.mpr q)
    exact⟨a,rfl,by omega⟩
theorem ZlG: leO new (ZaG old new ms):=by
 by_cases h:leO new old
 ·rw[ZcA h];exact h
 ·cases new with
  | none=>rw[Zdt h];exact Zcz
  | some b=>
   rw[ZdD h]
   intro y e
   obtain⟨h1,h2⟩:=List.min?_eq_some_iff.mp e
   exact⟨b,rfl,of_decide_eq_true (List.mem_filter.mp h1).2⟩
theorem ZhS{q:Int×Int}: RIn q (1,0):=by
 unfold RIn
 rw[if_neg (by decide)]
 exact⟨Int.emod_one _,Int.emod_one _⟩
theorem ZkI: RIn (R t) (Zap R R' t):=by
 unfold Zap;split
 ·exact Zf8
 ·exact ZhS
theorem ZkJ: RIn (R' t) (Zap R R' t):=by
 unfold Zap;split
 ·rename_i h;exact dec_iff.mp h
 ·exact ZhS
theorem ZjO(h:RestOk (R t)): RestOk (Zap R R' t):=by
 unfold Zap;split
 ·exact h
 ·exact .inr ⟨by decide,by decide,by decide⟩
theorem Zet{n:Nat}{G:Nat→Nat→Option Int}(hn:n≤100): ZbY [ZK n G R]=some (ZK n G R):=by
 apply Pk.eq
 unfold ZbY Zec
 have ht:ZK n G R=.tup [Zaf (n+1) G,.lst (tab n fun i=>Z3 (R i))]:=rfl
 rw[ht]
 walk_at "zz"
 refine Zg6 (n:=n+1) (G:=G) (by omega) ?_ ?_
 ·walk_at "zz"
  rfl
 walk_at "zz"
 rfl
theorem Zel: ZbY [.none]=some .none:=by
 apply Pk.eq
 unfold ZbY Zec
 walk_at "zz"
 rfl
end L
open PySem PySem.W PyProof.Rows PM TM My
namespace L
open PySem PySem.W PyProof.Rows PM TM My
noncomputable def Old(n:Nat)(D:T): Prop:=D=.none∨∃G R,D=ZK n G R∧(∀i,i<n+1→G i i=some 0)∧∀t,t<n→RestOk (R t)
theorem ZiT{ns:List Int}{k:Int}{n:Nat}(hL:Lay ns)(h0:0≤k)(h9:k≤900)(hn:n≤9): Pk (Zeq [scr ns,.int k,.int n]) (Old n):=by
 unfold Zeq ZfW
 walk_at "zz"
 refine ZY (ZdC h0 (by omega) (by decide)) ?_
 walk_at "zz"
 refine⟨fun c=>?_,fun c=>?_⟩
 ·walk_at "zz"
  exact .inl rfl
 walk_at "zz"
 refine Zdy (n:=n) (a:=fun i=>.int i) (b:=fun i=>.int (Zb8 ns (k+i))) (by omega) ?_ (fun t ht=>?_) ?_
 ·walk_at "zz"
  rfl
 ·walk_at "zz"
  exact ZY (Zer hL (by omega) (by omega)) rfl
 walk_at "zz"
 refine ZY (ZkB (x:=fun i=>Zb8 ns (k+i)) hL (by omega) (by omega) hn) ?_
 have gd:=Zjd ns (k+n) n fun i=>Zb8 ns (k+i)
 exact .inr ⟨_,_,rfl,gd.1,gd.2⟩
noncomputable def ZgJ(ms:List Int)(n:Nat)(D:T)(μ:Nat): Prop:=(D=.none∧μ=Zdh ms n)∨∃G R,D=ZK n G R∧(∀i,i<n+1→G i i=some 0)∧(∀t,t<n→RestOk (R t))∧μ=muG ms n G R
structure Turn(ms:List Int)(n:Nat)(D D' Z:T)(μ:Nat): Prop where
 g1:ZbZ [D,D',mkT ms]=some Z
 g2:Zb3 [D,D',mkT ms]=some Z
 cZ:Zcv [Z]=some Z
 cD:ZbY [D]=some D
 cD':ZbY [D']=some D'
 ch:∃u,Zb9 [D]=some u
 ch':∃u,Zb9 [D']=some u
 sm:Zcw [Z,Z]=some (.bool true)
 i1:ZbE [D,Z]=some (.bool true)
 i2:ZbE [D',Z]=some (.bool true)
 pD:Pln 3 D
 pD':Pln 3 D'
 pZ:Pln 3 Z
 me:∃μ',ZgJ ms n Z μ'∧μ'≤μ∧(Z≠D→μ'<μ)
theorem ZkK{ms:List Int}{n:Nat}{D D':T}{μ:Nat}(hm:ms.length≤1000)(hn:n≤100)(h:ZgJ ms n D μ)(h':Old n D'): ∃Z,Turn ms n D D' Z μ:=by
 have up:∀{G R},Dp 8 (ZK n G R):=(ZhE hn).mono (by decide)
 rcases h with⟨rfl,rfl⟩ | ⟨G,R,rfl,d,ok,rfl⟩
 ·rcases h' with rfl | ⟨G',R',rfl,d',ok'⟩
  ·exact⟨.none,ZgT,Zhn .none,Zjf,Zel,Zel,Zcd hn (.inl rfl),Zcd hn (.inl rfl),Ziw,ZgN,ZgN,.none,.none,.none,_,.inl ⟨rfl,rfl⟩,Nat.le_refl _,fun q=>absurd rfl q⟩
  ·exact⟨ZK n G' R',ZgT,Zhn up,Zgp hn,Zel,Zet hn,Zcd hn (.inl rfl),Zcd hn (.inr ⟨_,_,rfl⟩),Zfy hn d' ok',ZgO,by rw[Zd0 (by omega) ok',Zas ⟨fun i _ j _=>Zes,fun t _=>Zf8⟩],.none,Zb2,Zb2,_,.inr ⟨_,_,rfl,d',ok',rfl⟩,Nat.le_of_lt (Zh0 ..),fun _=>Zh0 ..⟩
 ·rcases h' with rfl | ⟨G',R',rfl,d',ok'⟩
  ·exact⟨ZK n G R,Zil,ZjN hn,Zgp hn,Zet hn,Zel,Zcd hn (.inr ⟨_,_,rfl⟩),Zcd hn (.inl rfl),Zfy hn d ok,by rw[Zd0 (by omega) ok,Zas ⟨fun i _ j _=>Zes,fun t _=>Zf8⟩],ZgO,Zb2,.none,Zb2,_,.inr ⟨_,_,rfl,d,ok,rfl⟩,Nat.le_refl _,fun q=>absurd rfl q⟩
  ·have dz:∀i,i<n+1→Za6 G G' ms i i=some 0:=fun i hi=>by unfold Za6;rw[d i hi,d' i hi];exact ZcA Zes
   have okz:∀t,t<n→RestOk (Zap R R' t):=fun t ht=>ZjO (ok t ht)
   exact⟨ZK n (Za6 G G' ms) (Zap R R'),Zik hm hn ok,ZjM hm hn ok,Zgp hn,Zet hn,Zet hn,Zcd hn (.inr ⟨_,_,rfl⟩),Zcd hn (.inr ⟨_,_,rfl⟩),Zfy hn dz okz,by rw[Zd0 (by omega) okz,Zas ⟨fun i _ j _=>ZlF,fun t _=>ZkI⟩],by rw[Zd0 (by omega) okz,Zas ⟨fun i _ j _=>ZlG,fun t _=>ZkJ⟩],Zb2,Zb2,Zb2,_,.inr ⟨_,_,rfl,dz,okz,rfl⟩,mu_grow.1,mu_grow.2⟩
end L
open PySem PySem.W PyProof.Rows PM TM My
namespace L
open PySem PySem.W PyProof.Rows PM TM My
variable {ns:List Int}
theorem ZlH{p:Int}(h0:0≤p)(h1:p<6): Pk (Zv (.lst [.int 0,.int 1,.int 2,.int 3,.int 4,.int 20]) (.int p)) fun t=>∃m:Nat,t=.int m∧m≤20:=by
 have:p=0∨p=1∨p=2∨p=3∨p=4∨p=5:=by omega
 rcases this with rfl | rfl | rfl | rfl | rfl | rfl
 ·exact⟨_,rfl,0,rfl,by decide⟩
 ·exact⟨_,rfl,1,rfl,by decide⟩
 ·exact⟨_,rfl,2,rfl,by decide⟩
 ·exact⟨_,rfl,3,rfl,by decide⟩
 ·exact⟨_,rfl,4,rfl,by decide⟩
 ·exact⟨_,rfl,20,rfl,by decide⟩
theorem pick_len{α:Type}(ts:List α): (ZaS ts (some 6) (some 138)).length≤132:=by
 by_cases h:ts.length≤138
 ·by_cases h6:ts.length≤6
  ·rw[Zf9 ts (some 6) (some 138) (a:=ts.length) (b:=ts.length) (by unfold sliceBounds;simp;omega) (by unfold sliceBounds;simp;omega) (Zz10 _)]
   simp
  ·rw[Zf9 ts (some 6) (some 138) (a:=6) (b:=ts.length) (by unfold sliceBounds;simp;omega) (by unfold sliceBounds;simp;omega) (Zz10 _)]
   simp;omega
 ·rw[Zf9 ts (some 6) (some 138) (a:=6) (b:=138) (by unfold sliceBounds;simp;omega) (by unfold sliceBounds;simp;omega) (by omega)]
  simp;omega
theorem ZkL{σ:TL}{Q:T→Prop}(e:σ 0=some (scr ns))(h:∀us:List T,us.length≤132→Q (.lst us)): Pk (ZdF (Zb 0) (ZcZ (Zh 6)) (ZcZ (Zh 138)) σ) Q:=by
 refine⟨.lst (ZaS (ns.map T.int) (some 6) (some 138)),?_,h _ (pick_len _)⟩
 simp only[ZdF,Zb,e,ZcZ,Zh,Option.bind_some,scr]
theorem ZkM{m:Nat}{f:Nat→Int}: T.lst (tab m fun i=>T.int (f i))=mkT (tab m f):=by unfold mkT;rw[Zj1]
theorem Zix(hL:Lay ns): Zf7 [scr ns]=some (.bool true):=by
 apply Pk.eq
 unfold Zf7 Zf6
 obtain⟨p0,p1⟩:=ZdB ns 0 (show(0:Int)<4 by decide)
 obtain⟨p2,p3⟩:=ZdB ns 5 (show(0:Int)<6 by decide)
 obtain⟨n0,en,hn0⟩:=ZlB p0 (show Zbk ns 0 4<(4:Nat)by omega)
 walk_at "zz"
 refine ZY (ZdC (by decide) (by decide) (by decide)) ?_
 rw[en]
 walk_at "zz"
 rw[show(1:Int)+(n0:Int)=((n0+1:Nat):Int)by omega]
 generalize hn:n0+1=n
 have hn4:n≤4:=by omega
 have hn1:1≤n:=by omega
 obtain⟨_,em,m,rfl,hm⟩:=ZlH p2 p3
 refine Zdy (n:=m) (a:=fun i=>.int i) (b:=fun i=>.int (Zb8 ns (70+i))) (by omega) ?_ (fun t ht=>?_) ?_
 ·walk_at "zz"
  refine ZY (ZdC (by decide) (by decide) (by decide)) ?_
  walk_at "zz"
  refine ZY em ?_
  walk_at "zz"
  rfl
 ·walk_at "zz"
  exact ZY (Zer hL (by omega) (by omega)) rfl
 rw[ZkM]
 have hml:(tab m fun i:Nat=>Zb8 ns (70+i)).length=m:=Zae
 generalize (tab m fun i:Nat=>Zb8 ns (70+i))=ms at hml
 walk_at "zz"
 refine Zbu (by omega) (by omega) ?_
 walk_at "zz"
 have hs:∃sz:Nat,(n:Int)+((n:Int)+1)*((n:Int)+1)+(n:Int)=(sz:Int)∧6≤sz∧sz≤33:=by
  have:n=1∨n=2∨n=3∨n=4:=by omega
  rcases this with rfl | rfl | rfl | rfl
  ·exact⟨6,rfl,by decide,by decide⟩
  ·exact⟨13,rfl,by decide,by decide⟩
  ·exact⟨22,rfl,by decide,by decide⟩
  ·exact⟨33,rfl,by decide,by decide⟩
 obtain⟨sz,es,s6,s33⟩:=hs
 rw[es]
 clear es em p0 p1 p2 p3 en
 generalize hσ:(ZF (ZF (ZF (ZF (ZF (fun i=>[scr ns][i]?) 1 (T.int n)) 2 (mkT ms)) 3 (T.int sz)) 4 T.none) 5 (T.int 0):TL)=σ0
 have a0:σ0 0=some (scr ns):=by rw[←hσ];rfl
 have a1:σ0 1=some (.int n):=by rw[←hσ];rfl
 have a2:σ0 2=some (mkT ms):=by rw[←hσ];rfl
 have a3:σ0 3=some (.int sz):=by rw[←hσ];rfl
 have a4:σ0 4=some .none:=by rw[←hσ];rfl
 have a5:σ0 5=some (.int 0):=by rw[←hσ];rfl
 clear hσ
 obtain⟨_,eu,us,rfl,hu⟩:=ZkL (Q:=fun t=>∃us:List T,t=.lst us∧us.length≤132) a0 fun us h=>⟨us,rfl,h⟩
 have hc:(3+us.length / sz)*sz≤231:=by
  have:=Nat.div_mul_le_self us.length sz
  rw[Nat.add_mul];omega
 have ed:((us.length:Nat):Int).fdiv (sz:Int)=((us.length / sz:Nat):Int):=by rw[Int.fdiv_eq_ediv_of_nonneg _ (by omega)];rfl
 generalize us.length / sz=q at hc ed
 have hq:(3+q)*6≤231:=Nat.le_trans (Nat.mul_le_mul_left (3+q) s6) hc
 refine Zbx (n:=3+q) (a:=fun i=>.int i) (P:=fun i σ=>∃D τ μ,σ 0=some (scr ns)∧σ 1=some (.int n)∧σ 2=some (mkT ms)∧σ 3=some (.int sz)∧σ 4=some D∧σ 5=some (.int ((τ:Nat):Int))∧ZgJ ms n D μ∧τ+μ≤Zdh ms n) ?_ ⟨.none,0,_,a0,a1,a2,a3,a4,a5,.inl ⟨rfl,rfl⟩,by omega⟩ ?_ ?_
 ·walk_at "zz"
  refine ZY eu ?_
  walk_at "zz"
  refine Zgw ?_ ?_ ?_
  ·omega
  ·exact ZfX (by omega) (by omega)
  rw[ed]
  walk_at "zz"
  exact ZhY (3+q) (by omega) (by omega) rfl
 ·rintro i σ hi ⟨D,τ,μ,e0,e1,e2,e3,e4,e5,hM,hτ⟩
  have hi2:i*sz≤231:=Nat.le_trans (Nat.mul_le_mul_right sz (by omega)) hc
  have hi3:(i:Int)*(sz:Int)=((i*sz:Nat):Int):=by rw[Int.natCast_mul]
  clear hc ed eu hq
  walk_at "zz"
  refine Zbu (by omega) (by omega) ?_
  rw[hi3]
  clear hi3
  generalize i*sz=y at hi2 ⊢
  walk_at "zz"
  refine(ZiT hL (by omega) (by omega) (by omega)).mono ?_
  intro D' hD'
  obtain⟨Z,k⟩:=ZkK (by omega) (by omega) hM hD'
  obtain⟨u1,eu1⟩:=k.ch
  obtain⟨u2,eu2⟩:=k.ch'
  obtain⟨μ',m1,m2,m3⟩:=k.me
  clear hM hD'
  have pM:Pln 1 (mkT ms):=.lst fun t ht=>by
   obtain⟨x,_,rfl⟩:=Zz11.mp ht
   exact .int
  walk_at "zz"
  refine ZY k.g1 ?_
  walk_at "zz"
  refine ZY k.cZ ?_
  walk_at "zz"
  refine ZY k.cD ?_
  walk_at "zz"
  refine ZY k.cD' ?_
  walk_at "zz"
  have fl:∀ms:List Int,T.flats (ms.map T.int)=true:=fun ms=>by
   induction ms with
   | nil=>rfl
   | cons m ms ih=>simp only[List.map_cons,T.flats,T.flat,ih,Bool.and_self]
  have hl1:∀{Q:T→Prop},Q (mkT ms)→Pk (Zbn [mkT ms]) Q:=fun h=>⟨_,rfl,h⟩
  refine hl1 ⟨fl ms,?_⟩
  walk_at "zz"
  refine ZY k.g2 ?_
  walk_at "zz"
  refine ZeD k.pD k.pD ?_
  rw[Zas rfl]
  walk_at "zz"
  refine ZeD k.pD' k.pD' ?_
  rw[Zas rfl]
  walk_at "zz"
  refine ZeD pM pM ?_
  rw[Zas rfl]
  walk_at "zz"
  refine ZhQ (by walk_at "zr") ?_
  walk_at "zz"
  refine ZhA (j:=0) (u:=D) rfl rfl (ZY eu1 ?_)
  walk_at "zz"
  refine ZhQ (by walk_at "zr") ?_
  walk_at "zz"
  refine ZhA (j:=1) (u:=D') rfl rfl (ZY eu2 ?_)
  walk_at "zz"
  refine ZY k.sm ?_
  walk_at "zz"
  refine ZY k.i1 ?_
  walk_at "zz"
  refine ZY k.i2 ?_
  walk_at "zz"
  refine ZeD k.pZ k.pD ?_
  by_cases c:Z=D
  ·rw[Zas c]
   walk_at "zz"
   exact⟨Z,τ,μ',by walk_at "zr",by walk_at "zr",by walk_at "zr",by walk_at "zr",by walk_at "zr",by walk_at "zr",m1,by omega⟩
  ·rw[ZaV c]
   have:=m3 c
   walk_at "zz"
   exact⟨Z,τ+1,μ',by walk_at "zr",by walk_at "zr",by walk_at "zr",by walk_at "zr",by walk_at "zr",by walk_at "zr",m1,by omega⟩
 ·rintro σ ⟨D,τ,μ,e0,e1,e2,e3,e4,e5,hM,hτ⟩
  have hτ:τ≤Zdh ms n:=by omega
  unfold Zdh at hτ
  rw[hml,←Nat.mul_assoc]at hτ
  have e2':σ 2=some (.lst (ms.map T.int)):=e2
  clear e2
  walk_at "zz"
  refine Zbu (by omega) (by omega) ?_
  walk_at "zz"
  rw[List.length_map,hml]
  have hb:((n:Int)+1)*((n:Int)+1)=(((n+1)*(n+1):Nat):Int):=by simp[Int.natCast_mul]
  rw[hb]
  refine Zbu (by omega) (by omega) ?_
  rw[show((m:Int)+1)=((m+1:Nat):Int)by omega,←Int.natCast_mul]
  generalize (n+1)*(n+1)*(m+1)=w at hτ ⊢
  clear hb hM
  walk_at "zz"
  exact congrArg T.bool (decide_eq_true (by omega))
theorem Zim(hlen:ns.length≤63)(hL:PyData.layable0 (.list (ns.map .int))=true): ∃H',Zhk [.ref 0] [ns.map V.int]=some (.bool true,H'):=Zi7 ZjE ns (Zix hL)
end L
end
section
open PySem PySem.W PyProof.Rows
namespace PySem.W.Fast
def tw5105673956185107153:=0
def tw1176975735165151067:=0
def tw10426125643436316091:=0
def tw15452572443179084588:=0
def tw9156678896304099913:=0
def tw3520363519792060846:=0
def tw4419873286371483742:=0
def tw15221209806709932071:=0
def tw16002967266952078866:=0
def tw4361700775904427359:=0
def tw9563574807059059695:=0
def tw11519117686961666697:=0
def tw16915470645016011554:=0
def tw16472409268878238316:=0
def tw3764688243253525356:=0
def tw529536973988259948:=0
def tw17925384258215065573:=0
def tw4026151001005817321:=0
def tw16131593051203169754:=0
def tw16749348522385944071:=0
def tw787476025459038410:=0
def tw69414778264802052:=0
def tw14049933714092370352:=0
def tw16172578528114110199:=0
def tw7327368060808564681:=0
def tw3094701115853657799:=0
def tw305048472116853797:=0
def tw17969941481158815411:=0
def tw15213048550514571353:=0
def tw17427895641331663283:=0
def tw4033379813872489195:=0
def tw8903238766108814736:=0
def tw16149030986926176842:=0
def tw10097012582147076362:=0
def tw8646929664414959583:=0
def tw17601101962401091345:=0
def tw12059592832596718669:=0
def tw8160871880118814707:=0
def tw1791252592759705592:=0
def tw9508736203920968164:=0
def tw13792483299354683862:=0
def tw4954584648838934644:=0
def tw6511239469406747073:=0
def tw11002848052431835627:=0
def tw4211952112222678748:=0
def tw13218621648322568166:=0
def tw5353813085845620550:=0
def tw17093224777342109595:=0
def tw14347909398734512454:=0
def tw8237626310708396552:=0
def tw5260856337621036202:=0
def tw6315216371427503177:=0
def tw2385268686561707046:=0
def tw2927799364441409784:=0
def tw7097827964152542560:=0
def tw15632992782082381434:=0
def tw10069975712529536831:=0
def tw18431155831084640082:=0
def tw11118301316682269745:=0
def tw11763852733077360975:=0
def tw8526028360262338249:=0
def tw118727715247015424:=0
def tw12067549021546063074:=0
def tw15755044616229629136:=0
def tw17878424488110687958:=0
def tw1647960591809683682:=0
def tw5916140570258018564:=0
def tw14323227155912201964:=0
def tw14734032772098568817:=0
def tw6793172497655745189:=0
def tw7524379617451308511:=0
def tw18167724695441219349:=0
def tw4968929673044707356:=0
def tw10497823618577955822:=0
def tw18329075359065952542:=0
def tw8131721106225051767:=0
def tw3808584094389355786:=0
def tw10800367221633172730:=0
def tw4177351759533223642:=0
def tw7894344252036594922:=0
def tw6623812351622530092:=0
def tw6760056911573607715:=0
def tw6786350315023897781:=0
def tw671769174312181376:=0
def tw6252695792229605141:=0
def tw15155859288707382567:=0
def tw17590088832654516399:=0
def tw6999941293234460784:=0
def tw12319047049370110589:=0
def tw133755455108545178:=0
def tw12514039047250868702:=0
def tw14245618210516037357:=0
def tw2456577590951144490:=0
def tw13949155002146243131:=0
def tw4589182232624314844:=0
def tw16970792351503237766:=0
def tw17802128708061929859:=0
def tw18042889414512086050:=0
def tw3942624392001961204:=0
def tw6662249597110656733:=0
end PySem.W.Fast
set_option maxRecDepth 100000 in
set_option maxHeartbeats 8000000 in
open_top head for PySem.Challenge.rw_seer_k38_grown_by_marks
end
section
open PySem PySem.W PySem.Calls PyProof.Rows PM
seal PM.J PM.Js PM.JT PM.JA PM.JF PM.JI PM.JI2 PM.JP PM.S1 PM.Ss PM.Sto PM.Rd PM.Nm PM.OpN PM.Op2 PM.Def
namespace L
noncomputable abbrev DD(w:World)(s₀:Shared)(mg mb:Str→Option Value)(f:Addr)(r:Nat)(F:List V→Hp→Option (V×Hp)): Prop:=Def PySem.Challenge.rw_seer_k38_grown_by_marks.row.prog w (head.heap_39 w.params) head.view_39 (looseW head.view_39 []) (ExcName.means s₀.heap) mg mb f r F
section
variable {w:World} {s₀:Shared} {mg mb:Str→Option Value}
theorem Zg1: DD w s₀ mg mb 62 1 Zd7:=by
 unfold DD;k_fill
 refine Dof (names:=["_law_script","_law_k","_law_number_here"]) (g:=Zfc) ?_
 exact fun _ _ _ _ _ _ _ c _ _=>(ZA (Zan sL (ZI (ZI (ZI vL vL Zbv) jI Zbv) jI ok_add)) (ZA (ZX (ZT (ZaB (nB c) (jc vL Zp) ZaR) jI ZhT) (Zt (Zan sL (ZI vL (Zy vL (ZI vL (ZaB (nB c) (jc vL Zp) ZaR) ZaQ)) ok_add))) ZW) (Zt (ZL vL))))
theorem law_pick_d: DD w s₀ mg mb 69 2 Zcu:=by
 unfold DD;k_fill
 refine Dof (names:=["_law_script","_law_k","_law_many"]) (g:=ZfC) ?_
 exact fun _ _ _ _ _ _ _ c _ _=>(Zt (ZL (ZI (ZI (ZI (cF c Zg1 (jc vL (jc vL Zp))) jI Zbv) jI ZaQ) vL ZaQ)))
theorem Zd6: DD w s₀ mg mb 76 2 ZcN:=by
 unfold DD;k_fill
 refine Dof (names:=["_law_script","_law_k","_law_number_here","_law_reach"]) (g:=Ze5) ?_
 exact fun _ _ _ _ _ _ _ c _ _=>(ZA (Zan sL (cF c Zg1 (jc vL (jc vL Zp)))) (ZA (Zan sL (Zy (J.list (jc jI (jc jI (jc (ZI jI jI Zgs) (jc (ZI jI jI Zgs) Zp))))) (ZI (ZI (ZI vL jI Zbv) jI ZaQ) jI ZaQ))) (Zt (ZL (ZI (ZI (ZI vL (ZI jI jI Zgs) Zbv) (ZI (ZI jI vL Zbv) jI ok_add) ZaQ) vL ZeC)))))
theorem Ziy: DD w s₀ mg mb 83 3 Zff:=by
 unfold DD;k_fill
 refine Dof (names:=["_law_script","_law_k","_law_way"]) (g:=Zfe) ?_
 exact fun _ _ _ _ _ _ _ c _ _=>(ZA (Zan sL (cF c law_pick_d (jc vL (jc vL (jc jI Zp))))) (ZA (ZX (ZT (ZI vL jI ZaQ) jI Zc3) (Zt (ZL jN)) ZW) (ZA (ZX (ZT (ZI vL jI ZaQ) jI Zc3) (Zt (ZL jI)) ZW) (ZA (ZX (ZT (ZI vL jI ZaQ) jI Za4) (Zt (ZL (ZI vL jI Zgr))) ZW) (Zt (ZL (ZaB (nB c) (jc (cF c Zd6 (jc vL (jc vL Zp))) Zp) ZhG)))))))
theorem ZgP: DD w s₀ mg mb 90 1 ZdW:=by
 unfold DD;k_fill
 refine Dof (names:=["_law_m","_law_r"]) (g:=ZeV) ?_
 exact fun _ _ _ _ _ _ _ c _ _=>(ZA (ZX (ZT vL jI Za4) (Zt (ZL (J.tup (jc jI (jc vL Zp))))) ZW) (Zt (ZL (J.tup (jc vL (jc (ZI vL vL ZaQ) Zp))))))
theorem ZiU: DD w s₀ mg mb 97 3 ZfF:=by
 unfold DD;k_fill
 refine Dof (names:=["_law_script","_law_k","_law_number_here","_law_way"]) (g:=ZfE) ?_
 exact fun _ _ _ _ _ _ _ c _ _=>(ZA (Zan sL (cF c law_pick_d (jc vL (jc vL (jc jI Zp))))) (ZA (ZX (ZT (ZI vL jI ZaQ) jI Zc3) (Zt (ZL (J.tup (jc jI (jc jI Zp))))) ZW) (ZA (ZX (ZT (ZI vL jI ZaQ) jI Za4) (Zt (ZL (J.tup (jc jI (jc vL Zp))))) ZW) (ZA (ZX (ZT (ZI vL jI ZaQ) jI Za4) (Zt (ZL (cF c ZgP (jc (ZI (ZI vL jI Zgr) jI ok_add) (jc vL Zp))))) ZW) (Zt (ZL (cF c ZgP (jc (ZaB (nB c) (jc (cF c Zd6 (jc vL (jc vL Zp))) Zp) ZhG) (jc vL Zp)))))))))
theorem ZiV: DD w s₀ mg mb 102 4 ZfI:=by
 unfold DD;k_fill
 refine Dof (names:=["_law_script","_law_k","_law_boxes","_law_full","_law_size","_law_bounds","_law_i","_law_row","_law_j","_law_top"]) (g:=ZfH) ?_
 exact fun _ _ _ _ _ _ _ c _ _=>(ZA (Zan sL (ZI (J.list (jc jI Zp)) vC ok_add)) (ZA (Zan sC (ZaB (nB c) (jc vL Zp) ZaR)) (ZA (Zan sL (J.list Zp)) (ZA (Zbm sL (JI.range (nB c) (jc vC Zp)) (ZA (Zan sL (J.list Zp)) (ZA (Zbm sL (JI.range (nB c) (jc vC Zp)) (ZA (Zan sL (cF c Ziy (jc vC (jc (ZI (ZI vC (ZI vL vC Zbv) ok_add) vL ok_add) Zp)))) (ZA (ZX (ZT vL jN ZcQ) (Zt (Zan sL (ZI (ZI (Zy vL vL) (Zy vL vL) ZeC) vL ok_add))) ZW) (Zt (ZcX (J.append vL vL)))))) (ZA (S1.put jI vL vL) (Zt (ZcX (J.append vL vL))))))) (Zt (ZL (J.tup (jc vL (jc (by refine cO ?_ ?_ ?_;(exact(JI.range (nB c) (jc (ZI vC jI ZeC) Zp)));(exact fun _ _=>(cF (ZbL c) ZiU (jc vD (jc (ZI (ZI vD (ZI vD vD Zbv) ok_add) vO ok_add) (jc (Zy vD vO) Zp)))));(exact fun _ _=>JF.nil)) Zp)))))))))
theorem Zjh: DD w s₀ mg mb 173 5 ZfV:=by
 unfold DD;k_fill
 refine Dof (names:=["_law_script","_law_k","_law_many"]) (g:=ZfU) ?_
 exact fun _ _ _ _ _ _ _ c _ _=>(ZA (ZX (ZT (cF c law_pick_d (jc vC (jc vC (jc jI Zp)))) jI Za4) (Zt (ZL jN)) ZW) (Zt (ZL (cF c ZiV (jc vC (jc (ZI vC vL ok_add) (jc (by refine cO ?_ ?_ ?_;(exact(JI.range (nB c) (jc vL Zp)));(exact fun _ _=>(cF (ZbL c) Zd6 (jc vD (jc (ZI vD vO ok_add) Zp))));(exact fun _ _=>JF.nil)) Zp)))))))
theorem ZfS: DD w s₀ mg mb 107 1 ZcP:=by
 unfold DD;k_fill
 refine Dof (names:=["_law_told_here"]) (g:=Zeg) ?_
 exact fun _ _ _ _ _ _ _ c _ _=>(ZA (ZX (ZT vL jN Za5) (Zt (ZL jN)) ZW) (Zt (ZL (J.tup (jc (by refine cO ?_ ?_ ?_;(exact(JI.seq (Zy vL jI)));(exact fun _ _=>(ZcS (nB (ZbL c)) (jc vO Zp) Zdu));(exact fun _ _=>JF.nil)) (jc (ZcS (nB c) (jc (Zy vL jI) Zp) Zdu) Zp))))))
theorem Zho: ∀n:Nat,Def PySem.Challenge.rw_seer_k38_grown_by_marks.row.prog w (head.heap_39 w.params) head.view_39 (looseW head.view_39 []) (ExcName.means s₀.heap) mg mb 19 (n) (ZcR n)
 | 0=>ZjD
 | n+1=>by
  have ih:=Zho n
  k_fill
  refine' ZhI (names:=["thing"]) (n:=1) (room:=n) (g:=Zgm (ZcR n)) (ho:=?ho) (hcd:=?hcd) (nd:=by decide) (hn:=by decide) (hbind:=?hb) (hkinds:=?hk) (hone:=?h1) (hco:=?z1) (hgen:=?z2) (hk:=?z3) (hbody:=?hbody)
  case ho=>k_is
  case z1=>rfl
  case z2=>rfl
  case z3=>rfl
  case hcd=>k_is
  case hb=>intro s xs hx;match xs,hx with | [x0],_=>exact BindsTo.of_eq rfl
  case hk=>decide
  case h1=>decide +kernel
  case hbody=>
   intro dp un gd L outer h₀ hu clr hd1 hu1
   exact(ZA (ZX (ZaD (Zb1 (nB clr) (nB clr) (.inr (.inr (.inl rfl))) vL)) (Zt (ZL (by refine cO ?_ ?_ ?_;(exact(JI.seq vL));(exact fun _ _=>(cF (ZbL clr) ih (jc vO Zp)));(exact fun _ _=>JF.nil)))) ZW) (ZA (ZX (ZaD (Zb1 (nB clr) (nB clr) (.inr (.inr (.inr rfl))) vL)) (Zt (ZL (ZcS (nB clr) (jc (by refine cO ?_ ?_ ?_;(exact(JI.seq vL));(exact fun _ _=>(cF (ZbL clr) ih (jc vO Zp)));(exact fun _ _=>JF.nil)) Zp) Zi5))) ZW) (Zt (ZL vL))))
theorem ZhF: Def PySem.Challenge.rw_seer_k38_grown_by_marks.row.prog w (head.heap_39 w.params) head.view_39 (looseW head.view_39 []) (ExcName.means s₀.heap) mg mb 19 9 Zey:=Zho 9
theorem Ziz: DD w s₀ mg mb 26 1 Zfi:=by
 unfold DD;k_fill
 refine Dof (names:=["one","other"]) (g:=Zfh) ?_
 exact fun _ _ _ _ _ _ _ c _ _=>(Zt (ZL (Zl5 (Za3 vL jN Za5) (Zc2 (Za3 vL jN ZcQ) (Za3 vL vL ZdK)))))
theorem Zic: DD w s₀ mg mb 55 2 Ze3:=by
 unfold DD;k_fill
 refine Dof (names:=["old","new","marks"]) (g:=Ze2) ?_
 exact fun _ _ _ _ _ _ _ c _ _=>(ZA (ZX (ZaD (cF c Ziz (jc vC (jc vL Zp)))) (Zt (ZL vL)) ZW) (ZA (ZX (ZT vC jN Za5) (Zt (ZL jN)) ZW) (Zt (ZL (Zlw (nB c) (by refine cO ?_ ?_ ?_;(exact(JI.seq vL));(exact fun _ _=>vO);(exact fun _ _=>JF.one (ZT vO vD ZhU))))))))
theorem ZiA: DD w s₀ mg mb 50 3 Zfu:=by
 unfold DD;k_fill
 refine Dof (names:=["row","new","marks"]) (g:=Zft) ?_
 exact fun _ _ _ _ _ _ _ c _ _=>(Zt (ZL (by refine cT ?_ ?_;(exact(JI2.zip (nB c) vL vL));(exact fun _ _=>(cF (ZbL c) Zic (jc vO (jc vO (jc vD Zp))))))))
theorem ZiW: DD w s₀ mg mb 33 1 ZfL:=by
 unfold DD;k_fill
 refine Dof (names:=["one","number"]) (g:=ZfK) ?_
 exact fun _ _ _ _ _ _ _ c _ _=>(ZA (ZX (ZT (Zy vL jI) jI Za4) (Zt (ZL (Za3 vL (Zy vL jI) Za4))) ZW) (Zt (ZL (Za3 (ZI vL (Zy vL jI) ZaQ) (Zy vL jI) Za4))))
theorem Zid: DD w s₀ mg mb 40 2 ZeY:=by
 unfold DD;k_fill
 refine Dof (names:=["one","other"]) (g:=ZeX) ?_
 exact fun _ _ _ _ _ _ _ c _ _=>(ZA (ZX (ZT (Zy vL jI) jI Za4) (Zt (ZL (Za3 vL vL Za4))) ZW) (Zt (ZL (Zc2 (Za3 (ZI (Zy vL jI) (Zy vL jI) ZaQ) jI Za4) (cF c ZiW (jc vL (jc (Zy vL jI) Zp)))))))
theorem ZkN: DD w s₀ mg mb 45 10 Zgo:=by
 unfold DD;k_fill
 refine Dof (names:=["old","new","marks","bounds","rests"]) (g:=Zgn) ?_
 exact fun _ _ _ _ _ _ _ c _ _=>(ZA (ZX (ZT vL jN Za5) (Zt (ZL (cF c ZhF (jc vL Zp)))) ZW) (ZA (ZX (ZT vL jN Za5) (Zt (ZL (cF c ZhF (jc vL Zp)))) ZW) (ZA (by refine sT sL ?_ ?_;(exact(JI2.zip (nB c) (Zy vL jI) (Zy vL jI)));(exact fun _ _=>(cF (ZbL c) ZiA (jc vO (jc vO (jc vD Zp)))))) (ZA (by refine sT sL ?_ ?_;(exact(JI2.zip (nB c) (Zy vL jI) (Zy vL jI)));(exact fun _ _=>(ZlJ (ZaD (cF (ZbL c) Zid (jc vO (jc vO Zp)))) vO (J.tup (jc jI (jc jI Zp)))))) (Zt (ZL (J.tup (jc vL (jc vL Zp)))))))))
theorem ZgU: DD w s₀ mg mb 180 1 Zd4:=by
 unfold DD;k_fill
 refine Dof (names:=["_law_told_here"]) (g:=Zd3) ?_
 exact fun _ _ _ _ _ _ _ c _ _=>(Zt (ZX (ZT vL jN ZcQ) (ZA (S1.put jI (Zy (Zy vL jI) jI) jI) (ZA (ZcX (J.append (Zy vL jI) (J.list (jc jI Zp)))) (Zt (ZcX (J.append (Zy vL jI) (J.tup (jc jI (jc jI Zp)))))))) ZW))
theorem Zin: DD w s₀ mg mb 163 1 Zfa:=by
 unfold DD;k_fill
 refine Dof (names:=["_law_old","_law_new_here","_law_marks","_law_top","_law_mark"]) (g:=Ze9) ?_
 exact fun _ _ _ _ _ _ _ c _ _=>(ZA (ZX (Za0 (Zah (ZT vL jN Za5) (Zah (Za0 (Zca (ZT vL jN ZcQ) (Zca (ZT vL vL ZdK) Zem))) Zbr))) (Zt (ZL vL)) ZW) (ZA (ZX (ZT vL jN Za5) (Zt (ZL jN)) ZW) (ZA (Zan sL jN) (ZA (Zbm sL (JI.seq vL) (Zt (ZX (Za0 (Zca (ZT vL vL ZhU) (Zca (Za0 (Zah (ZT vL jN Za5) (Zah (ZT vL vL Zc3) Zbr))) Zem))) (Zt (Zan sL vL)) ZW))) (Zt (ZL vL))))))
theorem ZgQ: DD w s₀ mg mb 149 1 ZdY:=by
 unfold DD;k_fill
 refine Dof (names:=["_law_one","_law_other"]) (g:=Ze0) ?_
 exact fun _ _ _ _ _ _ _ c _ _=>(ZA (ZX (ZT (Zy vL jI) jI Za4) (Zt (ZL (Za3 vL vL Za4))) ZW) (Zt (ZL (Zc2 (Za3 (ZI (Zy vL jI) (Zy vL jI) ZaQ) jI Za4) (Za3 (ZI (ZI (Zy vL jI) (Zy vL jI) ZeC) (Zy vL jI) ZaQ) jI Za4)))))
theorem ZiB: DD w s₀ mg mb 168 2 Zfx:=by
 unfold DD;k_fill
 refine Dof (names:=["_law_old","_law_new_here","_law_marks","_law_bounds","_law_i","_law_j","_law_rests","_law_t"]) (g:=Zfw) ?_
 exact fun _ _ _ _ _ _ _ c _ _=>(ZA (ZX (ZT vL jN Za5) (Zt (ZL vL)) ZW) (ZA (ZX (ZT vL jN Za5) (Zt (ZL vL)) ZW) (ZA (by refine sO sL ?_ ?_ ?_;(exact(JI.seq (Zy vL jI)));(exact fun _ _=>(ZcS (nB (ZbL c)) (jc vO Zp) Zdu));(exact fun _ _=>JF.nil)) (ZA (Zbm sL (JI.range (nB c) (jc (ZaB (nB c) (jc vL Zp) ZaR) Zp)) (Zt (Zbm sL (JI.range (nB c) (jc (ZaB (nB c) (jc vL Zp) ZaR) Zp)) (Zt (S1.put (cF c Zin (jc (Zy (Zy (Zy vL jI) vL) vL) (jc (Zy (Zy (Zy vL jI) vL) vL) (jc vL Zp)))) (Zy vL vL) vL))))) (ZA (Zan sL (ZcS (nB c) (jc (Zy vL jI) Zp) Zdu)) (ZA (Zbm sL (JI.range (nB c) (jc (ZaB (nB c) (jc vL Zp) ZaR) Zp)) (Zt (ZX (Za1 (ZaD (cF c ZgQ (jc (Zy (Zy vL jI) vL) (jc (Zy (Zy vL jI) vL) Zp))))) (Zt (S1.put (J.tup (jc jI (jc jI Zp))) vL vL)) ZW))) (Zt (ZL (J.tup (jc vL (jc vL Zp)))))))))))
theorem Zfz: DD w s₀ mg mb 114 1 Zdm:=by
 unfold DD;k_fill
 refine Dof (names:=["_law_thing"]) (g:=Zfn) ?_
 exact fun _ _ _ _ _ _ _ c _ _=>(Zt (ZL (Zc2 (Zb1 (nB c) (nB c) (.inl rfl) vL) (ZlI (Zb1 (nB c) (nB c) (.inr (.inl rfl)) vL)))))
theorem ZiX: DD w s₀ mg mb 121 2 ZfO:=by
 unfold DD;k_fill
 refine Dof (names:=["_law_thing","_law_size","_law_i","_law_top"]) (g:=ZfN) ?_
 exact fun _ _ _ _ _ _ _ c _ _=>(ZA (ZX (Za0 (Zah (Za1 (ZaD (Zb1 (nB c) (nB c) (.inr (.inr (.inl rfl))) vL))) (Zah (ZT (ZaB (nB c) (jc vL Zp) ZaR) vL ZbQ) Zbr))) (Zt (ZL jB)) ZW) (ZA (Zbm sL (JI.range (nB c) (jc vL Zp)) (ZA (ZX (Za0 (Zah (Za1 (ZaD (Zb1 (nB c) (nB c) (.inr (.inr (.inl rfl))) (Zy vL vL)))) (Zah (ZT (ZaB (nB c) (jc (Zy vL vL) Zp) ZaR) vL ZbQ) Zbr))) (Zt (ZL jB)) ZW) (ZA (Zbm sL (JI.seq (Zy vL vL)) (Zt (ZX (Za0 (Zca (ZT vL jN ZcQ) (Zca (Za1 (ZaD (cF c Zfz (jc vL Zp)))) Zem))) (Zt (ZL jB)) ZW))) (Zt (ZX (ZT (Zy (Zy vL vL) vL) jI ZbQ) (Zt (ZL jB)) ZW))))) (Zt (ZL jB))))
theorem ZiC: DD w s₀ mg mb 128 3 Zfr:=by
 unfold DD;k_fill
 refine Dof (names:=["_law_thing","_law_many","_law_pair"]) (g:=Zfq) ?_
 exact fun _ _ _ _ _ _ _ c _ _=>(ZA (ZX (Za0 (Zah (Za1 (ZaD (Zb1 (nB c) (nB c) (.inr (.inr (.inr rfl))) vL))) (Zah (ZT (ZaB (nB c) (jc vL Zp) ZaR) jI ZbQ) (Zah (Za1 (ZaD (cF c ZiX (jc (Zy vL jI) (jc (ZI vL jI ok_add) Zp))))) Zbr)))) (Zt (ZL jB)) ZW) (ZA (ZX (Za0 (Zah (Za1 (ZaD (Zb1 (nB c) (nB c) (.inr (.inr (.inl rfl))) (Zy vL jI)))) (Zah (ZT (ZaB (nB c) (jc (Zy vL jI) Zp) ZaR) vL ZbQ) Zbr))) (Zt (ZL jB)) ZW) (ZA (Zbm sL (JI.seq (Zy vL jI)) (ZA (ZX (Za0 (Zah (Za1 (ZaD (Zb1 (nB c) (nB c) (.inr (.inr (.inr rfl))) vL))) (Zah (ZT (ZaB (nB c) (jc vL Zp) ZaR) jI ZbQ) Zbr))) (Zt (ZL jB)) ZW) (ZA (ZX (Za0 (Zah (Za1 (ZaD (cF c Zfz (jc (Zy vL jI) Zp)))) (Zah (Za1 (ZaD (cF c Zfz (jc (Zy vL jI) Zp)))) Zbr))) (Zt (ZL jB)) ZW) (Zt (ZX (Za0 (Zah (ZT (Zy vL jI) jI Zc3) (Zah (Za0 (Zca (ZT (Zy vL jI) jI ZhT) (Zca (Za1 (Zjy jI (Zy vL jI) (Zy vL jI) ZdK Zc3)) Zem))) Zbr))) (Zt (ZL jB)) ZW))))) (Zt (ZL jB)))))
theorem ZiY: DD w s₀ mg mb 135 4 ZfR:=by
 unfold DD;k_fill
 refine Dof (names:=["_law_found","_law_due"]) (g:=ZfQ) ?_
 exact fun _ _ _ _ _ _ _ c _ _=>(ZA (ZX (ZT vL jN Za5) (Zt (ZL (Za3 vL jN Za5))) ZW) (Zt (ZL (Zc2 (cF c ZiC (jc vL (jc (ZaB (nB c) (jc (Zy vL jI) Zp) ZaR) Zp))) (Za3 vL vL Za4)))))
theorem ZiD: DD w s₀ mg mb 142 1 Zfl:=by
 unfold DD;k_fill
 refine Dof (names:=["_law_one","_law_other"]) (g:=Zfk) ?_
 exact fun _ _ _ _ _ _ _ c _ _=>(ZA (ZX (ZT vL jN Za5) (Zt (ZL jB)) ZW) (Zt (ZL (Zc2 (Za3 vL jN ZcQ) (Za3 vL vL ZdK)))))
theorem ZgV: DD w s₀ mg mb 156 2 Zd2:=by
 unfold DD;k_fill
 refine Dof (names:=["_law_one","_law_other","_law_i","_law_j","_law_t"]) (g:=Ze7) ?_
 exact fun _ _ _ _ _ _ _ c _ _=>(ZA (ZX (Za0 (Zah (ZT vL jN Za5) (Zah (ZT vL jN Za5) Zbr))) (Zt (ZL (Za3 vL jN Za5))) ZW) (ZA (Zbm sL (JI.range (nB c) (jc (ZaB (nB c) (jc (Zy vL jI) Zp) ZaR) Zp)) (Zt (Zbm sL (JI.range (nB c) (jc (ZaB (nB c) (jc (Zy vL jI) Zp) ZaR) Zp)) (Zt (ZX (Za1 (ZaD (cF c ZiD (jc (Zy (Zy (Zy vL jI) vL) vL) (jc (Zy (Zy (Zy vL jI) vL) vL) Zp))))) (Zt (ZL jB)) ZW))))) (ZA (Zbm sL (JI.range (nB c) (jc (ZaB (nB c) (jc (Zy vL jI) Zp) ZaR) Zp)) (Zt (ZX (Za1 (ZaD (cF c ZgQ (jc (Zy (Zy vL jI) vL) (jc (Zy (Zy vL jI) vL) Zp))))) (Zt (ZL jB)) ZW))) (Zt (ZL jB)))))
end
end L
end
section
open PySem PySem.W PySem.Calls PyProof.Rows PM
open L
seal PySem.wpAny PM.J PM.Js PM.JT PM.JA PM.JF PM.JI PM.JI2 PM.JP PM.S1 PM.Ss PM.Sto PM.Rd PM.Nm PM.OpN PM.Op2 PM.Def
theorem PySem.Challenge.cw_seer_k38_grown_by_marks_holds : PySem.Challenge.rw_seer_k38_grown_by_marks.Holds :=
 head (by
  w_strict (k_go0;(rename Well _ _ _ _=>w9);(rename Frag.In _ _=>kx9);(rename Top _ _ _ _ _ _=>t9);(rename Fr _ _ _ _=>f9);(rename News _ _ _ _=>n9);(rename CellsAre _ _ _=>x9);(rename (PyData.layable0 _=true)=>hl9);(obtain⟨H9,e9⟩:=L.Zim (by omega) hl9);(refine' PM.ZjV (names:=["_law_script","_law_many","_law_marks","_law_size","_law_old","_law_turns","_law_at","_law_new_here","_law_due","_law_handed","_law_found"]) (g:=Zf5) (room:=10) ?hb ?h1 ?h2 ?h3 ?h4 kx9 t9 w9 ?len f9 n9 x9 e9 ?post);(case h1=>decide);(case h2=>decide);(case h3=>rfl);(case h4=>rfl);(case len=>(rw[PM.ZaC];omega));(case hb=>(intro dp un gd L a ccd outer h₀ hu clr hd1 hu1;exact(ZA (Zan sL (ZI jI (cF clr law_pick_d (jc vC (jc jI (jc jI Zp)))) ok_add)) (ZA (by refine sO sL ?_ ?_ ?_;(exact(JI.range (nB clr) (jc (Zy (J.list (jc jI (jc jI (jc jI (jc jI (jc jI (jc jI Zp))))))) (cF clr law_pick_d (jc vC (jc jI (jc jI Zp))))) Zp)));(exact fun _ _=>(cF (ZbL clr) Zd6 (jc vD (jc (ZI jI vO ok_add) Zp))));(exact fun _ _=>JF.nil)) (ZA (Zan sL (ZI (ZI vL (ZI (ZI vL jI ok_add) (ZI vL jI ok_add) Zbv) ok_add) vL ok_add)) (ZA (Zan sL jN) (ZA (Zan sL jI) (ZA (Zbm sL (JI.range (nB clr) (jc (ZI jI (ZI (ZaB (nB clr) (jc (ZjQ vC (JP.some jI) (JP.some jI)) Zp) ZaR) vL Zgr) ok_add) Zp)) (ZA (Zan sL (cF clr Zjh (jc vC (jc (ZI jI (ZI vL vL Zbv) ok_add) (jc vL Zp))))) (ZA (Zan sL (cF clr ZfS (jc (cF clr ZiB (jc vL (jc vL (jc vL Zp)))) Zp))) (ZA (Zan sL (J.list (jc (cF clr ZfS (jc vL Zp)) (jc (cF clr ZfS (jc vL Zp)) (jc (ZcS (nB clr) (jc vL Zp) Zdu) Zp))))) (ZA (Zan sL (cF clr ZkN (jc (Zy vL jI) (jc (Zy vL jI) (jc (Zy vL jI) Zp))))) (ZA (ZX (Za0 (Zah (ZT (Zy vL jI) vL ZbQ) (Zah (ZT (Zy vL jI) vL ZbQ) (Zah (ZT (Zy vL jI) vL ZbQ) Zbr)))) (Zt (ZL jB)) ZW) (ZA (ZcX (cF clr ZgU (jc (Zy vL jI) Zp))) (ZA (ZcX (cF clr ZgU (jc (Zy vL jI) Zp))) (ZA (ZX (Za0 (Zah (Za1 (ZaD (cF clr ZiY (jc vL (jc vL Zp))))) (Zah (Za1 (ZaD (cF clr ZgV (jc vL (jc vL Zp))))) (Zah (Za1 (ZaD (cF clr ZgV (jc vL (jc vL Zp))))) Zbr)))) (Zt (ZL jB)) ZW) (ZA (ZX (ZT vL vL ZbQ) (Zt (Zan sL (ZI vL jI ok_add))) ZW) (Zt (Zan sL vL)))))))))))) (Zt (ZL (Za3 vL (ZI (ZI (ZI (ZI (ZI vL jI ok_add) (ZI vL jI ok_add) Zbv) (ZI (ZaB (nB clr) (jc vL Zp) ZaR) jI ok_add) Zbv) vL ok_add) jI ok_add) ZdK)))))))))));(case post=>(intro h' tk' m' F';k_steps)))
  )
end
