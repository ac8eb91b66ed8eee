import PyProof.Rows.All
import Wide.All
import OpenK.AllK
import Wide.FinOn
import PySem.Challenge.RW_seer_k14_done
import PyProof.Rows.News
import PyProof.Rows.Nodes
import PyProof.Rows.Chain
import PyProof.Rows.TupSub
import PyProof.PureInt
import PyProof.Rules2
import PyProof.Rules3
import PyProof.Rows.Globals
import PyProof.Rows.RuleB_mod
import PyProof.Rows.RuleB_floordiv
import PyProof.Rows.RuleB_small
import PyProof.NoPylong
import PyProof.Rows.RuleB_pow
import PyProof.Rows.EqDataRows
import PyProof.Rows.StrTemp
import PyProof.Rows.TupAdd
import PyProof.Rows.ListMul
import PyProof.ListIndexNeg
import PyProof.SliceList
import PyProof.Methods
import PyProof.Rows.Tup
import PyProof.IsiPairs
import PyProof.IsiHeapPairs
import PyProof.IsiNone
import PyProof.Rows.RuleN_abs
import PyProof.Rows.SumAny
import PyProof.WalkInts
import PyProof.PvWalk
import PyProof.RulesRaise
import PyProof.Raises
import PyProof.Dict
import PyProof.Seq
import PyProof.Rows.ListAppend
import PyProof.ForAppend
import PyProof.ForAny
import PyProof.Walks
import PyProof.WalksT
import KE.KItem
import PyProof.WalksMore
import PyProof.RangeFor
import PyProof.Rows.Range3
import OpenK.KCell
import KE.KTree
import KE.RegLcTurns
import KE.KCompFold
import KE.KLcPair
import KE.LcTurns
import PyProof.CompUse
import PyProof.Rows.ZipGen
import OpenK.KLine
import KE.KState
import Wide.Well
import PyProof.ListCopy
import PyProof.Rows.TupleOfSeqD
import KE.LcSums
import KE.KCellOne
import PyProof.FitsBits
import KE.KEqDeep
import PyProof.Rows.TupMore
import PyProof.Rows.NestLooks
import PyProof.EnumMake
import PyProof.WalksEnum
import PyProof.Rows.SortWalk
import PyProof.DictStraight
import PyProof.EqAt
import PyProof.Rows.SeqMore2
import KE.KAnyBase
import PyProof.Rows.SeqSlice
set_option linter.all false
set_option maxRecDepth 100000
set_option maxHeartbeats 8000000
abbrev Zz0:=@Option.bind_eq_some_iff
abbrev Zz1:=@Option.map_eq_some_iff
abbrev Zz2:=@List.mem_cons_of_mem
abbrev Zz3:=@List.mem_append_right
abbrev Zz4:=@List.mem_append_left
abbrev Zz5:=@List.mem_cons_self
abbrev Zz6:=@List.getElem?_eq_some_iff
abbrev Zz7:=@List.mem_cons
abbrev Zz8:=@List.mem_append
abbrev Zz9:=@List.mem_singleton
abbrev Zz10:=@Nat.le_refl
abbrev Zz11:=@List.mem_map
set_option Elab.async false
set_option compiler.extract_closed false
section
set_option autoImplicit false
/-! The plain machine: values as trees, lists as places; and how it stands for the model's heap. -/
namespace PM
open PySem PyProof.Rows
inductive V where
 | none
 | bool (b:Bool)
 | int (i:Int)
 | str (s:Str)
 | tup (vs:List V)
 | ref (a:Nat)
noncomputable abbrev Hp:=List (List V)
noncomputable abbrev Lc:=Nat→Option V
noncomputable def ZU: Nat:=100000
theorem Zaz: ZU=100000:=rfl
theorem Zbb{n:Nat}(h:n≤ZU): n≤sizeLine:=by
 have:sizeLine=2 ^ 24:=rfl
 rw[this];rw[Zaz]at h;omega
noncomputable abbrev Zb5(xs:List Value)(k:Nat): Obj:={ cls:=.type "tuple",data:=.seq xs.toArray k }
noncomputable abbrev ZaD(xs:List Value)(k:Nat): Obj:={ cls:=.type "list",data:=.seq xs.toArray k }
structure Wd where
 pi:List Addr
 tups:List (Addr×Obj)
 sc:Addr×Obj
structure Wd.Le(W W':Wd): Prop where
 pi:W.pi <+: W'.pi
 tups:∀q∈W.tups,q∈W'.tups
 sc:W'.sc=W.sc
theorem Wd.Le.refl(W:Wd): W.Le W:=⟨List.prefix_refl _,fun _ h=>h,rfl⟩
theorem Wd.Le.trans{W W' W'':Wd}(a:W.Le W')(b:W'.Le W''): W.Le W'':=⟨a.pi.trans b.pi,fun q h=>b.tups q (a.tups q h),b.sc.trans a.sc⟩
theorem Wd.Le.at{W W':Wd}(h:W.Le W'){i:Nat}{a:Addr}(e:W.pi[i]?=some a): W'.pi[i]?=some a:=by
 obtain⟨t,ht⟩:=h.pi
 have hi:i<W.pi.length:=(Zz6.mp e).1
 rw[←ht,List.getElem?_append_left hi]
 exact e
mutual
inductive VR(W:Wd): V→Value→Prop where
 | none:VR W .none .none
 | bool (b:Bool):VR W (.bool b) (.bool b)
 | int (i:Int) (t:Tok):VR W (.int i) (.int i t)
 | str (s:Str) (t:Tok):VR W (.str s) (.str s t)
 | tup {vs:List V} {a:Addr} {xs:List Value} {k:Nat}:(a,Zb5 xs k)∈W.tups→vs.length≤ZU→VRs W vs xs→VR W (.tup vs) (.ref a)
 | ref {i:Nat} {a:Addr}:W.pi[i]?=some a→VR W (.ref i) (.ref a)
inductive VRs(W:Wd): List V→List Value→Prop where
 | nil:VRs W [] []
 | cons {v:V} {x:Value} {vs:List V} {xs:List Value}:VR W v x→VRs W vs xs→VRs W (v::vs) (x::xs)
end
mutual
theorem VR.mono{W W':Wd}(h:W.Le W'){v:V}{x:Value}(r:VR W v x): VR W' v x:=by
 cases r with
 | none=>exact .none
 | bool b=>exact .bool b
 | int i t=>exact .int i t
 | str s t=>exact .str s t
 | tup hm hl hs=>exact .tup (h.tups _ hm) hl (VRs.mono h hs)
 | ref e=>exact .ref (h.at e)
theorem VRs.mono{W W':Wd}(h:W.Le W'){vs:List V}{xs:List Value}(r:VRs W vs xs): VRs W' vs xs:=by
 cases r with
 | nil=>exact .nil
 | cons a b=>exact .cons (VR.mono h a) (VRs.mono h b)
end
theorem VRs.length{W:Wd}: ∀{vs:List V} {xs:List Value},VRs W vs xs→xs.length=vs.length
 | _,_,.nil=>rfl
 | _,_,.cons _ r=>by rw[List.length_cons,List.length_cons,r.length]
theorem VRs.at{W:Wd}: ∀{vs:List V} {xs:List Value} {i:Nat} {v:V},VRs W vs xs→vs[i]?=some v→∃x,xs[i]?=some x∧VR W v x
 | _,_,_,_,.nil,e=>by simp at e
 | _,_,0,_,.cons a _,e=>by
  simp at e
  exact⟨_,by simp,e▸a⟩
 | _,_,i+1,_,.cons _ r,e=>by
  simp at e
  obtain⟨x,hx,hr⟩:=r.at e
  exact⟨x,by simpa using hx,hr⟩
theorem VRs.append{W:Wd}: ∀{vs us:List V} {xs ys:List Value},VRs W vs xs→VRs W us ys→VRs W (vs++us) (xs++ys)
 | _,_,_,_,.nil,h=>h
 | _,_,_,_,.cons a r,h=>.cons a (r.append h)
theorem VRs.snoc{W:Wd}{vs:List V}{xs:List Value}{v:V}{x:Value}(h:VRs W vs xs)(r:VR W v x): VRs W (vs++[v]) (xs++[x]):=h.append (.cons r .nil)
theorem VRs.set{W:Wd}: ∀{vs:List V} {xs:List Value} {v:V} {x:Value} (i:Nat),VRs W vs xs→VR W v x→VRs W (vs.set i v) (xs.set i x)
 | _,_,_,_,_,.nil,_=>.nil
 | _,_,_,_,0,.cons _ r,h=>.cons h r
 | _,_,_,_,i+1,.cons a r,h=>.cons a (r.set i h)
theorem VRs.drop{W:Wd}: ∀{vs:List V} {xs:List Value} (i:Nat),VRs W vs xs→VRs W (vs.drop i) (xs.drop i)
 | _,_,0,h=>h
 | _,_,_+1,.nil=>.nil
 | _,_,i+1,.cons _ r=>r.drop i
structure HR(W:Wd)(H:Hp)(led:List (Addr×Obj)): Prop where
 len:W.pi.length=H.length
 nd:W.pi.Nodup
 lists:∀(i:Nat) (vs:List V),H[i]?=some vs→vs.length≤ZU∧∃a xs k,W.pi[i]?=some a∧(a,ZaD xs k)∈led∧VRs W vs xs
 tups:∀q∈W.tups,q∈led
 kind:∀q∈W.tups,∃xs k,q.2=Zb5 xs k
theorem HR.mono{W:Wd}{H:Hp}{led led':List (Addr×Obj)}(R:HR W H led)(h:∀q∈led,q∈led'): HR W H led':=
 ⟨R.len,R.nd,fun i vs e=>by
  obtain⟨l,a,xs,k,h1,h2,h3⟩:=R.lists i vs e
  exact⟨l,a,xs,k,h1,h _ h2,h3⟩,fun q hq=>h q (R.tups q hq),R.kind⟩
structure Cx where
 A:Around
 env:Env
 h₀:Heap
 L:Addr
 hh:A.handled=none
 hu:A.units+200<cLine
 Own:Wd→Lc→(Str→Option Value)→List (Addr×Obj)→Prop
 mono:∀{W W':Wd} {ρ:Lc} {m:Str→Option Value} {c:List (Addr×Obj)},W.Le W'→Own W ρ m c→Own W' ρ m c
structure Rep'(Γ:Cx)(W:Wd)(ρ:Lc)(H:Hp)(fr:List (Addr×Obj))(h:Heap)(m:Str→Option Value)(cells led:List (Addr×Obj)): Prop where
 F:Fr Γ.h₀ Γ.L h m
 N:News Γ.h₀ Γ.L h led
 R:HR W H (W.sc::led)
 sc:Γ.h₀.get? W.sc.1=some W.sc.2
 sc0:W.pi[0]?=some W.sc.1
 frIn:∀q∈fr,q∈led
 frOff:∀q∈fr,q.1∉W.pi
 clIn:∀q∈cells,q∈led
 clOff:∀q∈cells,q.1∉W.pi
 apart:∀q∈cells,∀r∈fr,q.1≠r.1
 frTup:∀q∈fr,∀t∈W.tups,q.1≠t.1
 clTup:∀q∈cells,∀t∈W.tups,q.1≠t.1
 own:Γ.Own W ρ m cells
noncomputable def Rep(Γ:Cx)(W:Wd)(ρ:Lc)(H:Hp)(fr:List (Addr×Obj))(h:Heap): Prop:=∃m cells led,Rep' Γ W ρ H fr h m cells led
theorem Rep.grown{Γ:Cx}{W:Wd}{ρ:Lc}{H:Hp}{fr:List (Addr×Obj)}{h h':Heap}(r:Rep Γ W ρ H fr h)(up:∀b o,h.get? b=some o→h'.get? b=some o): Rep Γ W ρ H fr h':=by
 obtain⟨m,c,led,r⟩:=r
 refine⟨m,c,led,⟨⟨?_,fun b o e=>up b o (r.F.keep b o e),r.F.above⟩,fun q hq=>⟨up _ _ (r.N q hq).1,(r.N q hq).2⟩,r.R,r.sc,r.sc0,r.frIn,r.frOff,r.clIn,r.clOff,r.apart,r.frTup,r.clTup,r.own⟩⟩
 obtain⟨o,es,ep,h1,h2⟩:=r.F.ns
 exact⟨o,es,ep,up _ _ h1,h2⟩
theorem Rep.push{Γ:Cx}{W:Wd}{ρ:Lc}{H:Hp}{fr:List (Addr×Obj)}{h:Heap}(r:Rep Γ W ρ H fr h)(o:Obj): Rep Γ W ρ H fr (h.push o):=r.grown fun _ _ e=>Heap.get?_push_of_some _ e
theorem ZbR{q s:Addr×Obj}{l l':List (Addr×Obj)}(h:q∈s::l)(m:q∈l→q∈l'): q∈s::l':=by
 rcases Zz7.mp h with e | h
 ·exact e▸List.mem_cons_self
 ·exact Zz2 _ (m h)
theorem Zct{q s:Addr×Obj}{l l':List (Addr×Obj)}(h:q∈s::l)(m:∀x∈l,x∈l'): q∈s::l':=by
 rcases Zz7.mp h with e | h
 ·exact e▸List.mem_cons_self
 ·exact Zz2 _ (m q h)
theorem Rep'.get{Γ:Cx}{W:Wd}{ρ:Lc}{H:Hp}{fr:List (Addr×Obj)}{h:Heap}{m:Str→Option Value}{c led:List (Addr×Obj)}(r:Rep' Γ W ρ H fr h m c led){q:Addr×Obj}(hq:q∈W.sc::led): h.get? q.1=some q.2:=by
 rcases Zz7.mp hq with e | hq
 ·rw[e]
  exact r.F.keep _ _ r.sc
 ·exact(r.N q hq).1
theorem Rep'.off{Γ:Cx}{W:Wd}{ρ:Lc}{H:Hp}{fr:List (Addr×Obj)}{h:Heap}{m:Str→Option Value}{c led:List (Addr×Obj)}(r:Rep' Γ W ρ H fr h m c led): ∀q∈W.sc::led,q.1≠h.objs.size:=fun q hq=>Nat.ne_of_lt (Heap.lt_size (r.get hq))
theorem Rep'.piIn{Γ:Cx}{W:Wd}{ρ:Lc}{H:Hp}{fr:List (Addr×Obj)}{h:Heap}{m:Str→Option Value}{c led:List (Addr×Obj)}(r:Rep' Γ W ρ H fr h m c led): ∀a∈W.pi,∃o,(a,o)∈W.sc::led:=by
 intro a ha
 obtain⟨i,hi,e⟩:=List.getElem_of_mem ha
 have hi':i<H.length:=r.R.len▸hi
 obtain⟨_,b,xs,k,h1,h2,_⟩:=r.R.lists i H[i] (List.getElem?_eq_getElem hi')
 have:b=a:=by rw[List.getElem?_eq_getElem hi,e]at h1;exact(Option.some.inj h1).symm
 exact⟨_,this▸h2⟩
theorem Rep'.inLed{Γ:Cx}{W:Wd}{ρ:Lc}{H:Hp}{fr:List (Addr×Obj)}{h:Heap}{m:Str→Option Value}{c led:List (Addr×Obj)}(r:Rep' Γ W ρ H fr h m c led){i:Nat}{a:Addr}{o:Obj}(hi:i≠0)(ea:W.pi[i]?=some a)(hm:(a,o)∈W.sc::led): (a,o)∈led:=by
 rcases Zz7.mp hm with e | hm
 ·have e1:a=W.sc.1:=congrArg (·.1) e
  have hl:i<W.pi.length:=(Zz6.mp ea).1
  have:i=0:=(List.getElem?_inj hl r.R.nd).mp (by rw[ea,r.sc0,e1])
  exact absurd this hi
 ·exact hm
theorem Rep'.notSc{Γ:Cx}{W:Wd}{ρ:Lc}{H:Hp}{fr:List (Addr×Obj)}{h:Heap}{m:Str→Option Value}{c led:List (Addr×Obj)}(r:Rep' Γ W ρ H fr h m c led): ∀q∈led,q.1≠W.sc.1:=fun q hq e=>by
 have:=(r.N q hq).2.2
 rw[e,r.sc]at this
 cases this
theorem Rep'.newTup{Γ:Cx}{W:Wd}{ρ:Lc}{H:Hp}{fr:List (Addr×Obj)}{h h':Heap}{m:Str→Option Value}{c led:List (Addr×Obj)}{vs:List V}{xs:List Value}{k:Nat}{n:Addr}(r:Rep' Γ W ρ H fr h m c led)(F':Fr Γ.h₀ Γ.L h' m)(N':News Γ.h₀ Γ.L h' ((n,Zb5 xs k)::led))(hn:∀q∈W.sc::led,q.1≠n)(hv:VRs W vs xs)(hl:vs.length≤ZU):
  ∃W',W.Le W'∧Rep Γ W' ρ H fr h'∧VR W' (.tup vs) (.ref n):=by
 have le:W.Le ⟨W.pi,(n,Zb5 xs k)::W.tups,W.sc⟩:=⟨List.prefix_refl _,fun q hq=>List.mem_cons_of_mem _ hq,rfl⟩
 refine⟨⟨W.pi,(n,Zb5 xs k)::W.tups,W.sc⟩,le,⟨m,c,(n,Zb5 xs k)::led,⟨F',N',?_,r.sc,r.sc0,fun q hq=>List.mem_cons_of_mem _ (r.frIn q hq),r.frOff,fun q hq=>List.mem_cons_of_mem _ (r.clIn q hq),r.clOff,r.apart,fun q hq t ht=>?_,fun q hq t ht=>?_,Γ.mono le r.own⟩⟩,.tup Zz5 hl (hv.mono le)⟩
 ·refine⟨r.R.len,r.R.nd,fun i us e=>?_,fun q hq=>?_,fun q hq=>?_⟩
  ·obtain⟨l,a,ys,j,h1,h2,h3⟩:=r.R.lists i us e
   exact⟨l,a,ys,j,h1,Zct h2 fun x hx=>List.mem_cons_of_mem _ hx,h3.mono le⟩
  ·rcases Zz7.mp hq with e | hq
   ·exact e▸List.mem_cons_of_mem _ Zz5
   ·exact Zct (r.R.tups q hq) fun x hx=>List.mem_cons_of_mem _ hx
  ·rcases Zz7.mp hq with e | hq
   ·exact⟨xs,k,by rw[e]⟩
   ·exact r.R.kind q hq
 ·rcases Zz7.mp ht with e | ht
  ·rw[e]
   exact hn q (Zz2 _ (r.frIn q hq))
  ·exact r.frTup q hq t ht
 ·rcases Zz7.mp ht with e | ht
  ·rw[e]
   exact hn q (Zz2 _ (r.clIn q hq))
  ·exact r.clTup q hq t ht
theorem Rep.tuple{Γ:Cx}{W:Wd}{ρ:Lc}{H:Hp}{fr:List (Addr×Obj)}{h:Heap}{vs:List V}{xs:List Value}{k:Nat}(r:Rep Γ W ρ H fr h)(hv:VRs W vs xs)(hl:vs.length≤ZU):
  ∃W',W.Le W'∧Rep Γ W' ρ H fr (h.push (Zb5 xs k))∧VR W' (.tup vs) (.ref h.objs.size):=by
 obtain⟨m,c,led,r⟩:=r
 exact r.newTup (r.F.push _) (News.push r.F r.N _) r.off hv hl
theorem Rep'.newList{Γ:Cx}{W:Wd}{ρ:Lc}{H:Hp}{fr:List (Addr×Obj)}{h h':Heap}{m:Str→Option Value}{c led:List (Addr×Obj)}{vs:List V}{xs:List Value}{k:Nat}{n:Addr}(r:Rep' Γ W ρ H fr h m c led)(F':Fr Γ.h₀ Γ.L h' m)(N':News Γ.h₀ Γ.L h' ((n,ZaD xs k)::led))(hn:∀q∈W.sc::led,q.1≠n)(hv:VRs W vs xs)(hl:vs.length≤ZU):
  ∃W',W.Le W'∧Rep Γ W' ρ (H++[vs]) fr h'∧VR W' (.ref H.length) (.ref n):=by
 have le:W.Le ⟨W.pi++[n],W.tups,W.sc⟩:=⟨List.prefix_append _ _,fun q hq=>hq,rfl⟩
 have h0:0<W.pi.length:=(Zz6.mp r.sc0).1
 have at_n:(W.pi++[n])[H.length]?=some n:=by rw[←r.R.len];simp
 refine⟨⟨W.pi++[n],W.tups,W.sc⟩,le,⟨m,c,(n,ZaD xs k)::led,⟨F',N',?_,r.sc,(List.getElem?_append_left h0).trans r.sc0,fun q hq=>List.mem_cons_of_mem _ (r.frIn q hq),fun q hq=>?_,fun q hq=>List.mem_cons_of_mem _ (r.clIn q hq),fun q hq=>?_,r.apart,r.frTup,r.clTup,Γ.mono le r.own⟩⟩,.ref at_n⟩
 ·refine⟨by simp[r.R.len],?_,fun i us e=>?_,fun q hq=>Zct (r.R.tups q hq) fun x hx=>List.mem_cons_of_mem _ hx,r.R.kind⟩
  ·show(W.pi++[n]).Nodup
   rw[List.nodup_append]
   refine⟨r.R.nd,by simp,fun a ha b hb=>?_⟩
   rw[List.mem_singleton.mp hb]
   obtain⟨o,ho⟩:=r.piIn a ha
   exact hn _ ho
  ·by_cases hi:i<H.length
   ·rw[List.getElem?_append_left hi]at e
    obtain⟨l,a,ys,j,h1,h2,h3⟩:=r.R.lists i us e
    exact⟨l,a,ys,j,le.at h1,Zct h2 fun x hx=>List.mem_cons_of_mem _ hx,h3.mono le⟩
   ·have:i=H.length:=by
     have:=(Zz6.mp e).1
     simp at this
     omega
    subst this
    simp at e
    subst e
    exact⟨hl,n,xs,k,at_n,List.mem_cons_of_mem _ Zz5,hv.mono le⟩
 ·intro hm
  rcases Zz8.mp hm with hm | hm
  ·exact r.frOff q hq hm
  ·exact hn q (Zz2 _ (r.frIn q hq)) (Zz9.mp hm)
 ·intro hm
  rcases Zz8.mp hm with hm | hm
  ·exact r.clOff q hq hm
  ·exact hn q (Zz2 _ (r.clIn q hq)) (Zz9.mp hm)
theorem Rep.list{Γ:Cx}{W:Wd}{ρ:Lc}{H:Hp}{fr:List (Addr×Obj)}{h:Heap}{vs:List V}{xs:List Value}{k:Nat}(r:Rep Γ W ρ H fr h)(hv:VRs W vs xs)(hl:vs.length≤ZU):
  ∃W',W.Le W'∧Rep Γ W' ρ (H++[vs]) fr (h.push (ZaD xs k))∧VR W' (.ref H.length) (.ref h.objs.size):=by
 obtain⟨m,c,led,r⟩:=r
 exact r.newList (r.F.push _) (News.push r.F r.N _) r.off hv hl
theorem Rep.at{Γ:Cx}{W:Wd}{ρ:Lc}{H:Hp}{fr:List (Addr×Obj)}{h:Heap}{i:Nat}{a:Addr}{vs:List V}(r:Rep Γ W ρ H fr h)(e:H[i]?=some vs)(ea:W.pi[i]?=some a): vs.length≤ZU∧∃xs k,h.get? a=some (ZaD xs k)∧VRs W vs xs:=by
 obtain⟨m,c,led,r⟩:=r
 obtain⟨l,b,xs,k,h1,h2,h3⟩:=r.R.lists i vs e
 rw[ea]at h1
 cases h1
 exact⟨l,xs,k,r.get h2,h3⟩
theorem Rep.tupAt{Γ:Cx}{W:Wd}{ρ:Lc}{H:Hp}{fr:List (Addr×Obj)}{h:Heap}{q:Addr×Obj}(r:Rep Γ W ρ H fr h)(e:q∈W.tups): h.get? q.1=some q.2:=by
 obtain⟨m,c,led,r⟩:=r
 exact r.get (r.R.tups _ e)
theorem Rep'.changed{Γ:Cx}{W:Wd}{ρ:Lc}{H:Hp}{fr:List (Addr×Obj)}{h h':Heap}{m:Str→Option Value}{c led:List (Addr×Obj)}{i:Nat}{a:Addr}{vs us:List V}{ys:List Value}{k:Nat}(r:Rep' Γ W ρ H fr h m c led)(i0:i≠0)(e:H[i]?=some vs)(ea:W.pi[i]?=some a)(F':Fr Γ.h₀ Γ.L h' m)(N':News Γ.h₀ Γ.L h' ((a,ZaD ys k)::led.filter (fun q=>decide (q.1≠a))))(hv:VRs W us ys)(hl:us.length≤ZU):
  Rep Γ W ρ (H.set i us) fr h':=by
 obtain⟨_,b,xs,j,h1,h2,h3⟩:=r.R.lists i vs e
 rw[ea]at h1
 cases h1
 have h2:=r.inLed i0 ea h2
 have hN:=r.N _ h2
 have hm:a∈W.pi:=List.mem_of_getElem? ea
 have hi:i<H.length:=(Zz6.mp e).1
 refine⟨m,c,(a,ZaD ys k)::led.filter (fun q=>decide (q.1≠a)),⟨F',N',?_,r.sc,r.sc0,fun q hq=>?_,r.frOff,fun q hq=>?_,r.clOff,r.apart,r.frTup,r.clTup,r.own⟩⟩
 ·refine⟨by simp[r.R.len],r.R.nd,fun n ws en=>?_,fun q hq=>?_,r.R.kind⟩
  ·by_cases hn:n=i
   ·subst hn
    rw[List.getElem?_set_self hi]at en
    cases en
    exact⟨hl,a,ys,k,ea,List.mem_cons_of_mem _ Zz5,hv⟩
   ·rw[List.getElem?_set_ne (Ne.symm hn)]at en
    obtain⟨l,d,zs,j',g1,g2,g3⟩:=r.R.lists n ws en
    refine⟨l,d,zs,j',g1,ZbR g2 fun g2=>List.mem_cons_of_mem _ (List.mem_filter.mpr ⟨g2,?_⟩),g3⟩
    have:d≠a:=fun e=>by
     subst e
     exact hn ((List.getElem?_inj (Zz6.mp g1).1 r.R.nd).mp (g1.trans ea.symm))
    simpa using this
  ·refine ZbR (r.R.tups q hq) fun g2=>List.mem_cons_of_mem _ (List.mem_filter.mpr ⟨g2,?_⟩)
   have:q.1≠a:=fun e=>by
    obtain⟨zs,j',hk⟩:=r.R.kind q hq
    have g:=r.get (r.R.tups q hq)
    rw[e,hN.1,hk]at g
    have c:=congrArg Obj.cls (Option.some.inj g)
    exact absurd c (by simp)
   simpa using this
 ·refine Zz2 _ (List.mem_filter.mpr ⟨r.frIn q hq,?_⟩)
  have:q.1≠a:=fun e=>r.frOff q hq (e▸hm)
  simpa using this
 ·refine Zz2 _ (List.mem_filter.mpr ⟨r.clIn q hq,?_⟩)
  have:q.1≠a:=fun e=>r.clOff q hq (e▸hm)
  simpa using this
theorem Rep.change{Γ:Cx}{W:Wd}{ρ:Lc}{H:Hp}{fr:List (Addr×Obj)}{h h':Heap}{i:Nat}{a:Addr}{vs us:List V}{ys:List Value}{k:Nat}(r:Rep Γ W ρ H fr h)(i0:i≠0)(e:H[i]?=some vs)(ea:W.pi[i]?=some a)(sb:Heap.SameBut a h h')(ha:h'.get? a=some (ZaD ys k))(hv:VRs W us ys)(hl:us.length≤ZU):
  Rep Γ W ρ (H.set i us) fr h':=by
 obtain⟨m,c,led,r⟩:=r
 obtain⟨_,b,xs,j,h1,h2,h3⟩:=r.R.lists i vs e
 rw[ea]at h1
 cases h1
 have h2:=r.inLed i0 ea h2
 have hN:=r.N _ h2
 have keep:∀q∈led,q.1≠a→h'.get? q.1=some q.2:=fun q hq hn=>sb.extBut _ _ hn (r.N q hq).1
 refine r.changed (k:=k) i0 e ea ⟨r.F.ns.sameBut sb (Ne.symm hN.2.1),fun b o eb=>sb.extBut b o (fun q=>?_) (r.F.keep b o eb),r.F.above⟩ (fun q hq=>?_) hv hl
 ·subst q
  rw[hN.2.2]at eb
  cases eb
 ·rcases Zz7.mp hq with e | hq
  ·subst e
   exact⟨ha,hN.2⟩
  ·obtain⟨h1,h2⟩:=List.mem_filter.mp hq
   exact⟨keep q h1 (by simpa using h2),(r.N q h1).2⟩
theorem Rep.swap{Γ:Cx}{W:Wd}{ρ:Lc}{H:Hp}{fs fs' fr:List (Addr×Obj)}{h h':Heap}(r:Rep Γ W ρ H (fs++fr) h)(ap:∀q∈fs,∀t∈fr,q.1≠t.1)(keep:∀b o,b∉fs.map (·.1)→h.get? b=some o→h'.get? b=some o)(new:∀q∈fs',h'.get? q.1=some q.2∧q.1∈fs.map (·.1)): Rep Γ W ρ H (fs'++fr) h':=by
 obtain⟨m,c,led,r⟩:=r
 have inF:∀q∈fs,q∈fs++fr:=fun q hq=>List.mem_append_left _ hq
 have nL:∀a∈fs.map (·.1),a≠Γ.L∧Γ.h₀.get? a=none:=fun a ha=>by
  obtain⟨q,hq,e⟩:=Zz11.mp ha
  exact e▸(r.N q (r.frIn q (inF q hq))).2
 have kp:∀q∈led,q.1∉fs.map (·.1)→h'.get? q.1=some q.2:=fun q hq hn=>keep _ _ hn (r.N q hq).1
 refine⟨m,c,fs'++led.filter (fun q=>decide (q.1∉fs.map (·.1))),⟨⟨?_,fun b o e=>?_,r.F.above⟩,fun q hq=>?_,⟨r.R.len,r.R.nd,fun i vs e=>?_,fun q hq=>?_,r.R.kind⟩,r.sc,r.sc0,fun q hq=>?_,fun q hq=>?_,fun q hq=>?_,r.clOff,fun q hq t ht=>?_,fun q hq t ht=>?_,r.clTup,r.own⟩⟩
 ·obtain⟨o,es,ep,h1,h2⟩:=r.F.ns
  exact⟨o,es,ep,keep _ _ (fun q=>(nL _ q).1 rfl) h1,h2⟩
 ·refine keep b o (fun q=>?_) (r.F.keep b o e)
  rw[(nL b q).2]at e
  cases e
 ·rcases Zz8.mp hq with hq | hq
  ·obtain⟨h1,h2⟩:=new q hq
   exact⟨h1,nL _ h2⟩
  ·obtain⟨h1,h2⟩:=List.mem_filter.mp hq
   exact⟨kp q h1 (by simpa using h2),(r.N q h1).2⟩
 ·obtain⟨l,a,xs,k,h1,h2,h3⟩:=r.R.lists i vs e
  refine⟨l,a,xs,k,h1,ZbR h2 fun h2=>List.mem_append_right _ (List.mem_filter.mpr ⟨h2,?_⟩),h3⟩
  have:a∉fs.map (·.1):=fun q=>by
   obtain⟨t,ht,e⟩:=Zz11.mp q
   exact r.frOff t (inF t ht) (e▸List.mem_of_getElem? h1)
  simpa using this
 ·refine ZbR (r.R.tups q hq) fun h2=>List.mem_append_right _ (List.mem_filter.mpr ⟨h2,?_⟩)
  have:q.1∉fs.map (·.1):=fun z=>by
   obtain⟨t,ht,e⟩:=Zz11.mp z
   exact r.frTup t (inF t ht) q hq e
  simpa using this
 ·rcases Zz8.mp hq with hq | hq
  ·exact Zz4 _ hq
  ·refine Zz3 _ (List.mem_filter.mpr ⟨r.frIn q (Zz3 _ hq),?_⟩)
   have:q.1∉fs.map (·.1):=fun z=>by
    obtain⟨t,ht,e⟩:=Zz11.mp z
    exact ap t ht q hq e
   simpa using this
 ·rcases Zz8.mp hq with hq | hq
  ·obtain⟨t,ht,e⟩:=Zz11.mp (new q hq).2
   exact e▸r.frOff t (inF t ht)
  ·exact r.frOff q (Zz3 _ hq)
 ·refine Zz3 _ (List.mem_filter.mpr ⟨r.clIn q hq,?_⟩)
  have:q.1∉fs.map (·.1):=fun z=>by
   obtain⟨t,ht,e⟩:=Zz11.mp z
   exact r.apart q hq t (inF t ht) e.symm
  simpa using this
 ·rcases Zz8.mp ht with ht | ht
  ·obtain⟨u,hu,e⟩:=Zz11.mp (new t ht).2
   exact e▸r.apart q hq u (inF u hu)
  ·exact r.apart q hq t (Zz3 _ ht)
 ·rcases Zz8.mp hq with hq | hq
  ·obtain⟨u,hu,e⟩:=Zz11.mp (new q hq).2
   exact e▸r.frTup u (inF u hu) t ht
  ·exact r.frTup q (Zz3 _ hq) t ht
theorem Rep.more{Γ:Cx}{W:Wd}{ρ:Lc}{H:Hp}{fs fr:List (Addr×Obj)}{h h':Heap}(r:Rep Γ W ρ H fr h)(up:∀b o,h.get? b=some o→h'.get? b=some o)(new:∀q∈fs,h'.get? q.1=some q.2∧h.objs.size≤q.1): Rep Γ W ρ H (fs++fr) h'∧∀q∈fs,∀t∈fr,q.1≠t.1:=by
 have r':=r.grown up
 obtain⟨m,c,led,r⟩:=r
 have lt:∀q∈W.sc::led,q.1<h.objs.size:=fun q hq=>Heap.lt_size (r.get hq)
 have ne:∀q∈fs,∀t∈W.sc::led,q.1≠t.1:=fun q hq t ht=>Nat.ne_of_gt (Nat.lt_of_lt_of_le (lt t ht) (new q hq).2)
 refine⟨⟨m,c,fs++led,⟨⟨?_,fun b o e=>up b o (r.F.keep b o e),r.F.above⟩,fun q hq=>?_,r.R.mono fun q hq=>Zct hq fun x hx=>List.mem_append_right _ hx,r.sc,r.sc0,fun q hq=>?_,fun q hq=>?_,fun q hq=>List.mem_append_right _ (r.clIn q hq),r.clOff,fun q hq t ht=>?_,fun q hq t ht=>?_,r.clTup,r.own⟩⟩,fun q hq t ht=>ne q hq t (Zz2 _ (r.frIn t ht))⟩
 ·obtain⟨o,es,ep,h1,h2⟩:=r.F.ns
  exact⟨o,es,ep,up _ _ h1,h2⟩
 ·rcases Zz8.mp hq with hq | hq
  ·obtain⟨h1,h2⟩:=new q hq
   refine⟨h1,fun e=>?_,?_⟩
   ·exact absurd (e▸r.F.ns.lt) (Nat.not_lt.mpr h2)
   ·cases e:Γ.h₀.get? q.1 with
    | none=>rfl
    | some o=>exact absurd (Heap.lt_size (r.F.keep _ _ e)) (Nat.not_lt.mpr h2)
  ·exact⟨up _ _ (r.N q hq).1,(r.N q hq).2⟩
 ·rcases Zz8.mp hq with hq | hq
  ·exact Zz4 _ hq
  ·exact Zz3 _ (r.frIn q hq)
 ·rcases Zz8.mp hq with hq | hq
  ·intro hm
   obtain⟨o,ho⟩:=r.piIn _ hm
   exact ne q hq _ ho rfl
  ·exact r.frOff q hq
 ·rcases Zz8.mp ht with ht | ht
  ·exact(ne t ht q (Zz2 _ (r.clIn q hq))).symm
  ·exact r.apart q hq t ht
 ·rcases Zz8.mp hq with hq | hq
  ·exact ne q hq t (r.R.tups t ht)
  ·exact r.frTup q hq t ht
theorem Rep.less{Γ:Cx}{W:Wd}{ρ:Lc}{H:Hp}{fs fr:List (Addr×Obj)}{h:Heap}(r:Rep Γ W ρ H fs h)(sub:∀q∈fr,q∈fs): Rep Γ W ρ H fr h:=by
 obtain⟨m,c,led,r⟩:=r
 exact⟨m,c,led,⟨r.F,r.N,r.R,r.sc,r.sc0,fun q hq=>r.frIn q (sub q hq),fun q hq=>r.frOff q (sub q hq),r.clIn,r.clOff,fun q hq t ht=>r.apart q hq t (sub t ht),fun q hq=>r.frTup q (sub q hq),r.clTup,r.own⟩⟩
theorem Rep.frAt{Γ:Cx}{W:Wd}{ρ:Lc}{H:Hp}{fr:List (Addr×Obj)}{h:Heap}{q:Addr×Obj}(r:Rep Γ W ρ H fr h)(hq:q∈fr): h.get? q.1=some q.2:=by
 obtain⟨m,c,led,r⟩:=r
 exact(r.N q (r.frIn q hq)).1
end PM
end
section
set_option autoImplicit false
namespace PM
open PySem PyProof.Rows PyProof
noncomputable abbrev Ex:=Lc→Hp→Option (V×Hp)
noncomputable abbrev Exs:=Lc→Hp→Option (List V×Hp)
noncomputable abbrev Ts:=Lc→Hp→Option (Bool×Hp)
noncomputable abbrev ZdK(Γ:Cx)(W:Wd)(ρ:Lc)(H:Hp)(fr:List (Addr×Obj))(s:Shared)(Q:Value→Shared→Prop)(v:V): Prop:=
 ∀(W':Wd) (h':Heap) (tk':Nat) (x:Value),W.Le W'→Rep Γ W' ρ H fr h'→VR W' v x→Q x { s with heap:=h',toks:=tk' }
noncomputable abbrev ZdG(Γ:Cx)(W:Wd)(ρ:Lc)(H:Hp)(fr:List (Addr×Obj))(s:Shared)(Q:Bool→Shared→Prop)(b:Bool): Prop:=
 ∀(W':Wd) (h':Heap) (tk':Nat),W.Le W'→Rep Γ W' ρ H fr h'→Q b { s with heap:=h',toks:=tk' }
section
variable (prog:Program) (w:World)
noncomputable def J(Γ:Cx)(e:Expr)(f:Ex): Prop:=∀(W:Wd) (ρ:Lc) (H:Hp) (fr:List (Addr×Obj)) (s:Shared) (Q E:Value→Shared→Prop) (v:V) (H':Hp),
 Rep Γ W ρ H fr s.heap→f ρ H=some (v,H')→ZdK Γ W ρ H' fr s Q v→wpAny (model prog w) Γ.A (eval e Γ.env) Q E s
noncomputable def Js(Γ:Cx)(es:List Expr)(f:Exs): Prop:=∀(pos:Pos) (W:Wd) (ρ:Lc) (H:Hp) (fr:List (Addr×Obj)) (s:Shared) (Q:List Value→Shared→Prop) (E:Value→Shared→Prop) (vs:List V) (H':Hp),
 Rep Γ W ρ H fr s.heap→f ρ H=some (vs,H')→(∀(W':Wd) (h':Heap) (tk':Nat) (xs:List Value),W.Le W'→Rep Γ W' ρ H' fr h'→VRs W' vs xs→Q xs { s with heap:=h',toks:=tk' })→wpAny (model prog w) Γ.A (spliced (backTo pos (starEach es Γ.env))) Q E s
noncomputable def JT(Γ:Cx)(e:Expr)(f:Ts): Prop:=∀(W:Wd) (ρ:Lc) (H:Hp) (fr:List (Addr×Obj)) (s:Shared) (Q:Bool→Shared→Prop) (E:Value→Shared→Prop) (b:Bool) (H':Hp),
 Rep Γ W ρ H fr s.heap→f ρ H=some (b,H')→ZdG Γ W ρ H' fr s Q b→wpAny (model prog w) Γ.A (isTrue e Γ.env (eval e Γ.env)) Q E s
noncomputable def Op2(m:Value→Value→Sem Value)(o:V→V→Hp→Option (V×Hp)): Prop:=∀(Γ:Cx) (W:Wd) (ρ:Lc) (H:Hp) (fr:List (Addr×Obj)) (s:Shared) (Q E:Value→Shared→Prop) (a b:V) (x y:Value) (v:V) (H':Hp),
 Rep Γ W ρ H fr s.heap→VR W a x→VR W b y→o a b H=some (v,H')→ZdK Γ W ρ H' fr s Q v→wpAny (model prog w) Γ.A (m x y) Q E s
noncomputable def OpT(m:Value→Sem Bool)(o:V→Hp→Option Bool): Prop:=∀(Γ:Cx) (W:Wd) (ρ:Lc) (H:Hp) (fr:List (Addr×Obj)) (s:Shared) (Q:Bool→Shared→Prop) (E:Value→Shared→Prop) (a:V) (x:Value) (b:Bool),
 Rep Γ W ρ H fr s.heap→VR W a x→o a H=some b→ZdG Γ W ρ H fr s Q b→wpAny (model prog w) Γ.A (m x) Q E s
end
noncomputable def Zl(k:Int): Ex:=fun _ H=>some (.int k,H)
noncomputable def Zao: Ex:=fun _ H=>some (.none,H)
noncomputable def Zbj(b:Bool): Ex:=fun _ H=>some (.bool b,H)
noncomputable def Zaa(x:Str): Ex:=fun _ H=>some (.str x,H)
noncomputable def Zc(i:Nat): Ex:=fun ρ H=>(ρ i).map fun v=>(v,H)
noncomputable def Zf(o:V→V→Hp→Option (V×Hp))(f g:Ex): Ex:=fun ρ H=>(f ρ H).bind fun p=>(g ρ p.2).bind fun q=>o p.1 q.1 q.2
noncomputable def Zr: Exs:=fun _ H=>some ([],H)
noncomputable def Zh(f:Ex)(g:Exs): Exs:=fun ρ H=>(f ρ H).bind fun p=>(g ρ p.2).bind fun q=>some (p.1::q.1,q.2)
noncomputable def Zak(g:Exs): Ex:=fun ρ H=>(g ρ H).bind fun p=>if p.1.length≤ZU then some (.tup p.1,p.2)else none
noncomputable def Za2(g:Exs): Ex:=fun ρ H=>(g ρ H).bind fun p=>if p.1.length≤ZU then some (.ref p.2.length,p.2++[p.1])else none
noncomputable def ZdB: V→Hp→Option Bool
 | .bool b,_=>some b
 | .int i,_=>some (i != 0)
 | .none,_=>some false
 | _,_=>none
noncomputable def ZL(f:Ex): Ts:=fun ρ H=>(f ρ H).bind fun p=>(ZdB p.1 p.2).map fun b=>(b,p.2)
noncomputable def ZbS(t:Ts): Ts:=fun ρ H=>(t ρ H).map fun p=>(!p.1,p.2)
noncomputable def ZaG: Ts:=fun _ H=>some (true,H)
noncomputable def ZbX: Ts:=fun _ H=>some (false,H)
noncomputable def Za4(t u:Ts): Ts:=fun ρ H=>(t ρ H).bind fun p=>if p.1 then u ρ p.2 else some (false,p.2)
noncomputable def tOr(t u:Ts): Ts:=fun ρ H=>(t ρ H).bind fun p=>if p.1 then some (true,p.2)else u ρ p.2
noncomputable def Zcy(f g:Ex): Ex:=fun ρ H=>(f ρ H).bind fun p=>(ZdB p.1 p.2).bind fun b=>if b then g ρ p.2 else some p
section
variable {prog:Program} {w:World} {Γ:Cx}
theorem J.int(k:Int)(n:Nat)(pos:Pos): J prog w Γ (.Constant (.int k) n pos) (Zl k):=fun W ρ H fr s Q E v H' r e post=>by
 cases e
 exact wpAny_Constant_int (post W s.heap _ _ (.refl W) r (.int k _))
theorem J.none(n:Nat)(pos:Pos): J prog w Γ (.Constant .none n pos) Zao:=fun W ρ H fr s Q E v H' r e post=>by
 cases e
 exact wpAny_Constant_none (post W s.heap s.toks _ (.refl W) r .none)
theorem J.bool(b:Bool)(n:Nat)(pos:Pos): J prog w Γ (.Constant (.bool b) n pos) (Zbj b):=fun W ρ H fr s Q E v H' r e post=>by
 cases e
 exact wpAny_Constant_bool (post W s.heap s.toks _ (.refl W) r (.bool b))
theorem J.str(x:Str)(n:Nat)(pos:Pos): J prog w Γ (.Constant (.str x) n pos) (Zaa x):=fun W ρ H fr s Q E v H' r e post=>by
 cases e
 exact wpAny_Constant_str (post W s.heap _ _ (.refl W) r (.str x _))
theorem Zp{e1 e2:Expr}{op:Operator}{pos:Pos}{f g:Ex}{o:V→V→Hp→Option (V×Hp)}(h1:J prog w Γ e1 f)(h2:J prog w Γ e2 g)(ho:Op2 prog w (binaryOp op) o): J prog w Γ (.BinOp e1 op e2 pos) (Zf o f g):=by
 intro W ρ H fr s Q E v H' r hf post
 obtain⟨p,e1,hf⟩:=Zz0.mp hf
 obtain⟨q,e2,e3⟩:=Zz0.mp hf
 refine wpAny_BinOp (h1 W ρ H fr s _ E _ _ r e1 fun W1 k1 t1 x l1 r1 x1=>?_)
 refine h2 W1 ρ _ fr _ _ E _ _ r1 e2 fun W2 k2 t2 y l2 r2 y2=>?_
 exact ho Γ W2 ρ _ fr _ Q E _ _ x y v H' r2 (x1.mono l2) y2 e3 fun W3 k3 t3 z l3 r3 z3=>post W3 k3 t3 z ((l1.trans l2).trans l3) r3 z3
theorem Zbe{e1 e2:Expr}{op:CmpOp}{pos:Pos}{f g:Ex}{o:V→V→Hp→Option (V×Hp)}(h1:J prog w Γ e1 f)(h2:J prog w Γ e2 g)(ho:Op2 prog w (compareOp op) o)(hm:behindInMarks op e2=false:=by with_unfolding_all rfl): J prog w Γ (.Compare e1 [op] [e2] pos) (Zf o f g):=by
 intro W ρ H fr s Q E v H' r hf post
 obtain⟨p,e1,hf⟩:=Zz0.mp hf
 obtain⟨q,e2,e3⟩:=Zz0.mp hf
 refine wpAny_Compare1 (h1 W ρ H fr s _ E _ _ r e1 fun W1 k1 t1 x l1 r1 x1=>?_) hm
 refine h2 W1 ρ _ fr _ _ E _ _ r1 e2 fun W2 k2 t2 y l2 r2 y2=>?_
 exact ho Γ W2 ρ _ fr _ Q E _ _ x y v H' r2 (x1.mono l2) y2 e3 fun W3 k3 t3 z l3 r3 z3=>post W3 k3 t3 z ((l1.trans l2).trans l3) r3 z3
theorem Ze8: OpT prog w truthy ZdB:=by
 intro Γ W ρ H fr s Q E a x b r hx ho post
 cases hx with
 | none=>cases ho;exact truthy_none (post W s.heap s.toks (.refl W) r)
 | bool c=>cases ho;exact fun _ _ _=>post W s.heap s.toks (.refl W) r
 | int i t=>cases ho;exact P.truthy_int (post W s.heap s.toks (.refl W) r)
 | str _ _=>cases ho
 | tup _ _ _=>cases ho
 | ref _=>cases ho
theorem Zgq{e1 e2:Expr}{pos:Pos}{f g:Ex}(h1:J prog w Γ e1 f)(h2:J prog w Γ e2 g): J prog w Γ (.BoolOp .And [e1,e2] pos) (Zcy f g):=by
 intro W ρ H fr s Q E v H' r hf post
 obtain⟨p,e1,hf⟩:=Zz0.mp hf
 obtain⟨b,e2,e3⟩:=Zz0.mp hf
 refine wpAny_And2 (h1 W ρ H fr s _ E _ _ r e1 fun W1 k1 t1 x l1 r1 x1=>?_)
 refine Ze8 Γ W1 ρ _ fr _ _ E _ x b r1 x1 e2 fun W2 k2 t2 l2 r2=>?_
 cases b with
 | true=>exact h2 W2 ρ _ fr _ Q E v H' r2 e3 fun W3 k3 t3 z l3 r3 z3=>post W3 k3 t3 z ((l1.trans l2).trans l3) r3 z3
 | false=>
  cases e3
  exact post W2 k2 t2 x (l1.trans l2) r2 (x1.mono l2)
theorem Zs: Js prog w Γ [] Zr:=fun pos W ρ H fr s Q E vs H' r hf post=>by
 cases hf
 exact wpAny_items_nil (post W s.heap s.toks [] (.refl W) r .nil)
theorem Zj{e:Expr}{es:List Expr}{f:Ex}{g:Exs}(h1:J prog w Γ e f)(h2:Js prog w Γ es g)(he:starEach (e::es) Γ.env=(false,eval e Γ.env)::starEach es Γ.env:=by rfl): Js prog w Γ (e::es) (Zh f g):=by
 intro pos W ρ H fr s Q E vs H' r hf post
 obtain⟨p,e1,hf⟩:=Zz0.mp hf
 obtain⟨q,e2,e3⟩:=Zz0.mp hf
 cases e3
 refine wpAny_items_cons (h1 W ρ H fr s _ E _ _ r e1 fun W1 k1 t1 x l1 r1 x1=>?_) he
 exact h2 pos W1 ρ _ fr _ _ E _ _ r1 e2 fun W2 k2 t2 ys l2 r2 y2=>post W2 k2 t2 _ (l1.trans l2) r2 (.cons (x1.mono l2) y2)
theorem J.tup{es:List Expr}{k:Nat}{pos:Pos}{g:Exs}(h:Js prog w Γ es g): J prog w Γ (.Tuple es k pos) (Zak g):=by
 intro W ρ H fr s Q E v H' r hf post
 obtain⟨p,e1,hf⟩:=Zz0.mp hf
 by_cases hl:p.1.length≤ZU
 ·rw[if_pos hl]at hf
  cases hf
  refine wpAny_Tuple (h pos W ρ H fr s _ E _ _ r e1 fun W1 k1 t1 xs l1 r1 x1=>⟨Zbb (by rw[x1.length];exact hl),?_⟩)
  obtain⟨W2,l2,r2,v2⟩:=r1.tuple (k:=0) x1 hl
  exact post W2 _ _ _ (l1.trans l2) r2 v2
 ·rw[if_neg hl]at hf
  cases hf
theorem J.list{es:List Expr}{pos:Pos}{g:Exs}(h:Js prog w Γ es g): J prog w Γ (.List es pos) (Za2 g):=by
 intro W ρ H fr s Q E v H' r hf post
 obtain⟨p,e1,hf⟩:=Zz0.mp hf
 by_cases hl:p.1.length≤ZU
 ·rw[if_pos hl]at hf
  cases hf
  refine wpAny_List (h pos W ρ H fr s _ E _ _ r e1 fun W1 k1 t1 xs l1 r1 x1=>⟨Zbb (by rw[x1.length];exact hl),?_⟩)
  obtain⟨W2,l2,r2,v2⟩:=r1.list (k:=0) x1 hl
  exact post W2 _ _ _ (l1.trans l2) r2 v2
 ·rw[if_neg hl]at hf
  cases hf
theorem ZcV{e:Expr}{pos:Pos}{t:Ts}(h:JT prog w Γ e t): JT prog w Γ (.UnaryOp .Not e pos) (ZbS t):=by
 intro W ρ H fr s Q E b H' r hf post
 obtain⟨p,e1,e2⟩:=Zz1.mp hf
 cases e2
 exact isTrue_not (h W ρ H fr s _ E _ _ r e1 post)
noncomputable def JA(prog:Program)(w:World)(Γ:Cx)(op:BoolOp)(es:List Expr)(f:Ts): Prop:=∀(W:Wd) (ρ:Lc) (H:Hp) (fr:List (Addr×Obj)) (s:Shared) (Q:Bool→Shared→Prop) (E:Value→Shared→Prop) (b:Bool) (H':Hp),
 Rep Γ W ρ H fr s.heap→f ρ H=some (b,H')→ZdG Γ W ρ H' fr s Q b→wpAny (model prog w) Γ.A (allTrue op es Γ.env) Q E s
theorem Zdk: JA prog w Γ .And [] ZaG:=fun W ρ H fr s Q E b H' r hf post=>by
 cases hf
 exact wpAny_allTrue_And_nil (post W s.heap s.toks (.refl W) r)
theorem Zdn: JA prog w Γ .Or [] ZbX:=fun W ρ H fr s Q E b H' r hf post=>by
 cases hf
 exact wpAny_allTrue_Or_nil (post W s.heap s.toks (.refl W) r)
theorem ZbD{e:Expr}{es:List Expr}{t u:Ts}(h1:JT prog w Γ e t)(h2:JA prog w Γ .And es u): JA prog w Γ .And (e::es) (Za4 t u):=by
 intro W ρ H fr s Q E b H' r hf post
 obtain⟨p,e1,hf⟩:=Zz0.mp hf
 refine wpAny_allTrue_And_cons (h1 W ρ H fr s _ E _ _ r e1 fun W1 k1 t1 l1 r1=>?_)
 obtain⟨c,H1⟩:=p
 cases c with
 | true=>exact h2 W1 ρ _ fr _ Q E b H' r1 hf fun W3 k3 t3 l3 r3=>post W3 k3 t3 (l1.trans l3) r3
 | false=>
  cases hf
  exact post W1 k1 t1 l1 r1
theorem ZbE{e:Expr}{es:List Expr}{t u:Ts}(h1:JT prog w Γ e t)(h2:JA prog w Γ .Or es u): JA prog w Γ .Or (e::es) (tOr t u):=by
 intro W ρ H fr s Q E b H' r hf post
 obtain⟨p,e1,hf⟩:=Zz0.mp hf
 refine wpAny_allTrue_Or_cons (h1 W ρ H fr s _ E _ _ r e1 fun W1 k1 t1 l1 r1=>?_)
 obtain⟨c,H1⟩:=p
 cases c with
 | false=>exact h2 W1 ρ _ fr _ Q E b H' r1 hf fun W3 k3 t3 l3 r3=>post W3 k3 t3 (l1.trans l3) r3
 | true=>
  cases hf
  exact post W1 k1 t1 l1 r1
theorem ZbF{op:BoolOp}{es:List Expr}{pos:Pos}{t:Ts}(h:JA prog w Γ op es t): JT prog w Γ (.BoolOp op es pos) t:=fun W ρ H fr s Q E b H' r hf post=>wpAny_isTrue_BoolOp (h W ρ H fr s Q E b H' r hf post)
theorem ZbH{e:Expr}{f:Ex}(h:J prog w Γ e f)(he:isTrue e Γ.env (eval e Γ.env)=(do let v ←eval e Γ.env;standAt e.pos;holding [v] (truthy v)):=by rfl): JT prog w Γ e (ZL f):=by
 intro W ρ H fr s Q E b H' r hf post
 obtain⟨p,e1,hf⟩:=Zz0.mp hf
 obtain⟨c,e2,e3⟩:=Zz1.mp hf
 cases e3
 refine isTrue_plain (h W ρ H fr s _ E _ _ r e1 fun W1 k1 t1 x l1 r1 x1=>?_) he
 exact Ze8 Γ W1 ρ _ fr _ _ E _ x b r1 x1 e2 fun W2 k2 t2 l2 r2=>post W2 k2 t2 (l1.trans l2) r2
theorem Z0{e1 e2:Expr}{op:CmpOp}{pos:Pos}{f g:Ex}{o:V→V→Hp→Option (V×Hp)}(h1:J prog w Γ e1 f)(h2:J prog w Γ e2 g)(ho:Op2 prog w (compareOp op) o)(hm:behindInMarks op e2=false:=by with_unfolding_all rfl): JT prog w Γ (.Compare e1 [op] [e2] pos) (ZL (Zf o f g)):=by
 intro W ρ H fr s Q E b H' r hf post
 obtain⟨pp,e0,hf0⟩:=Zz0.mp hf
 obtain⟨c,e4,e5⟩:=Zz1.mp hf0
 cases e5
 obtain⟨p,e1,hf⟩:=Zz0.mp e0
 obtain⟨q,e2,e3⟩:=Zz0.mp hf
 refine wpAny_isTrue_Compare1 (h1 W ρ H fr s _ E _ _ r e1 fun W1 k1 t1 x l1 r1 x1=>?_) hm
 refine h2 W1 ρ _ fr _ _ E _ _ r1 e2 fun W2 k2 t2 y l2 r2 y2=>?_
 refine ho Γ W2 ρ _ fr _ _ E _ _ x y _ _ r2 (x1.mono l2) y2 e3 fun W3 k3 t3 z l3 r3 z3=>?_
 exact Ze8 Γ W3 ρ _ fr _ _ E _ z b r3 z3 e4 fun W4 k4 t4 l4 r4=>post W4 k4 t4 (((l1.trans l2).trans l3).trans l4) r4
end
end PM
end
section
set_option autoImplicit false
namespace PM
open PySem PyProof.Rows PyProof
noncomputable def mulOk(a b:Int): Bool:=!(decide (Builtin.Int.intBits a>shortFactorBits) && decide (Builtin.Int.intBits b>shortFactorBits) && Builtin.Int.intTooBig (Builtin.Int.intBits a+Builtin.Int.intBits b))
theorem Zhy{a b:Int}(h:mulOk a b=true): IntMulOk a b:=by
 unfold mulOk at h
 unfold IntMulOk
 intro c
 rw[c]at h
 cases h
noncomputable def Zau: V→V→Hp→Option (V×Hp)
 | .int a,.int b,H=>some (.int (a-b),H)
 | _,_,_=>none
noncomputable def oDiv: V→V→Hp→Option (V×Hp)
 | .int a,.int b,H=>if b≠0∧Builtin.divisionGoesByPylong a b=false then some (.int (a.fdiv b),H)else none
 | _,_,_=>none
noncomputable def oMod: V→V→Hp→Option (V×Hp)
 | .int a,.int b,H=>if b≠0 then some (.int (a.fmod b),H)else none
 | _,_,_=>none
noncomputable def oPow: V→V→Hp→Option (V×Hp)
 | .int a,.int b,H=>if 0≤b∧(Builtin.Int.intBits a:Int)*b≤2 ^ 27 then some (.int (a ^ b.toNat),H)else none
 | _,_,_=>none
noncomputable def Zgv(p:Int→Int→Bool): V→V→Hp→Option (V×Hp)
 | .int a,.int b,H=>some (.bool (p a b),H)
 | _,_,_=>none
noncomputable def oLt:=Zgv fun a b=>decide (a<b)
section
variable {prog:Program} {w:World}
theorem ZaA: Op2 prog w (binaryOp .Sub) Zau:=by
 intro Γ W ρ H fr s Q E a b x y v H' r hx hy ho post
 cases hx <;> first | (cases ho;done) | skip
 cases hy <;> first | (cases ho;done) | skip
 cases ho
 exact PySem.P.sub_int (post W s.heap _ _ (.refl W) r (.int _ _))
theorem ok_mod: Op2 prog w (binaryOp .Mod) oMod:=by
 intro Γ W ρ H fr s Q E a b x y v H' r hx hy ho post
 cases hx <;> first | (cases ho;done) | skip
 cases hy <;> first | (cases ho;done) | skip
 rename_i i t j u
 simp only[oMod]at ho
 by_cases hb:j≠0
 ·rw[if_pos hb]at ho
  cases ho
  exact mod_int' hb (post W s.heap _ _ (.refl W) r (.int _ _))
 ·rw[if_neg hb]at ho
  cases ho
theorem ZaT: Op2 prog w (binaryOp .FloorDiv) oDiv:=by
 intro Γ W ρ H fr s Q E a b x y v H' r hx hy ho post
 cases hx <;> first | (cases ho;done) | skip
 cases hy <;> first | (cases ho;done) | skip
 rename_i i t j u
 simp only[oDiv]at ho
 by_cases hb:j≠0∧Builtin.divisionGoesByPylong i j=false
 ·rw[if_pos hb]at ho
  cases ho
  exact floordiv_int hb.1 (post W s.heap _ _ (.refl W) r (.int _ _)) (.inl hb.2)
 ·rw[if_neg hb]at ho
  cases ho
theorem Zbc: Op2 prog w (binaryOp .Pow) oPow:=by
 intro Γ W ρ H fr s Q E a b x y v H' r hx hy ho post
 cases hx <;> first | (cases ho;done) | skip
 cases hy <;> first | (cases ho;done) | skip
 rename_i i t j u
 simp only[oPow]at ho
 by_cases hb:0≤j∧(Builtin.Int.intBits i:Int)*j≤2 ^ 27
 ·rw[if_pos hb]at ho
  cases ho
  exact pow_int hb.1 hb.2 (post W s.heap _ _ (.refl W) r (.int _ _))
 ·rw[if_neg hb]at ho
  cases ho
theorem Ze9: Op2 prog w (compareOp .Lt) oLt:=by
 intro Γ W ρ H fr s Q E a b x y v H' r hx hy ho post
 cases hx <;> first | (cases ho;done) | skip
 cases hy <;> first | (cases ho;done) | skip
 cases ho
 exact PySem.P.lt_int (post W s.heap s.toks _ (.refl W) r (.bool _))
end
end PM
end
section
set_option autoImplicit false
namespace PM
open PySem PyProof.Rows PyProof
noncomputable def Zcz(f:V→Option PyData): List V→Option (List PyData)
 | []=>some []
 | v::vs=>(f v).bind fun d=>(Zcz f vs).bind fun ds=>some (d::ds)
noncomputable def toD(H:Hp): Nat→V→Option PyData
 | _,.none=>some .none
 | _,.bool b=>some (.bool b)
 | _,.int i=>some (.int i)
 | _,.str x=>some (.str x)
 | n+1,.tup vs=>(Zcz (toD H n) vs).map .tuple
 | n+1,.ref a=>H[a]?.bind fun vs=>(Zcz (toD H n) vs).map .list
 | 0,.tup _=>none
 | 0,.ref _=>none
theorem Zej{W:Wd}{h:Heap}{f:V→Option PyData}(ih:∀v x d,VR W v x→f v=some d→∃as,Reads h x d as): ∀{vs:List V} {xs:List Value} {ds:List PyData},VRs W vs xs→Zcz f vs=some ds→∃as,ReadsAll h xs ds as
 | _,_,_,.nil,e=>by
  cases e
  exact⟨_,.nil⟩
 | _,_,_,.cons a r,e=>by
  obtain⟨d,e1,e⟩:=Zz0.mp e
  obtain⟨ds,e2,e3⟩:=Zz0.mp e
  cases e3
  obtain⟨as,h1⟩:=ih _ _ _ a e1
  obtain⟨bs,h2⟩:=Zej ih r e2
  exact⟨_,.cons h1 h2⟩
theorem Zch{Γ:Cx}{W:Wd}{ρ:Lc}{H:Hp}{fr:List (Addr×Obj)}{h:Heap}(r:Rep Γ W ρ H fr h): ∀(n:Nat) (v:V) (x:Value) (d:PyData),VR W v x→toD H n v=some d→∃as,Reads h x d as:=by
 intro n
 induction n with
 | zero=>
  intro v x d hv e
  cases hv with
  | none=>cases e;exact⟨_,.none⟩
  | bool b=>cases e;exact⟨_,.bool b⟩
  | int i t=>cases e;exact⟨_,.int i t⟩
  | str y t=>cases e;exact⟨_,.str y t⟩
  | tup _ _ _=>cases e
  | ref _=>cases e
 | succ n ih=>
  intro v x d hv e
  cases hv with
  | none=>cases e;exact⟨_,.none⟩
  | bool b=>cases e;exact⟨_,.bool b⟩
  | int i t=>cases e;exact⟨_,.int i t⟩
  | str y t=>cases e;exact⟨_,.str y t⟩
  | @tup vs a xs k hm hl hs=>
   obtain⟨ds,e1,e2⟩:=Zz1.mp e
   subst e2
   obtain⟨as,h1⟩:=Zej ih hs e1
   exact⟨_,.tuple (r.tupAt hm) rfl rfl (by simpa using h1)⟩
  | @ref i a ea=>
   obtain⟨vs,e0,e⟩:=Zz0.mp e
   obtain⟨ds,e1,e2⟩:=Zz1.mp e
   subst e2
   obtain⟨hl,xs,k,hg,hs⟩:=r.at e0 ea
   obtain⟨as,h1⟩:=Zej ih hs e1
   exact⟨_,.list hg rfl rfl (by simpa using h1)⟩
noncomputable def Zav: Nat:=8
noncomputable def ZdL(a b:V)(H:Hp): Option Bool:=(toD H Zav a).bind fun d=>(toD H Zav b).bind fun e=>if SeqAt.shaped d=true∧SeqAt.shaped e=true then some (PyData.eqv d e)else none
noncomputable def oEq(a b:V)(H:Hp): Option (V×Hp):=(ZdL a b H).map fun c=>(.bool c,H)
noncomputable def oNe(a b:V)(H:Hp): Option (V×Hp):=(ZdL a b H).map fun c=>(.bool (!c),H)
noncomputable def oIs: V→V→Hp→Option (V×Hp)
 | .none,.none,H=>some (.bool true,H)
 | .bool _,.none,H=>some (.bool false,H)
 | .int _,.none,H=>some (.bool false,H)
 | .str _,.none,H=>some (.bool false,H)
 | .tup _,.none,H=>some (.bool false,H)
 | .ref _,.none,H=>some (.bool false,H)
 | _,_,_=>none
noncomputable def ZeV(a b:V)(H:Hp): Option (V×Hp):=(oIs a b H).bind fun p=>match p.1 with | .bool c=>some (.bool (!c),p.2) | _=>none
section
variable {prog:Program} {w:World}
theorem Zad: Op2 prog w (compareOp .Eq) oEq:=by
 intro Γ W ρ H fr s Q E a b x y v H' r hx hy ho post
 obtain⟨c,e1,e2⟩:=Zz1.mp ho
 cases e2
 obtain⟨d,h1,e1⟩:=Zz0.mp e1
 obtain⟨e,h2,e1⟩:=Zz0.mp e1
 by_cases hs:SeqAt.shaped d=true∧SeqAt.shaped e=true
 ·rw[if_pos hs]at e1
  cases e1
  obtain⟨as,R1⟩:=Zch r Zav a x d hx h1
  obtain⟨bs,R2⟩:=Zch r Zav b y e hy h2
  exact eq_dataH R1 R2 hs.1 hs.2 (by have:=Γ.hu;omega) (post W s.heap s.toks _ (.refl W) r (.bool _))
 ·rw[if_neg hs]at e1
  cases e1
theorem Zfa: Op2 prog w (compareOp .NotEq) oNe:=by
 intro Γ W ρ H fr s Q E a b x y v H' r hx hy ho post
 obtain⟨c,e1,e2⟩:=Zz1.mp ho
 cases e2
 obtain⟨d,h1,e1⟩:=Zz0.mp e1
 obtain⟨e,h2,e1⟩:=Zz0.mp e1
 by_cases hs:SeqAt.shaped d=true∧SeqAt.shaped e=true
 ·rw[if_pos hs]at e1
  cases e1
  obtain⟨as,R1⟩:=Zch r Zav a x d hx h1
  obtain⟨bs,R2⟩:=Zch r Zav b y e hy h2
  exact ne_dataH R1 R2 hs.1 hs.2 (by have:=Γ.hu;omega) (post W s.heap s.toks _ (.refl W) r (.bool _))
 ·rw[if_neg hs]at e1
  cases e1
theorem Za3: Op2 prog w (compareOp .Is) oIs:=by
 intro Γ W ρ H fr s Q E a b x y v H' r hx hy ho post
 cases hy <;> first | (cases hx <;> cases ho;done) | skip
 refine PySem.is_none ?_
 cases hx <;> (cases ho;exact post W s.heap s.toks _ (.refl W) r (.bool _))
theorem Zhz: Op2 prog w (compareOp .IsNot) ZeV:=by
 intro Γ W ρ H fr s Q E a b x y v H' r hx hy ho post
 cases hy <;> first | (cases hx <;> cases ho;done) | skip
 refine PySem.isNot_none ?_
 cases hx <;> (cases ho;exact post W s.heap s.toks _ (.refl W) r (.bool _))
end
end PM
end
section
set_option autoImplicit false
namespace PM
open PySem PyProof.Rows PyProof
noncomputable def Zx: V→V→Hp→Option (V×Hp)
 | .ref a,.int k,H=>H[a]?.bind fun vs=>(seqIndex? k vs.length).bind fun j=>vs[j]?.map fun v=>(v,H)
 | .tup vs,.int k,H=>(seqIndex? k vs.length).bind fun j=>vs[j]?.map fun v=>(v,H)
 | _,_,_=>none
theorem Zfu{k:Int}{n j:Nat}(h:seqIndex? k n=some j): j<n∧(k:Int)<n∧-(n:Int)≤k∧(0≤k→k.toNat=j)∧(k<0→(k+n).toNat=j):=by
 unfold seqIndex? at h
 by_cases c:k<0
 ·simp only[c,if_true]at h
  split at h
  ·rename_i d
   simp at d h
   omega
  ·cases h
 ·simp only[c,if_false]at h
  split at h
  ·rename_i d
   simp at d h
   omega
  ·cases h
section
variable {prog:Program} {w:World} {Γ:Cx}
theorem ZB{e1 e2:Expr}{pos:Pos}{f g:Ex}(h1:J prog w Γ e1 f)(h2:J prog w Γ e2 g)(hs:∀a k u,subscripted e2 false (.ref a) (.int k u)=operate [.ref a,.int k u] (getItem (.ref a) (.int k u)):=by intros;with_unfolding_all rfl): J prog w Γ (.Subscript e1 e2 pos) (Zf Zx f g):=by
 intro W ρ H fr s Q E v H' r hf post
 obtain⟨p,e1,hf⟩:=Zz0.mp hf
 obtain⟨q,e2,e3⟩:=Zz0.mp hf
 refine Subscript_ (h1 W ρ H fr s _ E _ _ r e1 fun W1 k1 t1 x l1 r1 x1=>?_)
 refine h2 W1 ρ _ fr _ _ E _ _ r1 e2 fun W2 k2 t2 y l2 r2 y2=>?_
 have x2:=x1.mono l2
 obtain⟨v1,H1⟩:=p
 obtain⟨v2,H2⟩:=q
 simp only at e3 r2 x2 y2
 cases y2 <;> first | (cases x2 <;> cases e3;done) | skip
 rename_i k u
 cases x2 <;> first | (cases e3;done) | skip
 ·rename_i vs a xs kk hm hl hv
  obtain⟨j,hj,e4⟩:=Zz0.mp e3
  obtain⟨z,hz,e5⟩:=Zz1.mp e4
  cases e5
  obtain⟨z',hz',rz⟩:=hv.at hz
  have hx:xs.length=vs.length:=hv.length
  have hb:=Zfu hj
  rw[Zaz]at hl
  have it:IsTup k2 a xs.toArray:=⟨_,r2.tupAt hm,rfl,kk,rfl⟩
  exact item_tupleT it (by omega) (by omega) (by rw[hx];exact hj) hz' (post W2 k2 t2 z' (l1.trans l2) r2 rz) (hs _ _ _)
 ·rename_i i a ea
  obtain⟨vs,hvs,e3⟩:=Zz0.mp e3
  obtain⟨j,hj,e4⟩:=Zz0.mp e3
  obtain⟨z,hz,e5⟩:=Zz1.mp e4
  cases e5
  obtain⟨hl,xs,kk,hg,hv⟩:=r2.at hvs ea
  obtain⟨z',hz',rz⟩:=hv.at hz
  have hx:xs.length=vs.length:=hv.length
  have hb:=Zfu hj
  rw[Zaz]at hl
  have isl:k2.IsList a xs.toArray:=⟨_,hg,rfl,kk,rfl⟩
  refine tail_any (s:={ s with heap:=k2,toks:=t2 }) isl.typeIs slot_list_getitem.lookup ?_ (hs _ _ _)
  by_cases hk:0≤k
  ·exact wpAny_getItem_list isl hk (by omega) (by rw[hb.2.2.2.1 hk];simpa using hz') (post W2 k2 t2 z' (l1.trans l2) r2 rz)
  ·refine wpAny_getItem_list_neg isl (by omega) (by simp;omega) (by omega) ?_ (post W2 k2 t2 z' (l1.trans l2) r2 rz)
   have:=hb.2.2.2.2 (by omega)
   rw[←hx]at this
   simpa [this]using hz'
end
noncomputable def ZaH{α:Type}(vs:List α)(lo hi:Option Int): List α:=(sliceRange (sliceBounds lo hi none vs.length).1 (sliceBounds lo hi none vs.length).2.1 (sliceBounds lo hi none vs.length).2.2).filterMap fun i=>vs[i]?
theorem VRs.pick{W:Wd}{vs:List V}{xs:List Value}(h:VRs W vs xs)(l:List Nat): VRs W (l.filterMap fun i=>vs[i]?) (l.filterMap fun i=>xs[i]?):=by
 induction l with
 | nil=>exact .nil
 | cons i l ih=>
  simp only[List.filterMap_cons]
  have hl:=h.length
  cases e:vs[i]? with
  | none=>
   have:xs[i]?=none:=by rw[List.getElem?_eq_none_iff]at e ⊢;omega
   rw[this]
   exact ih
  | some v=>
   obtain⟨x,hx,hr⟩:=h.at e
   rw[hx]
   exact .cons hr ih
theorem ZhA{α:Type}(vs:List α)(lo hi:Option Int): (ZaH vs lo hi).length≤vs.length:=by
 unfold ZaH
 refine Nat.le_trans (List.length_filterMap_le _ _) ?_
 refine sliceRange_length_le _ _ _ _ (fun _=>?_) fun c=>?_
 ·unfold sliceBounds
  cases lo <;> cases hi <;> simp <;> omega
 ·exact absurd (by unfold sliceBounds;simp) c
theorem ZhB{α:Type}(vs:List α)(a:Nat): ∀m:Nat,a+m≤vs.length→((List.range m).map fun k=>a+k).filterMap (fun i=>vs[i]?)=(vs.drop a).take m:=by
 intro m
 induction m with
 | zero=>intro _;simp
 | succ m ih=>
  intro h
  rw[List.range_succ,List.map_append,List.filterMap_append,ih (by omega),List.take_add_one]
  congr 1
  simp only[List.map_cons,List.map_nil,List.filterMap_cons,List.filterMap_nil,List.getElem?_drop]
  cases e:vs[a+m]? with
  | none=>rw[List.getElem?_eq_none_iff]at e;omega
  | some v=>rfl
theorem Zdr{α:Type}(vs:List α)(lo hi:Option Int){a b:Nat}(ha:(sliceBounds lo hi none vs.length).1=(a:Int))(hb:(sliceBounds lo hi none vs.length).2.1=(b:Int))(h:b≤vs.length): ZaH vs lo hi=(vs.drop a).take (b-a):=by
 have hc:(sliceBounds lo hi none vs.length).2.2=1:=by unfold sliceBounds;rfl
 unfold ZaH
 rw[ha,hb,hc]
 have e:sliceRange (a:Int) (b:Int) 1=(List.range (b-a)).map fun k=>a+k:=by
  unfold sliceRange
  simp only[show(1:Int)>0 from by decide,if_true]
  by_cases c:(a:Int)<b
  ·rw[if_pos c]
   have:((b:Int)-a+1-1) / 1=((b-a:Nat):Int):=by omega
   rw[this]
   simp only[Int.toNat_natCast]
   refine List.map_congr_left fun k _=>?_
   omega
  ·rw[if_neg c]
   have:b-a=0:=by omega
   rw[this]
   rfl
 rw[e]
 by_cases c:a≤b
 ·exact ZhB vs a (b-a) (by omega)
 ·have:b-a=0:=by omega
  rw[this]
  simp
theorem Zfw{α:Type}(vs:List α){k:Int}{a:Nat}(e:k=(a:Int)): ZaH vs (some k) none=vs.drop a:=by
 by_cases h:a≤vs.length
 ·rw[Zdr vs (some k) none (a:=a) (b:=vs.length) (by unfold sliceBounds;simp;omega) (by unfold sliceBounds;simp) (Zz10 _)]
  rw[List.take_of_length_le (by simp)]
 ·rw[Zdr vs (some k) none (a:=vs.length) (b:=vs.length) (by unfold sliceBounds;simp;omega) (by unfold sliceBounds;simp) (Zz10 _)]
  simp
  omega
theorem Zh3{α:Type}(vs:List α){k:Int}{a:Nat}(e:k=(a:Int)): ZaH vs none (some k)=vs.take a:=by
 by_cases h:a≤vs.length
 ·rw[Zdr vs none (some k) (a:=0) (b:=a) (by unfold sliceBounds;simp) (by unfold sliceBounds;simp;omega) h]
  simp
 ·rw[Zdr vs none (some k) (a:=0) (b:=vs.length) (by unfold sliceBounds;simp) (by unfold sliceBounds;simp;omega) (Zz10 _)]
  rw[List.drop_zero,Nat.sub_zero,List.take_of_length_le (Zz10 _),List.take_of_length_le (by omega)]
noncomputable def Zc0: Option V→Option (Option Int)
 | none=>some none
 | some (.int k)=>some (some k)
 | _=>none
noncomputable abbrev Pt:=Lc→Hp→Option (Option V×Hp)
noncomputable def Zb1: Pt:=fun _ H=>some (none,H)
noncomputable def Zb2(f:Ex): Pt:=fun ρ H=>(f ρ H).map fun p=>(some p.1,p.2)
noncomputable def ZbI(f:Ex)(lo hi:Pt): Ex:=fun ρ H=>(f ρ H).bind fun p=>(lo ρ p.2).bind fun q=>(hi ρ q.2).bind fun u=>(Zc0 q.1).bind fun a=>(Zc0 u.1).bind fun b=>match p.1 with
 | .ref i=>u.2[i]?.bind fun vs=>some (.ref u.2.length,u.2++[ZaH vs a b])
 | _=>none
inductive VP(W:Wd): Option V→Value→Prop where
 | none:VP W none .none
 | some {v:V} {x:Value}:VR W v x→VP W (some v) x
theorem VP.mono{W W':Wd}{v:Option V}{x:Value}(l:W.Le W')(h:VP W v x): VP W' v x:=by
 cases h with
 | none=>exact .none
 | some h=>exact .some (h.mono l)
theorem VP.part{W:Wd}{v:Option V}{x:Value}{k:Option Int}(h:VP W v x)(e:Zc0 v=Option.some k): IsPart x k:=by
 cases h with
 | none=>cases e;exact .none
 | some h=>cases h <;> cases e;exact .int _ _
noncomputable def JP(prog:Program)(w:World)(Γ:Cx)(e:Option Expr)(f:Pt): Prop:=∀(W:Wd) (ρ:Lc) (H:Hp) (fr:List (Addr×Obj)) (s:Shared) (Q E:Value→Shared→Prop) (v:Option V) (H':Hp),
 Rep Γ W ρ H fr s.heap→f ρ H=some (v,H')→(∀(W':Wd) (h':Heap) (tk':Nat) (x:Value),W.Le W'→Rep Γ W' ρ H' fr h'→VP W' v x→Q x { s with heap:=h',toks:=tk' })→wpAny (model prog w) Γ.A (evalPart e Γ.env) Q E s
section
variable {prog:Program} {w:World} {Γ:Cx}
theorem JP.none: JP prog w Γ none Zb1:=fun W ρ H fr s Q E v H' r hf post=>by
 cases hf
 exact wpAny_evalPart_none (post W s.heap s.toks _ (.refl W) r .none)
theorem JP.some{e:Expr}{f:Ex}(h:J prog w Γ e f): JP prog w Γ (some e) (Zb2 f):=fun W ρ H fr s Q E v H' r hf post=>by
 obtain⟨p,e1,e2⟩:=Zz1.mp hf
 cases e2
 exact wpAny_evalPart_some (h W ρ H fr s _ E _ _ r e1 fun W1 k1 t1 x l1 r1 x1=>post W1 k1 t1 x l1 r1 (.some x1))
theorem ZeI{e:Expr}{lo hi:Option Expr}{p pos:Pos}{f:Ex}{a b:Pt}(h:J prog w Γ e f)(hlo:JP prog w Γ lo a)(hhi:JP prog w Γ hi b)(ht:∀o r,letTemporaryGo e o r=pure ():=by intro _ _;rfl): J prog w Γ (.Subscript e (.Slice lo hi Option.none p) pos) (ZbI f a b):=by
 intro W ρ H fr s Q E v H' r hf post
 obtain⟨p,e1,hf⟩:=Zz0.mp hf
 obtain⟨q,e2,hf⟩:=Zz0.mp hf
 obtain⟨u,e3,hf⟩:=Zz0.mp hf
 obtain⟨ka,e4,hf⟩:=Zz0.mp hf
 obtain⟨kb,e5,hf⟩:=Zz0.mp hf
 refine wpAny_Subscript_list_slice (h W ρ H fr s _ E _ _ r e1 fun W1 k1 t1 x l1 r1 x1=>?_) ht
 refine hlo W1 ρ _ fr _ _ E _ _ r1 e2 fun W2 k2 t2 y l2 r2 y2=>?_
 refine hhi W2 ρ _ fr _ _ E _ _ r2 e3 fun W3 k3 t3 z l3 r3 z3=>?_
 have x3:=x1.mono (l2.trans l3)
 obtain⟨v1,H1⟩:=p
 simp only at hf x3
 cases x3 with
 | none=>cases hf
 | bool _=>cases hf
 | int _ _=>cases hf
 | str _ _=>cases hf
 | tup _ _ _=>cases hf
 | @ref i a ea=>
  obtain⟨vs,hvs,e6⟩:=Zz0.mp hf
  cases e6
  obtain⟨hl,xs,kk,hg,hv⟩:=r3.at hvs ea
  have isl:k3.IsList a xs.toArray:=⟨_,hg,rfl,kk,rfl⟩
  refine⟨a,xs.toArray,ka,kb,rfl,isl,Zbb (by simp[hv.length];exact hl),(y2.mono l3).part e4,z3.part e5,?_⟩
  have hp:VRs W3 (ZaH vs ka kb) (ZaH xs ka kb):=by
   unfold ZaH
   rw[hv.length]
   exact hv.pick _
  have hx:slicePick xs.toArray ka kb Option.none=(ZaH xs ka kb).toArray:=by
   unfold slicePick ZaH
   simp
  obtain⟨W4,l4,r4,v4⟩:=(r3.push { cls:=.type "slice",data:=.fields #[y,z,.none] }).list (k:=0) hp (Nat.le_trans (ZhA vs ka kb) hl)
  rw[hx]
  have:=post W4 _ t3 _ (((l1.trans l2).trans l3).trans l4) r4 v4
  rw[Heap.size_push]at this
  exact this
end
end PM
end
section
set_option autoImplicit false
namespace PM
open PySem PyProof.Rows PyProof
noncomputable def Nm(prog:Program)(w:World)(Γ:Cx)(x:Str)(v:Value): Prop:=∀(pos:Pos) (m:Str→Option Value) (s:Shared) (Q E:Value→Shared→Prop),Fr Γ.h₀ Γ.L s.heap m→Q v s→wpAny (model prog w) Γ.A (eval (.Name x pos) Γ.env) Q E s
theorem Nm.use{prog:Program}{w:World}{Γ:Cx}{x:Str}{y:Value}(h:Nm prog w Γ x y){pos:Pos}{W:Wd}{ρ:Lc}{H:Hp}{fr:List (Addr×Obj)}{s:Shared}{Q E:Value→Shared→Prop}(r:Rep Γ W ρ H fr s.heap)(q:Q y s): wpAny (model prog w) Γ.A (eval (.Name x pos) Γ.env) Q E s:=by
 obtain⟨m,c,led,r⟩:=r
 exact h pos m s Q E r.F q
noncomputable def OpN(prog:Program)(w:World)(m:List Value→Sem Value)(o:List V→Hp→Option (V×Hp)): Prop:=∀(Γ:Cx) (W:Wd) (ρ:Lc) (H:Hp) (fr:List (Addr×Obj)) (s:Shared) (Q E:Value→Shared→Prop) (as:List V) (xs:List Value) (v:V) (H':Hp),
 Rep Γ W ρ H fr s.heap→VRs W as xs→o as H=some (v,H')→ZdK Γ W ρ H' fr s Q v→wpAny (model prog w) Γ.A (m xs) Q E s
noncomputable def Zy(o:List V→Hp→Option (V×Hp))(g:Exs): Ex:=fun ρ H=>(g ρ H).bind fun p=>o p.1 p.2
section
variable {prog:Program} {w:World} {Γ:Cx}
theorem ZaN{x:Str}{np pos:Pos}{id:String}{e:Expr}{es:List Expr}{g:Exs}{o:List V→Hp→Option (V×Hp)}(hn:Nm prog w Γ x (.builtin id))(h:Js prog w Γ (e::es) g)(ho:OpN prog w (fun xs=>call (.builtin id) xs) o)
  (he:starEach (e::es) Γ.env=(false,eval e Γ.env)::starEach es Γ.env:=by rfl) (hp:∀pos,(backTo pos (starEach es Γ.env)).any (·.1)=false:=by intro _;rfl):J prog w Γ (.Call (.Name x np) (e::es) [] pos) (Zy o g):=by
 intro W ρ H fr s Q E v H' r hf post
 obtain⟨p,e1,hf⟩:=Zz0.mp hf
 refine wpAny_Call_ofName (hn.use r ?_)
 refine callWith_builtin1 (h pos W ρ H fr s _ E _ _ r e1 fun W1 k1 t1 xs l1 r1 x1=>?_) he (hp pos)
 exact ho Γ W1 ρ _ fr _ Q E _ xs v H' r1 x1 hf fun W2 k2 t2 y l2 r2 y2=>post W2 k2 t2 y (l1.trans l2) r2 y2
theorem Zds{x:Str}{np pos:Pos}{T:String}{e:Expr}{es:List Expr}{g:Exs}{o:List V→Hp→Option (V×Hp)}(hn:Nm prog w Γ x (.type T))(h:Js prog w Γ (e::es) g)(ho:OpN prog w (fun xs=>call (.type T) xs) o)
  (he:starEach (e::es) Γ.env=(false,eval e Γ.env)::starEach es Γ.env:=by rfl) (hp:∀pos,(backTo pos (starEach es Γ.env)).any (·.1)=false:=by intro _;rfl):J prog w Γ (.Call (.Name x np) (e::es) [] pos) (Zy o g):=by
 intro W ρ H fr s Q E v H' r hf post
 obtain⟨p,e1,hf⟩:=Zz0.mp hf
 refine wpAny_Call_ofName (hn.use r ?_)
 refine PySem.Pv.callWith_type1 (h pos W ρ H fr s _ E _ _ r e1 fun W1 k1 t1 xs l1 r1 x1=>?_) he (hp pos)
 exact ho Γ W1 ρ _ fr _ Q E _ xs v H' r1 x1 hf fun W2 k2 t2 y l2 r2 y2=>post W2 k2 t2 y (l1.trans l2) r2 y2
end
noncomputable def ZeJ: V→String
 | .none=>"NoneType"
 | .bool _=>"bool"
 | .int _=>"int"
 | .str _=>"str"
 | .tup _=>"tuple"
 | .ref _=>"list"
noncomputable def ZeW(T:String)(v:V): Bool:=ZeJ v == T || (T == "int" && ZeJ v == "bool")
noncomputable def eIs(T:String)(f:Ex): Ex:=fun ρ H=>(f ρ H).map fun p=>(.bool (ZeW T p.1),p.2)
section
variable {prog:Program} {w:World} {Γ:Cx}
theorem isinst{T:String}(hT:T="int"∨T="bool"∨T="list"∨T="tuple"){W:Wd}{ρ:Lc}{H:Hp}{fr:List (Addr×Obj)}{s:Shared}{Q E:Value→Shared→Prop}{a:V}{x:Value}(r:Rep Γ W ρ H fr s.heap)(hx:VR W a x)(hin:∀i,a=.ref i→i<H.length)
  (post:∀tk,Q (.bool (ZeW T a)) { s with toks:=tk }):wpAny (model prog w) Γ.A (call (.builtin "isinstance") [x,.type T]) Q E s:=by
 cases hx with
 | none=>
      rcases hT with e | e | e | e <;> subst e
      ·exact call_isinstance (isinstance_false_none (by decide +kernel) F.isi_meta_int (by rw[isSubtype_type];kernel_rfl)) (post _)
      ·exact call_isinstance (isinstance_false_none (by decide +kernel) F.isi_meta_bool (by rw[isSubtype_type];kernel_rfl)) (post _)
      ·exact call_isinstance (isinstance_false_none (by decide +kernel) F.isi_meta_list (by rw[isSubtype_type];kernel_rfl)) (post _)
      ·exact call_isinstance (isinstance_false_none (by decide +kernel) F.isi_meta_tuple (by rw[isSubtype_type];kernel_rfl)) (post _)
 | bool b=>
       rcases hT with e | e | e | e <;> subst e
       ·exact IsiPair.bool_int (post s.toks)
       ·exact IsiPair.bool_bool (post s.toks)
       ·exact IsiPair.bool_list (post _)
       ·exact IsiPair.bool_tuple (post _)
 | int i t=>
       rcases hT with e | e | e | e <;> subst e
       ·exact IsiPair.int_int (post s.toks)
       ·exact IsiPair.int_bool (post _)
       ·exact IsiPair.int_list (post _)
       ·exact IsiPair.int_tuple (post _)
 | str y t=>
       rcases hT with e | e | e | e <;> subst e
       ·exact IsiPair.str_int (post _)
       ·exact IsiPair.str_bool (post _)
       ·exact IsiPair.str_list (post _)
       ·exact IsiPair.str_tuple (post _)
 | tup hm hl hs=>
  have hg:=r.tupAt hm
  rcases hT with e | e | e | e <;> subst e
  ·exact IsiPair.tuple_int hg rfl (post _)
  ·exact IsiPair.tuple_bool hg rfl (post _)
  ·exact IsiPair.tuple_list hg rfl (post _)
  ·exact IsiPair.tuple_tuple hg rfl (post s.toks)
 | @ref i a ea=>
  obtain⟨hl,xs,k,hg,hv⟩:=r.at (List.getElem?_eq_getElem (hin i rfl)) ea
  rcases hT with e | e | e | e <;> subst e
  ·exact IsiPair.list_int hg rfl (post _)
  ·exact IsiPair.list_bool hg rfl (post _)
  ·exact IsiPair.list_list hg rfl (post s.toks)
  ·exact IsiPair.list_tuple hg rfl (post _)
end
theorem Rep.refIn{Γ:Cx}{W:Wd}{ρ:Lc}{H:Hp}{fr:List (Addr×Obj)}{h:Heap}{i:Nat}{x:Value}(r:Rep Γ W ρ H fr h)(hx:VR W (.ref i) x): i<H.length:=by
 obtain⟨m,c,led,r⟩:=r
 cases hx with
 | ref e=>rw[←r.R.len];exact(Zz6.mp e).1
section
variable {prog:Program} {w:World} {Γ:Cx}
theorem ZcM{np tp pos:Pos}{x y:Str}{T:String}{e:Expr}{f:Ex}(hn:Nm prog w Γ x (.builtin "isinstance"))(hy:Nm prog w Γ y (.type T))(hT:T="int"∨T="bool"∨T="list"∨T="tuple")(h:J prog w Γ e f)
  (he:starEach [e,.Name y tp] Γ.env=(false,eval e Γ.env)::starEach [.Name y tp] Γ.env:=by rfl) (hp:∀pos,(backTo pos (starEach [.Name y tp] Γ.env)).any (·.1)=false:=by intro _;rfl):J prog w Γ (.Call (.Name x np) [e,.Name y tp] [] pos) (eIs T f):=by
 intro W ρ H fr s Q E v H' r hf post
 obtain⟨p,e1,e2⟩:=Zz1.mp hf
 cases e2
 refine wpAny_Call_ofName (hn.use r ?_)
 refine callWith_builtin1 (wpAny_items_cons (h W ρ H fr s _ E _ _ r e1 fun W1 k1 t1 z l1 r1 z1=>?_) he) he (hp pos)
 refine wpAny_items_cons (hy.use (s:={ s with heap:=k1,toks:=t1 }) r1 ?_)
 refine wpAny_items_nil ?_
 exact PM.isinst hT r1 z1 (fun i e=>by rw[e]at z1;exact r1.refIn z1) fun tk=>post W1 k1 tk _ l1 r1 (.bool _)
end
noncomputable def Zbn: List V→Hp→Option (V×Hp)
 | [.ref a],H=>H[a]?.map fun vs=>(.int vs.length,H)
 | [.tup vs],H=>some (.int vs.length,H)
 | _,_=>none
noncomputable def ZbT: List V→Hp→Option (V×Hp)
 | [.int a],H=>some (.int (if a<0 then -a else a),H)
 | _,_=>none
noncomputable def Zc1: List V→Hp→Option (V×Hp)
 | [.int a,.int b],H=>some (.int (if b>a then b else a),H)
 | _,_=>none
noncomputable def Zc2: List V→Hp→Option (V×Hp)
 | [.int a,.int b],H=>some (.int (if b<a then b else a),H)
 | _,_=>none
noncomputable def Zco: List V→Option (List Int)
 | []=>some []
 | .int k::vs=>(Zco vs).map fun ks=>k::ks
 | _::_=>none
noncomputable def Zc8: List V→Hp→Option (V×Hp)
 | [.ref a],H=>H[a]?.bind fun vs=>(Zco vs).map fun ks=>(.int ks.sum,H)
 | _,_=>none
theorem VRs.one{W:Wd}{v:V}{xs:List Value}(h:VRs W [v] xs): ∃x,xs=[x]∧VR W v x:=by
 cases h with
 | cons a b=>cases b;exact⟨_,rfl,a⟩
theorem VRs.two{W:Wd}{v u:V}{xs:List Value}(h:VRs W [v,u] xs): ∃x y,xs=[x,y]∧VR W v x∧VR W u y:=by
 cases h with
 | cons a b=>obtain⟨y,e,r⟩:=b.one;subst e;exact⟨_,_,rfl,a,r⟩
theorem ZgK{W:Wd}: ∀{vs:List V} {xs:List Value} {ks:List Int},VRs W vs xs→Zco vs=some ks→∃ts:Array (Int×Tok),xs.toArray=intItems ts∧preSum (numAt ts) ts.size=ks.sum:=by
 have key:∀{vs:List V} {xs:List Value} {ks:List Int},VRs W vs xs→Zco vs=some ks→∃ts:List (Int×Tok),xs=ts.map (fun p=>Value.int p.1 p.2)∧ts.map (·.1)=ks:=by
  intro vs
  induction vs with
  | nil=>intro xs ks h e;cases h;cases e;exact⟨[],rfl,rfl⟩
  | cons v vs ih=>
   intro xs ks h e
   cases h with
   | cons a b=>
    cases v with
    | int i=>
     obtain⟨js,e1,e2⟩:=Zz1.mp e
     subst e2
     cases a with
     | int _ t=>
      obtain⟨ts,h1,h2⟩:=ih b e1
      exact⟨(i,t)::ts,by rw[h1];rfl,by rw[List.map_cons,h2]⟩
    | none=>cases e
    | bool _=>cases e
    | str _=>cases e
    | tup _=>cases e
    | ref _=>cases e
 intro vs xs ks h e
 obtain⟨ts,h1,h2⟩:=key h e
 refine⟨ts.toArray,by rw[h1];simp[intItems],?_⟩
 rw[preSum_eq,List.take_of_length_le (by simp),←h2]
noncomputable def Z6: V→V→Hp→Option (V×Hp)
 | .int a,.int b,H=>some (.int (a+b),H)
 | .ref a,.ref b,H=>H[a]?.bind fun vs=>H[b]?.bind fun us=>if(vs++us).length≤ZU then some (.ref H.length,H++[vs++us])else none
 | .tup vs,.tup us,H=>if(vs++us).length≤ZU then some (.tup (vs++us),H)else none
 | _,_,_=>none
noncomputable def Zb6(vs:List V): Nat→List V
 | 0=>[]
 | n+1=>Zb6 vs n++vs
noncomputable def Za1: V→V→Hp→Option (V×Hp)
 | .int a,.int b,H=>if mulOk a b=true then some (.int (a*b),H)else none
 | .ref a,.int k,H=>H[a]?.bind fun vs=>if vs.length*k.toNat≤ZU∧-(2 ^ 63:Int)≤k∧k<2 ^ 63 then some (.ref H.length,H++[Zb6 vs k.toNat])else none
 | _,_,_=>none
section
variable {prog:Program} {w:World}
theorem ok_len: OpN prog w (fun xs=>call (.builtin "len") xs) Zbn:=by
 intro Γ W ρ H fr s Q E as xs v H' r hx ho post
 unfold Zbn at ho
 split at ho
 ·rename_i a
  obtain⟨vs,e1,e2⟩:=Zz1.mp ho
  cases e2
  obtain⟨x,ex,rx⟩:=hx.one
  subst ex
  cases rx with
  | ref ea=>
   obtain⟨hl,ys,k,hg,hv⟩:=r.at e1 ea
   have isl:s.heap.IsList _ ys.toArray:=⟨_,hg,rfl,k,rfl⟩
   have e3:(ys.toArray.size:Int)=vs.length:=by simp[hv.length]
   rw[Zaz]at hl
   refine Calls.call_len_list isl (by rw[e3];omega) ?_
   rw[e3]
   exact post W s.heap _ _ (.refl W) r (.int _ _)
 ·rename_i vs
  cases ho
  obtain⟨x,ex,rx⟩:=hx.one
  subst ex
  cases rx with
  | @tup _ a ys k hm hl hs=>
   have it:IsTup s.heap a ys.toArray:=⟨_,r.tupAt hm,rfl,k,rfl⟩
   have e3:(ys.toArray.size:Int)=vs.length:=by simp[hs.length]
   rw[Zaz]at hl
   refine len_tuple it (by rw[e3];omega) ?_
   rw[e3]
   exact post W s.heap _ _ (.refl W) r (.int _ _)
 ·cases ho
theorem ZcW: OpN prog w (fun xs=>call (.builtin "abs") xs) ZbT:=by
 intro Γ W ρ H fr s Q E as xs v H' r hx ho post
 unfold ZbT at ho
 split at ho
 ·cases ho
  obtain⟨x,ex,rx⟩:=hx.one
  subst ex
  cases rx with
  | int i t=>exact call_abs_int fun u tk=>post W s.heap tk _ (.refl W) r (.int _ _)
 ·cases ho
theorem ok_max2: OpN prog w (fun xs=>call (.builtin "max") xs) Zc1:=by
 intro Γ W ρ H fr s Q E as xs v H' r hx ho post
 unfold Zc1 at ho
 split at ho
 ·cases ho
  obtain⟨x,y,ex,rx,ry⟩:=hx.two
  subst ex
  cases rx with
  | int i t=>
   cases ry with
   | int j u=>
    refine max_two_ints Γ.hh fun h' tk up=>?_
    split
    ·rename_i c
     rw[if_pos c]at post
     exact post W h' tk _ (.refl W) (r.grown up) (.int _ _)
    ·rename_i c
     rw[if_neg c]at post
     exact post W h' tk _ (.refl W) (r.grown up) (.int _ _)
 ·cases ho
theorem ok_min2: OpN prog w (fun xs=>call (.builtin "min") xs) Zc2:=by
 intro Γ W ρ H fr s Q E as xs v H' r hx ho post
 unfold Zc2 at ho
 split at ho
 ·cases ho
  obtain⟨x,y,ex,rx,ry⟩:=hx.two
  subst ex
  cases rx with
  | int i t=>
   cases ry with
   | int j u=>
    refine min_two_ints Γ.hh fun h' tk up=>?_
    split
    ·rename_i c
     rw[if_pos c]at post
     exact post W h' tk _ (.refl W) (r.grown up) (.int _ _)
    ·rename_i c
     rw[if_neg c]at post
     exact post W h' tk _ (.refl W) (r.grown up) (.int _ _)
 ·cases ho
theorem ZiQ: OpN prog w (fun xs=>call (.builtin "sum") xs) Zc8:=by
 intro Γ W ρ H fr s Q E as xs v H' r hx ho post
 unfold Zc8 at ho
 split at ho
 ·obtain⟨vs,e1,e2⟩:=Zz0.mp ho
  obtain⟨ks,e3,e4⟩:=Zz1.mp e2
  cases e4
  obtain⟨x,ex,rx⟩:=hx.one
  subst ex
  cases rx with
  | ref ea=>
   obtain⟨hl,ys,k,hg,hv⟩:=r.at e1 ea
   obtain⟨ts,h1,h2⟩:=ZgK hv e3
   have isl:s.heap.IsList _ (intItems ts):=⟨_,hg,rfl,k,by rw[←h1]⟩
   refine sum_intListG Γ.hh isl fun h' tk t' up=>?_
   rw[h2]
   exact post W h' tk _ (.refl W) (r.grown up) (.int _ _)
 ·cases ho
theorem ok_add: Op2 prog w (binaryOp .Add) Z6:=by
 intro Γ W ρ H fr s Q E a b x y v H' r hx hy ho post
 unfold Z6 at ho
 split at ho
 ·cases ho
  cases hx;cases hy
  exact PySem.P.add_int (post W s.heap _ _ (.refl W) r (.int _ _))
 ·obtain⟨vs,e1,ho⟩:=Zz0.mp ho
  obtain⟨us,e2,ho⟩:=Zz0.mp ho
  by_cases hl:(vs++us).length≤ZU
  ·rw[if_pos hl]at ho
   cases ho
   cases hx with
   | ref ea=>
   cases hy with
   | ref eb=>
   obtain⟨l1,ys,k,hg,hv⟩:=r.at e1 ea
   obtain⟨l2,zs,k2,hg2,hv2⟩:=r.at e2 eb
   obtain⟨m,c,led,r'⟩:=r
   have i1:s.heap.IsList _ ys.toArray:=⟨_,hg,rfl,k,rfl⟩
   have i2:s.heap.IsList _ zs.toArray:=⟨_,hg2,rfl,k2,rfl⟩
   refine add_lists (hsz:=Zbb (by rw[hv.length,hv2.length,←List.length_append];exact hl)) r'.F r'.N i1 i2 fun h' F' N'=>?_
   obtain⟨W2,le2,r2,v2⟩:=r'.newList F' N' r'.off (hv.append hv2) hl
   exact post W2 h' s.toks _ le2 r2 v2
  ·rw[if_neg hl]at ho
   cases ho
 ·rename_i vs us
  by_cases hl:(vs++us).length≤ZU
  ·rw[if_pos hl]at ho
   cases ho
   cases hx with
   | @tup _ a ys k hm h1 hv=>
   cases hy with
   | @tup _ b zs k2 hm2 h2 hv2=>
   have t1:IsTup s.heap a ys.toArray:=⟨_,r.tupAt hm,rfl,k,rfl⟩
   have t2:IsTup s.heap b zs.toArray:=⟨_,r.tupAt hm2,rfl,k2,rfl⟩
   have r0:=r
   obtain⟨m,c,led,r'⟩:=r
   refine add_tuples (hsz:=Zbb (by rw[hv.length,hv2.length,←List.length_append];exact hl)) r'.F r'.N t1 t2 (fun e=>?_) (fun _ e=>?_) fun _ _ h' F' N'=>?_
   ·have:vs=[]:=List.length_eq_zero_iff.mp (by rw[←hv.length,e];rfl)
    subst this
    exact post W s.heap s.toks _ (.refl W) r0 (.tup hm2 h2 hv2)
   ·have:us=[]:=List.length_eq_zero_iff.mp (by rw[←hv2.length,e];rfl)
    subst this
    rw[List.append_nil]at post
    exact post W s.heap s.toks _ (.refl W) r0 (.tup hm h1 hv)
   ·obtain⟨W2,le2,r2,v2⟩:=r'.newTup F' N' r'.off (hv.append hv2) hl
    exact post W2 h' s.toks _ le2 r2 v2
  ·rw[if_neg hl]at ho
   cases ho
 ·cases ho
theorem ZfE(vs:List V): ∀n,(Zb6 vs n).length=vs.length*n
 | 0=>rfl
 | n+1=>by rw[Zb6,List.length_append,ZfE vs n,Nat.mul_succ]
theorem Zhc(xs:List Value)(n:Nat): ∀acc:Array Value,(List.foldl (fun x1 x2=>x1++x2) acc (List.replicate n xs.toArray))=acc++(List.replicate n xs).flatten.toArray:=by
 induction n with
 | zero=>intro acc;simp
 | succ n ih=>
  intro acc
  rw[List.replicate_succ,List.foldl_cons,ih,List.replicate_succ,List.flatten_cons]
  simp[Array.append_assoc]
theorem ZfO{W:Wd}{vs:List V}{xs:List Value}(h:VRs W vs xs): ∀n,VRs W (Zb6 vs n) (List.replicate n xs).flatten
 | 0=>.nil
 | n+1=>by
  rw[Zb6,List.replicate_succ',List.flatten_append]
  simp only[List.flatten_cons,List.flatten_nil,List.append_nil]
  exact(ZfO h n).append h
theorem ZbJ: Op2 prog w (binaryOp .Mult) Za1:=by
 intro Γ W ρ H fr s Q E a b x y v H' r hx hy ho post
 unfold Za1 at ho
 split at ho
 ·rename_i i j
  by_cases hm:mulOk i j=true
  ·rw[if_pos hm]at ho
   cases ho
   cases hx;cases hy
   exact PySem.P.mul_int (post W s.heap _ _ (.refl W) r (.int _ _)) (Zhy hm)
  ·rw[if_neg hm]at ho
   cases ho
 ·rename_i i k
  obtain⟨vs,e1,ho⟩:=Zz0.mp ho
  by_cases hc:vs.length*k.toNat≤ZU∧-(2 ^ 63:Int)≤k∧k<2 ^ 63
  ·rw[if_pos hc]at ho
   cases ho
   cases hx with
   | ref ea=>
   cases hy with
   | int _ u=>
   obtain⟨l1,ys,kk,hg,hv⟩:=r.at e1 ea
   obtain⟨m,c,led,r'⟩:=r
   have hl:=hc.1
   rw[Zaz]at hl
   refine mul_list r'.F r'.N hg hc.2.1 hc.2.2 (by rw[List.size_toArray,hv.length];omega) fun h' F' N'=>?_
   have e2:(List.foldl (fun x1 x2=>x1++x2) #[] (List.replicate (if ys.toArray.isEmpty=true then 0 else k.toNat) ys.toArray))=(List.replicate k.toNat ys).flatten.toArray:=by
    cases ys with
    | nil=>
     simp
    | cons y0 ys0=>
     have:((y0::ys0).toArray.isEmpty=true)=False:=by simp
     simp only[this,if_false]
     rw[Zhc]
     simp
   rw[e2]at N'
   obtain⟨W2,le2,r2,v2⟩:=r'.newList F' N' r'.off (ZfO hv k.toNat) (by rw[ZfE];exact hc.1)
   exact post W2 h' s.toks _ le2 r2 v2
  ·rw[if_neg hc]at ho
   cases ho
 ·cases ho
end
end PM
end
section
set_option autoImplicit false
namespace PM
open PySem PyProof.Rows PyProof
noncomputable def upd(ρ:Lc)(i:Nat)(v:V): Lc:=fun j=>if j=i then some v else ρ j
noncomputable abbrev Sm:=Lc→Hp→Option (Option V×Lc×Hp)
noncomputable def ZW: Sm:=fun ρ H=>some (none,ρ,H)
noncomputable def Zz(a b:Sm): Sm:=fun ρ H=>(a ρ H).bind fun p=>match p.1 with
 | some _=>some p
 | none=>b p.2.1 p.2.2
noncomputable def ZH(f:Ex): Sm:=fun ρ H=>(f ρ H).map fun p=>(some p.1,ρ,p.2)
noncomputable def Zag(i:Nat)(f:Ex): Sm:=fun ρ H=>(f ρ H).map fun p=>(none,upd ρ i p.1,p.2)
noncomputable def ZP(t:Ts)(a b:Sm): Sm:=fun ρ H=>(t ρ H).bind fun p=>if p.1 then a ρ p.2 else b ρ p.2
noncomputable def ZdM(f:Ex): Sm:=fun ρ H=>(f ρ H).map fun p=>(none,ρ,p.2)
noncomputable def Zfi: V→V→V→Hp→Option Hp
 | .ref a,.int k,v,H=>H[a]?.bind fun vs=>if a≠0∧0≤k∧k<vs.length then some (H.set a (vs.set k.toNat v))else none
 | _,_,_,_=>none
noncomputable def Zb7(f o i:Ex): Sm:=fun ρ H=>(f ρ H).bind fun p=>(o ρ p.2).bind fun q=>(i ρ q.2).bind fun u=>(Zfi q.1 u.1 p.1 u.2).map fun K=>(none,ρ,K)
noncomputable def PostS(Γ:Cx)(W:Wd)(fr:List (Addr×Obj))(s:Shared)(Q:Flow→Shared→Prop): Option V×Lc×Hp→Prop
 | (none,ρ',H')=>∀(W':Wd) (h':Heap) (tk':Nat),W.Le W'→Rep Γ W' ρ' H' fr h'→Q .next { s with heap:=h',toks:=tk' }
 | (some v,ρ',H')=>∀(W':Wd) (h':Heap) (tk':Nat) (x:Value),W.Le W'→Rep Γ W' ρ' H' fr h'→VR W' v x→Q (.ret x) { s with heap:=h',toks:=tk' }
theorem PostS.le{Γ:Cx}{W W':Wd}{fr:List (Addr×Obj)}{s:Shared}{h:Heap}{tk:Nat}{Q:Flow→Shared→Prop}{r:Option V×Lc×Hp}(l:W.Le W')(p:PostS Γ W fr s Q r): PostS Γ W' fr { s with heap:=h,toks:=tk } Q r:=by
 obtain⟨o,ρ',H'⟩:=r
 cases o with
 | none=>exact fun W2 h2 t2 l2 r2=>p W2 h2 t2 (l.trans l2) r2
 | some v=>exact fun W2 h2 t2 x l2 r2 x2=>p W2 h2 t2 x (l.trans l2) r2 x2
section
variable (prog:Program) (w:World)
noncomputable def S1(Γ:Cx)(st:Stmt)(g:Sm): Prop:=∀(W:Wd) (ρ:Lc) (H:Hp) (fr:List (Addr×Obj)) (s:Shared) (Q:Flow→Shared→Prop) (E:Value→Shared→Prop) (r:Option V×Lc×Hp),
 Rep Γ W ρ H fr s.heap→g ρ H=some r→PostS Γ W fr s Q r→wpAny (model prog w) Γ.A (exec st Γ.env) Q E s
noncomputable def Ss(Γ:Cx)(ss:List Stmt)(g:Sm): Prop:=∀(W:Wd) (ρ:Lc) (H:Hp) (fr:List (Addr×Obj)) (s:Shared) (Q:Flow→Shared→Prop) (E:Value→Shared→Prop) (r:Option V×Lc×Hp),
 Rep Γ W ρ H fr s.heap→g ρ H=some r→PostS Γ W fr s Q r→wpAny (model prog w) Γ.A (execs ss Γ.env) Q E s
noncomputable def Sto(Γ:Cx)(x:Str)(i:Nat): Prop:=∀(W:Wd) (ρ:Lc) (H:Hp) (fr:List (Addr×Obj)) (s:Shared) (Q:Unit→Shared→Prop) (E:Value→Shared→Prop) (v:V) (y:Value),
 Rep Γ W ρ H fr s.heap→VR W v y→(∀(h':Heap) (tk':Nat),Rep Γ W (upd ρ i v) H fr h'→Q () { s with heap:=h',toks:=tk' })→wpAny (model prog w) Γ.A (storeName Γ.env x y) Q E s
noncomputable def Rd(Γ:Cx)(x:Str)(i:Nat): Prop:=∀(W:Wd) (ρ:Lc) (H:Hp) (fr:List (Addr×Obj)) (s:Shared) (Q E:Value→Shared→Prop) (v:V) (pos:Pos),
 Rep Γ W ρ H fr s.heap→ρ i=some v→(∀y,VR W v y→Q y s)→wpAny (model prog w) Γ.A (eval (.Name x pos) Γ.env) Q E s
end
section
variable {prog:Program} {w:World} {Γ:Cx}
theorem ZdH{x:Str}{i:Nat}{pos:Pos}(h:Rd prog w Γ x i): J prog w Γ (.Name x pos) (Zc i):=by
 intro W ρ H fr s Q E v H' r hf post
 obtain⟨u,e1,e2⟩:=Zz1.mp hf
 cases e2
 exact h W ρ H fr s Q E v pos r e1 fun y hy=>post W s.heap s.toks y (.refl W) r hy
theorem Z1: Ss prog w Γ [] ZW:=fun W ρ H fr s Q E r rp hf post=>by
 cases hf
 exact wpAny_execs_nil (post W s.heap s.toks (.refl W) rp)
theorem ZD{st:Stmt}{ss:List Stmt}{a b:Sm}(h1:S1 prog w Γ st a)(h2:Ss prog w Γ ss b): Ss prog w Γ (st::ss) (Zz a b):=by
 intro W ρ H fr s Q E r rp hf post
 obtain⟨p,e1,hf⟩:=Zz0.mp hf
 refine wpAny_execs_cons (h1 W ρ H fr s _ E p rp e1 ?_)
 obtain⟨o,ρ1,H1⟩:=p
 cases o with
 | some v=>
  cases hf
  exact fun W1 k1 t1 x l1 r1 x1=>post W1 k1 t1 x l1 r1 x1
 | none=>exact fun W1 k1 t1 l1 r1=>h2 W1 ρ1 H1 fr _ Q E r r1 hf (post.le l1)
theorem ZE{st:Stmt}{a:Sm}(h1:S1 prog w Γ st a): Ss prog w Γ [st] a:=by
 intro W ρ H fr s Q E r rp hf post
 refine wpAny_execs_cons (h1 W ρ H fr s _ E r rp hf ?_)
 obtain⟨o,ρ1,H1⟩:=r
 cases o with
 | some v=>exact fun W1 k1 t1 x l1 r1 x1=>post W1 k1 t1 x l1 r1 x1
 | none=>exact fun W1 k1 t1 l1 r1=>wpAny_execs_nil (post W1 k1 t1 l1 r1)
theorem ZJ{e:Expr}{pos:Pos}{f:Ex}(h:J prog w Γ e f): S1 prog w Γ (.Return (some e) pos) (ZH f):=by
 intro W ρ H fr s Q E r rp hf post
 obtain⟨p,e1,e2⟩:=Zz1.mp hf
 cases e2
 exact wpAny_Return_some (h W ρ H fr s _ E _ _ rp e1 post)
theorem Z2{t:Expr}{a b:List Stmt}{pos:Pos}{u:Ts}{f g:Sm}(ht:JT prog w Γ t u)(h1:Ss prog w Γ a f)(h2:Ss prog w Γ b g): S1 prog w Γ (.If t a b pos) (ZP u f g):=by
 intro W ρ H fr s Q E r rp hf post
 obtain⟨p,e1,hf⟩:=Zz0.mp hf
 refine wpAny_If (ht W ρ H fr s _ E _ _ rp e1 fun W1 k1 t1 l1 r1=>?_)
 obtain⟨c,H1⟩:=p
 cases c with
 | true=>exact h1 W1 ρ H1 fr _ Q E r r1 hf (post.le l1)
 | false=>exact h2 W1 ρ H1 fr _ Q E r r1 hf (post.le l1)
theorem ZiR{e:Expr}{pos:Pos}{f:Ex}(h:J prog w Γ e f)(hi:interactive Γ.env=false:=by rfl)(hs:swapsWith e none pos.line Γ.env=pure false:=by rfl): S1 prog w Γ (.Expr e pos) (ZdM f):=by
 intro W ρ H fr s Q E r rp hf post
 obtain⟨p,e1,e2⟩:=Zz1.mp hf
 cases e2
 exact wpAny_Expr_any (h W ρ H fr s _ E _ _ rp e1 fun W1 k1 t1 x l1 r1 x1=>post W1 k1 t1 l1 r1) hi hs
theorem Zaq{x:Str}{i:Nat}{e:Expr}{pos' pos:Pos}{f:Ex}(hx:Sto prog w Γ x i)(h:J prog w Γ e f)(hs:swapsWith e (some (.Name x pos')) pos.line Γ.env=pure false:=by rfl): S1 prog w Γ (.Assign [.Name x pos'] e pos) (Zag i f):=by
 intro W ρ H fr s Q E r rp hf post
 obtain⟨p,e1,e2⟩:=Zz1.mp hf
 cases e2
 refine wpAny_Assign_Name (h W ρ H fr s _ E _ _ rp e1 fun W1 k1 t1 y l1 r1 y1=>?_) hs
 exact hx W1 ρ _ fr _ _ E _ y r1 y1 fun h' tk' r2=>post W1 h' tk' l1 r2
end
noncomputable def ZcO: List V→Hp→Option (V×Hp)
 | [.ref a,v],H=>H[a]?.bind fun vs=>if a≠0∧vs.length<ZU then some (.none,H.set a (vs++[v]))else none
 | _,_=>none
section
variable {prog:Program} {w:World} {Γ:Cx}
theorem Zhd: OpN prog w (fun xs=>call (.builtin "list.append") xs) ZcO:=by
 intro Γ W ρ H fr s Q E as xs v H' r hx ho post
 unfold ZcO at ho
 split at ho
 ·obtain⟨vs,e1,e2⟩:=Zz0.mp ho
  obtain⟨x,y,ex,rx,ry⟩:=hx.two
  subst ex
  split at e2
  ·rename_i hl
   cases e2
   cases rx with
   | @ref _ a0 ea=>
    obtain⟨_,ys,k,hg,hv⟩:=r.at e1 ea
    refine append_at (hsz:=Zbb (by rw[List.size_toArray,hv.length];omega)) hg fun h' sb hg'=>?_
    have hg2:h'.get? a0=some (ZaD (ys++[y]) (k+1)):=by rw[hg'];simp
    exact post W h' s.toks _ (.refl W) (r.change hl.1 e1 ea sb hg2 (hv.snoc ry) (by simp;omega)) .none
  ·cases e2
 ·cases ho
end
end PM
end
section
set_option autoImplicit false
namespace PM
open PySem PySem.W PyProof.Rows PyProof
theorem ZfP: ∀{l:List Value} {k:Nat} {v:Value},k<l.length→ki_setL l k v=some (l.set k v)
 | [],_,_,h=>by simp at h
 | x::r,0,v,_=>by simp[ki_setL]
 | x::r,k+1,v,h=>by
  have:=ZfP (l:=r) (k:=k) (v:=v) (by simpa using h)
  simp[ki_setL,this]
theorem Zhe{a k v:V}{H K:Hp}(h:Zfi a k v H=some K): ∃i j vs,a=.ref i∧k=.int j∧H[i]?=some vs∧(i≠0∧0≤j∧j<vs.length)∧K=H.set i (vs.set j.toNat v):=by
 cases a <;> first | (cases h;done) | skip
 cases k <;> first | (cases h;done) | skip
 obtain⟨vs,e1,e2⟩:=Zz0.mp h
 split at e2
 ·rename_i c
  cases e2
  exact⟨_,_,vs,rfl,rfl,e1,c,rfl⟩
 ·cases e2
theorem ZgL{a v x:V}{H K:Hp}(h:ZcO [a,v] H=some (x,K)): ∃i,a=.ref i:=by
 cases a <;> first | (cases h;done) | skip
 exact⟨_,rfl⟩
noncomputable def Zdt(o f:Ex): Ex:=fun ρ H=>(o ρ H).bind fun p=>(f ρ p.2).bind fun q=>ZcO [p.1,q.1] q.2
section
variable {prog:Program} {w:World} {Γ:Cx}
theorem S1.put{o i value:Expr}{pos' pos:Pos}{f g k:Ex}(hf:J prog w Γ value f)(ho:J prog w Γ o g)(hi:J prog w Γ i k)(hs:swapsWith value (some (.Subscript o i pos')) pos.line Γ.env=pure false:=by rfl): S1 prog w Γ (.Assign [.Subscript o i pos'] value pos) (Zb7 f g k):=by
 intro W ρ H fr s Q E r rp hx post
 obtain⟨p,e1,hx⟩:=Zz0.mp hx
 obtain⟨q,e2,hx⟩:=Zz0.mp hx
 obtain⟨u,e3,hx⟩:=Zz0.mp hx
 obtain⟨K,e4,e5⟩:=Zz1.mp hx
 cases e5
 refine wpAny_Assign_Subscript (hf W ρ H fr s _ E _ _ rp e1 fun W1 k1 t1 x l1 r1 x1=>?_) hs
 refine ho W1 ρ _ fr _ _ E _ _ r1 e2 fun W2 k2 t2 y l2 r2 y2=>?_
 refine hi W2 ρ _ fr _ _ E _ _ r2 e3 fun W3 k3 t3 z l3 r3 z3=>?_
 have x3:=x1.mono (l2.trans l3)
 have y3:=y2.mono l3
 obtain⟨b,kk,vs,eb,ek,hvs,hc,e6⟩:=Zhe e4
 subst e6
 rw[eb]at y3
 rw[ek]at z3
 cases y3 with
 | @ref _ a ea=>
 cases z3 with
 | int _ tz=>
 obtain⟨hl,xs,n,hg,hv⟩:=r3.at hvs ea
 obtain⟨m,c,led,r'⟩:=r3
 have hll:=hl
 rw[Zaz]at hll
 have hk:kk.toNat<xs.length:=by rw[hv.length];omega
 obtain⟨_,a',xs',n',h1,h2,h3⟩:=r'.R.lists b vs hvs
 rw[ea]at h1
 cases h1
 have h2:=r'.inLed hc.1 ea h2
 have N2:News Γ.h₀ Γ.L k3 ((a,ZaD xs n)::led.filter (fun q=>decide (q.1≠a))):=by
  intro q hq
  rcases Zz7.mp hq with e | hq
  ·subst e
   exact⟨hg,(r'.N _ h2).2⟩
  ·exact r'.N q (List.mem_filter.mp hq).1
 refine ki_set (its:=xs.toArray) (n:=n) (q:=xs.set kk.toNat x) r'.F N2 hc.2.1 (by omega) (by simpa using ZfP hk) (Upd.head fun q hq=>by simpa using (List.mem_filter.mp hq).2) fun h' F' N'=>?_
 exact post W3 h' t3 ((l1.trans l2).trans l3) (r'.changed hc.1 hvs ea F' N' (hv.set _ x3) (by simpa using hl))
theorem J.append{o e:Expr}{apos pos:Pos}{f g:Ex}(ho:J prog w Γ o f)(he:J prog w Γ e g)(hbase:attributeBase o "append" Γ.env (eval o Γ.env)=eval o Γ.env:=by rfl)
  (hfew:((backTo pos (starEach [e] Γ.env)).all (fun x=>!x.1) && (backToKw pos (keywordEach [] Γ.env)).all (fun x=>x.1.isSome) && decide (([e]:List Expr).length+([]:List Keyword).length+(if([]:List Keyword).isEmpty then 0 else 1)<30))=true:=by rfl)
  (hline:(apos.endLine == pos.line)=true:=by rfl) (htrees:backTo pos (starEach [e] Γ.env)=[(false,eval e Γ.env)]:=by rfl):J prog w Γ (.Call (.Attribute o "append" apos) [e] [] pos) (Zdt f g):=by
 intro W ρ H fr s Q E v H' r hx post
 obtain⟨p,e1,hx⟩:=Zz0.mp hx
 obtain⟨q,e2,e3⟩:=Zz0.mp hx
 refine wpAny_Call_append hbase hfew hline htrees (ho W ρ H fr s _ E _ _ r e1 fun W1 k1 t1 x l1 r1 x1=>?_)
 obtain⟨v1,H1⟩:=p
 obtain⟨b,hb⟩:=ZgL e3
 subst hb
 have hb:=r1.refIn x1
 cases x1 with
 | @ref _ a ea=>
 obtain⟨_,xs,n,hg,hv⟩:=r1.at (List.getElem?_eq_getElem hb) ea
 refine⟨a,xs.toArray,rfl,⟨_,n,hg,rfl,rfl,rfl⟩,?_⟩
 refine he W1 ρ _ fr _ _ E _ _ r1 e2 fun W2 k2 t2 y l2 r2 y2=>?_
 exact Zhd Γ W2 ρ _ fr _ Q E _ [.ref a,y] v H' r2 (.cons (.ref (l2.at ea)) (.cons y2 .nil)) e3 fun W3 k3 t3 z l3 r3 z3=>post W3 k3 t3 z ((l1.trans l2).trans l3) r3 z3
end
end PM
end
section
set_option autoImplicit false
namespace PM
open PySem PySem.W PyProof.Rows PyProof
noncomputable abbrev Nx:=Nat→Hp→Option (Option V)
noncomputable def ZjH(Γ:Cx)(W:Wd)(ρ:Lc)(H:Hp)(fr:List (Addr×Obj))(s:Shared)(It:Nat→List (Addr×Obj)→Prop)(i:Nat)(Q:Option Value→Shared→Prop): Option V→Prop
 | none=>∀(h':Heap) (tk':Nat),Rep Γ W ρ H fr h'→Q none { s with heap:=h',toks:=tk' }
 | some v=>∀(fs':List (Addr×Obj)) (h':Heap) (tk':Nat) (x:Value),It (i+1) fs'→Rep Γ W ρ H (fs'++fr) h'→VR W v x→Q (some x) { s with heap:=h',toks:=tk' }
structure Itr(prog:Program)(w:World)(Γ:Cx)(W0:Wd)(it:Value)(as:List Addr)(It:Nat→List (Addr×Obj)→Prop)(nx:Nx): Prop where
 adr:∀i fs,It i fs→fs.map (·.1)=as
 next:∀(i:Nat) (W:Wd) (ρ:Lc) (H:Hp) (fr fs:List (Addr×Obj)) (s:Shared) (Q:Option Value→Shared→Prop) (E:Value→Shared→Prop) (o:Option V),W0.Le W→Rep Γ W ρ H (fs++fr) s.heap→(∀a∈as,∀t∈fr,a≠t.1)→It i fs→nx i H=some o →
  ZjH Γ W ρ H fr s It i Q o→wpAny (model prog w) Γ.A (pyNext it) Q E s
 self:∀(i:Nat) (W:Wd) (ρ:Lc) (H:Hp) (fr fs:List (Addr×Obj)) (s:Shared) (Q E:Value→Shared→Prop),W0.Le W→Rep Γ W ρ H (fs++fr) s.heap→It i fs→Q it s→wpAny (model prog w) Γ.A (pyIter it) Q E s
noncomputable abbrev Src:=Lc→Hp→Option (Nx×Nat×Hp)
noncomputable def JI(prog:Program)(w:World)(Γ:Cx)(e:Expr)(g:Src): Prop:=∀(W:Wd) (ρ:Lc) (H:Hp) (fr:List (Addr×Obj)) (s:Shared) (Q E:Value→Shared→Prop) (nx:Nx) (n:Nat) (H':Hp),
 Rep Γ W ρ H fr s.heap→g ρ H=some (nx,n,H') →
 (∀(W':Wd) (h':Heap) (tk':Nat) (it:Value) (as:List Addr) (It:Nat→List (Addr×Obj)→Prop) (fs:List (Addr×Obj)),W.Le W'→It 0 fs→Rep Γ W' ρ H' (fs++fr) h'→(∀a∈as,∀t∈fr,a≠t.1)→Itr prog w Γ W' it as It nx→Q it { s with heap:=h',toks:=tk' }) →
 wpAny (model prog w) Γ.A (eval e Γ.env) (fun xv s₁=>wpAny (model prog w) Γ.A (pyIter xv) Q E s₁) E s
noncomputable def ZeX(a:Nat): Nx:=fun i H=>H[a]?.map fun vs=>vs[i]?
noncomputable def Zf6(vs:List V): Nx:=fun i _=>some vs[i]?
noncomputable def Zcl(a c:Int)(n:Nat): Nx:=fun i _=>some (if i<n then some (.int (a+i*c))else none)
noncomputable def Zb8(f:Ex): Src:=fun ρ H=>(f ρ H).bind fun p=>match p.1 with
 | .ref a=>p.2[a]?.map fun vs=>(ZeX a,vs.length+1,p.2)
 | .tup vs=>some (Zf6 vs,vs.length+1,p.2)
 | _=>none
noncomputable def rngN(a b c:Int): Nat:=(Builtin.Range.rangeSize a b c).toNat
noncomputable def ZaO(a b c:Int)(H:Hp): Option (Nx×Nat×Hp):=if c≠0∧Builtin.Range.small a b c=true∧0≤Builtin.Range.rangeSize a b c∧rngN a b c≤ZU∧Builtin.divisionGoesByPylong (b-a) c=false then some (Zcl a c (rngN a b c),rngN a b c+1,H)else none
noncomputable def Zbv(g:Exs): Src:=fun ρ H=>(g ρ H).bind fun p=>match p.1 with
 | [.int b]=>ZaO 0 b 1 p.2
 | [.int a,.int b]=>ZaO a b 1 p.2
 | [.int a,.int b,.int c]=>ZaO a b c p.2
 | _=>none
section
variable {prog:Program} {w:World} {Γ:Cx}
theorem ZeY{W0:Wd}{I:Addr}{nx:Nx}(P:Nat→Obj→Prop)
  (next:∀(i:Nat) (W:Wd) (ρ:Lc) (H:Hp) (fr:List (Addr×Obj)) (ob:Obj) (s:Shared) (Q:Option Value→Shared→Prop) (E:Value→Shared→Prop) (o:Option V),W0.Le W→Rep Γ W ρ H ((I,ob)::fr) s.heap→P i ob→nx i H=some o →
   (match o with
    | none=>∀(h':Heap) (tk':Nat),(∀b o,b≠I→s.heap.get? b=some o→h'.get? b=some o)→Q none { s with heap:=h',toks:=tk' }
    | some v=>∀(ob':Obj) (h':Heap) (tk':Nat) (x:Value),P (i+1) ob'→h'.get? I=some ob'→(∀b o,b≠I→s.heap.get? b=some o→h'.get? b=some o)→VR W v x→Q (some x) { s with heap:=h',toks:=tk' })→wpAny (model prog w) Γ.A (pyNext (.ref I)) Q E s)
  (self:∀(i:Nat) (W:Wd) (ρ:Lc) (H:Hp) (fr:List (Addr×Obj)) (ob:Obj) (s:Shared) (Q E:Value→Shared→Prop),W0.Le W→Rep Γ W ρ H ((I,ob)::fr) s.heap→P i ob→Q (.ref I) s→wpAny (model prog w) Γ.A (pyIter (.ref I)) Q E s):
  Itr prog w Γ W0 (.ref I) [I] (fun i fs=>∃ob,fs=[(I,ob)]∧P i ob) nx:=by
 refine⟨?_,?_,?_⟩
 ·rintro i fs ⟨ob,e,_⟩
  rw[e]
  rfl
 ·rintro i W ρ H fr fs s Q E o le r ap ⟨ob,e,hp⟩ hn post
  subst e
  refine next i W ρ H fr ob s Q E o le r hp hn ?_
  have ap':∀q∈[(I,ob)],∀t∈fr,q.1≠t.1:=fun q hq t ht=>by rw[List.mem_singleton.mp hq];exact ap I Zz5 t ht
  cases o with
  | none=>
   intro h' tk' keep
   have:=Rep.swap (fs:=[(I,ob)]) (fs':=[]) r ap' (fun b o hb e=>keep b o (fun q=>hb (by simp[q])) e) (fun q hq=>nomatch hq)
   exact post h' tk' this
  | some v=>
   intro ob' h' tk' x hp' hg keep hx
   have:=Rep.swap (fs:=[(I,ob)]) (fs':=[(I,ob')]) r ap' (fun b o hb e=>keep b o (fun q=>hb (by simp[q])) e) (fun q hq=>by rw[List.mem_singleton.mp hq];exact⟨hg,by simp⟩)
   exact post [(I,ob')] h' tk' x ⟨ob',rfl,hp'⟩ this hx
 ·rintro i W ρ H fr fs s Q E le r ⟨ob,e,hp⟩ q
  subst e
  exact self i W ρ H fr ob s Q E le r hp q
theorem JI.seq{e:Expr}{f:Ex}(h:J prog w Γ e f): JI prog w Γ e (Zb8 f):=by
 intro W ρ H fr s Q E nx n H' r hf post
 obtain⟨p,e1,hf⟩:=Zz0.mp hf
 refine h W ρ H fr s _ E _ _ r e1 fun W1 k1 t1 x l1 r1 x1=>?_
 obtain⟨v,H1⟩:=p
 cases x1 with
 | none=>cases hf
 | bool _=>cases hf
 | int _ _=>cases hf
 | str _ _=>cases hf
 | @tup vs a xs k hm hl hs=>
  cases hf
  have it:k1.IsTuple a xs.toArray:=⟨_,r1.tupAt hm,rfl,k,rfl⟩
  refine wpAny_pyIter_tuple it ?_
  obtain⟨r2,ap⟩:=r1.more (fs:=[(k1.objs.size,{ cls:=.type "tuple_iterator",data:=.fields #[.ref a,.int 0 0] })]) (fun b o e=>Heap.get?_push_of_some { cls:=.type "tuple_iterator",data:=.fields #[.ref a,.int 0 0] } e) (fun q hq=>by rw[List.mem_singleton.mp hq];exact⟨Heap.get?_push_size _ rfl,Nat.le_refl _⟩)
  refine post W1 _ t1 _ [k1.objs.size] _ _ l1 ⟨_,rfl,?_⟩ r2 (fun b hb t ht=>by rw[List.mem_singleton.mp hb];exact ap _ Zz5 t ht)
   (ZeY (fun i ob=>ob.cls=.type "tuple_iterator"∧ob.data=.fields #[.ref a,.int i 0]) ?_ ?_)
  ·intro i W ρ H fr ob s Q E o le r hp hn post
   have g1:s.heap.IsTupleIter k1.objs.size a i:=⟨ob,r.frAt Zz5,hp.1,hp.2⟩
   have g2:s.heap.IsTuple a xs.toArray:=⟨_,r.tupAt (le.tups _ hm),rfl,k,rfl⟩
   have ne:a≠k1.objs.size:=Nat.ne_of_lt (Heap.lt_size (r1.tupAt hm))
   have Wk:=Walks.tuple (prog:=prog) (w:=w) Γ.hh k1.objs.size a ne xs.toArray
   cases hn
   cases ev:vs[i]? with
   | none=>
    rw[ev]at post
    have hi:xs.toArray[i]?=none:=by have:=List.getElem?_eq_none_iff.mp ev;rw[←hs.length]at this;simpa using this
    exact wpAny_pyNext_tuple_end Γ.hh g1 g2 hi fun h' he'=>post h' s.toks fun b o hb e=>he' b o hb e
   | some v=>
    rw[ev]at post
    obtain⟨y,hy,ry⟩:=hs.at ev
    refine wpAny_pyNext_tuple_item g1 g2 (x:=y) (by simpa using hy) fun h' hit' hs'=>?_
    obtain⟨ob',h1,h2,h3⟩:=hit'
    exact post ob' h' s.toks y ⟨h2,h3⟩ h1 (fun b o hb e=>hs'.extBut b o hb e) (ry.mono le)
  ·intro i W ρ H fr ob s Q E le r hp q
   exact wpAny_pyIter_tupleiter (⟨ob,r.frAt Zz5,hp.1,hp.2⟩:s.heap.IsTupleIter k1.objs.size a i) q
  ·exact⟨rfl,rfl⟩
 | @ref i0 a ea=>
  obtain⟨vs,e2,e3⟩:=Zz1.mp hf
  cases e3
  obtain⟨hl,xs,k,hg,hv⟩:=r1.at e2 ea
  have isl:k1.IsList a xs.toArray:=⟨_,hg,rfl,k,rfl⟩
  refine wpAny_pyIter_list isl ?_
  obtain⟨r2,ap⟩:=r1.more (fs:=[(k1.objs.size,{ cls:=.type "list_iterator",data:=.fields #[.ref a,.int 0 0] })]) (fun b o e=>Heap.get?_push_of_some { cls:=.type "list_iterator",data:=.fields #[.ref a,.int 0 0] } e) (fun q hq=>by rw[List.mem_singleton.mp hq];exact⟨Heap.get?_push_size _ rfl,Nat.le_refl _⟩)
  refine post W1 _ t1 _ [k1.objs.size] _ _ l1 ⟨_,rfl,?_⟩ r2 (fun b hb t ht=>by rw[List.mem_singleton.mp hb];exact ap _ Zz5 t ht)
   (ZeY (fun i ob=>ob.cls=.type "list_iterator"∧ob.data=.fields #[.ref a,.int i 0]) ?_ ?_)
  ·intro i W ρ H fr ob s Q E o le r hp hn post
   obtain⟨us,eu,e4⟩:=Zz1.mp hn
   subst e4
   obtain⟨hl2,ys,k2,hg2,hv2⟩:=r.at eu (le.at ea)
   have g1:s.heap.IsListIter k1.objs.size a i:=⟨ob,r.frAt Zz5,hp.1,hp.2⟩
   have g2:s.heap.IsList a ys.toArray:=⟨_,hg2,rfl,k2,rfl⟩
   cases ev:us[i]? with
   | none=>
    rw[ev]at post
    have hi:ys.toArray[i]?=none:=by have:=List.getElem?_eq_none_iff.mp ev;rw[←hv2.length]at this;simpa using this
    exact wpAny_pyNext_list_end Γ.hh g1 g2 hi fun h' he'=>post h' s.toks fun b o hb e=>he' b o hb e
   | some v=>
    rw[ev]at post
    obtain⟨y,hy,ry⟩:=hv2.at ev
    refine wpAny_pyNext_list_item g1 g2 (x:=y) (by simpa using hy) fun h' hit' hs'=>?_
    obtain⟨ob',h1,h2,h3⟩:=hit'
    exact post ob' h' s.toks y ⟨h2,h3⟩ h1 (fun b o hb e=>hs'.extBut b o hb e) ry
  ·intro i W ρ H fr ob s Q E le r hp q
   exact wpAny_pyIter_listiter (⟨ob,r.frAt Zz5,hp.1,hp.2⟩:s.heap.IsListIter k1.objs.size a i) q
  ·exact⟨rfl,rfl⟩
theorem ZgM{a b c:Int}{H:Hp}{z:Nx×Nat×Hp}(h:ZaO a b c H=some z): c≠0∧Builtin.divisionGoesByPylong (b-a) c=false:=by
 unfold ZaO at h
 split at h
 ·rename_i hc
  exact⟨hc.1,hc.2.2.2.2⟩
 ·cases h
theorem ZhC{W0:Wd}{I:Addr}{a c:Int}{n:Nat}: Itr prog w Γ W0 (.ref I) [I] (fun i fs=>∃ob,fs=[(I,ob)]∧(i≤n∧ob = { cls:=.type "range_iterator",dict:=none,data:=.fields #[rawInt (a+(i:Nat)*c),rawInt ((n:Int)-(i:Nat)),rawInt c],slots:=#[] })) (Zcl a c n):=by
 have Wk:=Walks.range (prog:=prog) (w:=w) Γ.hh I a c n
 refine ZeY (fun i ob=>i≤n∧ob = { cls:=.type "range_iterator",dict:=none,data:=.fields #[rawInt (a+(i:Nat)*c),rawInt ((n:Int)-(i:Nat)),rawInt c],slots:=#[] }) ?_ ?_
 ·intro i W ρ H fr ob s Q E o le r hp hn post
  have g:IsRangeIter s.heap I (a+(i:Nat)*c) ((n:Int)-(i:Nat)) c:=(r.frAt Zz5).trans (congrArg some hp.2)
  cases hn
  by_cases hi:i<n
  ·rw[if_pos hi]at post
   refine Wk.item i s Q E hi g fun v h' tk hv st keep=>?_
   obtain⟨t,e⟩:=hv
   subst e
   exact post _ h' tk _ ⟨hi,rfl⟩ st (fun b o hb e=>keep b o (by simpa using hb) e) (.int _ _)
  ·rw[if_neg hi]at post
   have e:i=n:=by have:=hp.1;omega
   subst e
   exact Wk.done s Q E g fun h' tk keep=>post h' tk fun b o hb e=>keep b o (by simpa using hb) e
 ·intro i W ρ H fr ob s Q E le r hp q
  have g:IsRangeIter s.heap I (a+(i:Nat)*c) ((n:Int)-(i:Nat)) c:=(r.frAt Zz5).trans (congrArg some hp.2)
  exact Wk.self i s Q E g q
theorem Zek{a b c:Int}{t u v:Tok}{W:Wd}{ρ:Lc}{H:Hp}{fr:List (Addr×Obj)}{s:Shared}{k:Heap}{tk:Nat}{Q E:Value→Shared→Prop}{nx:Nx}{n:Nat}{H':Hp}(r:Rep Γ W ρ H fr k)(hm:ZaO a b c H=some (nx,n,H'))
  (post:∀(W':Wd) (h':Heap) (tk':Nat) (it:Value) (as:List Addr) (It:Nat→List (Addr×Obj)→Prop) (fs:List (Addr×Obj)),W.Le W'→It 0 fs→Rep Γ W' ρ H' (fs++fr) h'→(∀a∈as,∀t∈fr,a≠t.1)→Itr prog w Γ W' it as It nx→Q it { s with heap:=h',toks:=tk' }):
  wpAny (model prog w) Γ.A (pyIter (.ref k.objs.size)) Q E { s with heap:=k.push { cls:=.type "range",data:=.fields #[.int a t,.int b u,.int c v] },toks:=tk }:=by
 unfold ZaO at hm
 split at hm
 ·rename_i hc
  cases hm
  have hr:IsRange (k.push { cls:=.type "range",data:=.fields #[.int a t,.int b u,.int c v] }) k.objs.size a b c t u v:=IsRange.new ..
  refine wpAny_pyIter_range hr hc.2.1 ?_
  have rp:=r.push { cls:=.type "range",data:=.fields #[.int a t,.int b u,.int c v] }
  have en:Builtin.Range.rangeSize a b c=((rngN a b c:Nat):Int):=(Int.toNat_of_nonneg hc.2.2.1).symm
  dsimp only
  generalize hk:k.push { cls:=.type "range",data:=.fields #[.int a t,.int b u,.int c v] } = k2 at rp ⊢
  obtain⟨r2,ap⟩:=rp.more (fs:=[(k2.objs.size,{ cls:=.type "range_iterator",data:=.fields #[rawInt a,rawInt (Builtin.Range.rangeSize a b c),rawInt c] })]) (fun b' o e=>Heap.get?_push_of_some { cls:=.type "range_iterator",data:=.fields #[rawInt a,rawInt (Builtin.Range.rangeSize a b c),rawInt c] } e) (fun q hq=>by rw[List.mem_singleton.mp hq];exact⟨Heap.get?_push_size _ rfl,Nat.le_refl _⟩)
  refine post W _ tk _ [k2.objs.size] _ _ (.refl W) ⟨_,rfl,Nat.zero_le _,?_⟩ r2 (fun b hb t ht=>by rw[List.mem_singleton.mp hb];exact ap _ Zz5 t ht) (ZhC (a:=a) (c:=c) (n:=rngN a b c))
  rw[en]
  simp
 ·cases hm
theorem JI.range{x:Str}{np pos:Pos}{e:Expr}{es:List Expr}{g:Exs}(hn:Nm prog w Γ x (.type "range"))(h:Js prog w Γ (e::es) g)
  (he:starEach (e::es) Γ.env=(false,eval e Γ.env)::starEach es Γ.env:=by rfl) (hp:∀pos,(backTo pos (starEach es Γ.env)).any (·.1)=false:=by intro _;rfl):JI prog w Γ (.Call (.Name x np) (e::es) [] pos) (Zbv g):=by
 intro W ρ H fr s Q E nx n H' r hf post
 obtain⟨p,e1,hf⟩:=Zz0.mp hf
 refine wpAny_Call_ofName (hn.use r ?_)
 refine PySem.Pv.callWith_type1 (h pos W ρ H fr s _ E _ _ r e1 fun W1 k1 t1 xs l1 r1 x1=>?_) he (hp pos)
 obtain⟨vs,H1⟩:=p
 dsimp only at hf x1 r1
 have post1:=fun W' h' tk' it as It fs (l:W1.Le W')=>post W' h' tk' it as It fs (l1.trans l)
 split at hf
 ·obtain⟨y,ex,ry⟩:=x1.one
  subst ex
  cases ry
  exact call_range_1 (Zek r1 hf post1)
 ·obtain⟨y,z,ex,ry,rz⟩:=x1.two
  subst ex
  cases ry
  cases rz
  exact call_range_2 (Zek r1 hf post1)
 ·cases x1 with
  | cons ry x1=>
  obtain⟨y,z,ex,rz,ru⟩:=x1.two
  subst ex
  cases ry
  cases rz
  cases ru
  have hc:=ZgM hf
  exact call_range_3 hc.1 (Zek r1 hf post1) (.inl hc.2)
 ·cases hf
end
noncomputable def ZbN(nx:Nx)(put:V→Lc→Option Lc)(b:Sm): Nat→Nat→Sm
 | 0,_=>fun _ _=>none
 | n+1,i=>fun ρ H=>(nx i H).bind fun o=>match o with
  | none=>some (none,ρ,H)
  | some v=>(put v ρ).bind fun ρ1=>(b ρ1 H).bind fun q=>match q.1 with
   | some _=>some q
   | none=>ZbN nx put b n (i+1) q.2.1 q.2.2
noncomputable def Zb9(g:Src)(put:V→Lc→Option Lc)(b:Sm): Sm:=fun ρ H=>(g ρ H).bind fun z=>ZbN z.1 put b z.2.1 0 ρ z.2.2
noncomputable def ZaM(i:Nat): V→Lc→Option Lc:=fun v ρ=>some (upd ρ i v)
section
variable {prog:Program} {w:World} {Γ:Cx}
theorem ZeZ{x:Str}{i:Nat}{px pos:Pos}{it:Expr}{body:List Stmt}{g:Src}{b:Sm}(hx:Sto prog w Γ x i)(hg:JI prog w Γ it g)(hb:Ss prog w Γ body b)(hs:∀x,foldedSetIterable it Γ.env x=pure x:=by intro _;rfl): S1 prog w Γ (.For (.Name x px) it body [] pos) (Zb9 g (ZaM i) b):=by
 intro W ρ H fr s Q E r rp hf post
 obtain⟨z,e1,hf⟩:=Zz0.mp hf
 obtain⟨nx,n,H0⟩:=z
 refine wpAny_For (hg W ρ H fr s _ E nx n H0 rp e1 fun W1 k1 t1 itv as It fs l1 i1 r1 ap I1=>?_) hs
 refine codeAny_forLoop (fun k s'=>∃W' ρ' H' h' tk' j fs',s' = { s with heap:=h',toks:=tk' }∧W1.Le W'∧It j fs'∧Rep Γ W' ρ' H' (fs'++fr) h'∧ZbN nx (ZaM i) b k j ρ' H'=some r) ?_ n ⟨W1,ρ,H0,k1,t1,0,fs,rfl,.refl _,i1,r1,hf⟩
 rintro k s' ⟨W2,ρ2,H2,k2,t2,j,fs2,rfl,l2,i2,r2,e⟩
 cases k with
 | zero=>cases e
 | succ k=>
  obtain⟨o,e2,e⟩:=Zz0.mp e
  refine I1.next j W2 ρ2 H2 fr fs2 _ _ _ o l2 r2 ap i2 e2 ?_
  cases o with
  | none=>
   cases e
   intro h' tk' r3
   exact wpAny_execs_nil (post W2 h' tk' (l1.trans l2) r3)
  | some v=>
   intro fs3 k3 t3 y i3 r3 y3
   obtain⟨ρ3,e3,e⟩:=Zz0.mp e
   cases e3
   obtain⟨q,e4,e⟩:=Zz0.mp e
   refine wpAny_assign_Name (hx W2 ρ2 H2 (fs3++fr) _ _ _ v y r3 y3 fun k4 t4 r4=>?_)
   refine hb W2 _ H2 (fs3++fr) _ _ _ q r4 e4 ?_
   obtain⟨u,ρ5,H5⟩:=q
   cases u with
   | some u=>
    cases e
    exact fun W5 k5 t5 x5 l5 r5 v5=>post W5 k5 t5 x5 ((l1.trans l2).trans l5) (r5.less fun q hq=>List.mem_append_right _ hq) v5
   | none=>exact fun W5 k5 t5 l5 r5=>⟨k,Nat.lt_succ_self k,W5,ρ5,H5,k5,t5,j+1,fs3,rfl,l2.trans l5,i3,r5,e⟩
end
end PM
end
section
set_option autoImplicit false
namespace PM
open PySem PySem.W PySem.Calls PyProof.Rows PyProof
structure OwnF(names:List Str)(cs:Scope)(cl:List (Str×Addr))(W:Wd)(ρ:Lc)(m:Str→Option Value)(cells:List (Addr×Obj)): Prop where
 loc:∀(i:Nat) (x:Str) (v:V),names[i]?=some x→cs.names.lookup x=some .local→ρ i=some v→∃y,m x=some y∧VR W v y
 cel:∀(i:Nat) (x:Str) (v:V),names[i]?=some x→cs.names.lookup x=some .cell→ρ i=some v→∃c o y,cl.lookup x=some c∧(c,o)∈cells∧o.data=.cell (some y)∧VR W v y
 all:∀(x:Str) (c:Addr),cl.lookup x=some c→∃o v₀,(c,o)∈cells∧o.data=.cell v₀
 one:∀(x y:Str) (c:Addr),cl.lookup x=some c→cl.lookup y=some c→x=y
theorem OwnF.mono{names:List Str}{cs:Scope}{cl:List (Str×Addr)}{W W':Wd}{ρ:Lc}{m:Str→Option Value}{cells:List (Addr×Obj)}(l:W.Le W')(h:OwnF names cs cl W ρ m cells): OwnF names cs cl W' ρ m cells:=
 ⟨fun i x v a b c=>by
  obtain⟨y,h1,h2⟩:=h.loc i x v a b c
  exact⟨y,h1,h2.mono l⟩,fun i x v a b c=>by
  obtain⟨d,o,y,h1,h2,h3,h4⟩:=h.cel i x v a b c
  exact⟨d,o,y,h1,h2,h3,h4.mono l⟩,h.all,h.one⟩
noncomputable def Zaw(dp un:Nat)(gd:Option (List Code))(cn:Str)(cs:Scope)(L a:Addr)(ccd:Value)(cl:List (Str×Addr))(outer:List Env)(h₀:Heap)(hu:un+200<cLine)(names:List Str): Cx where
 A:=ktrTop dp un gd cn cs L a ccd cl outer
 env:=envX cn cs L a ccd cl
 h₀:=h₀
 L:=L
 hh:=rfl
 hu:=hu
 Own:=OwnF names cs cl
 mono:=OwnF.mono
section
variable {prog:Program} {w:World} {dp un:Nat} {gd:Option (List Code)} {cn:Str} {cs:Scope} {L a:Addr} {ccd:Value} {cl:List (Str×Addr)} {outer:List Env} {h₀:Heap} {hu:un+200<cLine} {names:List Str}
theorem ZiS{x:Str}{i:Nat}(hi:names[i]?=some x)(hx:cs.names.lookup x=some .local)(hk:cs.kind=.function)(hd:(x == ("__debug__":Str))=false): Rd prog w (Zaw dp un gd cn cs L a ccd cl outer h₀ hu names) x i:=by
 intro W ρ H fr s Q E v pos r e q
 obtain⟨m,c,led,r⟩:=r
 obtain⟨y,h1,h2⟩:=r.own.loc i x v hi hx e
 exact nameX_L r.F h1 (q y h2) hk hx hd
theorem ZiT{x:Str}{i:Nat}(hi:names[i]?=some x)(hx:cs.names.lookup x=some .cell)(hk:cs.kind=.function)(hd:(x == ("__debug__":Str))=false): Rd prog w (Zaw dp un gd cn cs L a ccd cl outer h₀ hu names) x i:=by
 intro W ρ H fr s Q E v pos r e q
 obtain⟨m,c,led,r⟩:=r
 obtain⟨d,o,y,h1,h2,h3,h4⟩:=r.own.cel i x v hi hx e
 exact nameX_C r.N h1 (r.clIn _ h2) h3 (q y h4) hk hx hd
theorem Zh4{x:Str}{i:Nat}(nd:names.Nodup)(hi:names[i]?=some x)(hx:cs.names.lookup x=some .local)(hk:cs.kind=.function): Sto prog w (Zaw dp un gd cn cs L a ccd cl outer h₀ hu names) x i:=by
 intro W ρ H fr s Q E v y r vy q
 obtain⟨m,c,led,r⟩:=r
 have hi':i<names.length:=(Zz6.mp hi).1
 refine storeX_L r.F r.N (fun h' F' N'=>q h' _ ⟨_,c,led,⟨F',N',r.R,r.sc,r.sc0,r.frIn,r.frOff,r.clIn,r.clOff,r.apart,r.frTup,r.clTup,⟨fun j z u hj hz hu=>?_,fun j z u hj hz hu=>?_,r.own.all,r.own.one⟩⟩⟩) hk hx
 ·by_cases e:j=i
  ·subst e
   rw[hi]at hj
   cases hj
   simp only[upd,if_true]at hu
   cases hu
   exact⟨y,by simp,vy⟩
  ·have hzx:z≠x:=fun e'=>by
    subst e'
    exact e ((List.getElem?_inj (Zz6.mp hj).1 nd).mp (hj.trans hi.symm))
   simp only[upd,if_neg e]at hu
   obtain⟨y',h1,h2⟩:=r.own.loc j z u hj hz hu
   exact⟨y',by simp[hzx,h1],h2⟩
 ·by_cases e:j=i
  ·subst e
   rw[hi]at hj
   cases hj
   rw[hx]at hz
   cases hz
  ·simp only[upd,if_neg e]at hu
   exact r.own.cel j z u hj hz hu
theorem Zh5{x:Str}{i:Nat}(nd:names.Nodup)(hi:names[i]?=some x)(hx:cs.names.lookup x=some .cell)(hk:cs.kind=.function)(hcl:(cl.lookup x).isSome=true): Sto prog w (Zaw dp un gd cn cs L a ccd cl outer h₀ hu names) x i:=by
 intro W ρ H fr s Q E v y r vy q
 obtain⟨m,c,led,r⟩:=r
 obtain⟨d,hd⟩:=Option.isSome_iff_exists.mp hcl
 obtain⟨o,v₀,ho,hv₀⟩:=r.own.all x d hd
 have inl:=r.clIn _ ho
 have N2:News h₀ L s.heap ((d,o)::led.filter (fun q=>decide (q.1≠d))):=by
  intro q hq
  rcases Zz7.mp hq with e | hq
  ·subst e
   exact r.N _ inl
  ·exact r.N q (List.mem_filter.mp hq).1
 refine storeX_C r.F N2 hd (UpdF.head fun q hq=>by simpa using (List.mem_filter.mp hq).2) hv₀ (fun h' o' F' N' ho'=>?_) hk hx
 have keep:∀q∈led,q.1≠d→q∈(d,o')::led.filter (fun q=>decide (q.1≠d)):=fun q hq hn=>List.mem_cons_of_mem _ (List.mem_filter.mpr ⟨hq,by simpa using hn⟩)
 refine q h' s.toks ⟨m,(d,o')::c.filter (fun q=>decide (q.1≠d)),_,⟨F',N',⟨r.R.len,r.R.nd,fun j vs e=>?_,fun q hq=>ZbR (r.R.tups q hq) fun z=>keep q z (r.clTup _ ho q hq).symm,r.R.kind⟩,r.sc,r.sc0,fun q hq=>keep q (r.frIn q hq) (r.apart _ ho q hq).symm,r.frOff,fun q hq=>?_,fun q hq=>?_,fun q hq t ht=>?_,r.frTup,fun q hq t ht=>?_,⟨fun j z u hj hz hu=>?_,fun j z u hj hz hu=>?_,fun z e hz=>?_,r.own.one⟩⟩⟩
 ·obtain⟨l,b,xs,k,h1,h2,h3⟩:=r.R.lists j vs e
  exact⟨l,b,xs,k,h1,ZbR h2 fun z=>keep _ z fun e=>r.clOff _ ho (e▸List.mem_of_getElem? h1),h3⟩
 ·rcases Zz7.mp hq with e | hq
  ·exact e▸List.mem_cons_self
  ·obtain⟨h1,h2⟩:=List.mem_filter.mp hq
   exact keep q (r.clIn q h1) (by simpa using h2)
 ·rcases Zz7.mp hq with e | hq
  ·rw[e]
   exact(r.clOff _ ho:d∉W.pi)
  ·exact r.clOff q (List.mem_filter.mp hq).1
 ·rcases Zz7.mp hq with e | hq
  ·rw[e]
   exact(r.apart _ ho t ht:d≠t.1)
  ·exact r.apart q (List.mem_filter.mp hq).1 t ht
 ·rcases Zz7.mp hq with e | hq
  ·rw[e]
   exact(r.clTup _ ho t ht:d≠t.1)
  ·exact r.clTup q (List.mem_filter.mp hq).1 t ht
 ·by_cases e:j=i
  ·subst e
   rw[hi]at hj
   cases hj
   rw[hx]at hz
   cases hz
  ·simp only[upd,if_neg e]at hu
   exact r.own.loc j z u hj hz hu
 ·by_cases e:j=i
  ·subst e
   rw[hi]at hj
   cases hj
   simp only[upd,if_true]at hu
   cases hu
   exact⟨d,o',y,hd,List.mem_cons_self,ho',vy⟩
  ·have hzx:z≠x:=fun e'=>by
    subst e'
    exact e ((List.getElem?_inj (Zz6.mp hj).1 nd).mp (hj.trans hi.symm))
   simp only[upd,if_neg e]at hu
   obtain⟨b,ob,y',h1,h2,h3,h4⟩:=r.own.cel j z u hj hz hu
   have:b≠d:=fun e'=>by
    subst e'
    exact hzx (r.own.one z x b h1 hd)
   exact⟨b,ob,y',h1,List.mem_cons_of_mem _ (List.mem_filter.mpr ⟨h2,by simpa using this⟩),h3,h4⟩
 ·by_cases e':e=d
  ·subst e'
   exact⟨o',_,List.mem_cons_self,ho'⟩
  ·obtain⟨ob,v1,h1,h2⟩:=r.own.all z e hz
   exact⟨ob,v1,List.mem_cons_of_mem _ (List.mem_filter.mpr ⟨h1,by simpa using e'⟩),h2⟩
end
end PM
end
section
set_option autoImplicit false
namespace PM
open PySem PySem.W PySem.Calls PyProof.Rows PyProof PyProof.Rows.LCg
theorem Zet{Γ:Cx}{W:Wd}{ρ:Lc}{H:Hp}{fr:List (Addr×Obj)}{h:Heap}{D:Addr}{ys:List Value}{k:Nat}{vs:List V}(r:Rep Γ W ρ H ((D,ZaD ys k)::fr) h)(ap:∀t∈fr,D≠t.1)(hv:VRs W vs ys)(hl:vs.length≤ZU):
  ∃W',W.Le W'∧Rep Γ W' ρ (H++[vs]) fr h∧VR W' (.ref H.length) (.ref D):=by
 obtain⟨m,c,led,r⟩:=r
 have le:W.Le ⟨W.pi++[D],W.tups,W.sc⟩:=⟨List.prefix_append _ _,fun q hq=>hq,rfl⟩
 have h0:0<W.pi.length:=(Zz6.mp r.sc0).1
 have at_n:(W.pi++[D])[H.length]?=some D:=by rw[←r.R.len];simp
 have off:=r.frOff _ Zz5
 refine⟨⟨W.pi++[D],W.tups,W.sc⟩,le,⟨m,c,led,⟨r.F,r.N,⟨by simp[r.R.len],?_,fun i us e=>?_,r.R.tups,r.R.kind⟩,r.sc,(List.getElem?_append_left h0).trans r.sc0,fun q hq=>r.frIn q (Zz2 _ hq),fun q hq=>?_,r.clIn,fun q hq=>?_,fun q hq t ht=>r.apart q hq t (Zz2 _ ht),fun q hq=>r.frTup q (Zz2 _ hq),r.clTup,Γ.mono le r.own⟩⟩,.ref at_n⟩
 ·show(W.pi++[D]).Nodup
  rw[List.nodup_append]
  refine⟨r.R.nd,by simp,fun a ha b hb=>?_⟩
  rw[List.mem_singleton.mp hb]
  exact fun e=>off (e▸ha)
 ·by_cases hi:i<H.length
  ·rw[List.getElem?_append_left hi]at e
   obtain⟨l,a,zs,j,h1,h2,h3⟩:=r.R.lists i us e
   exact⟨l,a,zs,j,le.at h1,h2,h3.mono le⟩
  ·have:i=H.length:=by
    have:=(Zz6.mp e).1
    simp at this
    omega
   subst this
   simp at e
   subst e
   exact⟨hl,D,ys,k,at_n,List.mem_cons_of_mem _ (r.frIn _ Zz5),hv.mono le⟩
 ·intro hm
  rcases Zz8.mp hm with hm | hm
  ·exact r.frOff q (Zz2 _ hq) hm
  ·exact ap q hq (Zz9.mp hm).symm
 ·intro hm
  rcases Zz8.mp hm with hm | hm
  ·exact r.clOff q hq hm
  ·exact r.apart q hq _ Zz5 (Zz9.mp hm)
noncomputable def ZjV(Γ:Cx)(C:Addr)(ts:List (Str×Nat))(ρ0:Lc)(W:Wd)(ρ:Lc)(m:Str→Option Value)(cells:List (Addr×Obj)): Prop:=
 ∃oC m₂ cs,cells=(C,oC)::cs∧(∀q∈cs,q.1≠C)∧NsObj oC m₂∧(∀p∈ts,∃v y,ρ p.2=some v∧m₂ p.1=some y∧VR W v y)∧(∀j,(∀p∈ts,p.2≠j)→ρ j=ρ0 j)∧Γ.Own W ρ0 m cs
noncomputable def Zal(Γ:Cx)(scope:Scope)(cl:List (Str×Addr))(C:Addr)(ts:List (Str×Nat))(ρ0:Lc): Cx where
 A:=Γ.A
 env:=compEnvC scope cl C Γ.env
 h₀:=Γ.h₀
 L:=Γ.L
 hh:=Γ.hh
 hu:=Γ.hu
 Own:=ZjV Γ C ts ρ0
 mono:=fun l h=>by
  obtain⟨oC,m₂,cs,e,h0,h1,h2,h3,h4⟩:=h
  exact⟨oC,m₂,cs,e,h0,h1,fun p hp=>by
   obtain⟨v,y,a,b,c⟩:=h2 p hp
   exact⟨v,y,a,b,c.mono l⟩,h3,Γ.mono l h4⟩
section
variable {Γ:Cx} {scope:Scope} {cl:List (Str×Addr)} {C:Addr} {ts:List (Str×Nat)} {ρ0:Lc} {W:Wd} {ρ:Lc} {H:Hp} {fr:List (Addr×Obj)} {h:Heap}
theorem ZfQ{oC:Obj}{m₂:Str→Option Value}(r:Rep Γ W ρ0 H ((C,oC)::fr) h)(ap:∀t∈fr,C≠t.1)(hC:NsObj oC m₂)(ht:∀p∈ts,∃v y,ρ p.2=some v∧m₂ p.1=some y∧VR W v y)(hj:∀j,(∀p∈ts,p.2≠j)→ρ j=ρ0 j): Rep (Zal Γ scope cl C ts ρ0) W ρ H fr h:=by
 obtain⟨m,c,led,r⟩:=r
 refine⟨m,(C,oC)::c,led,⟨r.F,r.N,r.R,r.sc,r.sc0,fun q hq=>r.frIn q (Zz2 _ hq),fun q hq=>r.frOff q (Zz2 _ hq),fun q hq=>?_,fun q hq=>?_,fun q hq t ht=>?_,fun q hq=>r.frTup q (Zz2 _ hq),fun q hq t ht=>?_,⟨oC,m₂,c,rfl,fun q hq=>r.apart q hq _ Zz5,hC,ht,hj,r.own⟩⟩⟩
 ·rcases Zz7.mp hq with e | hq
  ·exact e▸r.frIn _ Zz5
  ·exact r.clIn q hq
 ·rcases Zz7.mp hq with e | hq
  ·exact e▸r.frOff _ Zz5
  ·exact r.clOff q hq
 ·rcases Zz7.mp hq with e | hq
  ·exact e▸ap t ht
  ·exact r.apart q hq t (Zz2 _ ht)
 ·rcases Zz7.mp hq with e | hq
  ·exact e▸r.frTup _ Zz5 t ht
  ·exact r.clTup q hq t ht
theorem Rep.fromC(r:Rep (Zal Γ scope cl C ts ρ0) W ρ H fr h): ∃oC m₂,NsObj oC m₂∧Rep Γ W ρ0 H ((C,oC)::fr) h:=by
 obtain⟨m,c,led,r⟩:=r
 obtain⟨oC,m₂,cs,e,h0,h1,h2,h3,h4⟩:=r.own
 subst e
 refine⟨oC,m₂,h1,m,cs,led,⟨r.F,r.N,r.R,r.sc,r.sc0,fun q hq=>?_,fun q hq=>?_,fun q hq=>r.clIn q (Zz2 _ hq),fun q hq=>r.clOff q (Zz2 _ hq),fun q hq t ht=>?_,fun q hq t ht=>?_,fun q hq=>r.clTup q (Zz2 _ hq),h4⟩⟩
 ·rcases Zz7.mp hq with e | hq
  ·exact e▸r.clIn _ Zz5
  ·exact r.frIn q hq
 ·rcases Zz7.mp hq with e | hq
  ·exact e▸r.clOff _ Zz5
  ·exact r.frOff q hq
 ·rcases Zz7.mp ht with e | ht
  ·rw[e]
   exact h0 q hq
  ·exact r.apart q (Zz2 _ hq) t ht
 ·rcases Zz7.mp hq with e | hq
  ·exact e▸r.clTup _ Zz5 t ht
  ·exact r.frTup q hq t ht
end
noncomputable def JF(prog:Program)(w:World)(Γ:Cx)(ifs:List Expr)(f:Ts): Prop:=∀(W:Wd) (ρ:Lc) (H:Hp) (fr:List (Addr×Obj)) (s:Shared) (Q:Bool→Shared→Prop) (E:Value→Shared→Prop) (b:Bool) (H':Hp),
 Rep Γ W ρ H fr s.heap→f ρ H=some (b,H')→ZdG Γ W ρ H' fr s Q b →
 wpAny (model prog w) Γ.A (forIn ifs true fun c r=>if r=true then do let ok ←isTrue c Γ.env (eval c Γ.env);pure (ForInStep.yield ok)else pure (ForInStep.yield r)) Q E s
section
variable {prog:Program} {w:World} {Γ:Cx}
theorem JF.nil: JF prog w Γ [] ZaG:=fun W ρ H fr s Q E b H' r hf post=>by
 cases hf
 exact wpAny_pure (post W s.heap s.toks (.refl W) r)
end
end PM
end
section
set_option autoImplicit false
namespace PM
open PySem PySem.W PySem.Calls PyProof.Rows PyProof PyProof.Rows.LCg
noncomputable def ZaY(nx:Nx)(put:V→Lc→Option Lc)(c:Ts)(f:Ex)(ρ:Lc): Nat→Nat→List V→Hp→Option (List V×Hp)
 | 0,_,_,_=>none
 | n+1,i,acc,H=>(nx i H).bind fun o=>match o with
  | none=>some (acc,H)
  | some v=>(put v ρ).bind fun ρ1=>(c ρ1 H).bind fun b=>if b.1 then(f ρ1 b.2).bind fun p=>(if acc.length<ZU then ZaY nx put c f ρ n (i+1) (acc++[p.1]) p.2 else none)else ZaY nx put c f ρ n (i+1) acc b.2
noncomputable def ZaV(g:Src)(put:V→Lc→Option Lc)(c:Ts)(f:Ex): Ex:=fun ρ H=>(g ρ H).bind fun z=>(ZaY z.1 put c f ρ z.2.1 0 [] z.2.2).map fun q=>(.ref q.2.length,q.2++[q.1])
noncomputable def Zc9(Γ:Cx)(W0:Wd)(ρ:Lc)(fr:List (Addr×Obj))(C D:Addr)(It:Nat→List (Addr×Obj)→Prop)(nx:Nx)(put:V→Lc→Option Lc)(c:Ts)(f:Ex)(q:List V×Hp)(s:Shared)(k:Nat)(s':Shared): Prop:=
 ∃W' H' h' tk' j fs acc ys oC m₂,s' = { s with heap:=h',toks:=tk' }∧W0.Le W'∧It j fs∧NsObj oC m₂∧VRs W' acc ys∧acc.length≤ZU∧Rep Γ W' ρ H' ((C,oC)::(D,lst ys)::(fs++fr)) h'∧ZaY nx put c f ρ k j acc H'=some q
section
variable {prog:Program} {w:World} {Γ:Cx}
theorem Zfx{scope:Scope}{cl:List (Str×Addr)}{elt:Expr}{ts:List (Str×Nat)}{W0 W:Wd}{ρ ρ1:Lc}{H:Hp}{fr fs:List (Addr×Obj)}{C D:Addr}{It:Nat→List (Addr×Obj)→Prop}{nx:Nx}{put:V→Lc→Option Lc}{c:Ts}{f:Ex}{q:List V×Hp}{s:Shared}{h:Heap}{tk:Nat}{k j:Nat}{acc:List V}{ys:List Value}{E:Value→Shared→Prop}
  (hel:J prog w (Zal Γ scope cl C ts ρ) elt f) (aD:∀t∈fs++fr,D≠t.1) (cd:C≠D) (l0:W0.Le W) (hit:It (j+1) fs) (hv:VRs W acc ys) (r:Rep (Zal Γ scope cl C ts ρ) W ρ1 H ((D,lst ys)::(fs++fr)) h)
  (e:((f ρ1 H).bind fun p=>(if acc.length<ZU then ZaY nx put c f ρ k (j+1) (acc++[p.1]) p.2 else none))=some q):
  wpAny (model prog w) Γ.A (eval elt (compEnvC scope cl C Γ.env)) (fun x s₄=>wpAny (model prog w) Γ.A (call (.builtin "list.append") [.ref D,x]) (fun _ s₅=>∃m,m<k+1∧Zc9 Γ W0 ρ fr C D It nx put c f q s m s₅) E s₄) E { s with heap:=h,toks:=tk }:=by
 obtain⟨p,e2,e⟩:=Zz0.mp e
 by_cases hlt:acc.length<ZU
 ·rw[if_pos hlt]at e
  refine hel W ρ1 H _ _ _ E _ _ r e2 fun W2 k2 t2 x l2 r2 x2=>?_
  obtain⟨oC',m₃,hC',r3⟩:=r2.fromC
  have hD:k2.get? D=some (lst ys):=r3.frAt (q:=(D,lst ys)) (Zz2 _ Zz5)
  refine append_at (hsz:=Zbb (by rw[List.size_toArray,hv.length];omega)) hD fun h' sb hg=>?_
  have hg':h'.get? D=some (lst (ys++[x])):=hg.trans (congrArg some (lst_snoc ys x))
  have r4:Rep Γ W2 ρ p.2 ([(D,lst ys)]++((C,oC')::(fs++fr))) k2:=r3.less fun q hq=>by
   rcases Zz8.mp hq with hq | hq
   ·rw[List.mem_singleton.mp hq]
    exact Zz2 _ Zz5
   ·rcases Zz7.mp hq with e | hq
    ·exact e▸List.mem_cons_self
    ·exact Zz2 _ (Zz2 _ hq)
  have r5:Rep Γ W2 ρ p.2 ([(D,lst (ys++[x]))]++((C,oC')::(fs++fr))) h':=by
   refine r4.swap (fun q hq t ht=>?_) (fun b o hb e=>sb.extBut b o (fun z=>hb (by simp[z])) e) fun q hq=>?_
   ·rw[List.mem_singleton.mp hq]
    rcases Zz7.mp ht with e | ht
    ·rw[e]
     exact cd.symm
    ·exact aD t ht
   ·rw[List.mem_singleton.mp hq]
    exact⟨hg',by simp⟩
  have r6:Rep Γ W2 ρ p.2 ((C,oC')::(D,lst (ys++[x]))::(fs++fr)) h':=r5.less fun q hq=>by
   rcases Zz7.mp hq with e | hq
   ·exact e▸List.mem_append_right _ Zz5
   ·rcases Zz7.mp hq with e | hq
    ·exact e▸List.mem_append_left _ Zz5
    ·exact Zz3 _ (Zz2 _ hq)
  exact⟨k,Nat.lt_succ_self k,W2,p.2,h',t2,j+1,fs,acc++[p.1],ys++[x],oC',m₃,rfl,l0.trans l2,hit,hC',(hv.mono l2).snoc x2,by simp;omega,r6,e⟩
 ·rw[if_neg hlt]at e
  cases e
theorem ZhD{scope:Scope}{cl:List (Str×Addr)}{elt:Expr}{ifs:List Expr}{ts:List (Str×Nat)}{W0 W:Wd}{ρ ρ1:Lc}{H:Hp}{fr fs:List (Addr×Obj)}{C D:Addr}{It:Nat→List (Addr×Obj)→Prop}{nx:Nx}{put:V→Lc→Option Lc}{c:Ts}{f:Ex}{q:List V×Hp}{s s1:Shared}{k j:Nat}{acc:List V}{ys:List Value}{oC:Obj}{m₂:Str→Option Value}{E:Value→Shared→Prop}
  (hel:J prog w (Zal Γ scope cl C ts ρ) elt f) (hif:JF prog w (Zal Γ scope cl C ts ρ) ifs c) (hs:∃h tk,s1 = { s with heap:=h,toks:=tk })
  (aC:∀t∈(D,lst ys)::(fs++fr),C≠t.1) (aD:∀t∈fs++fr,D≠t.1) (l0:W0.Le W) (hit:It (j+1) fs) (hC:NsObj oC m₂) (hv:VRs W acc ys) (hl:acc.length≤ZU) (r:Rep Γ W ρ H ((C,oC)::(D,lst ys)::(fs++fr)) s1.heap)
  (ht:∀p∈ts,∃v y,ρ1 p.2=some v∧m₂ p.1=some y∧VR W v y) (hj:∀i,(∀p∈ts,p.2≠i)→ρ1 i=ρ i)
  (e:((c ρ1 H).bind fun b=>if b.1 then(f ρ1 b.2).bind fun p=>(if acc.length<ZU then ZaY nx put c f ρ k (j+1) (acc++[p.1]) p.2 else none)else ZaY nx put c f ρ k (j+1) acc b.2)=some q):
  wpAny (model prog w) Γ.A (forIn ifs true fun c r=>if r=true then do let ok ←isTrue c (compEnvC scope cl C Γ.env) (eval c (compEnvC scope cl C Γ.env));pure (ForInStep.yield ok)else pure (ForInStep.yield r)) (fun ok s₃=>
   if ok=true then wpAny (model prog w) Γ.A (eval elt (compEnvC scope cl C Γ.env)) (fun x s₄=>wpAny (model prog w) Γ.A (call (.builtin "list.append") [.ref D,x]) (fun _ s₅=>∃m,m<k+1∧Zc9 Γ W0 ρ fr C D It nx put c f q s m s₅) E s₄) E s₃
   else ∃m,m<k+1∧Zc9 Γ W0 ρ fr C D It nx put c f q s m s₃) E s1:=by
 obtain⟨h,tk,rfl⟩:=hs
 obtain⟨b,e1,e⟩:=Zz0.mp e
 obtain⟨b,H1⟩:=b
 have rc:=ZfQ (scope:=scope) (cl:=cl) r aC hC ht hj
 refine hif W ρ1 H _ _ _ E b H1 rc e1 fun W1 k1 t1 l1 r1=>?_
 cases b with
 | false=>
  obtain⟨oC',m₃,hC',r2⟩:=r1.fromC
  exact⟨k,Nat.lt_succ_self k,W1,H1,k1,t1,j+1,fs,acc,ys,oC',m₃,rfl,l0.trans l1,hit,hC',hv.mono l1,hl,r2,e⟩
 | true=>exact Zfx hel aD (aC (D,lst ys) Zz5) (l0.trans l1) hit (hv.mono l1) r1 e
theorem comp_core{elt iter:Expr}{x:Str}{px:Pos}{ifs:List Expr}{scope:Scope}{pos:Pos}{cl:List (Str×Addr)}{t:Nat}{g:Src}{c:Ts}{f:Ex}(hg:JI prog w Γ iter g)(hel:∀C ρ,J prog w (Zal Γ scope cl C [(x,t)] ρ) elt f)(hif:∀C ρ,JF prog w (Zal Γ scope cl C [(x,t)] ρ) ifs c)
  (hcell:∀y∈scope.names,y.2≠.cell) (hkind:scope.kind=.function) (hx:scope.names.lookup x=some .local)
  {W:Wd} {ρ:Lc} {H:Hp} {fr:List (Addr×Obj)} {s:Shared} {E:Value→Shared→Prop} {q:List V×Hp} {RR:Value→Addr→Result→Shared→Prop} (r:Rep Γ W ρ H fr s.heap) (hf:((g ρ H).bind fun z=>ZaY z.1 (ZaM t) c f ρ z.2.1 0 [] z.2.2)=some q)
  (hR:∀(W':Wd) (h':Heap) (tk':Nat) (C D:Addr) (oC:Obj) (m₂:Str→Option Value) (ys:List Value),W.Le W'→NsObj oC m₂→VRs W' q.1 ys→q.1.length≤ZU→(∀t∈fr,D≠t.1)→(∀t∈fr,C≠t.1)→C≠D→Rep Γ W' ρ q.2 ((C,oC)::(D,lst ys)::fr) h'→RR (.ref D) C (.ok .next) { s with heap:=h',toks:=tk' }):
  wpAny (model prog w) Γ.A (eval iter Γ.env) (fun xv s₁=>wpAny (model prog w) Γ.A (pyIter xv) (fun it s₂=>wpAny (model prog w) Γ.A (newList []) (fun acc s₃=>wpAny (model prog w) Γ.A (newFunctionEnv scope Γ.env.globals cl [] Γ.env.qual none .none (some Γ.env)) (fun cenv s₄=>
   codeAny (model prog w) Γ.A (.compStart (.ListComp elt [⟨.Name x px,iter,ifs,0⟩] scope pos) 0 it acc { cenv with scope:=relabel scope Γ.env }) (RR acc cenv.locals) s₄) E s₃) E s₂) E s₁) E s:=by
 obtain⟨z,e1,e2⟩:=Zz0.mp hf
 obtain⟨nx,n,H0⟩:=z
 refine hg W ρ H fr s _ E nx n H0 r e1 fun W1 k1 t1 itv as It fs l1 i1 r1 ap I1=>?_
 refine wpAny_newObj_type (wpAny_newFunctionEnv hcell (fun y hy=>by simp at hy) (fun h₂ hns hsb=>?_) hkind)
 dsimp only at hns hsb ⊢
 obtain⟨rD,aD⟩:=r1.more (fs:=[(k1.objs.size,lst [])]) (fun b o e=>Heap.get?_push_of_some (lst []) e) (fun q hq=>by rw[List.mem_singleton.mp hq];exact⟨Heap.get?_push_size _ rfl,Nat.le_refl _⟩)
 generalize eH:k1.push { cls:=.type "list",dict:=none,data:=.seq ([]:List Value).toArray } = K at hns hsb ⊢
 have eK:k1.push (lst [])=K:=eH
 rw[eK]at rD
 obtain⟨oC,gC,nC⟩:=ns_obj hns
 have up:∀b o,K.get? b=some o→h₂.get? b=some o:=fun b o e=>hsb.extBut b o (Nat.ne_of_lt (Heap.lt_size e)) (Heap.get?_push_of_some _ e)
 obtain⟨rC,aC⟩:=rD.more (fs:=[(K.objs.size,oC)]) up (fun q hq=>by rw[List.mem_singleton.mp hq];exact⟨gC,Nat.le_refl _⟩)
 have adr0:=I1.adr 0 fs i1
 have offs:∀b∈as,b≠k1.objs.size∧b≠K.objs.size:=fun b hb=>by
  rw[←adr0]at hb
  obtain⟨q,hq,e⟩:=Zz11.mp hb
  exact⟨e▸(aD _ Zz5 q (Zz4 _ hq)).symm,e▸(aC _ Zz5 q (Zz3 _ (Zz4 _ hq))).symm⟩
 have cd:K.objs.size≠k1.objs.size:=aC _ Zz5 (k1.objs.size,lst []) (Zz4 _ Zz5)
 have cfr:∀t∈fr,K.objs.size≠t.1:=fun t ht=>aC _ Zz5 t (Zz3 _ (Zz3 _ ht))
 have dfr:∀t∈fr,k1.objs.size≠t.1:=fun t ht=>aD _ Zz5 t (Zz3 _ ht)
 generalize k1.objs.size=D at *
 generalize K.objs.size=C at *
 have loop:∀s₃:Shared,s₃ = { s with heap:=h₂,toks:=t1+([]:List (Str×Value)).length } →
   codeAny (model prog w) Γ.A (.compLoop (.ListComp elt [⟨.Name x px,iter,ifs,0⟩] scope pos) 0 itv (.ref D) (compEnvC scope cl C Γ.env)) (RR (.ref D) C) s₃:=by
  intro s₃ hs₃
  subst hs₃
  refine codeAny_compLoop_tests (Zc9 Γ W1 ρ fr C D It nx (ZaM t) c f q s) ?_ n ⟨W1,H0,h₂,_,0,fs,[],[],oC,_,rfl,.refl _,i1,nC,.nil,Nat.zero_le _,rC,e2⟩
  rintro k s' ⟨W2,H2,k2,t2,j,fs2,acc,ys,oC2,m₂,rfl,l2,i2,hC2,hv2,hl2,r2,e⟩
  cases k with
  | zero=>cases e
  | succ k=>
   obtain⟨o,e4,e⟩:=Zz0.mp e
   have r2':Rep Γ W2 ρ H2 (fs2++((C,oC2)::(D,lst ys)::fr)) k2:=r2.less fun q hq=>by
    rcases Zz8.mp hq with hq | hq
    ·exact Zz2 _ (Zz2 _ (Zz4 _ hq))
    ·rcases Zz7.mp hq with e | hq
     ·exact e▸List.mem_cons_self
     ·rcases Zz7.mp hq with e | hq
      ·exact e▸List.mem_cons_of_mem _ Zz5
      ·exact Zz2 _ (Zz2 _ (Zz3 _ hq))
   have ap2:∀b∈as,∀t∈(C,oC2)::(D,lst ys)::fr,b≠t.1:=fun b hb t ht=>by
    rcases Zz7.mp ht with e | ht
    ·rw[e]
     exact(offs b hb).2
    ·rcases Zz7.mp ht with e | ht
     ·rw[e]
      exact(offs b hb).1
     ·exact ap b hb t ht
   refine I1.next j W2 ρ H2 _ fs2 _ _ _ o l2 r2' ap2 i2 e4 ?_
   cases o with
   | none=>
    cases e
    intro h' tk' r3
    exact hR W2 h' tk' C D oC2 m₂ ys (l1.trans l2) hC2 hv2 hl2 dfr cfr cd r3
   | some v=>
    intro fs3 k3 t3 y i3 r3 y3
    obtain⟨ρ3,e5,e⟩:=Zz0.mp e
    cases e5
    have a3:∀t∈fs3,t.1∈as:=fun t ht=>by
     rw[←I1.adr _ _ i3]
     exact List.mem_map_of_mem ht
    have gC3:k3.get? C=some oC2:=r3.frAt (q:=(C,oC2)) (Zz3 _ Zz5)
    have nC3:k3.Ns C m₂:=hC2.ns gC3
    refine wpAny_assign_Name (wpAny_storeName_local (lookup_relabel_local hx) nC3 (fun h4 hn4 sb4=>?_) (by simp[compEnvC,relabel,hkind]))
    obtain⟨oC4,gC4,nC4⟩:=ns_obj hn4
    have r3':Rep Γ W2 ρ H2 ([(C,oC2)]++((D,lst ys)::(fs3++fr))) k3:=r3.less fun q hq=>by
     rcases Zz8.mp hq with hq | hq
     ·rw[List.mem_singleton.mp hq]
      exact Zz3 _ Zz5
     ·rcases Zz7.mp hq with e | hq
      ·exact e▸List.mem_append_right _ (Zz2 _ Zz5)
      ·rcases Zz8.mp hq with hq | hq
       ·exact Zz4 _ hq
       ·exact Zz3 _ (Zz2 _ (Zz2 _ hq))
    have aC3:∀t∈(D,lst ys)::(fs3++fr),C≠t.1:=fun t ht=>by
     rcases Zz7.mp ht with e | ht
     ·rw[e]
      exact cd
     ·rcases Zz8.mp ht with ht | ht
      ·exact(offs _ (a3 t ht)).2.symm
      ·exact cfr t ht
    have aD3:∀t∈fs3++fr,D≠t.1:=fun t ht=>by
     rcases Zz8.mp ht with ht | ht
     ·exact(offs _ (a3 t ht)).1.symm
     ·exact dfr t ht
    have r4:Rep Γ W2 ρ H2 ([(C,oC4)]++((D,lst ys)::(fs3++fr))) h4:=by
     refine r3'.swap (fun q hq t ht=>?_) (fun b o hb e=>sb4.extBut b o (fun z=>hb (by simp[z,compEnvC])) e) fun q hq=>?_
     ·rw[List.mem_singleton.mp hq]
      exact aC3 t ht
     ·rw[List.mem_singleton.mp hq]
      exact⟨gC4,by simp⟩
    refine ZhD (hel C ρ) (hif C ρ) ⟨h4,_,rfl⟩ aC3 aD3 l2 i3 nC4 hv2 hl2 r4 (fun p hp=>?_) (fun i hi=>?_) e
    ·rw[List.mem_singleton.mp hp]
     exact⟨v,y,by simp[upd],by simp,y3⟩
    ·have:i≠t:=fun e=>hi (x,t) Zz5 e.symm
     simp[upd,this]
 refine codeAny_compStart_list (loop _ rfl) ?_
 exact I1.self 0 W1 ρ H0 (([(C,oC)]++[(D,lst [])])++fr) fs _ _ _ (.refl _) (rC.less fun q hq=>by
  rcases Zz8.mp hq with hq | hq
  ·exact Zz3 _ (Zz3 _ (Zz4 _ hq))
  ·rcases Zz8.mp hq with hq | hq
   ·rcases Zz8.mp hq with hq | hq
    ·exact Zz4 _ hq
    ·exact Zz3 _ (Zz4 _ hq)
   ·exact Zz3 _ (Zz3 _ (Zz3 _ hq))) i1 (loop _ rfl)
theorem ZfF{W:Wd}{ρ:Lc}{q:List V×Hp}{fr:List (Addr×Obj)}{C D:Addr}{oC:Obj}{ys:List Value}{h' h'':Heap}(hv:VRs W q.1 ys)(hl:q.1.length≤ZU)(aD:∀t∈fr,D≠t.1)(aC:∀t∈fr,C≠t.1)(cd:C≠D)(r:Rep Γ W ρ q.2 ((C,oC)::(D,lst ys)::fr) h')(sb:Heap.SameBut C h' h''):
  ∃W',W.Le W'∧Rep Γ W' ρ (q.2++[q.1]) fr h''∧VR W' (.ref q.2.length) (.ref D):=by
 have r4:Rep Γ W ρ q.2 ([]++((D,lst ys)::fr)) h'':=by
  refine Rep.swap (fs:=[(C,oC)]) (fs':=[]) r (fun q hq t ht=>?_) (fun b o hb e=>sb.extBut b o (fun z=>hb (by simp[z])) e) fun q hq=>nomatch hq
  rw[List.mem_singleton.mp hq]
  rcases Zz7.mp ht with e | ht
  ·rw[e]
   exact cd
  ·exact aC t ht
 exact Zet r4 aD hv hl
theorem ZiU{elt iter:Expr}{x:Str}{px:Pos}{ifs:List Expr}{scope:Scope}{pos:Pos}{cl:List (Str×Addr)}{t:Nat}{g:Src}{c:Ts}{f:Ex}(hg:JI prog w Γ iter g)(hel:∀C ρ,J prog w (Zal Γ scope cl C [(x,t)] ρ) elt f)(hif:∀C ρ,JF prog w (Zal Γ scope cl C [(x,t)] ρ) ifs c)
  (hclos:closureFor scope Γ.env=pure cl) (hcell:∀y∈scope.names,y.2≠.cell) (hkind:scope.kind=.function) (hnames:∀y∈scope.names,y.2=.local→scope.names.lookup y.1=some .local) (hx:scope.names.lookup x=some .local) (hs:∀x,foldedSetIterable iter Γ.env x=pure x:=by intro _;rfl):
  J prog w Γ (.ListComp elt [⟨.Name x px,iter,ifs,0⟩] scope pos) (ZaV g (ZaM t) c f):=by
 intro W ρ H fr s Q E v H' r hf post
 obtain⟨z,e1,hf⟩:=Zz0.mp hf
 obtain⟨q,e2,e3⟩:=Zz1.mp hf
 cases e3
 rw[eval_ListComp]
 refine wpAny_comprehension_free (use:=Option.none) rfl hs hclos hkind hnames ?_
 refine comp_core (RR:=fun acc C=>compPost (model prog w) Γ.A E Option.none Q acc C) hg hel hif hcell hkind hx r (q:=q) (by rw[e1];exact e2) fun W2 h' tk' C D oC m₂ ys l2 hC hv hl aD aC cd r3=>?_
 refine⟨m₂,hC.ns (r3.frAt (q:=(C,oC)) Zz5),fun h'' sb=>?_⟩
 obtain⟨W5,l5,r5,v5⟩:=ZfF hv hl aD aC cd r3 sb
 exact post W5 h'' tk' _ (l2.trans l5) r5 v5
theorem ZgW{elt iter:Expr}{x y:Str}{px py pos spos:Pos}{ifs:List Expr}{scope:Scope}{cl:List (Str×Addr)}{t i:Nat}{g:Src}{c:Ts}{f:Ex}(hy:Sto prog w Γ y i)(hg:JI prog w Γ iter g)(hel:∀C ρ,J prog w (Zal Γ scope cl C [(x,t)] ρ) elt f)(hif:∀C ρ,JF prog w (Zal Γ scope cl C [(x,t)] ρ) ifs c)
  (hsw:swapsWith (.ListComp elt [⟨.Name x px,iter,ifs,0⟩] scope pos) (some (.Name y py)) spos.line Γ.env=pure true)
  (hclos:closureFor scope Γ.env=pure cl) (hcell:∀y∈scope.names,y.2≠.cell) (hkind:scope.kind=.function) (hnames:∀y∈scope.names,y.2=.local→scope.names.lookup y.1=some .local) (hx:scope.names.lookup x=some .local) (hs:∀x,foldedSetIterable iter Γ.env x=pure x:=by intro _;rfl):
  S1 prog w Γ (.Assign [.Name y py] (.ListComp elt [⟨.Name x px,iter,ifs,0⟩] scope pos) spos) (Zag i (ZaV g (ZaM t) c f)):=by
 intro W ρ H fr s Q E r rp hf post
 obtain⟨p,e0,e9⟩:=Zz1.mp hf
 cases e9
 obtain⟨z,e1,hf⟩:=Zz0.mp e0
 obtain⟨q,e2,e3⟩:=Zz1.mp hf
 cases e3
 rw[exec_Assign_Name_used _ _ _ _ hsw]
 refine wpAny_bind (wpAny_standAt (wpAny_bind ?_))
 show wpAny _ Γ.A (do let _ ←comprehension (.ListComp elt [⟨.Name x px,iter,ifs,0⟩] scope pos) scope Γ.env _ (newList []) false (eval iter Γ.env) (some (assign (.Name y py) Γ.env))) _ _ s
 refine wpAny_bind (wpAny_mono (wpAny_comprehension_free (use:=some (assign (.Name y py) Γ.env)) (Q:=fun _ s'=>Q .next s') rfl hs hclos hkind hnames ?_) (fun _ s' h'=>wpAny_pure (wpAny_pure h')) fun _ _ e=>e)
 refine comp_core (RR:=fun acc C=>compPost (model prog w) Γ.A E (some (assign (.Name y py) Γ.env)) (fun _ s'=>Q .next s') acc C) hg hel hif hcell hkind hx rp (q:=q) (by rw[e1];exact e2) fun W2 h' tk' C D oC m₂ ys l2 hC hv hl aD aC cd r3=>?_
 have r4:Rep Γ W2 ρ q.2 ((D,lst ys)::(C,oC)::fr) h':=r3.less fun t ht=>by
  rcases Zz7.mp ht with e | ht
  ·exact e▸List.mem_cons_of_mem _ Zz5
  ·rcases Zz7.mp ht with e | ht
   ·exact e▸List.mem_cons_self
   ·exact Zz2 _ (Zz2 _ ht)
 obtain⟨W5,l5,r5,v5⟩:=Zet r4 (fun t ht=>by
  rcases Zz7.mp ht with e | ht
  ·rw[e]
   exact cd.symm
  ·exact aD t ht) hv hl
 refine wpAny_assign_Name (hy W5 ρ _ _ _ _ _ _ _ r5 v5 fun h6 t6 r6=>?_)
 refine⟨m₂,hC.ns (r6.frAt (q:=(C,oC)) Zz5),fun h'' sb=>?_⟩
 have r7:Rep Γ W5 (upd ρ i (.ref q.2.length)) (q.2++[q.1]) ([]++fr) h'':=
  Rep.swap (fs:=[(C,oC)]) (fs':=[]) r6 (fun q hq t ht=>by rw[List.mem_singleton.mp hq];exact aC t ht) (fun b o hb e=>sb.extBut b o (fun z=>hb (by simp[z])) e) fun q hq=>nomatch hq
 exact post W5 h'' t6 (l2.trans l5) r7
end
end PM
end
section
set_option autoImplicit false
namespace PM
open PySem PySem.W PySem.Calls PyProof.Rows PyProof PyProof.Rows.LCg PyProof.Rows.LCp
theorem Zgw(h:Heap): ∀as:List Addr,(∀a∈as,∃o,h.get? a=some o)→∃fs:List (Addr×Obj),fs.map (·.1)=as∧∀q∈fs,h.get? q.1=some q.2
 | [],_=>⟨[],rfl,fun q hq=>nomatch hq⟩
 | a::as,d=>by
  obtain⟨o,ho⟩:=d a Zz5
  obtain⟨fs,h1,h2⟩:=Zgw h as fun b hb=>d b (Zz2 _ hb)
  refine⟨(a,o)::fs,by rw[List.map_cons,h1],fun q hq=>?_⟩
  rcases Zz7.mp hq with e | hq
  ·rw[e]
   exact ho
  ·exact h2 q hq
structure Itr2(prog:Program)(w:World)(Γ:Cx)(W0:Wd)(it:Value)(as:List Addr)(It:Nat→List (Addr×Obj)→Prop)(nx:Nx): Prop where
 adr:∀i fs,It i fs→fs.map (·.1)=as
 pair:∀i H v,nx i H=some (some v)→∃a b,v=.tup [a,b]
 item:∀(i:Nat) (W:Wd) (ρ:Lc) (H:Hp) (fr fs:List (Addr×Obj)) (s:Shared) (Q:Option Value→Shared→Prop) (E:Value→Shared→Prop) (a b:V),W0.Le W→Rep Γ W ρ H (fs++fr) s.heap→(∀a∈as,∀t∈fr,a≠t.1)→It i fs→nx i H=some (some (.tup [a,b])) →
  (∀(T:Addr) (h1:Heap) (t1:Nat),(∀(elts:List Expr) (k:Nat) (pos:Pos) (s1:Shared) (Q1:Unit→Shared→Prop) (E1:Value→Shared→Prop),s1 = { s with heap:=h1,toks:=t1 } →
    (∀(fs':List (Addr×Obj)) (h':Heap) (x y:Value),It (i+1) fs'→Rep Γ W ρ H (fs'++fr) h'→IsTup h' T #[x,y]→VR W a x→VR W b y→Q1 () { s with heap:=h',toks:=t1 })→wpAny (model prog w) Γ.A (letOwnedTupleGo (.Tuple elts k pos) it (.ref T)) Q1 E1 s1)→Q (some (.ref T)) { s with heap:=h1,toks:=t1 })→wpAny (model prog w) Γ.A (pyNext it) Q E s
 done:∀(i:Nat) (W:Wd) (ρ:Lc) (H:Hp) (fr fs:List (Addr×Obj)) (s:Shared) (Q:Option Value→Shared→Prop) (E:Value→Shared→Prop),W0.Le W→Rep Γ W ρ H (fs++fr) s.heap→(∀a∈as,∀t∈fr,a≠t.1)→It i fs→nx i H=some none →
  (∀(h':Heap) (tk':Nat),Rep Γ W ρ H fr h'→Q none { s with heap:=h',toks:=tk' })→wpAny (model prog w) Γ.A (pyNext it) Q E s
 self:∀(i:Nat) (W:Wd) (ρ:Lc) (H:Hp) (fr fs:List (Addr×Obj)) (s:Shared) (Q E:Value→Shared→Prop) (o:Option V),W0.Le W→Rep Γ W ρ H (fs++fr) s.heap→It i fs→nx i H=some o→Q it s→wpAny (model prog w) Γ.A (pyIter it) Q E s
noncomputable def JI2(prog:Program)(w:World)(Γ:Cx)(e:Expr)(g:Src): Prop:=∀(W:Wd) (ρ:Lc) (H:Hp) (fr:List (Addr×Obj)) (s:Shared) (Q E:Value→Shared→Prop) (nx:Nx) (n:Nat) (H':Hp),
 Rep Γ W ρ H fr s.heap→g ρ H=some (nx,n,H') →
 (∀(W':Wd) (h':Heap) (tk':Nat) (it:Value) (as:List Addr) (It:Nat→List (Addr×Obj)→Prop) (fs:List (Addr×Obj)),W.Le W'→It 0 fs→Rep Γ W' ρ H' (fs++fr) h'→(∀a∈as,∀t∈fr,a≠t.1)→Itr2 prog w Γ W' it as It nx→(∃o,nx 0 H'=some o)→Q it { s with heap:=h',toks:=tk' }) →
 wpAny (model prog w) Γ.A (eval e Γ.env) (fun xv s₁=>wpAny (model prog w) Γ.A (pyIter xv) Q E s₁) E s
noncomputable def Zc3(a b:Nat): Nx:=fun i H=>H[a]?.bind fun vs=>H[b]?.bind fun us=>match vs[i]?,us[i]? with
 | some x,some y=>some (some (.tup [x,y]))
 | _,_=>if i=min vs.length us.length then some none else none
noncomputable def ZdN(f g:Ex): Src:=fun ρ H=>(f ρ H).bind fun p=>(g ρ p.2).bind fun q=>match p.1,q.1 with
 | .ref a,.ref b=>q.2[a]?.bind fun vs=>q.2[b]?.map fun us=>(Zc3 a b,min vs.length us.length+1,q.2)
 | _,_=>none
noncomputable def ZcA(i j:Nat): V→Lc→Option Lc
 | .tup [a,b],ρ=>some (upd (upd ρ i a) j b)
 | _,_=>none
noncomputable def ZS(z TI TO i1 i2 l1 l2:Addr)(i:Nat)(h:Heap): Prop:=IsZip h z TI TO .none∧PySem.IsPair h TI (.ref i1) (.ref i2)∧(∃a b,PySem.IsPair h TO a b)∧h.IsListIter i1 l1 i∧h.IsListIter i2 l2 i
theorem ZS.at{z TI TO i1 i2 l1 l2:Addr}{i:Nat}{h h':Heap}(x:ZS z TI TO i1 i2 l1 l2 i h)(e:∀a∈[z,TI,TO,i1,i2],∀o,h.get? a=some o→h'.get? a=some o): ZS z TI TO i1 i2 l1 l2 i h':=by
 obtain⟨h1,h2,⟨a,b,h3⟩,h4,h5⟩:=x
 exact⟨e z (by simp) _ h1,e TI (by simp) _ h2,⟨a,b,e TO (by simp) _ h3⟩,h4.at fun o x=>e i1 (by simp) o x,h5.at fun o x=>e i2 (by simp) o x⟩
theorem ZS.have{z TI TO i1 i2 l1 l2:Addr}{i:Nat}{h:Heap}(x:ZS z TI TO i1 i2 l1 l2 i h): ∀a∈[z,TI,TO,i1,i2],∃o,h.get? a=some o:=by
 obtain⟨h1,h2,⟨a,b,h3⟩,⟨o4,h4,_⟩,⟨o5,h5,_⟩⟩:=x
 intro c hc
 simp only[List.mem_cons,List.not_mem_nil,or_false]at hc
 rcases hc with e | e | e | e | e <;> subst e
 ·exact⟨_,h1⟩
 ·exact⟨_,h2⟩
 ·exact⟨_,h3⟩
 ·exact⟨_,h4⟩
 ·exact⟨_,h5⟩
noncomputable def ZIt(z TI TO i1 i2 l1 l2:Addr)(i:Nat)(fs:List (Addr×Obj)): Prop:=fs.map (·.1)=[z,TI,TO,i1,i2]∧∀h:Heap,(∀q∈fs,h.get? q.1=some q.2)→ZS z TI TO i1 i2 l1 l2 i h
theorem ZfR{z TI TO i1 i2 l1 l2:Addr}{i:Nat}{h:Heap}(x:ZS z TI TO i1 i2 l1 l2 i h): ∃fs,ZIt z TI TO i1 i2 l1 l2 i fs∧∀q∈fs,h.get? q.1=some q.2:=by
 obtain⟨fs,h1,h2⟩:=Zgw h [z,TI,TO,i1,i2] x.have
 refine⟨fs,⟨h1,fun h' e=>x.at fun a ha o ho=>?_⟩,h2⟩
 rw[←h1]at ha
 obtain⟨q,hq,eq⟩:=Zz11.mp ha
 have:=h2 q hq
 rw[eq,ho]at this
 cases this
 exact eq▸e q hq
section
variable {prog:Program} {w:World} {Γ:Cx}
theorem ZiV{W0:Wd}{z TI TO i1 i2 l1 l2:Addr}{a b:Nat}(ea:W0.pi[a]?=some l1)(eb:W0.pi[b]?=some l2)(D:ZipApart z TI TO i1 i2 l1 l2):
  Itr2 prog w Γ W0 (.ref z) [z,TI,TO,i1,i2] (ZIt z TI TO i1 i2 l1 l2) (Zc3 a b):=by
 refine⟨fun i fs h=>h.1,?_,?_,?_,?_⟩
 ·intro i H v e
  obtain⟨vs,e1,e⟩:=Zz0.mp e
  obtain⟨us,e2,e⟩:=Zz0.mp e
  split at e
  ·cases e
   exact⟨_,_,rfl⟩
  ·split at e <;> cases e
 ·intro i W ρ H fr fs s Q E va vb le r ap hit hn post
  obtain⟨vs,e1,e⟩:=Zz0.mp hn
  obtain⟨us,e2,e⟩:=Zz0.mp e
  have hvu:vs[i]?=some va∧us[i]?=some vb:=by
   split at e
   ·rename_i x y h1 h2
    cases e
    exact⟨h1,h2⟩
   ·split at e <;> cases e
  obtain⟨_,xs,k1,g1,v1⟩:=r.at e1 (le.at ea)
  obtain⟨_,ys,k2,g2,v2⟩:=r.at e2 (le.at eb)
  obtain⟨x,hx,rx⟩:=v1.at hvu.1
  obtain⟨y,hy,ry⟩:=v2.at hvu.2
  have st:ZS z TI TO i1 i2 l1 l2 i s.heap:=hit.2 _ fun q hq=>r.frAt (Zz4 _ hq)
  have Wk:=WalksT.zip2 (prog:=prog) (w:=w) (A:=Γ.A) Γ.hh z TI TO i1 i2 l1 l2 D xs.toArray ys.toArray
  have isl1:s.heap.IsList l1 xs.toArray:=⟨_,g1,rfl,k1,rfl⟩
  have isl2:s.heap.IsList l2 ys.toArray:=⟨_,g2,rfl,k2,rfl⟩
  have hi:i<min xs.toArray.size ys.toArray.size:=by
   have h1:=(Zz6.mp hx).1
   have h2:=(Zz6.mp hy).1
   simp
   omega
  refine Wk.item i s Q E hi ⟨st.1,st.2.1,st.2.2.1,st.2.2.2.1,st.2.2.2.2,isl1,isl2⟩ fun T vals h1 t1 hp hT hTup hmid keep1=>post T h1 t1 ?_
  intro elts k pos s1 Q1 E1 es1 q1
  subst es1
  have hTw:=Wk.apart i T _ hmid
  refine Wk.go elts k pos i T _ Q1 E1 hmid fun h2 st2 keep2=>?_
  obtain⟨x',y',hx',hy',ev⟩:=hp
  have ex:x'=x:=by
   have:xs[i]?=some x':=by simpa using hx'
   rw[hx]at this
   exact(Option.some.inj this).symm
  have ey:y'=y:=by
   have:ys[i]?=some y':=by simpa using hy'
   rw[hy]at this
   exact(Option.some.inj this).symm
  subst ex ey ev
  obtain⟨fs',hit',at'⟩:=ZfR (h:=h2) (⟨st2.1,st2.2.1,st2.2.2.1,st2.2.2.2.1,st2.2.2.2.2.1⟩:ZS z TI TO i1 i2 l1 l2 (i+1) h2)
  obtain⟨oT,gT,cT,nT,dT⟩:=hTup
  refine q1 fs' h2 x' y' hit' ?_ ⟨oT,keep2 T oT hTw gT,cT,nT,dT⟩ rx ry
  refine r.swap (fs':=fs') (fun q hq t ht=>?_) (fun c o hc e=>?_) fun q hq=>⟨at' q hq,?_⟩
  ·exact ap _ (hit.1▸List.mem_map_of_mem hq) t ht
  ·rw[hit.1]at hc
   have hcw:c∉[z,TO,i1,i2]:=fun h=>hc (by simp at h ⊢;rcases h with h | h | h | h <;> simp[h])
   exact keep2 c o hcw (keep1 c o hcw e)
  ·rw[hit.1,←hit'.1]
   exact List.mem_map_of_mem hq
 ·intro i W ρ H fr fs s Q E le r ap hit hn post
  obtain⟨vs,e1,e⟩:=Zz0.mp hn
  obtain⟨us,e2,e⟩:=Zz0.mp e
  obtain⟨_,xs,k1,g1,v1⟩:=r.at e1 (le.at ea)
  obtain⟨_,ys,k2,g2,v2⟩:=r.at e2 (le.at eb)
  have hi:i=min vs.length us.length:=by
   split at e
   ·cases e
   ·split at e
    ·assumption
    ·cases e
  have st:ZS z TI TO i1 i2 l1 l2 i s.heap:=hit.2 _ fun q hq=>r.frAt (Zz4 _ hq)
  have Wk:=WalksT.zip2 (prog:=prog) (w:=w) (A:=Γ.A) Γ.hh z TI TO i1 i2 l1 l2 D xs.toArray ys.toArray
  have hm:min xs.toArray.size ys.toArray.size=i:=by simp[v1.length,v2.length,hi]
  refine Wk.done s Q E (by rw[hm];exact⟨st.1,st.2.1,st.2.2.1,st.2.2.2.1,st.2.2.2.2,⟨_,g1,rfl,k1,rfl⟩,⟨_,g2,rfl,k2,rfl⟩⟩) fun h' tk keep=>post h' tk ?_
  have:=r.swap (fs':=[]) (fun q hq t ht=>ap _ (hit.1▸List.mem_map_of_mem hq) t ht) (fun c o hc e=>keep c o (fun h=>hc (by rw[hit.1];simp at h ⊢;rcases h with h | h | h | h <;> simp[h])) e) (fun q hq=>nomatch hq)
  exact this
 ·intro i W ρ H fr fs s Q E o le r hit hn q
  obtain⟨vs,e1,e⟩:=Zz0.mp hn
  obtain⟨us,e2,e⟩:=Zz0.mp e
  obtain⟨_,xs,k1,g1,v1⟩:=r.at e1 (le.at ea)
  obtain⟨_,ys,k2,g2,v2⟩:=r.at e2 (le.at eb)
  have st:ZS z TI TO i1 i2 l1 l2 i s.heap:=hit.2 _ fun q hq=>r.frAt (Zz4 _ hq)
  have Wk:=WalksT.zip2 (prog:=prog) (w:=w) (A:=Γ.A) Γ.hh z TI TO i1 i2 l1 l2 D xs.toArray ys.toArray
  exact Wk.self i s Q E ⟨st.1,st.2.1,st.2.2.1,st.2.2.2.1,st.2.2.2.2,⟨_,g1,rfl,k1,rfl⟩,⟨_,g2,rfl,k2,rfl⟩⟩ q
theorem JI2.zip{x:Str}{np pos:Pos}{e1 e2:Expr}{f g:Ex}(hn:Nm prog w Γ x (.type "zip"))(h1:J prog w Γ e1 f)(h2:J prog w Γ e2 g)
  (he:starEach [e1,e2] Γ.env=(false,eval e1 Γ.env)::starEach [e2] Γ.env:=by rfl) (he2:starEach [e2] Γ.env=(false,eval e2 Γ.env)::starEach [] Γ.env:=by rfl) (hp:∀pos,(backTo pos (starEach [e2] Γ.env)).any (·.1)=false:=by intro _;rfl):JI2 prog w Γ (.Call (.Name x np) [e1,e2] [] pos) (ZdN f g):=by
 intro W ρ H fr s Q E nx n H' r hf post
 obtain⟨p,a1,hf⟩:=Zz0.mp hf
 obtain⟨q,a2,hf⟩:=Zz0.mp hf
 refine wpAny_Call_ofName (hn.use r ?_)
 refine PySem.Pv.callWith_type1 (wpAny_items_cons (h1 W ρ H fr s _ E _ _ r a1 fun W1 k1 t1 y1 l1 r1 v1=>?_) he) he (hp pos)
 refine wpAny_items_cons (h2 W1 ρ _ fr _ _ E _ _ r1 a2 fun W2 k2 t2 y2 l2 r2 v2=>wpAny_items_nil ?_) he2
 have v1':=v1.mono l2
 obtain⟨u1,H1⟩:=p
 obtain⟨u2,H2⟩:=q
 simp only at hf v1' v2 r2
 cases u1 <;> first | (cases hf;done) | skip
 rename_i b1
 cases u2 <;> first | (cases hf;done) | skip
 rename_i b2
 obtain⟨vs,c1,hf⟩:=Zz0.mp hf
 obtain⟨us,c2,c3⟩:=Zz1.mp hf
 cases c3
 cases v1' with
 | @ref _ m1 ea=>
 cases v2 with
 | @ref _ m2 eb=>
 obtain⟨_,xs,n1,g1,w1⟩:=r2.at c1 ea
 obtain⟨_,ys,n2,g2,w2⟩:=r2.at c2 eb
 have isl1:k2.IsList m1 xs.toArray:=⟨_,g1,rfl,n1,rfl⟩
 have isl2:k2.IsList m2 ys.toArray:=⟨_,g2,rfl,n2,rfl⟩
 refine call_zip_2 (s:={ s with heap:=k2,toks:=t2 }) isl1 isl2 fun h₁ hz hTI hTO hi1 hi2 hsz up=>?_
 have ap:=zipApart_new (n:=k2.objs.size) (Heap.lt_size g1) (Heap.lt_size g2)
 have Wk:=WalksT.zip2 (prog:=prog) (w:=w) (A:=Γ.A) Γ.hh _ _ _ _ _ m1 m2 ap xs.toArray ys.toArray
 have zs:ZS (k2.objs.size+4) (k2.objs.size+2) (k2.objs.size+3) k2.objs.size (k2.objs.size+1) m1 m2 0 h₁:=⟨hz,hTI,⟨_,_,hTO⟩,hi1,hi2⟩
 refine Wk.self 0 _ _ _ ⟨hz,hTI,⟨_,_,hTO⟩,hi1,hi2,isl1.at fun o e=>up _ o e,isl2.at fun o e=>up _ o e⟩ ?_
 obtain⟨fs,hit,at'⟩:=ZfR zs
 obtain⟨r3,ap3⟩:=r2.more (fs:=fs) (h':=h₁) (fun b o e=>up b o e) (fun q hq=>⟨at' q hq,by
  have:q.1∈fs.map (·.1):=List.mem_map_of_mem hq
  rw[hit.1]at this
  simp at this
  rcases this with e | e | e | e | e <;> rw[e] <;> omega⟩)
 refine post W2 h₁ t2 _ _ _ fs (l1.trans l2) hit r3 (fun b hb t ht=>?_) (ZiV ea eb ap) ?_
 ·rw[←hit.1]at hb
  obtain⟨q,hq,e⟩:=Zz11.mp hb
  exact e▸ap3 q hq t ht
 ·simp only[Zc3,c1,c2,Option.bind_some]
  split
  ·exact⟨_,rfl⟩
  ·rename_i hno
   have:0=min vs.length us.length:=by
    rcases Nat.eq_zero_or_pos vs.length with z | z
    ·rw[z];simp
    ·rcases Nat.eq_zero_or_pos us.length with z' | z'
     ·rw[z'];simp
     ·exact(hno vs[0] us[0] (by simp[z]) (by simp[z'])).elim
   rw[if_pos this]
   exact⟨_,rfl⟩
theorem ZgX{elt iter:Expr}{x x₂:Str}{px px₂ tp:Pos}{kt:Nat}{scope:Scope}{pos:Pos}{cl:List (Str×Addr)}{t t₂:Nat}{g:Src}{f:Ex}(hg:JI2 prog w Γ iter g)(hel:∀C ρ,J prog w (Zal Γ scope cl C [(x,t),(x₂,t₂)] ρ) elt f)
  (hcell:∀y∈scope.names,y.2≠.cell) (hkind:scope.kind=.function) (hx:scope.names.lookup x=some .local) (hx₂:scope.names.lookup x₂=some .local) (hxx:x≠x₂) (htt:t≠t₂)
  {W:Wd} {ρ:Lc} {H:Hp} {fr:List (Addr×Obj)} {s:Shared} {E:Value→Shared→Prop} {q:List V×Hp} {RR:Value→Addr→Result→Shared→Prop} (r:Rep Γ W ρ H fr s.heap) (hf:((g ρ H).bind fun z=>ZaY z.1 (ZcA t t₂) ZaG f ρ z.2.1 0 [] z.2.2)=some q)
  (hR:∀(W':Wd) (h':Heap) (tk':Nat) (C D:Addr) (oC:Obj) (m₂:Str→Option Value) (ys:List Value),W.Le W'→NsObj oC m₂→VRs W' q.1 ys→q.1.length≤ZU→(∀t∈fr,D≠t.1)→(∀t∈fr,C≠t.1)→C≠D→Rep Γ W' ρ q.2 ((C,oC)::(D,lst ys)::fr) h'→RR (.ref D) C (.ok .next) { s with heap:=h',toks:=tk' }):
  wpAny (model prog w) Γ.A (eval iter Γ.env) (fun xv s₁=>wpAny (model prog w) Γ.A (pyIter xv) (fun it s₂=>wpAny (model prog w) Γ.A (newList []) (fun acc s₃=>wpAny (model prog w) Γ.A (newFunctionEnv scope Γ.env.globals cl [] Γ.env.qual none .none (some Γ.env)) (fun cenv s₄=>
   codeAny (model prog w) Γ.A (.compStart (.ListComp elt [⟨.Tuple [.Name x px,.Name x₂ px₂] kt tp,iter,[],0⟩] scope pos) 0 it acc { cenv with scope:=relabel scope Γ.env }) (RR acc cenv.locals) s₄) E s₃) E s₂) E s₁) E s:=by
 obtain⟨z,e1,e2⟩:=Zz0.mp hf
 obtain⟨nx,n,H0⟩:=z
 refine hg W ρ H fr s _ E nx n H0 r e1 fun W1 k1 t1 itv as It fs l1 i1 r1 ap I1 hstart=>?_
 refine wpAny_newObj_type (wpAny_newFunctionEnv hcell (fun y hy=>by simp at hy) (fun h₂ hns hsb=>?_) hkind)
 dsimp only at hns hsb ⊢
 obtain⟨rD,aD⟩:=r1.more (fs:=[(k1.objs.size,lst [])]) (fun b o e=>Heap.get?_push_of_some (lst []) e) (fun q hq=>by rw[List.mem_singleton.mp hq];exact⟨Heap.get?_push_size _ rfl,Nat.le_refl _⟩)
 generalize eH:k1.push { cls:=.type "list",dict:=none,data:=.seq ([]:List Value).toArray } = K at hns hsb ⊢
 have eK:k1.push (lst [])=K:=eH
 rw[eK]at rD
 obtain⟨oC,gC,nC⟩:=ns_obj hns
 have up:∀b o,K.get? b=some o→h₂.get? b=some o:=fun b o e=>hsb.extBut b o (Nat.ne_of_lt (Heap.lt_size e)) (Heap.get?_push_of_some _ e)
 obtain⟨rC,aC⟩:=rD.more (fs:=[(K.objs.size,oC)]) up (fun q hq=>by rw[List.mem_singleton.mp hq];exact⟨gC,Nat.le_refl _⟩)
 have adr0:=I1.adr 0 fs i1
 have offs:∀b∈as,b≠k1.objs.size∧b≠K.objs.size:=fun b hb=>by
  rw[←adr0]at hb
  obtain⟨q,hq,e⟩:=Zz11.mp hb
  exact⟨e▸(aD _ Zz5 q (Zz4 _ hq)).symm,e▸(aC _ Zz5 q (Zz3 _ (Zz4 _ hq))).symm⟩
 have cd:K.objs.size≠k1.objs.size:=aC _ Zz5 (k1.objs.size,lst []) (Zz4 _ Zz5)
 have cfr:∀t∈fr,K.objs.size≠t.1:=fun t ht=>aC _ Zz5 t (Zz3 _ (Zz3 _ ht))
 have dfr:∀t∈fr,k1.objs.size≠t.1:=fun t ht=>aD _ Zz5 t (Zz3 _ ht)
 generalize k1.objs.size=D at *
 generalize K.objs.size=C at *
 have loop:∀s₃:Shared,s₃ = { s with heap:=h₂,toks:=t1+([]:List (Str×Value)).length } →
   codeAny (model prog w) Γ.A (.compLoop (.ListComp elt [⟨.Tuple [.Name x px,.Name x₂ px₂] kt tp,iter,[],0⟩] scope pos) 0 itv (.ref D) (compEnvC scope cl C Γ.env)) (RR (.ref D) C) s₃:=by
  intro s₃ hs₃
  subst hs₃
  refine codeAny_compLoop_pair (Zc9 Γ W1 ρ fr C D It nx (ZcA t t₂) ZaG f q s) ?_ n ⟨W1,H0,h₂,_,0,fs,[],[],oC,_,rfl,.refl _,i1,nC,.nil,Nat.zero_le _,rC,e2⟩
  rintro k s' ⟨W2,H2,k2,t2,j,fs2,acc,ys,oC2,m₂,rfl,l2,i2,hC2,hv2,hl2,r2,e⟩
  cases k with
  | zero=>cases e
  | succ k=>
   obtain⟨o,e4,e⟩:=Zz0.mp e
   have r2':Rep Γ W2 ρ H2 (fs2++((C,oC2)::(D,lst ys)::fr)) k2:=r2.less fun q hq=>by
    rcases Zz8.mp hq with hq | hq
    ·exact Zz2 _ (Zz2 _ (Zz4 _ hq))
    ·rcases Zz7.mp hq with e | hq
     ·exact e▸List.mem_cons_self
     ·rcases Zz7.mp hq with e | hq
      ·exact e▸List.mem_cons_of_mem _ Zz5
      ·exact Zz2 _ (Zz2 _ (Zz3 _ hq))
   have ap2:∀b∈as,∀t∈(C,oC2)::(D,lst ys)::fr,b≠t.1:=fun b hb t ht=>by
    rcases Zz7.mp ht with e | ht
    ·rw[e]
     exact(offs b hb).2
    ·rcases Zz7.mp ht with e | ht
     ·rw[e]
      exact(offs b hb).1
     ·exact ap b hb t ht
   cases o with
   | none=>
    cases e
    exact I1.done j W2 ρ H2 _ fs2 _ _ _ l2 r2' ap2 i2 e4 fun h' tk' r3=>hR W2 h' tk' C D oC2 m₂ ys (l1.trans l2) hC2 hv2 hl2 dfr cfr cd r3
   | some v=>
    obtain⟨va,vb,ev⟩:=I1.pair j H2 v e4
    subst ev
    refine I1.item j W2 ρ H2 _ fs2 _ _ _ va vb l2 r2' ap2 i2 e4 fun T h3 t3 go=>?_
    obtain⟨ρ3,e5,e⟩:=Zz0.mp e
    cases e5
    refine go _ _ _ _ _ _ rfl fun fs3 k3 y1 y2 i3 r3 htup w1 w2=>?_
    have a3:∀t∈fs3,t.1∈as:=fun t ht=>by
     rw[←I1.adr _ _ i3]
     exact List.mem_map_of_mem ht
    refine assign_Tuple_tuple (s:={ s with heap:=k3,toks:=t3 }) Γ.hh htup rfl rfl fun g₄ he=>?_
    have r3g:=r3.grown (h':=g₄) fun b o e=>he b o (Nat.ne_of_lt (Heap.lt_size e)) e
    have gC3:g₄.get? C=some oC2:=r3g.frAt (q:=(C,oC2)) (Zz3 _ Zz5)
    have nC3:g₄.Ns C m₂:=hC2.ns gC3
    refine assignInOrder_cons (wpAny_assign_Name (wpAny_storeName_local (lookup_relabel_local hx) nC3 (fun h5 hn5 sb5=>?_) (by simp[compEnvC,relabel,hkind])))
    refine assignInOrder_cons (wpAny_assign_Name (wpAny_storeName_local (lookup_relabel_local hx₂) hn5 (fun h4 hn4 sb4=>?_) (by simp[compEnvC,relabel,hkind])))
    refine assignInOrder_nil ?_
    obtain⟨oC4,gC4,nC4⟩:=ns_obj hn4
    have r3':Rep Γ W2 ρ H2 ([(C,oC2)]++((D,lst ys)::(fs3++fr))) g₄:=r3g.less fun q hq=>by
     rcases Zz8.mp hq with hq | hq
     ·rw[List.mem_singleton.mp hq]
      exact Zz3 _ Zz5
     ·rcases Zz7.mp hq with e | hq
      ·exact e▸List.mem_append_right _ (Zz2 _ Zz5)
      ·rcases Zz8.mp hq with hq | hq
       ·exact Zz4 _ hq
       ·exact Zz3 _ (Zz2 _ (Zz2 _ hq))
    have aC3:∀t∈(D,lst ys)::(fs3++fr),C≠t.1:=fun t ht=>by
     rcases Zz7.mp ht with e | ht
     ·rw[e]
      exact cd
     ·rcases Zz8.mp ht with ht | ht
      ·exact(offs _ (a3 t ht)).2.symm
      ·exact cfr t ht
    have aD3:∀t∈fs3++fr,D≠t.1:=fun t ht=>by
     rcases Zz8.mp ht with ht | ht
     ·exact(offs _ (a3 t ht)).1.symm
     ·exact dfr t ht
    have r4:Rep Γ W2 ρ H2 ([(C,oC4)]++((D,lst ys)::(fs3++fr))) h4:=by
     refine r3'.swap (fun q hq t ht=>?_) (fun b o hb e=>sb4.extBut b o (fun z=>hb (by simp[z,compEnvC])) (sb5.extBut b o (fun z=>hb (by simp[z,compEnvC])) e)) fun q hq=>?_
     ·rw[List.mem_singleton.mp hq]
      exact aC3 t ht
     ·rw[List.mem_singleton.mp hq]
      exact⟨gC4,by simp⟩
    have rc:=ZfQ (scope:=scope) (cl:=cl) (ts:=[(x,t),(x₂,t₂)]) (ρ:=upd (upd ρ t va) t₂ vb) r4 aC3 nC4 (fun p hp=>by
     rcases Zz7.mp hp with e | hp
     ·rw[e]
      exact⟨va,y1,by simp[upd,htt],by simp[hxx],w1⟩
     ·rw[List.mem_singleton.mp hp]
      exact⟨vb,y2,by simp[upd],by simp,w2⟩) (fun i hi=>by
     have h1:i≠t:=fun e=>hi (x,t) Zz5 e.symm
     have h2:i≠t₂:=fun e=>hi (x₂,t₂) (Zz2 _ Zz5) e.symm
     simp[upd,h1,h2])
    exact Zfx (hel C ρ) aD3 cd l2 i3 hv2 rc e
 refine codeAny_compStart_list (loop _ rfl) ?_
 obtain⟨o0,ho0⟩:=hstart
 exact I1.self 0 W1 ρ H0 (([(C,oC)]++[(D,lst [])])++fr) fs _ _ _ o0 (.refl _) (rC.less fun q hq=>by
  rcases Zz8.mp hq with hq | hq
  ·exact Zz3 _ (Zz3 _ (Zz4 _ hq))
  ·rcases Zz8.mp hq with hq | hq
   ·rcases Zz8.mp hq with hq | hq
    ·exact Zz4 _ hq
    ·exact Zz3 _ (Zz4 _ hq)
   ·exact Zz3 _ (Zz3 _ (Zz3 _ hq))) i1 ho0 (loop _ rfl)
theorem Zh6{elt iter:Expr}{x x₂:Str}{px px₂ tp:Pos}{kt:Nat}{scope:Scope}{pos:Pos}{cl:List (Str×Addr)}{t t₂:Nat}{g:Src}{f:Ex}(hg:JI2 prog w Γ iter g)(hel:∀C ρ,J prog w (Zal Γ scope cl C [(x,t),(x₂,t₂)] ρ) elt f)
  (hclos:closureFor scope Γ.env=pure cl) (hcell:∀y∈scope.names,y.2≠.cell) (hkind:scope.kind=.function) (hnames:∀y∈scope.names,y.2=.local→scope.names.lookup y.1=some .local) (hx:scope.names.lookup x=some .local) (hx₂:scope.names.lookup x₂=some .local) (hxx:x≠x₂) (htt:t≠t₂) (hs:∀x,foldedSetIterable iter Γ.env x=pure x:=by intro _;rfl):
  J prog w Γ (.ListComp elt [⟨.Tuple [.Name x px,.Name x₂ px₂] kt tp,iter,[],0⟩] scope pos) (ZaV g (ZcA t t₂) ZaG f):=by
 intro W ρ H fr s Q E v H' r hf post
 obtain⟨z,e1,hf⟩:=Zz0.mp hf
 obtain⟨q,e2,e3⟩:=Zz1.mp hf
 cases e3
 rw[eval_ListComp]
 refine wpAny_comprehension_free (use:=Option.none) rfl hs hclos hkind hnames ?_
 refine ZgX (RR:=fun acc C=>compPost (model prog w) Γ.A E Option.none Q acc C) hg hel hcell hkind hx hx₂ hxx htt r (q:=q) (by rw[e1];exact e2) fun W2 h' tk' C D oC m₂ ys l2 hC hv hl aD aC cd r3=>?_
 refine⟨m₂,hC.ns (r3.frAt (q:=(C,oC)) Zz5),fun h'' sb=>?_⟩
 obtain⟨W5,l5,r5,v5⟩:=ZfF hv hl aD aC cd r3 sb
 exact post W5 h'' tk' _ (l2.trans l5) r5 v5
end
end PM
end
section
set_option autoImplicit false
namespace PM
open PySem PySem.W PySem.Calls PyProof.Rows PyProof PySem.Spec
theorem ZiW{prog:Program}{w:World}{A A₀:Around}{s:Shared}{base h₀:Heap}{L:Addr}{m:Str→Option Value}{lent:List (Addr×Obj)}{K:Frag}{p:Program}{loose:List Str}{mean:ExcName→Option Value}{mg mb:Str→Option Value}
  {env:Env} {outer:List Env} {R:Result→Shared→Prop} {name qual:Str} {params:Arguments} {body:List Stmt} {scope:Scope} {dV kV doc pm cdv ct oc:Value} {an od:Option Addr} {osl:Array (Option Value)} {f:Addr} {args:Args} {binds:List (Str×Value)}
  (B:Below A₀ base outer h₀) (F:Fr h₀ L s.heap m) (X₀:K.In h₀) (N:News h₀ L s.heap lent) (T:Top p loose mean mg mb h₀) (hA:A.frames=some (env::outer)) (hf:env.frame=some L) (hke:env.scope.kind=.function)
  (ho:K.lookup f=some ⟨oc,od,.func (fnOf name qual params body scope dV kV doc pm an cdv ct),osl⟩) (hcd:codeIn K cdv qual=true) (hroom:A.depth<recursionLimit)
  (hbind:BindsTo s (fnOf name qual params body scope dV kV doc pm an cdv ct) args binds) (hall:(binds.all fun y=>scope.names.lookup y.1 == some .local || scope.names.lookup y.1 == some .cell)=true) (hone:((cellsFrom 0 scope.names []).map (·.1)).Nodup)
  (h:∀g L' h₁ tk cells,(∀b o,s.heap.get? b=some o→b∉lent.map (·.1)→g.get? b=some o)→Fr g L' h₁ (bindL (envOfC qual scope L' f cdv).kindOf binds fun _=>none)→News g L' h₁ (cells++lent)→CellsAre (bindC (envOfC qual scope L' f cdv).kindOf binds fun _=>none) (cellsFrom (L'+1) scope.names []) cells →
   (cellsFrom (L'+1) scope.names []).Pairwise (fun x y=>x.2≠y.2)→(∀n c,(n,c)∈cellsFrom (L'+1) scope.names []→L'<c)→Below A base (env::outer) g→K.In g→Top p loose mean mg mb g→(∀q∈lent,q.1<L')→s.heap.objs.size≤L' →
   wpAny (model prog w) (A.deeper (envOfC qual scope L' f cdv)) (execs body (envOfC qual scope L' f cdv)) (fun fl s'=>LeaveK h₀ L m g R (match fl with | .ret v=>v | _=>.none) s')
    (fun e s'=>wpAny (model prog w) (A.deeper (envOfC qual scope L' f cdv)) (leaving (envOfC qual scope L' f cdv) e) (fun _ s''=>R (.error e) s'') (fun e' s''=>R (.error e') s'') s') { s with heap:=h₁,toks:=tk })
  (hco:scope.isCoroutine=false) (hgen:scope.isGenerator=false) (hk:scope.kind=.function):codeAny (model prog w) A (.call (.ref f) args) R s:=by
 obtain⟨FG,BG,st,lv⟩:=groundX (R:=R) B F N hA hf hke
 have X:=X₀.keeps F.keep
 refine codeAny_call_function (fd:=fnOf name qual params body scope dV kV doc pm an cdv ct) hroom (X _ _ ho) rfl hco hgen rfl (codeRec_of X hcd) (hbind _ _ _ _ ?_)
 refine wpAny_newFunctionEnv_cells hk (kindsX hall _) fun fresh hfr s' inC=>?_
 subst hfr
 have up:=inC.toInCall.keep
 refine⟨(T.nolimit.keeps F.keep).keeps up,codeAny_func ?_⟩
 obtain⟨h₁,tk,hs',_⟩:=inC.done
 subst hs'
 have nod:=cellsFrom_names scope.names 0 (s.heap.objs.size+1) [] [] rfl▸hone
 obtain⟨cells,NC,Y⟩:=Cl.news (h₀:=s.heap) (L:=s.heap.objs.size) (Zz10 _) fun n c hm=>⟨inC.cell n c (lookup_of_mem_nodup nod hm),inC.above n c hm⟩
 have old:∀q∈lent,q.1<s.heap.objs.size:=fun q hq=>Heap.lt_size (N q hq).1
 refine wpAny_mono (h _ s.heap.objs.size h₁ tk cells (fun b o e nb=>hideAll_get _ e nb) ⟨inC.toInCall.ns,fun b o e=>up b o (of_hideAll _ e),Nat.le_of_eq (hideAll_size _ _)⟩ (fun q hq=>?_) Y inC.apart inC.above BG (X₀.keeps st) (T.keeps st) old (Zz10 _)) (fun fl s' hl=>lv _ _ hl) fun _ _ y=>y
 rcases Zz8.mp hq with hq | hq
 ·obtain⟨c1,c2,c3⟩:=NC q hq
  refine⟨c1,c2,?_⟩
  cases e:(hideAll s.heap (lent.map (·.1))).get? q.1 with
  | none=>rfl
  | some o=>
   have z:=of_hideAll _ e
   rw[c3]at z
   cases z
 ·exact⟨up _ _ (N q hq).1,Nat.ne_of_lt (old q hq),hideAll_none _ (List.mem_map_of_mem hq)⟩
section
variable (prog:Program) (w:World) (K:Frag) (p:Program) (loose:List Str) (mean:ExcName→Option Value) (mg mb:Str→Option Value)
noncomputable def Clr(Γ:Cx)(dp un:Nat): Prop:=∃(gd:Option (List Code)) (cn:Str) (cs:Scope) (a:Addr) (ccd:Value) (cl:List (Str×Addr)) (outer:List Env) (A₀:Around) (base:Heap),
 Γ.A=ktrTop dp un gd cn cs Γ.L a ccd cl outer∧Below A₀ base outer Γ.h₀∧K.In Γ.h₀∧Top p loose mean mg mb Γ.h₀∧cs.kind=.function
noncomputable def Def(f:Addr)(room:Nat)(F:List V→Hp→Option (V×Hp)): Prop:=∀(Γ:Cx) (dp un:Nat),Clr K p loose mean mg mb Γ dp un→dp+room<recursionLimit→un+10*room+300<cLine →
 ∀(W:Wd) (ρ:Lc) (H:Hp) (fr:List (Addr×Obj)) (s:Shared) (Q E:Value→Shared→Prop) (as:List V) (xs:List Value) (v:V) (H':Hp),
  Rep Γ W ρ H fr s.heap→VRs W as xs→F as H=some (v,H')→ZdK Γ W ρ H' fr s Q v→wpAny (model prog w) Γ.A (call (.ref f) xs) Q E s
end
noncomputable def Zah(n:Nat)(g:Sm): List V→Hp→Option (V×Hp):=fun as H=>if as.length=n then(g (fun i=>as[i]?) H).map fun r=>((r.1.getD .none),r.2.2)else none
theorem Zhf{kindOf:Str→Option NameKind}: ∀{ps:List Str} {xs:List Value} {m:Str→Option Value} {x:Str} {i:Nat} {y:Value},ps.Nodup→ps[i]?=some x→xs[i]?=some y→kindOf x=some .local→bindL kindOf (ps.zip xs) m x=some y:=by
 have skip:∀{ps:List Str} {xs:List Value} {m:Str→Option Value} {x:Str},x∉ps→bindL kindOf (ps.zip xs) m x=m x:=by
  intro ps
  induction ps with
  | nil=>intro xs m x _;rfl
  | cons p ps ih=>
   intro xs m x hx
   cases xs with
   | nil=>rfl
   | cons z xs=>
    simp only[List.zip_cons_cons,bindL]
    rw[ih (fun h=>hx (Zz2 _ h))]
    have:x≠p:=fun e=>hx (e▸List.mem_cons_self)
    split <;> simp[this]
 intro ps
 induction ps with
 | nil=>intro xs m x i y _ h;simp at h
 | cons p ps ih=>
  intro xs m x i y nd hp hx hk
  cases xs with
  | nil=>simp at hx
  | cons z xs=>
   obtain⟨n1,n2⟩:=List.nodup_cons.mp nd
   cases i with
   | zero=>
    simp at hp hx
    subst hp hx
    simp only[List.zip_cons_cons,bindL]
    rw[skip n1,if_pos hk]
    simp
   | succ i=>
    simp at hp hx
    simp only[List.zip_cons_cons,bindL]
    exact ih n2 hp hx hk
theorem Zhg{kindOf:Str→Option NameKind}: ∀{ps:List Str} {xs:List Value} {m:Str→Option Value} {x:Str} {i:Nat} {y:Value},ps.Nodup→ps[i]?=some x→xs[i]?=some y→kindOf x=some .cell→bindC kindOf (ps.zip xs) m x=some y:=by
 have skip:∀{ps:List Str} {xs:List Value} {m:Str→Option Value} {x:Str},x∉ps→bindC kindOf (ps.zip xs) m x=m x:=by
  intro ps
  induction ps with
  | nil=>intro xs m x _;rfl
  | cons p ps ih=>
   intro xs m x hx
   cases xs with
   | nil=>rfl
   | cons z xs=>
    simp only[List.zip_cons_cons,bindC]
    rw[ih (fun h=>hx (Zz2 _ h))]
    have:x≠p:=fun e=>hx (e▸List.mem_cons_self)
    split <;> simp[this]
 intro ps
 induction ps with
 | nil=>intro xs m x i y _ h;simp at h
 | cons p ps ih=>
  intro xs m x i y nd hp hx hk
  cases xs with
  | nil=>simp at hx
  | cons z xs=>
   obtain⟨n1,n2⟩:=List.nodup_cons.mp nd
   cases i with
   | zero=>
    simp at hp hx
    subst hp hx
    simp only[List.zip_cons_cons,bindC]
    rw[skip n1,if_neg (by rw[hk];simp)]
    simp
   | succ i=>
    simp at hp hx
    simp only[List.zip_cons_cons,bindC]
    exact ih n2 hp hx hk
theorem ZcP{cm:Str→Option Value}: ∀{cs:List (Str×Addr)} {cells:List (Addr×Obj)} {x:Str} {c:Addr},CellsAre cm cs cells→(x,c)∈cs→∃o,(c,o)∈cells∧o.data=.cell (cm x)
 | _,_,_,_,.nil,h=>nomatch h
 | _,_,_,_,.cons hd r,h=>by
  rcases Zz7.mp h with e | h
  ·cases e
   exact⟨_,List.mem_cons_self,hd⟩
  ·obtain⟨o,h1,h2⟩:=ZcP r h
   exact⟨o,List.mem_cons_of_mem _ h1,h2⟩
theorem ZfS{cm:Str→Option Value}: ∀{cs:List (Str×Addr)} {cells:List (Addr×Obj)} {q:Addr×Obj},CellsAre cm cs cells→q∈cells→∃x,(x,q.1)∈cs
 | _,_,_,.nil,h=>nomatch h
 | _,_,_,.cons hd r,h=>by
  rcases Zz7.mp h with e | h
  ·cases e
   exact⟨_,List.mem_cons_self⟩
  ·obtain⟨x,h1⟩:=ZfS r h
   exact⟨x,List.mem_cons_of_mem _ h1⟩
theorem Zbr{α β:Type}[BEq α][LawfulBEq α]: ∀{l:List (α×β)} {x:α} {y:β},l.lookup x=some y→(x,y)∈l
 | [],_,_,h=>by simp at h
 | (a,b)::r,x,y,h=>by
  rw[List.lookup_cons]at h
  split at h
  ·rename_i e
   cases h
   have:=eq_of_beq e
   subst this
   exact Zz5
  ·exact Zz2 _ (Zbr h)
end PM
end
section
set_option autoImplicit false
namespace PM
open PySem PySem.W PySem.Calls PyProof.Rows PyProof PySem.Spec
section
variable {prog:Program} {w:World} {K:Frag} {p:Program} {loose:List Str} {mean:ExcName→Option Value} {mg mb:Str→Option Value}
theorem Def.of{name qual:Str}{params:Arguments}{body:List Stmt}{scope:Scope}{dV kV doc pm cdv ct oc:Value}{an od:Option Addr}{osl:Array (Option Value)}{f:Addr}{names:List Str}{n room:Nat}{g:Sm}
  (ho:K.lookup f=some ⟨oc,od,.func (fnOf name qual params body scope dV kV doc pm an cdv ct),osl⟩) (hcd:codeIn K cdv qual=true) (nd:names.Nodup) (hn:n≤names.length)
  (hbind:∀s xs,xs.length=n→BindsTo s (fnOf name qual params body scope dV kV doc pm an cdv ct) ⟨xs,[]⟩ ((names.take n).zip xs)) (hkinds:∀x∈names.take n,scope.names.lookup x=some .local∨scope.names.lookup x=some .cell) (hone:((cellsFrom 0 scope.names []).map (·.1)).Nodup)
  (hco:scope.isCoroutine=false) (hgen:scope.isGenerator=false) (hk:scope.kind=.function)
  (hbody:∀(dp un:Nat) (gd:Option (List Code)) (L:Addr) (outer:List Env) (h₀:Heap) (hu:un+200<cLine),Clr K p loose mean mg mb (Zaw dp un gd qual scope L f cdv (cellsFrom (L+1) scope.names []) outer h₀ hu names) dp un→dp+room<recursionLimit→un+10*room+300<cLine →
   Ss prog w (Zaw dp un gd qual scope L f cdv (cellsFrom (L+1) scope.names []) outer h₀ hu names) body g):
  Def prog w K p loose mean mg mb f (room+1) (Zah n g):=by
 intro Γ dp un clr hd hu W ρ H fr s Q E as xs v H' r hx hF post
 obtain⟨gd,cn,cs,a,ccd,cl,outer,A₀,base,eA,B,X,T,hke⟩:=clr
 unfold Zah at hF
 split at hF
 ·rename_i hlen
  obtain⟨res,e1,e2⟩:=Zz1.mp hF
  obtain⟨o,ρ',K'⟩:=res
  cases e2
  obtain⟨m,c,led,r⟩:=r
  have hxl:xs.length=n:=by rw[hx.length,hlen]
  have inn:∀q∈led,(q.1∈W.pi∨q.1∈W.tups.map (·.1))↔q∈led.filter (fun q=>decide (q.1∈W.pi∨q.1∈W.tups.map (·.1))):=fun q hq=>⟨fun h=>List.mem_filter.mpr ⟨hq,by simpa using h⟩,fun h=>by simpa using (List.mem_filter.mp h).2⟩
  have isub:∀q∈led.filter (fun q=>decide (q.1∈W.pi∨q.1∈W.tups.map (·.1))),q∈led:=fun q hq=>(List.mem_filter.mp hq).1
  generalize hlent:led.filter (fun q=>decide (q.1∈W.pi∨q.1∈W.tups.map (·.1)))=lent at inn isub
  have notin:∀q∈led,q.1∉W.pi→(∀t∈W.tups,q.1≠t.1)→q.1∉lent.map (·.1):=fun q hq h1 h2 h3=>by
   obtain⟨t,ht,e⟩:=Zz11.mp h3
   rcases(inn t (isub t ht)).mpr ht with z | z
   ·exact h1 (e▸z)
   ·obtain⟨u,hu,e'⟩:=Zz11.mp z
    exact h2 u hu (e▸e'.symm)
  rw[eA]
  refine wpAny_call ?_
  refine ZiW (env:=envX cn cs Γ.L a ccd cl) (lent:=lent) B r.F X (fun q hq=>r.N q (isub q hq)) T rfl rfl hke ho hcd (by show dp<recursionLimit;omega) (hbind s xs hxl) ?_ hone ?_ hco hgen hk
  ·refine List.all_eq_true.mpr fun y hy=>?_
   rcases hkinds y.1 (List.of_mem_zip hy).1 with h | h <;> simp[h]
  intro g0 L' h₁ tk cells stay F' N' Y ap ab B' X' T' old szL
  have hu':(un+3)+200<cLine:=by omega
  have clr':Clr K p loose mean mg mb (Zaw (dp+1) (un+3) gd qual scope L' f cdv (cellsFrom (L'+1) scope.names []) (envX cn cs Γ.L a ccd cl::outer) g0 hu' names) (dp+1) (un+3):=
   ⟨gd,qual,scope,f,cdv,cellsFrom (L'+1) scope.names [],envX cn cs Γ.L a ccd cl::outer,_,base,rfl,B',X',T',hk⟩
  have below:∀q∈cells,L'<q.1:=fun q hq=>by
   obtain⟨x,hx⟩:=ZfS Y hq
   exact ab x _ hx
  have piLt:∀b∈W.pi,b<L':=fun b hb=>by
   obtain⟨o,ho⟩:=r.piIn b hb
   exact Nat.lt_of_lt_of_le (Heap.lt_size (r.get ho)) szL
  have tuLt:∀t∈W.tups,t.1<L':=fun t ht=>Nat.lt_of_lt_of_le (Heap.lt_size (r.get (r.R.tups t ht))) szL
  have scN:W.sc.1∉lent.map (·.1):=fun z=>by
   obtain⟨t,ht,e⟩:=Zz11.mp z
   exact r.notSc t (isub t ht) e
  have tkn:∀{i:Nat} {x:Str} {u:V},names[i]?=some x→as[i]?=some u→(names.take n)[i]?=some x∧∃y,xs[i]?=some y∧VR W u y:=fun {i x u} h1 h2=>by
   have hi:i<n:=by rw[←hlen];exact(Zz6.mp h2).1
   exact⟨by rw[List.getElem?_take_of_lt hi];exact h1,hx.at h2⟩
  have ndt:(names.take n).Nodup:=nd.sublist (List.take_sublist _ _)
  have rep:Rep (Zaw (dp+1) (un+3) gd qual scope L' f cdv (cellsFrom (L'+1) scope.names []) (envX cn cs Γ.L a ccd cl::outer) g0 hu' names) W (fun i=>as[i]?) H [] h₁:=by
   refine⟨_,cells,cells++lent,⟨F',N',⟨r.R.len,r.R.nd,fun i vs e=>?_,fun q hq=>?_,r.R.kind⟩,stay _ _ (r.F.keep _ _ r.sc) scN,r.sc0,fun q hq=>(nomatch hq),fun q hq=>(nomatch hq),fun q hq=>List.mem_append_left _ hq,fun q hq z=>?_,fun q _ t ht=>(nomatch ht),fun q hq=>(nomatch hq),fun q hq t ht=>?_,⟨fun i x u hi hk1 hu1=>?_,fun i x u hi hk1 hu1=>?_,fun x c1 hc=>?_,fun x y c1 h1 h2=>?_⟩⟩⟩
   ·obtain⟨l,b,ys,k,h1,h2,h3⟩:=r.R.lists i vs e
    exact⟨l,b,ys,k,h1,ZbR h2 fun z=>List.mem_append_right _ ((inn _ z).mp (.inl (List.mem_of_getElem? h1))),h3⟩
   ·exact ZbR (r.R.tups q hq) fun z=>List.mem_append_right _ ((inn _ z).mp (.inr (List.mem_map_of_mem hq)))
   ·exact absurd (Nat.lt_trans (piLt _ z) (below q hq)) (Nat.lt_irrefl _)
   ·exact Nat.ne_of_gt (Nat.lt_trans (tuLt t ht) (below q hq))
   ·obtain⟨h1,y,h2,h3⟩:=tkn hi hu1
    exact⟨y,Zhf ndt h1 h2 hk1,h3⟩
   ·obtain⟨h1,y,h2,h3⟩:=tkn hi hu1
    have hs:=cellsFrom_some scope.names (L'+1) [] (.inl hk1)
    obtain⟨c1,hc1⟩:=Option.isSome_iff_exists.mp hs
    obtain⟨o1,ho1,hd1⟩:=ZcP Y (Zbr hc1)
    refine⟨c1,o1,y,hc1,ho1,?_,h3⟩
    rw[hd1,Zhg ndt h1 h2 hk1]
   ·obtain⟨o1,ho1,hd1⟩:=ZcP Y (Zbr hc)
    exact⟨o1,_,ho1,hd1⟩
   ·exact name_of_addr ap (Zbr h1) (Zbr h2)
  have hb:=hbody (dp+1) (un+3) gd L' (envX cn cs Γ.L a ccd cl::outer) g0 hu' clr' (by omega) (by omega)
  have back:∀(W':Wd) (h':Heap) (tk':Nat) (x:Value),W.Le W'→Rep (Zaw (dp+1) (un+3) gd qual scope L' f cdv (cellsFrom (L'+1) scope.names []) (envX cn cs Γ.L a ccd cl::outer) g0 hu' names) W' ρ' K' [] h'→VR W' (o.getD .none) x →
    LeaveK Γ.h₀ Γ.L m g0 (fun r s'=>match r with | .ok (.ret v)=>Q v s' | .ok _=>False | .error e=>E e s') x { s with heap:=h',toks:=tk' }:=by
   intro W' h' tk' x l' r' x'
   obtain⟨m',c',led',r'⟩:=r'
   refine⟨L',m',led',r'.F,r'.N,fun FG NG=>post W' h' tk' x l' ?_ x'⟩
   have g0at:∀q∈led,q.1∉lent.map (·.1)→g0.get? q.1=some q.2:=fun q hq hn=>stay _ _ (r.N q hq).1 hn
   have frN:∀q∈fr,q.1∉lent.map (·.1):=fun q hq=>notin q (r.frIn q hq) (r.frOff q hq) (r.frTup q hq)
   have clN:∀q∈c,q.1∉lent.map (·.1):=fun q hq=>notin q (r.clIn q hq) (r.clOff q hq) (r.clTup q hq)
   have newN:∀t∈led',g0.get? t.1=none:=fun t ht=>(r'.N t ht).2.2
   have far:∀q∈led,q.1∉lent.map (·.1)→∀t∈W'.sc::led',q.1≠t.1:=fun q hq hn t ht e=>by
    rcases Zz7.mp ht with e2 | ht
    ·rw[e2,l'.sc]at e
     exact r.notSc q hq e
    ·have:=g0at q hq hn
     rw[e,newN t ht]at this
     cases this
   have farPi:∀q∈led,q.1∉lent.map (·.1)→q.1∉W'.pi:=fun q hq hn z=>by
    obtain⟨o2,h2⟩:=r'.piIn _ z
    exact far q hq hn _ h2 rfl
   have keep:∀q∈led,q.1∉lent.map (·.1)→q∈led'++led.filter (fun q=>decide (q.1∉lent.map (·.1))):=fun q hq hn=>List.mem_append_right _ (List.mem_filter.mpr ⟨hq,by simpa using hn⟩)
   refine⟨m,c,led'++led.filter (fun q=>decide (q.1∉lent.map (·.1))),⟨FG,fun q hq=>?_,r'.R.mono fun q hq=>Zct hq fun x hx=>List.mem_append_left _ hx,l'.sc▸r.sc,r'.sc0,fun q hq=>keep q (r.frIn q hq) (frN q hq),fun q hq=>farPi q (r.frIn q hq) (frN q hq),fun q hq=>keep q (r.clIn q hq) (clN q hq),fun q hq=>farPi q (r.clIn q hq) (clN q hq),r.apart,fun q hq t ht=>far q (r.frIn q hq) (frN q hq) t (r'.R.tups t ht),fun q hq t ht=>far q (r.clIn q hq) (clN q hq) t (r'.R.tups t ht),Γ.mono l' r.own⟩⟩
   rcases Zz8.mp hq with hq | hq
   ·exact NG q hq
   ·obtain⟨h1,h2⟩:=List.mem_filter.mp hq
    exact⟨r'.F.keep _ _ (g0at q h1 (by simpa using h2)),(r.N q h1).2⟩
  refine hb W _ H [] _ _ _ (o,ρ',K') rep e1 ?_
  cases o with
  | none=>exact fun W' h' tk' l' r'=>back W' h' tk' .none l' r' .none
  | some v0=>exact fun W' h' tk' x l' r' x'=>back W' h' tk' x l' r' x'
 ·cases hF
theorem Zh7{Γ:Cx}{dp un:Nat}{x:Str}{np pos:Pos}{f:Addr}{room:Nat}{e:Expr}{es:List Expr}{g:Exs}{o:List V→Hp→Option (V×Hp)}(clr:Clr K p loose mean mg mb Γ dp un)(hn:Nm prog w Γ x (.ref f))(hkeep:keepIn K (.ref f)=true)(D:Def prog w K p loose mean mg mb f room o)(hd:dp+room<recursionLimit)(hu:un+10*room+300<cLine)
  (h:Js prog w Γ (e::es) g) (he:starEach (e::es) Γ.env=(false,eval e Γ.env)::starEach es Γ.env:=by rfl) (hp:∀pos,(backTo pos (starEach es Γ.env)).any (·.1)=false:=by intro _;rfl):J prog w Γ (.Call (.Name x np) (e::es) [] pos) (Zy o g):=by
 intro W ρ H fr s Q E v H' r hf post
 obtain⟨q,e1,hf⟩:=Zz0.mp hf
 have X:K.In Γ.h₀:=by
  obtain⟨_,_,_,_,_,_,_,_,_,_,_,X,_⟩:=clr
  exact X
 refine wpAny_Call_ofName (hn.use r ?_)
 refine callWith_K (first:=[]) X hkeep (h pos W ρ H fr s _ E _ _ r e1 fun W1 k1 t1 xs l1 r1 x1=>⟨?_,?_⟩) he (hp pos)
 ·obtain⟨m,c,led,r1⟩:=r1
  exact X.keeps r1.F.keep
 ·exact D Γ dp un clr hd hu W1 ρ _ fr _ Q E _ xs v H' r1 x1 hf fun W2 k2 t2 y l2 r2 y2=>post W2 k2 t2 y (l1.trans l2) r2 y2
theorem Zck{Γ:Cx}{dp un:Nat}{scope:Scope}{cl:List (Str×Addr)}{C:Addr}{ts:List (Str×Nat)}{ρ0:Lc}(h:Clr K p loose mean mg mb Γ dp un): Clr K p loose mean mg mb (Zal Γ scope cl C ts ρ0) dp un:=h
end
end PM
end
section
set_option autoImplicit false
namespace PM
open PySem PySem.W PySem.Calls PyProof.Rows PyProof PySem.Spec
theorem Zd8{lo:Nat}: ∀(names:List (Str×NameKind)) (n:Nat) (acc:List (Str×Addr)),acc.Pairwise (fun x y=>x.2≠y.2)→(∀q∈acc,lo<q.2∧q.2<n)→lo<n→(cellsFrom n names acc).Pairwise (fun x y=>x.2≠y.2)∧∀q∈cellsFrom n names acc,lo<q.2
 | [],n,acc,h1,h2,_=>⟨h1,fun q hq=>(h2 q hq).1⟩
 | (y,k)::r,n,acc,h1,h2,h3=>by
  unfold cellsFrom
  by_cases hk:(k == .cell)=true
  ·rw[if_pos hk]
   refine Zd8 r (n+1) ((y,n)::acc) (List.pairwise_cons.mpr ⟨fun q hq=>Nat.ne_of_gt (h2 q hq).2,h1⟩) (fun q hq=>?_) (Nat.lt_succ_of_lt h3)
   rcases Zz7.mp hq with e | hq
   ·rw[e]
    exact⟨h3,Nat.lt_succ_self n⟩
   ·exact⟨(h2 q hq).1,Nat.lt_succ_of_lt (h2 q hq).2⟩
  ·rw[if_neg hk]
   exact Zd8 r n acc h1 h2 h3
theorem Zhh{P:Params}{h:Heap}{a:Addr}{ns:List Int}(w1:Well P h (.ref a) (ofPy (.list (ns.map PyData.int))))(W:Wd): ∃vs,h.get? a=some (ZaD vs 0)∧VRs W (ns.map V.int) vs:=by
 have key:∀{ns:List Int} {vs:List Value} {xs:List WData},xs=(ns.map PyData.int).map ofPy→WellAll P h vs xs→VRs W (ns.map V.int) vs:=by
  intro ns
  induction ns with
  | nil=>intro vs xs e h;subst e;cases h;exact .nil
  | cons n ns ih=>
   intro vs xs e h
   subst e
   cases h with
   | cons h1 h2=>
    cases h1 with
    | int i t=>exact .cons (.int _ _) (ih rfl h2)
 have e:ofPy (.list (ns.map PyData.int))=.list ((ns.map PyData.int).map ofPy):=by rw[ofPy,ofPys_eq]
 rw[e]at w1
 cases w1 with
 | list hg ha=>exact⟨_,hg,key rfl ha⟩
section
variable {prog:Program} {w:World} {K:Frag} {p:Program} {loose:List Str} {mean:ExcName→Option Value} {mg mb:Str→Option Value}
theorem Zh8{P:Params}{h₀:Heap}{s:Shared}{sa fa:Addr}{cd:Value}{ns:List Int}{qual pname:Str}{scope:Scope}{body:List Stmt}{names:List Str}{g:Sm}{cells:List (Addr×Obj)}{Q:Flow→Shared→Prop}{E:Value→Shared→Prop}{room:Nat}{H':Hp}
  (hbody:∀(dp un:Nat) (gd:Option (List Code)) (L a:Addr) (ccd:Value) (outer:List Env) (h₀:Heap) (hu:un+200<cLine),Clr K p loose mean mg mb (Zaw dp un gd qual scope L a ccd (cellsFrom (L+1) scope.names []) outer h₀ hu names) dp un→dp+room<recursionLimit→un+10*room+300<cLine →
   Ss prog w (Zaw dp un gd qual scope L a ccd (cellsFrom (L+1) scope.names []) outer h₀ hu names) body g)
  (hd:callerA.depth+1+room<recursionLimit) (hun:callerA.units+3+10*room+300<cLine) (hk:scope.kind=.function) (h0:names[0]?=some pname)
  (KX:K.In h₀) (T:Top p loose mean mg mb h₀) (w1:Well P h₀ (.ref sa) (ofPy (.list (ns.map PyData.int)))) (hlen:ns.length≤ZU)
  (F:Fr h₀ h₀.objs.size s.heap (bindL (envOfC qual scope h₀.objs.size fa cd).kindOf [(pname,.ref sa)] fun _=>none)) (N:News h₀ h₀.objs.size s.heap cells) (X0:CellsAre (bindC (envOfC qual scope h₀.objs.size fa cd).kindOf [(pname,.ref sa)] fun _=>none) (cellsFrom (h₀.objs.size+1) scope.names []) cells)
  (hg:Zah 1 g [.ref 0] [ns.map V.int]=some (.bool true,H')) (post:∀h' tk' m',Fr h₀ h₀.objs.size h' m'→Q (.ret (.bool true)) { s with heap:=h',toks:=tk' }):
  wpAny (model prog w) (callerA.deeper (envOfC qual scope h₀.objs.size fa cd)) (execs body (envOfC qual scope h₀.objs.size fa cd)) Q E s:=by
 have hu':(callerA.units+3)+200<cLine:=by omega
 have clr:Clr K p loose mean mg mb (Zaw (callerA.depth+1) (callerA.units+3) callerA.guards qual scope h₀.objs.size fa cd (cellsFrom (h₀.objs.size+1) scope.names []) [] h₀ hu' names) (callerA.depth+1) (callerA.units+3):=
  ⟨callerA.guards,qual,scope,fa,cd,cellsFrom (h₀.objs.size+1) scope.names [],[],_,_,rfl,below_caller h₀,KX,T,hk⟩
 have hb:=hbody (callerA.depth+1) (callerA.units+3) callerA.guards h₀.objs.size fa cd [] h₀ hu' clr hd hun
 obtain⟨vs,hsc,hv⟩:=Zhh w1 ⟨[sa],[],(sa,ZaD [] 0)⟩
 have hv':VRs ⟨[sa],[],(sa,ZaD vs 0)⟩ (ns.map V.int) vs:=by
  clear hg post w1 hlen hsc
  generalize ns.map V.int=us at hv
  have key:∀{us:List V} {xs:List Value},VRs ⟨[sa],[],(sa,ZaD [] 0)⟩ us xs→VRs ⟨[sa],[],(sa,ZaD vs 0)⟩ us xs:=by
   intro us
   induction us with
   | nil=>intro xs h;cases h;exact .nil
   | cons u us ih=>
    intro xs h
    cases h with
    | cons a b=>
     refine .cons ?_ (ih b)
     cases a with
     | none=>exact .none
     | bool b=>exact .bool b
     | int i t=>exact .int i t
     | str s t=>exact .str s t
     | tup hm _ _=>exact nomatch hm
     | ref e=>exact .ref e
  exact key hv
 have far:=Zd8 (lo:=h₀.objs.size) scope.names (h₀.objs.size+1) [] .nil (fun q hq=>nomatch hq) (Nat.lt_succ_self _)
 unfold Zah at hg
 rw[if_pos (show([V.ref 0]:List V).length=1 from rfl)]at hg
 obtain⟨res,e1,e2⟩:=Zz1.mp hg
 obtain⟨o,ρ',K'⟩:=res
 have eo:o=some (.bool true):=by
  cases o with
  | none=>simp at e2
  | some v=>simp at e2;rw[e2.1]
 subst eo
 have pick:∀{i:Nat} {x:Str} {u:V},names[i]?=some x→([V.ref 0]:List V)[i]?=some u→x=pname∧u=.ref 0:=fun {i x u} h1 h2=>by
  have hi:i<1:=(Zz6.mp h2).1
  have:i=0:=by omega
  subst this
  rw[h0]at h1
  simp at h1 h2
  exact⟨h1.symm,h2.symm⟩
 have rep:Rep (Zaw (callerA.depth+1) (callerA.units+3) callerA.guards qual scope h₀.objs.size fa cd (cellsFrom (h₀.objs.size+1) scope.names []) [] h₀ hu' names) ⟨[sa],[],(sa,ZaD vs 0)⟩ (fun i=>[V.ref 0][i]?) [ns.map V.int] [] s.heap:=by
  refine⟨_,cells,cells,⟨F,N,⟨rfl,by simp,fun i us e=>?_,fun q hq=>(nomatch hq),fun q hq=>(nomatch hq)⟩,hsc,rfl,fun q hq=>(nomatch hq),fun q hq=>(nomatch hq),fun q hq=>hq,fun q hq z=>?_,fun q _ t ht=>(nomatch ht),fun q hq=>(nomatch hq),fun q hq t ht=>(nomatch ht),⟨fun i x u hi hk1 hu1=>?_,fun i x u hi hk1 hu1=>?_,fun x c1 hc=>?_,fun x y c1 h1 h2=>?_⟩⟩⟩
  ·have hi:i<1:=(Zz6.mp e).1
   have:i=0:=by omega
   subst this
   simp at e
   subst e
   exact⟨by simpa using hlen,sa,vs,0,rfl,List.mem_cons_self,hv'⟩
  ·have:=(N q hq).2.2
   rw[List.mem_singleton.mp z,hsc]at this
   cases this
  ·obtain⟨e3,e4⟩:=pick hi hu1
   subst e3 e4
   refine⟨.ref sa,?_,.ref rfl⟩
   show bindL _ _ _ _=_
   unfold bindL bindL
   rw[if_pos (show(envOfC qual scope h₀.objs.size fa cd).kindOf x=some .local from hk1)]
   simp
  ·obtain⟨e3,e4⟩:=pick hi hu1
   subst e3 e4
   have hs:=cellsFrom_some scope.names (h₀.objs.size+1) [] (.inl hk1)
   obtain⟨c1,hc1⟩:=Option.isSome_iff_exists.mp hs
   obtain⟨o1,ho1,hd1⟩:=ZcP X0 (Zbr hc1)
   refine⟨c1,o1,.ref sa,hc1,ho1,?_,.ref rfl⟩
   rw[hd1]
   unfold bindC bindC
   rw[if_neg (show ¬(envOfC qual scope h₀.objs.size fa cd).kindOf x=some .local by show ¬scope.names.lookup x=some .local;rw[hk1];simp)]
   simp
  ·obtain⟨o1,ho1,hd1⟩:=ZcP X0 (Zbr hc)
   exact⟨o1,_,ho1,hd1⟩
  ·exact name_of_addr far.1 (Zbr h1) (Zbr h2)
 refine hb _ _ _ [] s Q E _ rep e1 ?_
 intro W' h' tk' x l' r' x'
 cases x' with
 | bool _=>
  obtain⟨m',c',led',r'⟩:=r'
  exact post h' tk' m' r'.F
end
end PM
end
section
set_option autoImplicit false
namespace PM
open PySem PySem.W PySem.Calls PyProof.Rows PyProof PyProof.Rows.LCg PyProof.Rows.LSm
theorem Rep.listAt{Γ:Cx}{W:Wd}{ρ:Lc}{H:Hp}{fr:List (Addr×Obj)}{h h':Heap}{vs:List V}{xs:List Value}{k:Nat}(r:Rep Γ W ρ H fr h)(up:∀b o,h.get? b=some o→h'.get? b=some o)(hg:h'.get? h.objs.size=some (ZaD xs k))(hv:VRs W vs xs)(hl:vs.length≤ZU):
  ∃W',W.Le W'∧Rep Γ W' ρ (H++[vs]) fr h'∧VR W' (.ref H.length) (.ref h.objs.size):=by
 obtain⟨r2,ap⟩:=r.more (fs:=[(h.objs.size,ZaD xs k)]) up (fun q hq=>by rw[List.mem_singleton.mp hq];exact⟨hg,Nat.le_refl _⟩)
 exact Zet r2 (fun t ht=>ap _ Zz5 t ht) hv hl
noncomputable def ZbK: List V→Hp→Option (V×Hp)
 | [.ref a],H=>H[a]?.map fun vs=>(.ref H.length,H++[vs])
 | [.tup vs],H=>some (.ref H.length,H++[vs])
 | _,_=>none
noncomputable def Zcm: List V→Hp→Option (V×Hp)
 | [.ref a],H=>H[a]?.map fun vs=>(.tup vs,H)
 | [.tup vs],H=>some (.tup vs,H)
 | _,_=>none
section
variable {prog:Program} {w:World}
theorem Zew: OpN prog w (fun xs=>call (.type "list") xs) ZbK:=by
 intro Γ W ρ H fr s Q E as xs v H' r hx ho post
 unfold ZbK at ho
 split at ho
 ·obtain⟨vs,e1,e2⟩:=Zz1.mp ho
  cases e2
  obtain⟨x,ex,rx⟩:=hx.one
  subst ex
  cases rx with
  | @ref _ a ea=>
   obtain⟨hl,ys,k,hg,hv⟩:=r.at e1 ea
   refine call_list_seq (hsz:=Zbb (by rw[List.size_toArray,hv.length];exact hl)) a (.inl rfl) hg rfl rfl fun h' c' up hg'=>?_
   obtain⟨W2,l2,r2,v2⟩:=r.listAt up hg' hv hl
   exact post W2 h' s.toks _ l2 r2 v2
 ·cases ho
  obtain⟨x,ex,rx⟩:=hx.one
  subst ex
  cases rx with
  | @tup _ a ys k hm hl hv=>
   refine call_list_seq (hsz:=Zbb (by rw[List.size_toArray,hv.length];exact hl)) a (.inr rfl) (r.tupAt hm) rfl rfl fun h' c' up hg'=>?_
   obtain⟨W2,l2,r2,v2⟩:=r.listAt up hg' hv hl
   exact post W2 h' s.toks _ l2 r2 v2
 ·cases ho
theorem Zhi: OpN prog w (fun xs=>call (.type "tuple") xs) Zcm:=by
 intro Γ W ρ H fr s Q E as xs v H' r hx ho post
 unfold Zcm at ho
 split at ho
 ·obtain⟨vs,e1,e2⟩:=Zz1.mp ho
  cases e2
  obtain⟨x,ex,rx⟩:=hx.one
  subst ex
  cases rx with
  | @ref _ a ea=>
   obtain⟨hl,ys,k,hg,hv⟩:=r.at e1 ea
   have isl:s.heap.IsList a ys.toArray:=⟨_,hg,rfl,k,rfl⟩
   refine call_tuple_list isl (fun h' up=>?_) (Zbb (by rw[List.size_toArray,hv.length];exact hl))
   obtain⟨W2,l2,r2,v2⟩:=(r.grown up).tuple (k:=0) hv hl
   exact post W2 _ s.toks _ l2 r2 v2
 ·cases ho
  obtain⟨x,ex,rx⟩:=hx.one
  subst ex
  cases rx with
  | @tup _ a ys k hm hl hv=>
   have it:IsTup s.heap a ys.toArray:=⟨_,r.tupAt hm,rfl,k,rfl⟩
   exact call_tuple_tup it (post W s.heap s.toks _ (.refl W) r (.tup hm hl hv))
 ·cases ho
end
section
variable {prog:Program} {w:World} {K:Frag} {p:Program} {loose:List Str} {mean:ExcName→Option Value} {mg mb:Str→Option Value} {Γ:Cx} {dp un:Nat}
theorem ZiX{x:Str}{v:Value}(clr:Clr K p loose mean mg mb Γ dp un)(e:nsIn K mainGlobals x=some (some v))(hg:Γ.env.globals=mainGlobals)(hk:Γ.env.scope.kind=.function)(hx:Γ.env.kindOf x=some .globalImplicit)(hd:(x == ("__debug__":Str))=false): Nm prog w Γ x v:=by
 obtain⟨_,_,_,_,_,_,_,_,_,_,_,X,T,_⟩:=clr
 intro pos m s Q E F q
 exact Name_function_global hk hx (loadGlobal_global (env:=Γ.env) (by rw[hg];exact T.g.keeps F.keep) (mg_of X T.g e) q) hd
theorem ZhE{x:Str}{v:Value}(clr:Clr K p loose mean mg mb Γ dp un)(e:nsIn K mainGlobals x=some none)(hv:bootBuiltins x=some v)(hn:x≠"__name__")(hg:Γ.env.globals=mainGlobals)(hb:Γ.env.builtins=builtinsNs)(hk:Γ.env.scope.kind=.function)(hx:Γ.env.kindOf x=some .globalImplicit)(hd:(x == ("__debug__":Str))=false): Nm prog w Γ x v:=by
 obtain⟨_,_,_,_,_,_,_,_,_,_,_,X,T,_⟩:=clr
 intro pos m s Q E F q
 exact Name_function_global hk hx (loadGlobal_builtin (env:=Γ.env) (by rw[hg];exact T.g.keeps F.keep) (mg_none_of X T.g e) (by rw[hb];exact T.b.keeps F.keep) ((T.builtins x hn).trans hv) q) hd
end
section
variable {prog:Program} {w:World} {Γ:Cx} {scope:Scope} {cl:List (Str×Addr)} {C:Addr} {ts:List (Str×Nat)} {ρ0:Lc}
theorem Zh9{x:Str}{t:Nat}(hm:(x,t)∈ts)(hk:scope.kind=.function)(hl:(compEnvC scope cl C Γ.env).kindOf x=some .local)(hd:(x == ("__debug__":Str))=false): Rd prog w (Zal Γ scope cl C ts ρ0) x t:=by
 intro W ρ H fr s Q E v pos r e q
 obtain⟨m,c,led,r⟩:=r
 obtain⟨oC,m₂,cs,ec,h0,h1,h2,h3,h4⟩:=r.own
 obtain⟨v',y,e1,e2,e3⟩:=h2 _ hm
 rw[e]at e1
 cases e1
 exact LCgL.ld_own r.N (r.clIn _ (by rw[ec];exact Zz5)) h1 e2 (q y e3) hk hl hd
end
section
variable {prog:Program} {w:World} {dp un:Nat} {gd:Option (List Code)} {cn:Str} {cs:Scope} {L a:Addr} {ccd:Value} {clf:List (Str×Addr)} {outer:List Env} {h₀:Heap} {hu:un+200<cLine} {names:List Str} {scope:Scope} {cl:List (Str×Addr)} {C:Addr} {ts:List (Str×Nat)} {ρ0:Lc}
theorem Zia{x:Str}{i:Nat}(hi:names[i]?=some x)(hx:cs.names.lookup x=some .cell)(hne:∀p∈ts,p.2≠i)(hcl:cl.lookup x=clf.lookup x)(hk:scope.kind=.function)(hl:(compEnvC scope cl C (envX cn cs L a ccd clf)).kindOf x=some .cell)(hd:(x == ("__debug__":Str))=false):
  Rd prog w (Zal (Zaw dp un gd cn cs L a ccd clf outer h₀ hu names) scope cl C ts ρ0) x i:=by
 intro W ρ H fr s Q E v pos r e q
 obtain⟨m,c,led,r⟩:=r
 obtain⟨oC,m₂,cs',ec,h0,h1,h2,h3,h4⟩:=r.own
 rw[h3 i hne]at e
 obtain⟨d,o,y,g1,g2,g3,g4⟩:=h4.cel i x v hi hx e
 exact kcf_cell r.N (hcl.trans g1) (r.clIn _ (by rw[ec];exact Zz2 _ g2)) g3 (q y g4) hk hl hd
end
end PM
end
section
namespace My
open PySem PySem.W PySem.Calls PyProof.Rows PySem.Spec
structure Cell(v:Int): Prop where
 bits:Builtin.Int.intBits v≤2 ^ 20
theorem bits_zero: Builtin.Int.intBits 0≤2 ^ 20:=by unfold Builtin.Int.intBits;simp
theorem cell_at{ns:List Int}(h:PyData.layable0 (.list (ns.map .int))=true)(i:Int): Cell (cellAt ns i 0):=by
 refine⟨?_⟩
 rw[cellAt_def,List.getD_eq_getElem?_getD]
 cases e:ns[i.toNat]? with
 | none=>exact bits_zero
 | some v=>exact PyData.bits_item_of_ints h (List.mem_of_getElem? e)
section
variable {prog:Program} {w:World} {A:Around} {E:Value→Shared→Prop} {s:Shared} {x y:Int} {t u:Tok} {Q:Value→Shared→Prop}
theorem bits_fdiv{v:Int}(h:Cell v): Builtin.Int.intBits (Int.fdiv v 5)≤2 ^ 20:=by
 have hb:=h.bits
 unfold Builtin.Int.intBits at hb ⊢
 rw[Int.fdiv_eq_ediv_of_nonneg v (by decide)]
 by_cases z:v / 5=0
 ·simp[z]
 ·have hv:v≠0:=by omega
  rw[if_neg (by simpa using hv)]at hb
  rw[if_neg (by simpa using z)]
  have hn:(v / 5).natAbs≤v.natAbs:=by omega
  have h1:v.natAbs.log2<2 ^ 20:=by omega
  have h2:v.natAbs<2 ^ (2 ^ 20):=(Nat.log2_lt (by omega)).mp h1
  have h3:(v / 5).natAbs.log2<2 ^ 20:=(Nat.log2_lt (by omega)).mpr (Nat.lt_of_le_of_lt hn h2)
  omega
@[irreducible] noncomputable def wide(v:Int): Int:=Int.fdiv v 5*48271 ^ Int.toNat 14
@[irreducible] noncomputable def T60: Int:=10 ^ 60
@[irreducible] noncomputable def T9: Int:=10 ^ 9
theorem T60_eq: T60=1000000000000000000000000000000000000000000000000000000000000:=by unfold T60;decide +kernel
theorem T9_eq: T9=1000000000:=by unfold T9;decide +kernel
noncomputable def numb(v:Int): Int:=
 if Int.fmod v 5=0 then Int.fmod (wide v) 13-6
 else if Int.fmod v 5=1 then Int.fmod (wide v) 2001-1000
 else if Int.fmod v 5=2 then Int.fmod (wide v) (2*T60-1)-(T60-1)
 else if Int.fmod v 5=3 then Int.fmod (wide v) (2*T9+1)-T9
 else Int.fmod (wide v) 9
theorem numb_in(n:Int): -T60≤numb n∧numb n≤T60:=by
 unfold numb
 generalize wide n=w
 have e:=T60_eq
 have e9:=T9_eq
 have a1:=Int.fmod_nonneg_of_pos w (show(0:Int)<13 by decide)
 have b1:=Int.fmod_lt_of_pos w (show(0:Int)<13 by decide)
 have a2:=Int.fmod_nonneg_of_pos w (show(0:Int)<2001 by decide)
 have b2:=Int.fmod_lt_of_pos w (show(0:Int)<2001 by decide)
 have a3:=Int.fmod_nonneg_of_pos w (show(0:Int)<2*T60-1 by omega)
 have b3:=Int.fmod_lt_of_pos w (show(0:Int)<2*T60-1 by omega)
 have a4:=Int.fmod_nonneg_of_pos w (show(0:Int)<2*T9+1 by omega)
 have b4:=Int.fmod_lt_of_pos w (show(0:Int)<2*T9+1 by omega)
 have a5:=Int.fmod_nonneg_of_pos w (show(0:Int)<9 by decide)
 have b5:=Int.fmod_lt_of_pos w (show(0:Int)<9 by decide)
 refine⟨?_,?_⟩ <;> (repeat' split) <;> omega
theorem numb_0{v:Int}(h:Int.fmod v 5=0): Int.fmod (wide v) 13-6=numb v:=by unfold numb;rw[if_pos h]
theorem numb_1{v:Int}(h:Int.fmod v 5=1): Int.fmod (wide v) 2001-1000=numb v:=by
 unfold numb;rw[if_neg (by omega),if_pos h]
theorem numb_2{v:Int}(h:Int.fmod v 5=2): Int.fmod (wide v) (2*T60-1)-(T60-1)=numb v:=by
 unfold numb;rw[if_neg (by omega),if_neg (by omega),if_pos h]
theorem numb_3{v:Int}(h:Int.fmod v 5=3): Int.fmod (wide v) (2*T9+1)-T9=numb v:=by
 unfold numb;rw[if_neg (by omega),if_neg (by omega),if_neg (by omega),if_pos h]
theorem numb_4{v:Int}(h0:¬Int.fmod v 5=0)(h1:¬Int.fmod v 5=1)(h2:¬Int.fmod v 5=2)(h3:¬Int.fmod v 5=3): Int.fmod (wide v) 9=numb v:=by
 unfold numb;rw[if_neg h0,if_neg h1,if_neg h2,if_neg h3]
end
end My
end
section
set_option autoImplicit false
/-! Reckoning with the plain machine. -/
namespace PM
open PySem PySem.W PyProof.Rows
section
variable (ρ:Lc) (H:Hp)
@[simp] theorem ZhF: Zb1 ρ H=some (none,H):=rfl
@[simp] theorem ZhG(f:Ex): Zb2 f ρ H=(f ρ H).map fun p=>(some p.1,p.2):=rfl
end
section
variable (a b:Int) (H:Hp)
end
theorem Zgr{b:Int}(hb:0≤b): Builtin.Range.rangeSize 0 b 1=b:=by
 unfold Builtin.Range.rangeSize
 rw[if_pos (by decide)]
 by_cases h:(0:Int)<b
 ·rw[if_pos h]
  omega
 ·rw[if_neg h]
  omega
theorem ZiY{b:Int}{H:Hp}(hb:0≤b)(hb9:b≤1000): ZaO 0 b 1 H=some (Zcl 0 1 b.toNat,b.toNat+1,H):=by
 unfold ZaO rngN
 rw[Zgr hb,if_pos]
 refine⟨by decide,?_,hb,by rw[Zaz];omega,?_⟩
 ·unfold Builtin.Range.small
  rw[Zgr hb]
  simp only[Builtin.Range.rangeFitsLong,Bool.and_eq_true,Bool.or_eq_true,decide_eq_true_eq,beq_iff_eq]
  rw[if_pos (by decide)]
  simp only[Bool.and_eq_true,decide_eq_true_eq]
  by_cases h:(0:Int)<b
  ·refine⟨⟨⟨⟨?_,?_⟩,?_⟩,?_⟩,Or.inr ?_⟩ <;> omega
  ·refine⟨⟨⟨⟨?_,?_⟩,?_⟩,?_⟩,?_⟩ <;> first | omega | (left;omega)
 ·exact PyProof.noPylong_small (by omega)
end PM
end
section
set_option autoImplicit false
namespace PM
open PySem PySem.W PyProof.Rows My
theorem Zex{a b:Int}(h:IntMulOk a b): mulOk a b=true:=by
 unfold IntMulOk at h
 unfold mulOk
 cases e:(decide (Builtin.Int.intBits a>shortFactorBits) && decide (Builtin.Int.intBits b>shortFactorBits) && Builtin.Int.intTooBig (Builtin.Int.intBits a+Builtin.Int.intBits b))with
 | true=>exact absurd e h
 | false=>rfl
@[irreducible] noncomputable def M5: Int:=48271 ^ Int.toNat 14
theorem ZgY{v:Int}(hv:Cell v): mulOk (v.fdiv 5) M5=true:=by
 unfold M5
 exact Zex (IntMulOk.of_bits (bits_fdiv hv) (Nat.le_trans (PyProof.Rows.intBits_le (k:=256) (by decide +kernel)) (by decide)))
theorem Zfb{a b:Int}{H:Hp}(h:0≤b∧(Builtin.Int.intBits a:Int)*b≤2 ^ 27): oPow (.int a) (.int b) H=some (.int (a ^ b.toNat),H):=by simp only[oPow];rw[if_pos h]
theorem ZjI(H:Hp): oPow (.int 48271) (.int 14) H=some (.int M5,H):=by rw[Zfb (by decide +kernel)];unfold M5;rfl
theorem Zib(v:Int): wide v=v.fdiv 5*M5:=by unfold wide M5;rfl
theorem ZiZ(H:Hp): oPow (.int 10) (.int 60) H=some (.int T60,H):=by rw[Zfb (by decide +kernel)];unfold T60;rfl
theorem ZjJ(H:Hp): oPow (.int 10) (.int 9) H=some (.int T9,H):=by rw[Zfb (by decide +kernel)];unfold T9;rfl
end PM
end
section
set_option autoImplicit false
namespace PM
open PySem PySem.W PyProof.Rows My
section
variable {ρ ρ1 ρ2:Lc} {H H1 H2 H3:Hp}
theorem Zi0{k:Int}: Zl k ρ H=some (.int k,H):=rfl
theorem Zic{f g:Ex}{a:Nat}{k:Int}{n:Nat}{vs:List V}(h1:f ρ H=some (.ref a,H1))(h2:g ρ H1=some (.int k,H2))(e:H2[a]?=some vs)(hk:k=(n:Int)): ZbI f (Zb2 g) Zb1 ρ H=some (.ref H2.length,H2++[vs.drop n]):=by
 simp only[ZbI,h1,Option.bind_some,ZhG,h2,Option.map_some,ZhF,Zc0,e]
 rw[Zfw vs hk]
end
end PM
end
section
set_option autoImplicit false
namespace PM
open PySem PySem.W PyProof.Rows PyProof
noncomputable def Zb3(f:Ex)(k:Nat): Ex:=fun ρ H=>(f ρ H).bind fun p=>match p.1 with
 | .ref i=>p.2[i]?.bind fun vs=>some (.ref p.2.length,p.2++[vs.drop k])
 | .tup vs=>if 1≤k∧k≤vs.length then some (.tup (vs.drop k),p.2)else none
 | _=>none
section
variable {prog:Program} {w:World} {Γ:Cx}
theorem Zf7{e lo:Expr}{p pos:Pos}{f:Ex}{k:Nat}(h:J prog w Γ e f)(hlo:J prog w Γ lo (Zl k))(ht:∀o r,letTemporaryGo e o r=pure ():=by intro _ _;rfl): J prog w Γ (.Subscript e (.Slice (Option.some lo) Option.none Option.none p) pos) (Zb3 f k):=by
 intro W ρ H fr s Q E v H' r hf post
 obtain⟨⟨v1,H1⟩,e1,hf⟩:=Zz0.mp hf
 cases v1 with
 | none=>cases hf
 | bool _=>cases hf
 | int _=>cases hf
 | str _=>cases hf
 | ref i=>
  obtain⟨vs,e2,e3⟩:=Zz0.mp hf
  refine ZeI h (JP.some hlo) JP.none ht W ρ H fr s Q E v H' r ?_ post
  rw[Zic (n:=k) e1 Zi0 e2 rfl]
  exact e3
 | tup vs=>
  simp only at hf
  by_cases c:1≤k∧k≤vs.length
  ·rw[if_pos c]at hf
   cases hf
   refine wpAny_Subscript_Slice (T:="tuple") slot_tuple_getitem.lookup (h W ρ H fr s _ E _ _ r e1 fun W1 k1 t1 x l1 r1 x1=>?_) ht
   refine wpAny_Slice ?_
   refine wpAny_evalPart_some (hlo W1 ρ _ fr _ _ E _ _ r1 rfl fun W2 k2 t2 y l2 r2 y2=>?_)
   refine wpAny_evalPart_none ?_
   refine wpAny_evalPart_none ?_
   cases y2 with
   | int _ u=>
    have x2:=x1.mono l2
    cases x2 with
    | @tup _ a ys kk hm hl hs=>
     have it:IsTup k2 a ys.toArray:=⟨_,r2.tupAt hm,rfl,kk,rfl⟩
     have it':IsTup (k2.push { cls:=.type "slice",data:=.fields #[.int k u,.none,.none] }) a ys.toArray:=it.keeps fun _ _ e=>Heap.get?_push_of_some _ e
     have hlen:=hs.length
     rw[Zaz]at hl
     refine⟨it'.typeIs,getItem_tuple_from it' (Heap.IsSliceOf.new ..) c.1 (by simp[hlen];exact c.2) ?_ (Zbb (by simp[hlen];rw[Zaz];exact hl))⟩
     obtain⟨W4,l4,r4,v4⟩:=(r2.push { cls:=.type "slice",data:=.fields #[.int k u,.none,.none] }).tuple (k:=0) (hs.drop k) (by rw[Zaz];simp;omega)
     have:=post W4 _ t2 _ ((l1.trans l2).trans l4) r4 v4
     simpa using this
  ·rw[if_neg c]at hf
   cases hf
end
section
variable {ρ:Lc} {H:Hp} {Q:V→Hp→Prop}
theorem Zgs{a b c:Int}(hc:0<c)(hb:a<b): Builtin.Range.rangeSize a b c=(b-a-1) / c+1:=by
 unfold Builtin.Range.rangeSize
 rw[if_pos hc,if_pos hb]
theorem Zf8{a b c:Int}{H:Hp}(ha:0≤a)(hb:a<b)(hb9:b≤1000)(hc:0<c)(hc9:c≤1000): ZaO a b c H=some (Zcl a c (rngN a b c),rngN a b c+1,H):=by
 have e:=Zgs hc hb
 have h0:0≤(b-a-1) / c:=Int.ediv_nonneg (by omega) (by omega)
 have h2:(b-a-1) / c≤b-a-1:=Int.ediv_le_self _ (by omega)
 unfold ZaO
 rw[if_pos]
 refine⟨by omega,?_,by omega,by unfold rngN;rw[Zaz];omega,PyProof.noPylong_small (by omega)⟩
 unfold Builtin.Range.small
 rw[e]
 simp only[Builtin.Range.rangeFitsLong,Bool.and_eq_true,Bool.or_eq_true,decide_eq_true_eq,beq_iff_eq]
 rw[if_pos hc]
 simp only[Bool.and_eq_true,decide_eq_true_eq]
 refine⟨⟨⟨⟨?_,?_⟩,?_⟩,?_⟩,?_⟩ <;> first | omega | (left;omega) | (right;omega)
end
end PM
end
section
set_option autoImplicit false
namespace PM
open PySem PySem.W PyProof.Rows PyProof My
section
variable {ρ:Lc} {H:Hp} {Q:V→Hp→Prop} {L:List V→Hp→Prop}
end
noncomputable def od: Option Int→PyData
 | none=>.none
 | some k=>.int k
theorem ZhH{a b:Int}(ha:Builtin.Int.intBits a≤2 ^ 21)(hb:Builtin.Int.intBits b≤2 ^ 21): mulOk a b=true:=by
 have e:(2:Nat) ^ 21=2097152:=by decide
 have h:Builtin.Int.intTooBig (Builtin.Int.intBits a+Builtin.Int.intBits b)=false:=by
  unfold Builtin.Int.intTooBig bitsLine
  exact decide_eq_false (by omega)
 unfold mulOk
 rw[h]
 simp
theorem ZgZ{a b:Int}(h1:-(2 ^ 64)<a)(h2:a<2 ^ 64): mulOk a b=true:=Zex (IntMulOk.of_left (intBits_le_64 h1 h2))
section
variable {H:Hp} {Q:V→Hp→Prop} {a b:Int}
end
end PM
end
section
set_option autoImplicit false
/-! The tree machine: values without places; lists that nobody else holds may be changed. -/
namespace TM
open PySem PM
inductive T where
 | none
 | bool (b:Bool)
 | int (i:Int)
 | str (s:Str)
 | tup (ts:List T)
 | lst (ts:List T)
mutual
inductive RF(H:Hp): V→T→List Nat→Prop where
 | none:RF H .none .none []
 | bool (b:Bool):RF H (.bool b) (.bool b) []
 | int (i:Int):RF H (.int i) (.int i) []
 | str (s:Str):RF H (.str s) (.str s) []
 | tup {vs:List V} {ts:List T} {F:List Nat}:RFs H vs ts F→RF H (.tup vs) (.tup ts) F
 | ref {a:Nat} {vs:List V} {ts:List T} {F:List Nat}:H[a]?=some vs→RFs H vs ts F→RF H (.ref a) (.lst ts) (a::F)
inductive RFs(H:Hp): List V→List T→List Nat→Prop where
 | nil:RFs H [] [] []
 | cons {v:V} {t:T} {F:List Nat} {vs:List V} {ts:List T} {G:List Nat}:RF H v t F→RFs H vs ts G→RFs H (v::vs) (t::ts) (F++G)
end
mutual
theorem RF.frame{H H':Hp}{v:V}{t:T}{F:List Nat}(r:RF H v t F)(h:∀a∈F,H'[a]?=H[a]?): RF H' v t F:=by
 cases r with
 | none=>exact .none
 | bool b=>exact .bool b
 | int i=>exact .int i
 | str s=>exact .str s
 | tup hs=>exact .tup (RFs.frame hs h)
 | ref e hs=>exact .ref ((h _ Zz5).trans e) (RFs.frame hs fun a m=>h a (Zz2 _ m))
theorem RFs.frame{H H':Hp}{vs:List V}{ts:List T}{F:List Nat}(r:RFs H vs ts F)(h:∀a∈F,H'[a]?=H[a]?): RFs H' vs ts F:=by
 cases r with
 | nil=>exact .nil
 | cons a b=>exact .cons (RF.frame a fun x m=>h x (Zz4 _ m)) (RFs.frame b fun x m=>h x (Zz3 _ m))
end
mutual
theorem RF.lt{H:Hp}{v:V}{t:T}{F:List Nat}(r:RF H v t F): ∀a∈F,a<H.length:=by
 cases r with
 | none=>intro a m;cases m
 | bool b=>intro a m;cases m
 | int i=>intro a m;cases m
 | str s=>intro a m;cases m
 | tup hs=>exact RFs.lt hs
 | ref e hs=>
  intro x m
  rcases Zz7.mp m with rfl | m
  ·exact(Zz6.mp e).1
  ·exact RFs.lt hs x m
theorem RFs.lt{H:Hp}{vs:List V}{ts:List T}{F:List Nat}(r:RFs H vs ts F): ∀a∈F,a<H.length:=by
 cases r with
 | nil=>intro a m;cases m
 | cons a b=>
  intro x m
  rcases Zz8.mp m with m | m
  ·exact RF.lt a x m
  ·exact RFs.lt b x m
end
theorem RF.ext{H:Hp}{v:V}{t:T}{F:List Nat}(r:RF H v t F)(X:Hp): RF (H++X) v t F:=r.frame fun a m=>List.getElem?_append_left (r.lt a m)
theorem RFs.ext{H:Hp}{vs:List V}{ts:List T}{F:List Nat}(r:RFs H vs ts F)(X:Hp): RFs (H++X) vs ts F:=r.frame fun a m=>List.getElem?_append_left (r.lt a m)
theorem RFs.length{H:Hp}: ∀{vs:List V} {ts:List T} {F:List Nat},RFs H vs ts F→vs.length=ts.length
 | _,_,_,.nil=>rfl
 | _,_,_,.cons _ r=>by rw[List.length_cons,List.length_cons,r.length]
theorem RFs.append{H:Hp}: ∀{vs us:List V} {ts ss:List T} {F G:List Nat},RFs H vs ts F→RFs H us ss G→RFs H (vs++us) (ts++ss) (F++G)
 | _,_,_,_,_,_,.nil,h=>h
 | _,_,_,_,_,_,.cons a r,h=>by rw[List.append_assoc];exact .cons a (r.append h)
theorem RFs.one{H:Hp}{v:V}{t:T}{F:List Nat}(r:RF H v t F): RFs H [v] [t] F:=by
 have:=RFs.cons r RFs.nil
 rwa [List.append_nil]at this
theorem RFs.snoc{H:Hp}{vs:List V}{ts:List T}{F G:List Nat}{v:V}{t:T}(r:RFs H vs ts F)(x:RF H v t G): RFs H (vs++[v]) (ts++[t]) (F++G):=r.append (.one x)
theorem RFs.at{H:Hp}: ∀{vs:List V} {ts:List T} {F:List Nat} {i:Nat} {t:T},RFs H vs ts F→ts[i]?=some t→∃v G,vs[i]?=some v∧RF H v t G∧G.Sublist F
 | _,_,_,_,_,.nil,e=>by simp at e
 | _,_,_,0,_,.cons a _,e=>by
  simp at e
  exact⟨_,_,by simp,e▸a,List.sublist_append_left _ _⟩
 | _,_,_,i+1,_,.cons _ r,e=>by
  simp at e
  obtain⟨x,G,hx,hr,hs⟩:=r.at e
  exact⟨x,G,by simpa using hx,hr,hs.trans (List.sublist_append_right _ _)⟩
theorem RFs.drop{H:Hp}: ∀{vs:List V} {ts:List T} {F:List Nat} (i:Nat),RFs H vs ts F→∃G,RFs H (vs.drop i) (ts.drop i) G∧G.Sublist F
 | _,_,_,0,h=>⟨_,h,List.Sublist.refl _⟩
 | _,_,_,_+1,.nil=>⟨_,.nil,List.Sublist.refl _⟩
 | _,_,_,i+1,.cons _ r=>by
  obtain⟨G,h1,h2⟩:=r.drop i
  exact⟨G,h1,h2.trans (List.sublist_append_right _ _)⟩
theorem RFs.split{H:Hp}: ∀{vs:List V} {ts:List T} {F:List Nat} {i:Nat} {t:T},RFs H vs ts F→ts[i]?=some t →
  ∃v G F1 F2,vs[i]?=some v∧RF H v t G∧F=F1++(G++F2)∧∀(H':Hp) (w:V) (t':T) (G':List Nat),RF H' w t' G'→(∀a∈F1,H'[a]?=H[a]?)→(∀a∈F2,H'[a]?=H[a]?)→RFs H' (vs.set i w) (ts.set i t') (F1++(G'++F2))
 | _,_,_,_,_,.nil,e=>by simp at e
 | _,_,_,0,_,.cons (G:=G1) a r,e=>by
  simp at e
  subst e
  exact⟨_,_,[],G1,by simp,a,by simp,fun H' w t' G' x _ h2=>by simpa using RFs.cons x (r.frame h2)⟩
 | _,_,_,i+1,_,.cons (F:=F0) a r,e=>by
  simp at e
  obtain⟨v,G,F1,F2,h1,h2,h3,h4⟩:=r.split e
  refine⟨v,G,F0++F1,F2,by simpa using h1,h2,by rw[h3];simp,fun H' w t' G' x k1 k2=>?_⟩
  have:=RFs.cons (a.frame fun b m=>k1 b (Zz4 _ m)) (h4 H' w t' G' x (fun b m=>k1 b (Zz3 _ m)) k2)
  simpa using this
theorem ZfG{α:Type}{xs:List α}{i:Nat}{x:α}(h:xs[i]?=some x): xs.set i x=xs:=by
 obtain⟨hi,e⟩:=Zz6.mp h
 rw[←e]
 exact List.set_getElem_self hi
theorem nd3{F1 G F2 G' Gn:List Nat}(nd:(F1++(G++F2)).Nodup)(n':G'.Nodup)(sub:∀a∈G',a∈G∨a∈Gn)(ds:∀a∈Gn,a∉F1++(G++F2)): (F1++(G'++F2)).Nodup:=by
 rw[List.nodup_append,List.nodup_append]at nd ⊢
 obtain⟨a1,⟨a2,a3,a4⟩,a5⟩:=nd
 refine⟨a1,⟨n',a3,fun x hx y hy e=>?_⟩,fun x hx y hy e=>?_⟩
 ·rcases sub x hx with m | m
  ·exact a4 x m y hy e
  ·exact ds x m (Zz3 _ (Zz3 _ (e▸hy)))
 ·rcases Zz8.mp hy with m | m
  ·rcases sub y m with q | q
   ·exact a5 x hx y (Zz4 _ q) e
   ·exact ds y q (Zz4 _ (e▸hx))
  ·exact a5 x hx y (Zz3 _ m) e
theorem in3{F1 G F2 G' Gn:List Nat}(sub:∀a∈G',a∈G∨a∈Gn): ∀a∈F1++(G'++F2),a∈F1++(G++F2)∨a∈Gn:=by
 intro a m
 rcases Zz8.mp m with m | m
 ·exact .inl (Zz4 _ m)
 ·rcases Zz8.mp m with m | m
  ·exact(sub a m).imp (fun q=>List.mem_append_right _ (Zz4 _ q)) id
  ·exact .inl (Zz3 _ (Zz3 _ m))
mutual
noncomputable def T.flat: T→Bool
 | .lst _=>false
 | .tup ts=>T.flats ts
 | .none=>true
 | .bool _=>true
 | .int _=>true
 | .str _=>true
noncomputable def T.flats: List T→Bool
 | []=>true
 | t::ts=>t.flat && T.flats ts
end
mutual
theorem RF.flat{H:Hp}{v:V}{t:T}{F:List Nat}(r:RF H v t F)(h:t.flat=true): F=[]:=by
 cases r with
 | none=>rfl
 | bool b=>rfl
 | int i=>rfl
 | str s=>rfl
 | tup hs=>exact RFs.flats hs (by simpa [T.flat]using h)
 | ref e hs=>simp[T.flat]at h
theorem RFs.flats{H:Hp}{vs:List V}{ts:List T}{F:List Nat}(r:RFs H vs ts F)(h:T.flats ts=true): F=[]:=by
 cases r with
 | nil=>rfl
 | cons a b=>
  simp only[T.flats,Bool.and_eq_true]at h
  rw[RF.flat a h.1,RFs.flats b h.2]
  rfl
end
noncomputable def T.flatIn: T→Bool
 | .lst ts=>T.flats ts
 | t=>t.flat
noncomputable def Zca(f:List T→Option (List T)): List Int→T→Option T
 | [],.lst ts=>(f ts).map .lst
 | k::ks,.lst ts=>(seqIndex? k ts.length).bind fun j=>ts[j]?.bind fun t=>(Zca f ks t).map fun u=>.lst (ts.set j u)
 | k::ks,.tup ts=>(seqIndex? k ts.length).bind fun j=>ts[j]?.bind fun t=>(Zca f ks t).map fun u=>.tup (ts.set j u)
 | _,_=>none
inductive Lead(H:Hp): List Int→V→Nat→Prop where
 | nil {a:Nat}:Lead H [] (.ref a) a
 | ref {k:Int} {ks:List Int} {b:Nat} {vs:List V} {j:Nat} {v:V} {a:Nat}:H[b]?=some vs→seqIndex? k vs.length=some j→vs[j]?=some v→Lead H ks v a→Lead H (k::ks) (.ref b) a
 | tup {k:Int} {ks:List Int} {vs:List V} {j:Nat} {v:V} {a:Nat}:seqIndex? k vs.length=some j→vs[j]?=some v→Lead H ks v a→Lead H (k::ks) (.tup vs) a
theorem Zcp{H:Hp}{Gn:List Nat}{f:List T→Option (List T)}: ∀(ks:List Int) {v:V} {t t':T} {F:List Nat},RF H v t F→F.Nodup→(∀a∈Gn,a∉F)→Zca f ks t=some t' →
  ∃a vs ts ts' G,Lead H ks v a∧a∈F∧H[a]?=some vs∧RFs H vs ts G∧f ts=some ts'∧G.Nodup∧a∉G∧(∀x∈G,x∈F) ∧
   ∀vs' G',RFs H vs' ts' G'→G'.Nodup→a∉G'→(∀x∈G',x∈G∨x∈Gn)→∃F',RF (H.set a vs') v t' F'∧F'.Nodup∧∀x∈F',x∈F∨x∈Gn
 | [],v,t,t',F,r,nd,ds,e=>by
  cases r with
  | @ref a vs ts G e1 hs=>
   obtain⟨ts',h1,h2⟩:=Zz1.mp e
   subst h2
   rw[List.nodup_cons]at nd
   refine⟨a,vs,ts,ts',G,.nil,List.mem_cons_self,e1,hs,h1,nd.2,nd.1,fun x m=>List.mem_cons_of_mem _ m,fun vs' G' r' n' na sub=>⟨a::G',?_,?_,?_⟩⟩
   ·have ha:=(Zz6.mp e1).1
    refine .ref (List.getElem?_set_self ha) (r'.frame fun b m=>List.getElem?_set_ne ?_)
    intro q
    subst q
    exact na m
   ·exact List.nodup_cons.mpr ⟨na,n'⟩
   ·intro x m
    rcases Zz7.mp m with rfl | m
    ·exact .inl Zz5
    ·exact(sub x m).imp (Zz2 _) id
  | none=>cases e
  | bool _=>cases e
  | int _=>cases e
  | str _=>cases e
  | tup _=>cases e
 | k::ks,v,t,t',F,r,nd,ds,e=>by
  cases r with
  | none=>cases e
  | bool _=>cases e
  | int _=>cases e
  | str _=>cases e
  | @tup vs ts _ hs=>
   obtain⟨j,e1,e⟩:=Zz0.mp e
   obtain⟨u,e2,e⟩:=Zz0.mp e
   obtain⟨u',e3,e⟩:=Zz1.mp e
   subst e
   obtain⟨w,G1,F1,F2,e4,g1,eF,rb⟩:=hs.split e2
   subst eF
   have nd1:G1.Nodup:=(List.nodup_append.mp (List.nodup_append.mp nd).2.1).1
   have hin:∀x∈G1,x∈F1++(G1++F2):=fun x m=>List.mem_append_right _ (Zz4 _ m)
   obtain⟨a,us,qs,qs',G,l,am,ea,hq,hf,gn,na,gs,go⟩:=Zcp ks g1 nd1 (fun b m q=>ds b m (hin b q)) e3
   refine⟨a,us,qs,qs',G,.tup (by rw[hs.length];exact e1) e4 l,hin a am,ea,hq,hf,gn,na,fun x m=>hin x (gs x m),fun vs' G' r' n' na' sub=>?_⟩
   obtain⟨G2,f1,f2,f3⟩:=go vs' G' r' n' na' sub
   obtain⟨a1,a2,a5⟩:=List.nodup_append.mp nd
   obtain⟨_,a3,a4⟩:=List.nodup_append.mp a2
   have:=rb (H.set a vs') w u' G2 f1 (fun b m=>List.getElem?_set_ne fun q=>a5 b m a (Zz4 _ am) q.symm) (fun b m=>List.getElem?_set_ne fun q=>a4 a am b m q)
   rw[ZfG e4]at this
   exact⟨_,.tup this,nd3 nd f2 f3 ds,in3 f3⟩
  | @ref b vs ts F' e0 hs=>
   obtain⟨j,e1,e⟩:=Zz0.mp e
   obtain⟨u,e2,e⟩:=Zz0.mp e
   obtain⟨u',e3,e⟩:=Zz1.mp e
   subst e
   obtain⟨w,G1,F1,F2,e4,g1,eF,rb⟩:=hs.split e2
   subst eF
   rw[List.nodup_cons]at nd
   obtain⟨nb,nd⟩:=nd
   have nd1:G1.Nodup:=(List.nodup_append.mp (List.nodup_append.mp nd).2.1).1
   have hin:∀x∈G1,x∈F1++(G1++F2):=fun x m=>List.mem_append_right _ (Zz4 _ m)
   have ds':∀a∈Gn,a∉F1++(G1++F2):=fun a m q=>ds a m (Zz2 _ q)
   obtain⟨a,us,qs,qs',G,l,am,ea,hq,hf,gn,na,gs,go⟩:=Zcp ks g1 nd1 (fun b m q=>ds' b m (hin b q)) e3
   refine⟨a,us,qs,qs',G,.ref e0 (by rw[hs.length];exact e1) e4 l,List.mem_cons_of_mem _ (hin a am),ea,hq,hf,gn,na,fun x m=>List.mem_cons_of_mem _ (hin x (gs x m)),fun vs' G' r' n' na' sub=>?_⟩
   obtain⟨G2,f1,f2,f3⟩:=go vs' G' r' n' na' sub
   obtain⟨a1,a2,a5⟩:=List.nodup_append.mp nd
   obtain⟨_,a3,a4⟩:=List.nodup_append.mp a2
   have:=rb (H.set a vs') w u' G2 f1 (fun b m=>List.getElem?_set_ne fun q=>a5 b m a (Zz4 _ am) q.symm) (fun b m=>List.getElem?_set_ne fun q=>a4 a am b m q)
   rw[ZfG e4]at this
   have hab:a≠b:=fun q=>nb (hin b (q▸am))
   refine⟨_,.ref ((List.getElem?_set_ne hab).trans e0) this,List.nodup_cons.mpr ⟨fun q=>?_,nd3 nd f2 f3 ds'⟩,fun x m=>?_⟩
   ·rcases in3 f3 b q with m | m
    ·exact nb m
    ·exact ds b m Zz5
   ·rcases Zz7.mp m with rfl | m
    ·exact .inl Zz5
    ·exact(in3 f3 x m).imp (Zz2 _) id
end TM
end
section
set_option autoImplicit false
namespace TM
open PySem PM
noncomputable abbrev TL:=Nat→Option T
noncomputable abbrev PE:=TL→Option T
noncomputable abbrev PEs:=TL→Option (List T)
noncomputable abbrev PB:=TL→Option Bool
noncomputable abbrev PG:=TL→Option (List T)
noncomputable def ZO(σ:TL)(i:Nat)(t:T): TL:=fun j=>if j=i then some t else σ j
structure Ctx where
 H0:Hp
 F0:List Nat
 P:Nat→Prop
structure St(c:Ctx)(O:List Nat)(ρ:Lc)(σ:TL)(H:Hp)(Φ:Nat→List Nat): Prop where
 slot:∀i t,σ i=some t→∃v,ρ i=some v∧RF H v t (Φ i)
 src:∀i t,σ i=some t→∀a∈Φ i,c.H0.length≤a∨c.P a
 own:∀i∈O,∀t,σ i=some t→(Φ i).Nodup∧(∀a∈Φ i,c.H0.length≤a∨a∈c.F0)∧∀j u,j≠i→σ j=some u→∀a∈Φ i,a∉Φ j
 len:c.H0.length≤H.length
 keep:∀a,a<c.H0.length→a∉c.F0→H[a]?=c.H0[a]?
 pos:0<c.H0.length
 f0:0∉c.F0
theorem St.ext{c:Ctx}{O:List Nat}{ρ:Lc}{σ:TL}{H:Hp}{Φ:Nat→List Nat}(s:St c O ρ σ H Φ)(X:Hp): St c O ρ σ (H++X) Φ:=
 ⟨fun i t e=>by obtain⟨v,h1,h2⟩:=s.slot i t e;exact⟨v,h1,h2.ext X⟩,s.src,s.own,by have:=s.len;rw[List.length_append];omega,fun a ha hn=>by
  rw[List.getElem?_append_left (Nat.lt_of_lt_of_le ha s.len)];exact s.keep a ha hn,s.pos,s.f0⟩
theorem St.less{c:Ctx}{O O':List Nat}{ρ:Lc}{σ:TL}{H:Hp}{Φ:Nat→List Nat}(s:St c O ρ σ H Φ)(h:∀i∈O',i∈O): St c O' ρ σ H Φ:=⟨s.slot,s.src,fun i hi=>s.own i (h i hi),s.len,s.keep,s.pos,s.f0⟩
noncomputable def From(H:Hp)(N:List Nat)(σ:TL)(Φ:Nat→List Nat)(a:Nat): Prop:=H.length≤a∨∃i∈N,(∃t,σ i=some t)∧a∈Φ i
theorem From.mono{H:Hp}{N N':List Nat}{σ:TL}{Φ:Nat→List Nat}{a:Nat}(f:From H N σ Φ a)(h:∀i∈N,i∈N'): From H N' σ Φ a:=f.imp id fun⟨i,hi,q⟩=>⟨i,h i hi,q⟩
theorem From.back{H X:Hp}{N:List Nat}{σ:TL}{Φ:Nat→List Nat}{a:Nat}(f:From (H++X) N σ Φ a): From H N σ Φ a:=f.imp (fun h=>by rw[List.length_append]at h;omega) id
theorem From.nil{H:Hp}{σ:TL}{Φ:Nat→List Nat}{a:Nat}(f:From H [] σ Φ a): H.length≤a:=f.elim id fun⟨_,hi,_⟩=>by cases hi
noncomputable def E(O N:List Nat)(u:Bool)(e:Ex)(p:PE): Prop:=∀(c:Ctx) (ρ:Lc) (σ:TL) (H:Hp) (Φ:Nat→List Nat) (t:T),St c O ρ σ H Φ→p σ=some t →
 ∃v X F,e ρ H=some (v,H++X)∧RF (H++X) v t F∧(∀a∈F,From H N σ Φ a)∧(u=true→F.Nodup)
noncomputable def Es(O N:List Nat)(u:Bool)(n:Nat)(e:Exs)(p:PEs): Prop:=∀(c:Ctx) (ρ:Lc) (σ:TL) (H:Hp) (Φ:Nat→List Nat) (ts:List T),St c O ρ σ H Φ→p σ=some ts →
 ts.length=n∧∃vs X F,e ρ H=some (vs,H++X)∧RFs (H++X) vs ts F∧(∀a∈F,From H N σ Φ a)∧(u=true→F.Nodup)
noncomputable def Bt(O:List Nat)(e:Ts)(p:PB): Prop:=∀(c:Ctx) (ρ:Lc) (σ:TL) (H:Hp) (Φ:Nat→List Nat) (b:Bool),St c O ρ σ H Φ→p σ=some b→∃X,e ρ H=some (b,H++X)
section
variable {O N:List Nat} {u:Bool}
theorem Zc4{O':List Nat}{e:Ex}{p:PE}(x:E O' N u e p)(h:∀i∈O',i∈O:=by decide): E O N u e p:=fun c ρ σ H Φ t s=>x c ρ σ H Φ t (s.less h)
theorem E.sh{e:Ex}{p:PE}(x:E O N u e p): E O N false e p:=fun c ρ σ H Φ t s q=>by
 obtain⟨v,X,F,a1,a2,a3,a4⟩:=x c ρ σ H Φ t s q
 exact⟨v,X,F,a1,a2,a3,by simp⟩
noncomputable def Zg(k:Int): PE:=fun _=>some (.int k)
noncomputable def Zax: PE:=fun _=>some .none
noncomputable def Zbk(b:Bool): PE:=fun _=>some (.bool b)
noncomputable def Zac(x:Str): PE:=fun _=>some (.str x)
noncomputable def Za(i:Nat): PE:=fun σ=>σ i
theorem Zm(k:Int): E O [] true (Zl k) (Zg k):=fun c ρ σ H Φ t s q=>by
 cases q;exact⟨_,[],[],by simp[Zl],.int k,by simp,by simp⟩
theorem ZaB: E O [] true Zao Zax:=fun c ρ σ H Φ t s q=>by
 cases q;exact⟨_,[],[],by simp[Zao],.none,by simp,by simp⟩
theorem E.bool(k:Bool): E O [] true (Zbj k) (Zbk k):=fun c ρ σ H Φ t s q=>by
 cases q;exact⟨_,[],[],by simp[Zbj],.bool k,by simp,by simp⟩
theorem E.str(k:Str): E O [] true (Zaa k) (Zac k):=fun c ρ σ H Φ t s q=>by
 cases q;exact⟨_,[],[],by simp[Zaa],.str k,by simp,by simp⟩
theorem Zd(i:Nat): E O [i] false (Zc i) (Za i):=fun c ρ σ H Φ t s q=>by
 obtain⟨v,h1,h2⟩:=s.slot i t q
 exact⟨v,[],Φ i,by simp[Zc,h1],by simpa using h2,fun a m=>.inr ⟨i,List.mem_cons_self,⟨t,q⟩,m⟩,by simp⟩
noncomputable def Zc5(p:PE): PE:=fun σ=>(p σ).bind fun t=>if t.flat then some t else none
theorem E.flat{e:Ex}{p:PE}(x:E O N u e p): E O [] true e (Zc5 p):=fun c ρ σ H Φ t s q=>by
 obtain⟨t',e1,e2⟩:=Zz0.mp q
 by_cases h:t'.flat=true
 ·rw[if_pos h]at e2
  cases e2
  obtain⟨v,X,F,a1,a2,a3,a4⟩:=x c ρ σ H Φ t s e1
  have:=a2.flat h
  subst this
  exact⟨v,X,[],a1,a2,by simp,by simp⟩
 ·rw[if_neg h]at e2;cases e2
noncomputable def Zo: PEs:=fun _=>some []
noncomputable def Ze(p:PE)(q:PEs): PEs:=fun σ=>(p σ).bind fun t=>(q σ).bind fun ts=>some (t::ts)
theorem Zt: Es O [] true 0 Zr Zo:=fun c ρ σ H Φ ts s q=>by
 cases q;exact⟨rfl,[],[],[],by simp[Zr],.nil,by simp,by simp⟩
theorem Zk{M:List Nat}{u':Bool}{n:Nat}{e:Ex}{p:PE}{es:Exs}{ps:PEs}(x:E O N u e p)(y:Es O M u' n es ps): Es O (N++M) false (n+1) (Zh e es) (Ze p ps):=fun c ρ σ H Φ ts s q=>by
 obtain⟨t,e1,q⟩:=Zz0.mp q
 obtain⟨rs,e2,q⟩:=Zz0.mp q
 cases q
 obtain⟨v,X,F,a1,a2,a3,a4⟩:=x c ρ σ H Φ t s e1
 obtain⟨hl,vs,Y,G,b1,b2,b3,b4⟩:=y c ρ σ (H++X) Φ rs (s.ext X) e2
 refine⟨by simp[hl],v::vs,X++Y,F++G,by simp[Zh,a1,b1],?_,fun a m=>?_,by simp⟩
 ·rw[←List.append_assoc];exact .cons (a2.ext Y) b2
 ·rcases Zz8.mp m with m | m
  ·exact(a3 a m).mono fun i hi=>List.mem_append_left _ hi
  ·exact(b3 a m).back.mono fun i hi=>List.mem_append_right _ hi
noncomputable def Zam(p:PEs): PE:=fun σ=>(p σ).map .tup
noncomputable def ZaZ(p:PEs): PE:=fun σ=>(p σ).map .lst
theorem E.tup{n:Nat}{e:Exs}{p:PEs}(x:Es O N u n e p)(hn:n≤ZU:=by decide): E O N u (Zak e) (Zam p):=fun c ρ σ H Φ t s q=>by
 obtain⟨ts,e1,e2⟩:=Zz1.mp q
 subst e2
 obtain⟨hl,vs,Y,G,b1,b2,b3,b4⟩:=x c ρ σ H Φ ts s e1
 have:=b2.length
 refine⟨.tup vs,Y,G,?_,.tup b2,b3,b4⟩
 simp only[Zak,b1,Option.bind_some]
 rw[if_pos (by omega)]
theorem E.list{n:Nat}{e:Exs}{p:PEs}(x:Es O N u n e p)(hn:n≤ZU:=by decide): E O N u (Za2 e) (ZaZ p):=fun c ρ σ H Φ t s q=>by
 obtain⟨ts,e1,e2⟩:=Zz1.mp q
 subst e2
 obtain⟨hl,vs,Y,G,b1,b2,b3,b4⟩:=x c ρ σ H Φ ts s e1
 have:=b2.length
 refine⟨.ref (H++Y).length,Y++[vs],(H++Y).length::G,?_,?_,fun a m=>?_,fun hu=>?_⟩
 ·simp only[Za2,b1,Option.bind_some]
  rw[if_pos (by omega),List.append_assoc]
 ·rw[←List.append_assoc];exact .ref (by simp) (b2.ext _)
 ·rcases Zz7.mp m with rfl | m
  ·exact .inl (by simp)
  ·exact b3 a m
 ·rw[List.nodup_cons]
  exact⟨fun m=>Nat.lt_irrefl _ (b2.lt _ m),b4 hu⟩
noncomputable def OA2(o:V→V→Hp→Option (V×Hp))(q:T→T→Option T): Prop:=∀(H:Hp) (v1 v2:V) (t1 t2 t:T) (F1 F2:List Nat),RF H v1 t1 F1→RF H v2 t2 F2→q t1 t2=some t→∃v,o v1 v2 H=some (v,H)∧RF H v t []
noncomputable def OI2(o:V→V→Hp→Option (V×Hp))(q:T→T→Option T): Prop:=∀(H:Hp) (v1 v2:V) (t1 t2 t:T) (F1 F2:List Nat),RF H v1 t1 F1→RF H v2 t2 F2→q t1 t2=some t→∃v F,o v1 v2 H=some (v,H)∧RF H v t F∧F.Sublist F1
noncomputable def OC2(o:V→V→Hp→Option (V×Hp))(q:T→T→Option T): Prop:=∀(H:Hp) (v1 v2:V) (t1 t2 t:T) (F1 F2:List Nat),RF H v1 t1 F1→RF H v2 t2 F2→q t1 t2=some t→∃v X F,o v1 v2 H=some (v,H++X)∧RF (H++X) v t F∧(∀a∈F,H.length≤a∨a∈F1∨a∈F2)∧(t.flatIn=true→F.Nodup∧∀a∈F,H.length≤a)
noncomputable def OAn(o:List V→Hp→Option (V×Hp))(q:List T→Option T): Prop:=∀(H:Hp) (vs:List V) (ts:List T) (t:T) (F:List Nat),RFs H vs ts F→q ts=some t→∃v,o vs H=some (v,H)∧RF H v t []
noncomputable def OCn(o:List V→Hp→Option (V×Hp))(q:List T→Option T): Prop:=∀(H:Hp) (vs:List V) (ts:List T) (t:T) (F1:List Nat),0<H.length→RFs H vs ts F1→q ts=some t→∃v X F,o vs H=some (v,H++X)∧RF (H++X) v t F∧(∀a∈F,H.length≤a∨a∈F1)∧(t.flatIn=true→F.Nodup∧∀a∈F,H.length≤a)
noncomputable def Zb(q:T→T→Option T)(p1 p2:PE): PE:=fun σ=>(p1 σ).bind fun x=>(p2 σ).bind fun y=>q x y
noncomputable def Zu(q:List T→Option T)(ps:PEs): PE:=fun σ=>(ps σ).bind fun xs=>q xs
noncomputable def pFl(p:PE): PE:=fun σ=>(p σ).bind fun t=>if t.flatIn then some t else none
theorem Zdl{M:List Nat}{u':Bool}{e1 e2:Ex}{p1 p2:PE}{q:T→T→Option T}{o:V→V→Hp→Option (V×Hp)}{c:Ctx}{ρ:Lc}{σ:TL}{H:Hp}{Φ:Nat→List Nat}{t:T}(x:E O N u e1 p1)(y:E O M u' e2 p2)(s:St c O ρ σ H Φ)(h:Zb q p1 p2 σ=some t):
  ∃t1 t2 v1 v2 X F1 F2,q t1 t2=some t∧RF (H++X) v1 t1 F1∧RF (H++X) v2 t2 F2∧(∀a∈F1,From H N σ Φ a)∧(∀a∈F2,From H M σ Φ a)∧(u=true→F1.Nodup)∧Zf o e1 e2 ρ H=o v1 v2 (H++X):=by
 obtain⟨t1,h1,h⟩:=Zz0.mp h
 obtain⟨t2,h2,h⟩:=Zz0.mp h
 obtain⟨v,X,F,a1,a2,a3,a4⟩:=x c ρ σ H Φ t1 s h1
 obtain⟨w,Y,G,b1,b2,b3,b4⟩:=y c ρ σ (H++X) Φ t2 (s.ext X) h2
 rw[List.append_assoc]at b1 b2
 refine⟨t1,t2,v,w,X++Y,F,G,h,?_,b2,a3,fun a m=>(b3 a m).back,a4,by simp only[Zf,a1,b1,Option.bind_some]⟩
 rw[←List.append_assoc];exact a2.ext Y
theorem Zn{M:List Nat}{u':Bool}{e1 e2:Ex}{p1 p2:PE}{q:T→T→Option T}{o:V→V→Hp→Option (V×Hp)}(k:OA2 o q)(x:E O N u e1 p1)(y:E O M u' e2 p2): E O [] true (Zf o e1 e2) (Zb q p1 p2):=fun c ρ σ H Φ t s h=>by
 obtain⟨t1,t2,v1,v2,X,F1,F2,hq,r1,r2,_,_,_,e⟩:=Zdl (o:=o) x y s h
 obtain⟨v,h1,h2⟩:=k _ v1 v2 t1 t2 t F1 F2 r1 r2 hq
 exact⟨v,X,[],e.trans h1,h2,by simp,by simp⟩
theorem ZA{M:List Nat}{u':Bool}{e1 e2:Ex}{p1 p2:PE}{q:T→T→Option T}{o:V→V→Hp→Option (V×Hp)}(k:OI2 o q)(x:E O N u e1 p1)(y:E O M u' e2 p2): E O N u (Zf o e1 e2) (Zb q p1 p2):=fun c ρ σ H Φ t s h=>by
 obtain⟨t1,t2,v1,v2,X,F1,F2,hq,r1,r2,h1,_,hu,e⟩:=Zdl (o:=o) x y s h
 obtain⟨v,F,k1,k2,k3⟩:=k _ v1 v2 t1 t2 t F1 F2 r1 r2 hq
 exact⟨v,X,F,e.trans k1,k2,fun a m=>h1 a (k3.subset m),fun h=>(hu h).sublist k3⟩
theorem Z3{M:List Nat}{u':Bool}{e1 e2:Ex}{p1 p2:PE}{q:T→T→Option T}{o:V→V→Hp→Option (V×Hp)}(k:OC2 o q)(x:E O N u e1 p1)(y:E O M u' e2 p2): E O (N++M) false (Zf o e1 e2) (Zb q p1 p2):=fun c ρ σ H Φ t s h=>by
 obtain⟨t1,t2,v1,v2,X,F1,F2,hq,r1,r2,h1,h2,hu,e⟩:=Zdl (o:=o) x y s h
 obtain⟨v,Y,F,k1,k2,k3,k4⟩:=k _ v1 v2 t1 t2 t F1 F2 r1 r2 hq
 rw[List.append_assoc]at k1 k2
 refine⟨v,X++Y,F,e.trans k1,k2,fun a m=>?_,by simp⟩
 rcases k3 a m with h | h | h
 ·exact .inl (by rw[List.length_append]at h;omega)
 ·exact(h1 a h).mono fun i hi=>List.mem_append_left _ hi
 ·exact(h2 a h).mono fun i hi=>List.mem_append_right _ hi
theorem Zi1{M:List Nat}{u':Bool}{e1 e2:Ex}{p1 p2:PE}{q:T→T→Option T}{o:V→V→Hp→Option (V×Hp)}(k:OC2 o q)(x:E O N u e1 p1)(y:E O M u' e2 p2): E O [] true (Zf o e1 e2) (pFl (Zb q p1 p2)):=fun c ρ σ H Φ t s h=>by
 obtain⟨t',h,hf⟩:=Zz0.mp h
 by_cases fl:t'.flatIn=true
 ·rw[if_pos fl]at hf
  cases hf
  obtain⟨t1,t2,v1,v2,X,F1,F2,hq,r1,r2,h1,h2,hu,e⟩:=Zdl (o:=o) x y s h
  obtain⟨v,Y,F,k1,k2,k3,k4⟩:=k _ v1 v2 t1 t2 t F1 F2 r1 r2 hq
  rw[List.append_assoc]at k1 k2
  exact⟨v,X++Y,F,e.trans k1,k2,fun a m=>.inl (by have:=(k4 fl).2 a m;rw[List.length_append]at this;omega),fun _=>(k4 fl).1⟩
 ·rw[if_neg fl]at hf;cases hf
theorem ZaP{n:Nat}{es:Exs}{ps:PEs}{q:List T→Option T}{o:List V→Hp→Option (V×Hp)}(k:OAn o q)(x:Es O N u n es ps): E O [] true (Zy o es) (Zu q ps):=fun c ρ σ H Φ t s h=>by
 obtain⟨ts,h1,h⟩:=Zz0.mp h
 obtain⟨_,vs,X,F,a1,a2,a3,a4⟩:=x c ρ σ H Φ ts s h1
 obtain⟨w,b1,b2⟩:=k _ vs ts t F a2 h
 exact⟨w,X,[],by simp only[Zy,a1,Option.bind_some,b1],b2,by simp,by simp⟩
theorem ZfT{n:Nat}{es:Exs}{ps:PEs}{q:List T→Option T}{o:List V→Hp→Option (V×Hp)}(k:OCn o q)(x:Es O N u n es ps): E O N false (Zy o es) (Zu q ps):=fun c ρ σ H Φ t s h=>by
 obtain⟨ts,h1,h⟩:=Zz0.mp h
 obtain⟨_,vs,X,F,a1,a2,a3,a4⟩:=x c ρ σ H Φ ts s h1
 have hp:0<(H++X).length:=by have:=s.pos;have:=s.len;rw[List.length_append];omega
 obtain⟨w,Y,G,b1,b2,b3,b4⟩:=k _ vs ts t F hp a2 h
 rw[List.append_assoc]at b1 b2
 refine⟨w,X++Y,G,by simp only[Zy,a1,Option.bind_some,b1],b2,fun a m=>?_,by simp⟩
 rcases b3 a m with h | h
 ·exact .inl (by rw[List.length_append]at h;omega)
 ·exact a3 a h
theorem ZfU{n:Nat}{es:Exs}{ps:PEs}{q:List T→Option T}{o:List V→Hp→Option (V×Hp)}(k:OCn o q)(x:Es O N u n es ps): E O [] true (Zy o es) (pFl (Zu q ps)):=fun c ρ σ H Φ t s h=>by
 obtain⟨t',h,hf⟩:=Zz0.mp h
 by_cases fl:t'.flatIn=true
 ·rw[if_pos fl]at hf
  cases hf
  obtain⟨ts,h1,h⟩:=Zz0.mp h
  obtain⟨_,vs,X,F,a1,a2,a3,a4⟩:=x c ρ σ H Φ ts s h1
  have hp:0<(H++X).length:=by have:=s.pos;have:=s.len;rw[List.length_append];omega
  obtain⟨w,Y,G,b1,b2,b3,b4⟩:=k _ vs ts t F hp a2 h
  rw[List.append_assoc]at b1 b2
  exact⟨w,X++Y,G,by simp only[Zy,a1,Option.bind_some,b1],b2,fun a m=>.inl (by have:=(b4 fl).2 a m;rw[List.length_append]at this;omega),fun _=>(b4 fl).1⟩
 ·rw[if_neg fl]at hf;cases hf
noncomputable def SimF(fr:Bool)(f:List V→Hp→Option (V×Hp))(p:List T→Option T): Prop:=∀(H:Hp) (vs:List V) (ts:List T) (t:T) (F1:List Nat),0<H.length→RFs H vs ts F1→p ts=some t→∃v X F,f vs H=some (v,H++X)∧RF (H++X) v t F∧(∀a∈F,H.length≤a∨a∈F1)∧(fr=true→F.Nodup∧∀a∈F,H.length≤a)
theorem Z7{fr:Bool}{n:Nat}{es:Exs}{ps:PEs}{q:List T→Option T}{o:List V→Hp→Option (V×Hp)}(k:SimF fr o q)(x:Es O N u n es ps): E O N false (Zy o es) (Zu q ps):=fun c ρ σ H Φ t s h=>by
 obtain⟨ts,h1,h⟩:=Zz0.mp h
 obtain⟨_,vs,X,F,a1,a2,a3,a4⟩:=x c ρ σ H Φ ts s h1
 have hp:0<(H++X).length:=by have:=s.pos;have:=s.len;rw[List.length_append];omega
 obtain⟨w,Y,G,b1,b2,b3,b4⟩:=k _ vs ts t F hp a2 h
 rw[List.append_assoc]at b1 b2
 refine⟨w,X++Y,G,by simp only[Zy,a1,Option.bind_some,b1],b2,fun a m=>?_,by simp⟩
 rcases b3 a m with h | h
 ·exact .inl (by rw[List.length_append]at h;omega)
 ·exact a3 a h
theorem Zgt{n:Nat}{es:Exs}{ps:PEs}{q:List T→Option T}{o:List V→Hp→Option (V×Hp)}(k:SimF true o q)(x:Es O N u n es ps): E O [] true (Zy o es) (Zu q ps):=fun c ρ σ H Φ t s h=>by
 obtain⟨ts,h1,h⟩:=Zz0.mp h
 obtain⟨_,vs,X,F,a1,a2,a3,a4⟩:=x c ρ σ H Φ ts s h1
 have hp:0<(H++X).length:=by have:=s.pos;have:=s.len;rw[List.length_append];omega
 obtain⟨w,Y,G,b1,b2,b3,b4⟩:=k _ vs ts t F hp a2 h
 rw[List.append_assoc]at b1 b2
 exact⟨w,X++Y,G,by simp only[Zy,a1,Option.bind_some,b1],b2,fun a m=>.inl (by have:=(b4 rfl).2 a m;rw[List.length_append]at this;omega),fun _=>(b4 rfl).1⟩
noncomputable def Zcq: T→Option Bool
 | .bool b=>some b
 | .none=>some false
 | .int i=>some (i != 0)
 | _=>none
theorem Zey{H:Hp}{v:V}{t:T}{F:List Nat}{b:Bool}(r:RF H v t F)(h:Zcq t=some b): ZdB v H=some b:=by
 cases r <;> first | (cases h;rfl) | cases h
noncomputable def ZK(p:PE): PB:=fun σ=>(p σ).bind Zcq
noncomputable def Zbo(p:PB): PB:=fun σ=>(p σ).map fun b=>!b
noncomputable def Zas: PB:=fun _=>some true
noncomputable def Zcr: PB:=fun _=>some false
noncomputable def Za5(p q:PB): PB:=fun σ=>(p σ).bind fun b=>if b then q σ else some false
noncomputable def bOr(p q:PB): PB:=fun σ=>(p σ).bind fun b=>if b then some true else q σ
theorem ZN{e:Ex}{p:PE}(x:E O N u e p): Bt O (ZL e) (ZK p):=fun c ρ σ H Φ b s h=>by
 obtain⟨t,h1,h⟩:=Zz0.mp h
 obtain⟨v,X,F,a1,a2,a3,a4⟩:=x c ρ σ H Φ t s h1
 exact⟨X,by simp only[ZL,a1,Option.bind_some,Zey a2 h,Option.map_some]⟩
theorem ZcX{e:Ts}{p:PB}(x:Bt O e p): Bt O (ZbS e) (Zbo p):=fun c ρ σ H Φ b s h=>by
 obtain⟨t,h1,h⟩:=Zz1.mp h
 subst h
 obtain⟨X,a1⟩:=x c ρ σ H Φ t s h1
 exact⟨X,by simp only[ZbS,a1,Option.map_some]⟩
theorem Zbt: Bt O ZaG Zas:=fun c ρ σ H Φ b s h=>by
 cases h;exact⟨[],by simp[ZaG]⟩
theorem Zdo: Bt O ZbX Zcr:=fun c ρ σ H Φ b s h=>by
 cases h;exact⟨[],by simp[ZbX]⟩
theorem ZbL{e f:Ts}{p q:PB}(x:Bt O e p)(y:Bt O f q): Bt O (Za4 e f) (Za5 p q):=fun c ρ σ H Φ b s h=>by
 obtain⟨t,h1,h⟩:=Zz0.mp h
 obtain⟨X,a1⟩:=x c ρ σ H Φ t s h1
 cases t with
 | true=>
  obtain⟨Y,b1⟩:=y c ρ σ (H++X) Φ b (s.ext X) (by simpa using h)
  exact⟨X++Y,by simp[Za4,a1,b1]⟩
 | false=>cases h;exact⟨X,by simp[Za4,a1]⟩
theorem ZbO{e f:Ts}{p q:PB}(x:Bt O e p)(y:Bt O f q): Bt O (tOr e f) (bOr p q):=fun c ρ σ H Φ b s h=>by
 obtain⟨t,h1,h⟩:=Zz0.mp h
 obtain⟨X,a1⟩:=x c ρ σ H Φ t s h1
 cases t with
 | false=>
  obtain⟨Y,b1⟩:=y c ρ σ (H++X) Φ b (s.ext X) (by simpa using h)
  exact⟨X++Y,by simp[tOr,a1,b1]⟩
 | true=>cases h;exact⟨X,by simp[tOr,a1]⟩
noncomputable def ZcB(p q:PE): PE:=fun σ=>(p σ).bind fun t=>(Zcq t).bind fun b=>if b then q σ else some t
theorem Zgu{M:List Nat}{e f:Ex}{p q:PE}(x:E O N u e p)(y:E O M u f q): E O (N++M) u (Zcy e f) (ZcB p q):=fun c ρ σ H Φ t s h=>by
 obtain⟨t1,h1,h⟩:=Zz0.mp h
 obtain⟨b,h2,h⟩:=Zz0.mp h
 obtain⟨v,X,F,a1,a2,a3,a4⟩:=x c ρ σ H Φ t1 s h1
 cases b with
 | true=>
  obtain⟨w,Y,F',b1,b2,b3,b4⟩:=y c ρ σ (H++X) Φ t (s.ext X) (by simpa using h)
  exact⟨w,X++Y,F',by simp[Zcy,a1,Zey a2 h2,b1],by rw[←List.append_assoc];exact b2,fun a m=>(b3 a m).back.mono fun i hi=>List.mem_append_right _ hi,b4⟩
 | false=>
  cases h
  exact⟨v,X,F,by simp[Zcy,a1,Zey a2 h2],a2,fun a m=>(a3 a m).mono fun i hi=>List.mem_append_left _ hi,a4⟩
noncomputable def ZeK: T→String
 | .none=>"NoneType"
 | .bool _=>"bool"
 | .int _=>"int"
 | .str _=>"str"
 | .tup _=>"tuple"
 | .lst _=>"list"
end
end TM
end
section
set_option autoImplicit false
namespace TM
open PySem PM
section
variable {O N:List Nat} {u:Bool}
noncomputable def Zdu(K:String)(t:T): Bool:=ZeK t == K || (K == "int" && ZeK t == "bool")
noncomputable def pIs(K:String)(p:PE): PE:=fun σ=>(p σ).map fun t=>.bool (Zdu K t)
theorem Zid{H:Hp}{v:V}{t:T}{F:List Nat}(r:RF H v t F): ZeJ v=ZeK t:=by cases r <;> rfl
theorem Zda{K:String}{e:Ex}{p:PE}(x:E O N u e p): E O [] true (eIs K e) (pIs K p):=fun c ρ σ H Φ t s h=>by
 obtain⟨t1,h1,h⟩:=Zz1.mp h
 subst h
 obtain⟨v,X,F,a1,a2,a3,a4⟩:=x c ρ σ H Φ t1 s h1
 exact⟨.bool (Zdu K t1),X,[],by simp only[eIs,a1,Option.map_some,ZeW,Zdu,Zid a2],.bool _,by simp,by simp⟩
noncomputable def Zay: T→T→Option T
 | .int a,.int b=>some (.int (a-b))
 | _,_=>none
noncomputable def Zan: T→T→Option T
 | .int a,.int b=>if b≠0∧Builtin.divisionGoesByPylong a b=false then some (.int (a.fdiv b))else none
 | _,_=>none
noncomputable def ZX: T→T→Option T
 | .int a,.int b=>if b≠0 then some (.int (a.fmod b))else none
 | _,_=>none
noncomputable def Zap: T→T→Option T
 | .int a,.int b=>if 0≤b∧(Builtin.Int.intBits a:Int)*b≤2 ^ 27 then some (.int (a ^ b.toNat))else none
 | _,_=>none
noncomputable def Zgx(p:Int→Int→Bool): T→T→Option T
 | .int a,.int b=>some (.bool (p a b))
 | _,_=>none
noncomputable def qLt:=Zgx fun a b=>decide (a<b)
theorem ZaC: OA2 Zau Zay:=fun H v1 v2 t1 t2 t F1 F2 r1 r2 h=>by
 cases r1 <;> first | (cases h;done) | (cases r2 <;> first | (cases h;done) | (cases h;exact⟨_,rfl,.int _⟩))
theorem ZaW: OA2 oDiv Zan:=fun H v1 v2 t1 t2 t F1 F2 r1 r2 h=>by
 cases r1 <;> first | (cases h;done) | skip
 cases r2 <;> first | (cases h;done) | skip
 simp only[Zan]at h
 split at h
 ·rename_i hc;cases h;exact⟨_,by simp only[oDiv];rw[if_pos hc],.int _⟩
 ·cases h
theorem Zae: OA2 oMod ZX:=fun H v1 v2 t1 t2 t F1 F2 r1 r2 h=>by
 cases r1 <;> first | (cases h;done) | skip
 cases r2 <;> first | (cases h;done) | skip
 simp only[ZX]at h
 split at h
 ·rename_i hc;cases h;exact⟨_,by simp only[oMod];rw[if_pos hc],.int _⟩
 ·cases h
theorem Zbf: OA2 oPow Zap:=fun H v1 v2 t1 t2 t F1 F2 r1 r2 h=>by
 cases r1 <;> first | (cases h;done) | skip
 cases r2 <;> first | (cases h;done) | skip
 simp only[Zap]at h
 split at h
 ·rename_i hc;cases h;exact⟨_,by simp only[oPow];rw[if_pos hc],.int _⟩
 ·cases h
theorem ZjK(p:Int→Int→Bool): OA2 (Zgv p) (Zgx p):=fun H v1 v2 t1 t2 t F1 F2 r1 r2 h=>by
 cases r1 <;> first | (cases h;done) | (cases r2 <;> first | (cases h;done) | (cases h;exact⟨_,rfl,.bool _⟩))
theorem Zfj: OA2 oLt qLt:=ZjK _
noncomputable def Zb4(f:T→Option PyData): List T→Option (List PyData)
 | []=>some []
 | v::vs=>(f v).bind fun d=>(Zb4 f vs).bind fun ds=>some (d::ds)
noncomputable def ZaJ: Nat→T→Option PyData
 | _,.none=>some .none
 | _,.bool b=>some (.bool b)
 | _,.int i=>some (.int i)
 | _,.str x=>some (.str x)
 | n+1,.tup vs=>(Zb4 (ZaJ n) vs).map .tuple
 | n+1,.lst vs=>(Zb4 (ZaJ n) vs).map .list
 | 0,.tup _=>none
 | 0,.lst _=>none
theorem ZeL{H:Hp}{f:V→Option PyData}{g:T→Option PyData}(h:∀v t F,RF H v t F→f v=g t): ∀{vs:List V} {ts:List T} {F:List Nat},RFs H vs ts F→Zcz f vs=Zb4 g ts
 | _,_,_,.nil=>rfl
 | _,_,_,.cons a b=>by simp only[Zcz,Zb4,h _ _ _ a,ZeL h b]
theorem ZdC{H:Hp}: ∀(n:Nat) (v:V) (t:T) (F:List Nat),RF H v t F→toD H n v=ZaJ n t:=by
 intro n
 induction n with
 | zero=>intro v t F r;cases r <;> rfl
 | succ n ih=>
  intro v t F r
  cases r with
  | none=>rfl
  | bool=>rfl
  | int=>rfl
  | str=>rfl
  | tup hs=>simp only[toD,ZaJ,ZeL ih hs]
  | ref e hs=>simp only[toD,ZaJ,e,Option.bind_some,ZeL ih hs]
noncomputable def Za6(a b:T): Option Bool:=(ZaJ Zav a).bind fun d=>(ZaJ Zav b).bind fun e=>if SeqAt.shaped d=true∧SeqAt.shaped e=true then some (PyData.eqv d e)else none
noncomputable def ZV(a b:T): Option T:=(Za6 a b).map .bool
noncomputable def qNe(a b:T): Option T:=(Za6 a b).map fun c=>.bool !c
theorem Zf9{H:Hp}{v1 v2:V}{t1 t2:T}{F1 F2:List Nat}(r1:RF H v1 t1 F1)(r2:RF H v2 t2 F2): ZdL v1 v2 H=Za6 t1 t2:=by
 simp only[ZdL,Za6,ZdC Zav _ _ _ r1,ZdC Zav _ _ _ r2]
theorem Zaf: OA2 oEq ZV:=fun H v1 v2 t1 t2 t F1 F2 r1 r2 h=>by
 obtain⟨c,h1,h⟩:=Zz1.mp h
 subst h
 exact⟨_,by simp only[oEq,Zf9 r1 r2,h1,Option.map_some],.bool _⟩
theorem Zfk: OA2 oNe qNe:=fun H v1 v2 t1 t2 t F1 F2 r1 r2 h=>by
 obtain⟨c,h1,h⟩:=Zz1.mp h
 subst h
 exact⟨_,by simp only[oNe,Zf9 r1 r2,h1,Option.map_some],.bool _⟩
noncomputable def qIs: T→T→Option T
 | .none,.none=>some (.bool true)
 | _,.none=>some (.bool false)
 | _,_=>none
noncomputable def ZdD: T→T→Option T
 | .none,.none=>some (.bool false)
 | _,.none=>some (.bool true)
 | _,_=>none
theorem Za7: OA2 oIs qIs:=fun H v1 v2 t1 t2 t F1 F2 r1 r2 h=>by
 cases r1 <;> cases r2 <;> first | (cases h;done) | (cases h;exact⟨_,rfl,.bool _⟩)
theorem Zie: OA2 ZeV ZdD:=fun H v1 v2 t1 t2 t F1 F2 r1 r2 h=>by
 cases r1 <;> cases r2 <;> first | (cases h;done) | (cases h;exact⟨_,rfl,.bool _⟩)
noncomputable def Zv: T→T→Option T
 | .lst ts,.int k=>(seqIndex? k ts.length).bind fun j=>ts[j]?
 | .tup ts,.int k=>(seqIndex? k ts.length).bind fun j=>ts[j]?
 | _,_=>none
theorem ZC: OI2 Zx Zv:=fun H v1 v2 t1 t2 t F1 F2 r1 r2 h=>by
 cases r1 with
 | none=>cases h
 | bool=>cases h
 | int=>cases h
 | str=>cases h
 | tup hs=>
  cases r2 <;> first | (cases h;done) | skip
  obtain⟨j,h1,h2⟩:=Zz0.mp h
  obtain⟨v,G,e1,e2,e3⟩:=hs.at h2
  exact⟨v,G,by simp only[Zx,hs.length,h1,Option.bind_some,e1,Option.map_some],e2,e3⟩
 | ref e hs=>
  cases r2 <;> first | (cases h;done) | skip
  obtain⟨j,h1,h2⟩:=Zz0.mp h
  obtain⟨v,G,e1,e2,e3⟩:=hs.at h2
  exact⟨v,G,by simp only[Zx,e,Option.bind_some,hs.length,h1,e1,Option.map_some],e2,e3.trans (List.sublist_cons_self _ _)⟩
noncomputable def Zbg: List T→Option T
 | [.lst ts]=>some (.int ts.length)
 | [.tup ts]=>some (.int ts.length)
 | _=>none
theorem RFs.one_inv{H:Hp}{vs:List V}{t:T}{F:List Nat}(r:RFs H vs [t] F): ∃v,vs=[v]∧RF H v t F:=by
 cases r with
 | cons a b=>cases b;rw[List.append_nil];exact⟨_,rfl,a⟩
theorem RFs.two_inv{H:Hp}{vs:List V}{t t':T}{F:List Nat}(r:RFs H vs [t,t'] F): ∃v v' F1 F2,vs=[v,v']∧RF H v t F1∧RF H v' t' F2∧F=F1++F2:=by
 cases r with
 | cons a b=>obtain⟨v',h1,h2⟩:=b.one_inv;subst h1;exact⟨_,_,_,_,rfl,a,h2,rfl⟩
theorem Zc6: OAn Zbn Zbg:=fun H vs ts t F r h=>by
 unfold Zbg at h
 split at h
 ·obtain⟨v,rfl,r'⟩:=r.one_inv
  cases r' with
  | ref e hs=>cases h;exact⟨_,by simp only[Zbn,e,Option.map_some,hs.length],.int _⟩
 ·obtain⟨v,rfl,r'⟩:=r.one_inv
  cases r' with
  | tup hs=>cases h;exact⟨_,by simp only[Zbn,hs.length],.int _⟩
 ·cases h
noncomputable def Zbz: List T→Option T
 | [.int a]=>some (.int (if a<0 then -a else a))
 | _=>none
theorem Zc7: OAn ZbT Zbz:=fun H vs ts t F r h=>by
 unfold Zbz at h
 split at h
 ·obtain⟨v,rfl,r'⟩:=r.one_inv
  cases r';cases h;exact⟨_,rfl,.int _⟩
 ·cases h
noncomputable def Zcu: List T→Option T
 | [.int a,.int b]=>some (.int (if b>a then b else a))
 | _=>none
noncomputable def Zcv: List T→Option T
 | [.int a,.int b]=>some (.int (if b<a then b else a))
 | _=>none
theorem Zga: OAn Zc1 Zcu:=fun H vs ts t F r h=>by
 unfold Zcu at h
 split at h
 ·obtain⟨v,w,F1,F2,rfl,r1,r2,_⟩:=r.two_inv
  cases r1;cases r2;cases h;exact⟨_,rfl,.int _⟩
 ·cases h
theorem Zgb: OAn Zc2 Zcv:=fun H vs ts t F r h=>by
 unfold Zcv at h
 split at h
 ·obtain⟨v,w,F1,F2,rfl,r1,r2,_⟩:=r.two_inv
  cases r1;cases r2;cases h;exact⟨_,rfl,.int _⟩
 ·cases h
noncomputable def Zcw: List T→Option (List Int)
 | []=>some []
 | .int k::vs=>(Zcw vs).map fun ks=>k::ks
 | _::_=>none
theorem ZfV{H:Hp}: ∀{vs:List V} {ts:List T} {F:List Nat} {ks:List Int},RFs H vs ts F→Zcw ts=some ks→Zco vs=some ks
 | _,_,_,_,.nil,h=>h
 | _,_,_,_,.cons a b,h=>by
  cases a <;> first | (cases h;done) | skip
  obtain⟨js,h1,h2⟩:=Zz1.mp h
  subst h2
  simp only[Zco,ZfV b h1,Option.map_some]
noncomputable def ZdO: List T→Option T
 | [.lst ts]=>(Zcw ts).map fun ks=>.int ks.sum
 | _=>none
theorem ZjL: OAn Zc8 ZdO:=fun H vs ts t F r h=>by
 unfold ZdO at h
 split at h
 ·obtain⟨v,rfl,r'⟩:=r.one_inv
  cases r' with
  | ref e hs=>
   obtain⟨ks,h1,h2⟩:=Zz1.mp h
   subst h2
   exact⟨_,by simp only[Zc8,e,Option.bind_some,ZfV hs h1,Option.map_some],.int _⟩
 ·cases h
theorem Zcb{H:Hp}{vs:List V}{ts:List T}{F:List Nat}(r:RFs H vs ts F): RF (H++[vs]) (.ref H.length) (.lst ts) (H.length::F):=.ref (by simp) (r.ext _)
theorem Zci{H:Hp}{vs:List V}{ts:List T}{F:List Nat}(r:RFs H vs ts F)(h:T.flatIn (.lst ts)=true): (H.length::F).Nodup∧∀a∈H.length::F,H.length≤a:=by
 rw[r.flats (by simpa [T.flatIn]using h)]
 simp
theorem Zez{H:Hp}{v:V}{t:T}{F:List Nat}(r:RF H v t F)(h:F=[]): F.Nodup∧∀a∈F,H.length≤a:=by subst h;simp
noncomputable def Zfl(ts:List T): Nat→List T
 | 0=>[]
 | n+1=>Zfl ts n++ts
noncomputable def ZI: T→T→Option T
 | .int a,.int b=>some (.int (a+b))
 | .lst a,.lst b=>if(a++b).length≤ZU then some (.lst (a++b))else none
 | .tup a,.tup b=>if(a++b).length≤ZU then some (.tup (a++b))else none
 | _,_=>none
noncomputable def ZaX: T→T→Option T
 | .int a,.int b=>if mulOk a b=true then some (.int (a*b))else none
 | .lst a,.int k=>if a.length*k.toNat≤ZU∧-(2 ^ 63:Int)≤k∧k<2 ^ 63 then some (.lst (Zfl a k.toNat))else none
 | _,_=>none
theorem Zgc{H:Hp}{vs:List V}{ts:List T}{F:List Nat}(r:RFs H vs ts F): ∀n,∃G,RFs H (Zb6 vs n) (Zfl ts n) G∧∀a∈G,a∈F
 | 0=>⟨_,.nil,by simp⟩
 | n+1=>by
  obtain⟨G,h1,h2⟩:=Zgc r n
  exact⟨_,h1.append r,fun a m=>(Zz8.mp m).elim (h2 a) id⟩
theorem Zab: OC2 Z6 ZI:=fun H v1 v2 t1 t2 t F1 F2 r1 r2 h=>by
 cases r1 with
 | none=>cases h
 | bool=>cases h
 | str=>cases h
 | int a=>
  cases r2 <;> first | (cases h;done) | skip
  cases h;exact⟨_,[],[],by simp[Z6],.int _,by simp,by simp⟩
 | tup hs1=>
  cases r2 with
  | none=>cases h
  | bool=>cases h
  | str=>cases h
  | int=>cases h
  | ref=>cases h
  | tup hs2=>
   simp only[ZI]at h
   split at h
   ·rename_i hl
    cases h
    refine⟨_,[],_,?_,.tup (by simpa using hs1.append hs2),fun a m=>.inr (Zz8.mp m),fun hf=>Zez (H:=H) (.tup (hs1.append hs2)) ((RF.tup (hs1.append hs2)).flat (by simpa [T.flatIn]using hf))⟩
    simp only[Z6,List.append_nil]
    rw[if_pos (by rw[List.length_append]at hl ⊢;rw[hs1.length,hs2.length];exact hl)]
   ·cases h
 | ref e1 hs1=>
  cases r2 with
  | none=>cases h
  | bool=>cases h
  | str=>cases h
  | int=>cases h
  | tup=>cases h
  | ref e2 hs2=>
   simp only[ZI]at h
   split at h
   ·rename_i hl
    cases h
    refine⟨_,_,_,?_,Zcb (hs1.append hs2),fun a m=>?_,Zci (hs1.append hs2)⟩
    ·simp only[Z6,e1,e2,Option.bind_some]
     rw[if_pos (by rw[List.length_append]at hl ⊢;rw[hs1.length,hs2.length];exact hl)]
    ·rcases Zz7.mp m with rfl | m
     ·exact .inl (Zz10 _)
     ·rcases Zz8.mp m with m | m
      ·exact .inr (.inl (Zz2 _ m))
      ·exact .inr (.inr (Zz2 _ m))
   ·cases h
theorem ZbP: OC2 Za1 ZaX:=fun H v1 v2 t1 t2 t F1 F2 r1 r2 h=>by
 cases r1 with
 | none=>cases h
 | bool=>cases h
 | str=>cases h
 | tup=>cases h
 | int a=>
  cases r2 <;> first | (cases h;done) | skip
  simp only[ZaX]at h
  split at h
  ·rename_i hm
   cases h;exact⟨_,[],[],by simp only[Za1];rw[if_pos hm];simp,.int _,by simp,by simp⟩
  ·cases h
 | ref e1 hs1=>
  cases r2 with
  | none=>cases h
  | bool=>cases h
  | str=>cases h
  | tup=>cases h
  | ref=>cases h
  | int k=>
   simp only[ZaX]at h
   split at h
   ·rename_i hl
    cases h
    obtain⟨G,h1,h2⟩:=Zgc hs1 k.toNat
    refine⟨_,_,_,?_,Zcb h1,fun a m=>?_,Zci h1⟩
    ·simp only[Za1,e1,Option.bind_some]
     rw[if_pos (by rw[hs1.length];exact hl)]
    ·rcases Zz7.mp m with rfl | m
     ·exact .inl (Zz10 _)
     ·exact .inr (.inl (Zz2 _ (h2 a m)))
   ·cases h
noncomputable def Zbw: List T→Option T
 | [.lst ts]=>some (.lst ts)
 | [.tup ts]=>some (.lst ts)
 | _=>none
noncomputable def Zdv: List T→Option T
 | [.lst ts]=>some (.tup ts)
 | [.tup ts]=>some (.tup ts)
 | _=>none
theorem ZeM: OCn ZbK Zbw:=fun H vs ts t F hp r h=>by
 unfold Zbw at h
 split at h
 ·obtain⟨v,rfl,r'⟩:=r.one_inv
  cases r' with
  | ref e hs=>cases h;exact⟨_,_,_,by simp only[ZbK,e,Option.map_some],Zcb hs,fun a m=>(Zz7.mp m).imp (fun q=>Nat.le_of_eq q.symm) (Zz2 _),Zci hs⟩
 ·obtain⟨v,rfl,r'⟩:=r.one_inv
  cases r' with
  | tup hs=>cases h;exact⟨_,_,_,by simp only[ZbK],Zcb hs,fun a m=>(Zz7.mp m).imp (fun q=>Nat.le_of_eq q.symm) id,Zci hs⟩
 ·cases h
theorem ZhI: OCn Zcm Zdv:=fun H vs ts t F hp r h=>by
 unfold Zdv at h
 split at h
 ·obtain⟨v,rfl,r'⟩:=r.one_inv
  cases r' with
  | @ref a vs1 _ _ e hs=>cases h;exact⟨.tup vs1,[],_,by simp only[Zcm,e,Option.map_some,List.append_nil],.tup (by simpa using hs),fun a m=>.inr (Zz2 _ m),fun hf=>Zez (H:=H) (.tup hs) ((RF.tup hs).flat (by simpa [T.flatIn]using hf))⟩
 ·obtain⟨v,rfl,r'⟩:=r.one_inv
  cases r' with
  | @tup vs1 _ _ hs=>cases h;exact⟨.tup vs1,[],_,by simp only[Zcm,List.append_nil],.tup (by simpa using hs),fun a m=>.inr m,fun hf=>Zez (H:=H) (.tup hs) ((RF.tup hs).flat (by simpa [T.flatIn]using hf))⟩
 ·cases h
end
end TM
end
section
set_option autoImplicit false
namespace TM
open PySem PM
theorem St.from_src{c:Ctx}{O N:List Nat}{ρ:Lc}{σ:TL}{H:Hp}{Φ:Nat→List Nat}(s:St c O ρ σ H Φ){a:Nat}(f:From H N σ Φ a): c.H0.length≤a∨c.P a:=by
 rcases f with h | ⟨i,hi,⟨t,e⟩,m⟩
 ·exact .inl (Nat.le_trans s.len h)
 ·exact s.src i t e a m
theorem St.from_off{c:Ctx}{O N:List Nat}{ρ:Lc}{σ:TL}{H:Hp}{Φ:Nat→List Nat}(s:St c O ρ σ H Φ)(hN:∀i∈N,i∉O){a:Nat}(f:From H N σ Φ a){i:Nat}(hi:i∈O){t:T}(e:σ i=some t): a∉Φ i:=by
 intro m
 obtain⟨v,_,r⟩:=s.slot i t e
 have hl:=r.lt a m
 rcases f with h | ⟨j,hj,⟨t',e'⟩,m'⟩
 ·omega
 ·exact(s.own i hi t e).2.2 j t' (fun q=>hN j hj (q▸hi)) e' a m m'
noncomputable abbrev PPt:=TL→Option (Option Int)
noncomputable def ZbY: PPt:=fun _=>some none
noncomputable def ZbZ(p:PE): PPt:=fun σ=>(p σ).bind fun t=>match t with
 | .int k=>some (some k)
 | _=>none
noncomputable def Pe(O:List Nat)(f:Pt)(p:PPt): Prop:=∀(c:Ctx) (ρ:Lc) (σ:TL) (H:Hp) (Φ:Nat→List Nat) (k:Option Int),St c O ρ σ H Φ→p σ=some k→∃o X,f ρ H=some (o,H++X)∧Zc0 o=some k
section
variable {O N:List Nat} {u:Bool}
theorem Pe.none: Pe O PM.Zb1 ZbY:=fun c ρ σ H Φ k s h=>by
 cases h;exact⟨Option.none,[],by simp[PM.Zb1],rfl⟩
theorem Pe.some{e:Ex}{p:PE}(x:E O N u e p): Pe O (Zb2 e) (ZbZ p):=fun c ρ σ H Φ k s h=>by
 obtain⟨t,h1,h⟩:=Zz0.mp h
 obtain⟨v,X,F,a1,a2,a3,a4⟩:=x c ρ σ H Φ t s h1
 cases a2 <;> first | (cases h;done) | skip
 rename_i k'
 cases h
 exact⟨Option.some (.int k'),X,by simp only[Zb2,a1,Option.map_some],rfl⟩
noncomputable def ZbM(p:PE)(lo hi:PPt): PE:=fun σ=>(p σ).bind fun t=>(lo σ).bind fun a=>(hi σ).bind fun b=>match t with
 | .lst ts=>Option.some (.lst (ZaH ts a b))
 | _=>Option.none
theorem RFs.pick{H:Hp}{vs:List V}{ts:List T}{F:List Nat}(h:RFs H vs ts F)(l:List Nat): ∃G,RFs H (l.filterMap fun i=>vs[i]?) (l.filterMap fun i=>ts[i]?) G∧∀a∈G,a∈F:=by
 induction l with
 | nil=>exact⟨_,.nil,by simp⟩
 | cons i l ih=>
  obtain⟨G,h1,h2⟩:=ih
  simp only[List.filterMap_cons]
  have hl:=h.length
  cases e:ts[i]? with
  | none=>
   have:vs[i]?=none:=by rw[List.getElem?_eq_none_iff]at e ⊢;omega
   rw[this]
   exact⟨G,h1,h2⟩
  | some t=>
   obtain⟨x,G',hx,hr,hs⟩:=h.at e
   rw[hx]
   exact⟨_,.cons hr h1,fun a m=>(Zz8.mp m).elim (fun q=>hs.subset q) (h2 a)⟩
theorem Zg0{c:Ctx}{ρ:Lc}{σ:TL}{H:Hp}{Φ:Nat→List Nat}{t:T}{e:Ex}{p:PE}{lo hi:Pt}{plo phi:PPt}(x:E O N u e p)(y:Pe O lo plo)(z:Pe O hi phi)(s:St c O ρ σ H Φ)(h:ZbM p plo phi σ=Option.some t):
  ∃v X F,ZbI e lo hi ρ H=Option.some (v,H++X)∧RF (H++X) v t F∧(∀a∈F,From H N σ Φ a)∧(t.flatIn=true→F.Nodup∧∀a∈F,H.length≤a):=by
 obtain⟨t1,h1,h⟩:=Zz0.mp h
 obtain⟨a,h2,h⟩:=Zz0.mp h
 obtain⟨b,h3,h⟩:=Zz0.mp h
 obtain⟨v,X,F,a1,a2,a3,a4⟩:=x c ρ σ H Φ t1 s h1
 obtain⟨o1,Y,b1,b2⟩:=y c ρ σ (H++X) Φ a (s.ext X) h2
 obtain⟨o2,Z,c1,c2⟩:=z c ρ σ (H++X++Y) Φ b ((s.ext X).ext Y) h3
 cases a2 with
 | none=>cases h
 | bool=>cases h
 | int=>cases h
 | str=>cases h
 | tup=>cases h
 | @ref i vs ts F e1 hs=>
 cases h
 have e3:((H++X)++(Y++Z))[i]?=Option.some vs:=by rw[List.getElem?_append_left (Zz6.mp e1).1];exact e1
 have hs':=hs.ext (Y++Z)
 have hlen:=hs.length
 obtain⟨G,g1,g2⟩:=hs'.pick (sliceRange (sliceBounds a b none vs.length).1 (sliceBounds a b none vs.length).2.1 (sliceBounds a b none vs.length).2.2)
 have g1':RFs (H++X++(Y++Z)) (ZaH vs a b) (ZaH ts a b) G:=by unfold ZaH;rw[←hlen];exact g1
 refine⟨.ref (H++X++(Y++Z)).length,X++(Y++Z)++[ZaH vs a b],(H++X++(Y++Z)).length::G,?_,?_,fun q m=>?_,fun hf=>?_⟩
 ·simp only[ZbI,a1,Option.bind_some,b1,c1,b2,c2]
  rw[List.append_assoc (H++X),e3]
  simp
 ·have:=Zcb g1'
  simpa using this
 ·rcases Zz7.mp m with rfl | m
  ·exact .inl (by simp)
  ·exact a3 q (Zz2 _ (g2 q m))
 ·have:=Zci g1' hf
  exact⟨this.1,fun q m=>by have:=this.2 q m;simp at this;omega⟩
theorem ZfW{e:Ex}{p:PE}{lo hi:Pt}{plo phi:PPt}(x:E O N u e p)(y:Pe O lo plo)(z:Pe O hi phi): E O N false (ZbI e lo hi) (ZbM p plo phi):=fun c ρ σ H Φ t s h=>by
 obtain⟨v,X,F,a1,a2,a3,a4⟩:=Zg0 x y z s h
 exact⟨v,X,F,a1,a2,a3,by simp⟩
noncomputable def Zcx(p:PE)(k:Nat): PE:=fun σ=>(p σ).bind fun t=>match t with
 | .lst ts=>Option.some (.lst (ts.drop k))
 | .tup ts=>if 1≤k∧k≤ts.length then Option.some (.tup (ts.drop k))else Option.none
 | _=>Option.none
theorem Zhj{c:Ctx}{ρ:Lc}{σ:TL}{H:Hp}{Φ:Nat→List Nat}{t:T}{e:Ex}{p:PE}{k:Nat}(x:E O N u e p)(s:St c O ρ σ H Φ)(h:Zcx p k σ=Option.some t):
  ∃v X F,Zb3 e k ρ H=Option.some (v,H++X)∧RF (H++X) v t F∧(∀a∈F,From H N σ Φ a)∧(t.flatIn=true→F.Nodup∧∀a∈F,H.length≤a):=by
 obtain⟨t1,h1,h⟩:=Zz0.mp h
 obtain⟨v,X,F,a1,a2,a3,a4⟩:=x c ρ σ H Φ t1 s h1
 cases a2 with
 | none=>cases h
 | bool=>cases h
 | int=>cases h
 | str=>cases h
 | tup hs=>
  simp only at h
  split at h
  ·rename_i hc
   cases h
   obtain⟨G,g1,g2⟩:=hs.drop k
   refine⟨_,X,G,?_,.tup g1,fun a m=>a3 a (g2.subset m),fun hf=>?_⟩
   ·simp only[Zb3,a1,Option.bind_some]
    rw[if_pos (by rw[hs.length];exact hc)]
   ·rw[g1.flats (by simpa [T.flatIn,T.flat]using hf)]
    simp
  ·cases h
 | @ref b vs1 ts1 F1 e1 hs=>
  cases h
  obtain⟨G,g1,g2⟩:=hs.drop k
  refine⟨.ref (H++X).length,X++[vs1.drop k],(H++X).length::G,?_,?_,fun a m=>?_,fun hf=>?_⟩
  ·simp only[Zb3,a1,Option.bind_some,e1,List.append_assoc]
  ·rw[←List.append_assoc];exact Zcb g1
  ·rcases Zz7.mp m with rfl | m
   ·exact .inl (by simp)
   ·exact a3 a (Zz2 _ (g2.subset m))
  ·have:=Zci g1 hf
   exact⟨this.1,fun q m=>by have:=this.2 q m;simp at this;omega⟩
theorem Zgd{e:Ex}{p:PE}{k:Nat}(x:E O N u e p): E O N false (Zb3 e k) (Zcx p k):=fun c ρ σ H Φ t s h=>by
 obtain⟨v,X,F,a1,a2,a3,a4⟩:=Zhj x s h
 exact⟨v,X,F,a1,a2,a3,by simp⟩
end
noncomputable def Gs(O N:List Nat)(g:Src)(q:PG): Prop:=∀(c:Ctx) (ρ:Lc) (σ:TL) (H:Hp) (Φ:Nat→List Nat) (ts:List T),St c O ρ σ H Φ→q σ=some ts →
 ∃(nx:Nx) (X:Hp) (vs:List V) (F G:List Nat),g ρ H=some (nx,ts.length+1,H++X)∧RFs (H++X) vs ts F∧(∀a∈F,a∈G)∧(∀a∈G,a<(H++X).length∧From H N σ Φ a)∧∀K:Hp,(∀a∈G,K[a]?=(H++X)[a]?)→∀i,i≤vs.length→nx i K=some vs[i]?
section
variable {O N M:List Nat} {u u':Bool}
noncomputable def ZbU(p:PE): PG:=fun σ=>(p σ).bind fun t=>match t with
 | .lst ts=>some ts
 | .tup ts=>some ts
 | _=>none
theorem Gs.seq{e:Ex}{p:PE}(x:E O N u e p): Gs O N (Zb8 e) (ZbU p):=fun c ρ σ H Φ ts s h=>by
 obtain⟨t1,h1,h⟩:=Zz0.mp h
 obtain⟨v,X,F,a1,a2,a3,a4⟩:=x c ρ σ H Φ t1 s h1
 have hlt:=a2.lt
 cases a2 with
 | none=>cases h
 | bool=>cases h
 | int=>cases h
 | str=>cases h
 | @tup vs _ _ hs=>
  cases h
  exact⟨Zf6 vs,X,vs,F,F,by simp only[Zb8,a1,Option.bind_some,hs.length],hs,fun _ m=>m,fun a m=>⟨hlt a m,a3 a m⟩,fun K _ i hi=>rfl⟩
 | @ref b vs _ F' e1 hs=>
  cases h
  refine⟨ZeX b,X,vs,F',b::F',by simp only[Zb8,a1,Option.bind_some,e1,Option.map_some,hs.length],hs,fun _ m=>List.mem_cons_of_mem _ m,fun a m=>⟨hlt a m,a3 a m⟩,fun K hK i hi=>?_⟩
  simp only[ZeX,hK b Zz5,e1,Option.map_some]
noncomputable def Za8(a b c:Int): Option (List T):=if c≠0∧Builtin.Range.small a b c=true∧0≤Builtin.Range.rangeSize a b c∧rngN a b c≤ZU∧Builtin.divisionGoesByPylong (b-a) c=false then some ((List.range (rngN a b c)).map fun(i:Nat)=>.int (a+(i:Int)*c))else none
noncomputable def ZaU(p:PEs): PG:=fun σ=>(p σ).bind fun ts=>match ts with
 | [.int b]=>Za8 0 b 1
 | [.int a,.int b]=>Za8 a b 1
 | [.int a,.int b,.int c]=>Za8 a b c
 | _=>none
theorem ZfH(H:Hp)(a c:Int): ∀(l:List Nat),RFs H (l.map fun(i:Nat)=>.int (a+(i:Int)*c)) (l.map fun(i:Nat)=>.int (a+(i:Int)*c)) []
 | []=>.nil
 | i::l=>by have:=RFs.cons (RF.int (H:=H) (a+i*c)) (ZfH H a c l);exact this
theorem ZeA{a b c:Int}{H:Hp}{ts:List T}(h:Za8 a b c=some ts): ∃(nx:Nx) (vs:List V),ZaO a b c H=some (nx,ts.length+1,H)∧RFs H vs ts []∧∀K:Hp,∀i,i≤vs.length→nx i K=some vs[i]?:=by
 unfold Za8 at h
 split at h
 ·rename_i hc
  cases h
  refine⟨Zcl a c (rngN a b c),(List.range (rngN a b c)).map fun(i:Nat)=>.int (a+(i:Int)*c),?_,ZfH H a c _,fun K i hi=>?_⟩
  ·unfold ZaO
   rw[if_pos hc]
   simp
  ·simp only[Zcl,List.getElem?_map]
   by_cases q:i<rngN a b c
   ·rw[if_pos q,List.getElem?_range q];rfl
   ·rw[if_neg q,List.getElem?_eq_none (by simpa using Nat.le_of_not_lt q)];rfl
 ·cases h
theorem RFs.three_inv{H:Hp}{vs:List V}{t t' t'':T}{F:List Nat}(r:RFs H vs [t,t',t''] F): ∃v v' v'' F1 F2 F3,vs=[v,v',v'']∧RF H v t F1∧RF H v' t' F2∧RF H v'' t'' F3:=by
 cases r with
 | cons a b=>obtain⟨v',v'',F2,F3,h1,h2,h3,_⟩:=b.two_inv;subst h1;exact⟨_,_,_,_,_,_,rfl,a,h2,h3⟩
theorem Gs.range{n:Nat}{e:Exs}{p:PEs}(x:Es O N u n e p): Gs O [] (Zbv e) (ZaU p):=fun c ρ σ H Φ ts s h=>by
 obtain⟨t1,h1,h⟩:=Zz0.mp h
 obtain⟨_,vs,X,F,a1,a2,a3,a4⟩:=x c ρ σ H Φ t1 s h1
 split at h
 ·obtain⟨v,rfl,r⟩:=a2.one_inv
  cases r
  obtain⟨nx,us,q1,q2,q3⟩:=ZeA (H:=H++X) h
  exact⟨nx,X,us,[],[],by simp only[Zbv,a1,Option.bind_some,q1],q2,by simp,by simp,fun K _=>q3 K⟩
 ·obtain⟨v,v',F1,F2,rfl,r,r',_⟩:=a2.two_inv
  cases r;cases r'
  obtain⟨nx,us,q1,q2,q3⟩:=ZeA (H:=H++X) h
  exact⟨nx,X,us,[],[],by simp only[Zbv,a1,Option.bind_some,q1],q2,by simp,by simp,fun K _=>q3 K⟩
 ·obtain⟨v,v',v'',F1,F2,F3,rfl,r,r',r''⟩:=a2.three_inv
  cases r;cases r';cases r''
  obtain⟨nx,us,q1,q2,q3⟩:=ZeA (H:=H++X) h
  exact⟨nx,X,us,[],[],by simp only[Zbv,a1,Option.bind_some,q1],q2,by simp,by simp,fun K _=>q3 K⟩
 ·cases h
noncomputable def ZdP(p q:PE): PG:=fun σ=>(p σ).bind fun t=>(q σ).bind fun s=>match t,s with
 | .lst ts,.lst ss=>some (List.zipWith (fun x y=>.tup [x,y]) ts ss)
 | _,_=>none
theorem RFs.zip{H:Hp}: ∀{vs us:List V} {ts ss:List T} {F G:List Nat},RFs H vs ts F→RFs H us ss G→∃D,RFs H (List.zipWith (fun x y=>.tup [x,y]) vs us) (List.zipWith (fun x y=>.tup [x,y]) ts ss) D∧∀a∈D,a∈F∨a∈G
 | _,_,_,_,_,_,.nil,_=>⟨_,.nil,by simp⟩
 | _,_,_,_,_,_,.cons _ _,.nil=>⟨_,.nil,by simp⟩
 | _,_,_,_,_,_,.cons a b,.cons a' b'=>by
  obtain⟨D,h1,h2⟩:=b.zip b'
  refine⟨_,.cons (.tup (.cons a (.one a'))) h1,fun x m=>?_⟩
  rcases Zz8.mp m with m | m
  ·rcases Zz8.mp m with m | m
   ·exact .inl (Zz4 _ m)
   ·exact .inr (Zz4 _ m)
  ·exact(h2 x m).imp (Zz3 _) (Zz3 _)
theorem Gs.zip{e1 e2:Ex}{p1 p2:PE}(x:E O N u e1 p1)(y:E O M u' e2 p2): Gs O (N++M) (ZdN e1 e2) (ZdP p1 p2):=fun c ρ σ H Φ ts s h=>by
 obtain⟨t1,h1,h⟩:=Zz0.mp h
 obtain⟨t2,h2,h⟩:=Zz0.mp h
 obtain⟨v,X,F,a1,a2,a3,a4⟩:=x c ρ σ H Φ t1 s h1
 obtain⟨w,Y,G,b1,b2,b3,b4⟩:=y c ρ σ (H++X) Φ t2 (s.ext X) h2
 have a2:=a2.ext Y
 have l1:=a2.lt
 have l2:=b2.lt
 rw[List.append_assoc]at a2 b2 l1 l2 b1
 cases a2 with
 | none=>cases h
 | bool=>cases h
 | int=>cases h
 | str=>cases h
 | tup=>cases b2 <;> cases h
 | @ref a vs _ F' e1 hs=>
  cases b2 with
  | none=>cases h
  | bool=>cases h
  | int=>cases h
  | str=>cases h
  | tup=>cases h
  | @ref b us _ G' e2 hs2=>
   cases h
   obtain⟨D,d1,d2⟩:=hs.zip hs2
   refine⟨Zc3 a b,X++Y,_,D,a::b::D,?_,d1,fun q m=>List.mem_cons_of_mem _ (Zz2 _ m),fun q m=>?_,fun K hK i hi=>?_⟩
   ·simp only[ZdN,a1,Option.bind_some,b1,e1,e2,Option.map_some,List.length_zipWith,hs.length,hs2.length]
   ·rcases Zz7.mp m with rfl | m
    ·exact⟨l1 _ Zz5,(a3 _ Zz5).mono fun i hi=>List.mem_append_left _ hi⟩
    ·rcases Zz7.mp m with rfl | m
     ·exact⟨l2 _ Zz5,(b3 _ Zz5).back.mono fun i hi=>List.mem_append_right _ hi⟩
     ·rcases d2 q m with m | m
      ·exact⟨l1 _ (Zz2 _ m),(a3 _ (Zz2 _ m)).mono fun i hi=>List.mem_append_left _ hi⟩
      ·exact⟨l2 _ (Zz2 _ m),(b3 _ (Zz2 _ m)).back.mono fun i hi=>List.mem_append_right _ hi⟩
   ·simp only[Zc3,hK a Zz5,hK b (Zz2 _ Zz5),e1,e2,Option.bind_some,List.getElem?_zipWith]
    rw[List.length_zipWith]at hi
    by_cases q:i<min vs.length us.length
    ·rw[List.getElem?_eq_getElem (show i<vs.length by omega),List.getElem?_eq_getElem (show i<us.length by omega)]
    ·have q':i=min vs.length us.length:=by omega
     by_cases q2:i<vs.length
     ·rw[List.getElem?_eq_getElem q2,List.getElem?_eq_none (show us.length≤i by omega)]
      simp[q']
     ·rw[List.getElem?_eq_none (show vs.length≤i by omega)]
      simp[q']
end
noncomputable def PutOk(O J:List Nat)(put:V→Lc→Option Lc)(q:T→TL→Option TL): Prop:=∀(c:Ctx) (ρ:Lc) (σ:TL) (H:Hp) (Φ:Nat→List Nat) (v:V) (t:T) (F:List Nat) (σ1:TL),St c O ρ σ H Φ→RF H v t F→(∀a∈F,c.H0.length≤a∨c.P a)→(∀i∈O,∀t',σ i=some t'→∀a∈Φ i,a∉F)→q t σ=some σ1 →
 ∃ρ1 Φ1,put v ρ=some ρ1∧St c O ρ1 σ1 H Φ1∧(∀i,i∉J→σ1 i=σ i∧Φ1 i=Φ i)∧∀i∈J,∀a∈Φ1 i,a∈F
noncomputable def ZY(Φ:Nat→List Nat)(j:Nat)(F:List Nat): Nat→List Nat:=fun i=>if i=j then F else Φ i
theorem St.put{c:Ctx}{O:List Nat}{ρ:Lc}{σ:TL}{H:Hp}{Φ:Nat→List Nat}{v:V}{t:T}{F:List Nat}{j:Nat}(s:St c O ρ σ H Φ)(hj:j∉O)(r:RF H v t F)(hs:∀a∈F,c.H0.length≤a∨c.P a)(ho:∀i∈O,∀t',σ i=some t'→∀a∈Φ i,a∉F): St c O (upd ρ j v) (ZO σ j t) H (ZY Φ j F):=by
 refine⟨fun i u e=>?_,fun i u e=>?_,fun i hi u e=>?_,s.len,s.keep,s.pos,s.f0⟩
 ·by_cases q:i=j
  ·subst q
   simp[ZO]at e
   subst e
   exact⟨v,by simp[upd],by simpa [ZY]using r⟩
  ·simp[ZO,q]at e
   simpa [upd,ZY,q]using s.slot i u e
 ·by_cases q:i=j
  ·subst q;simpa [ZY]using hs
  ·simp[ZO,q]at e
   simpa [ZY,q]using s.src i u e
 ·have q:i≠j:=fun q=>hj (q▸hi)
  simp[ZO,q]at e
  obtain⟨h1,h2,h3⟩:=s.own i hi u e
  refine⟨by simpa [ZY,q]using h1,by simpa [ZY,q]using h2,fun k w hk ek=>?_⟩
  by_cases q2:k=j
  ·subst q2
   simpa [ZY,q]using ho i hi u e
  ·simp[ZO,q2]at ek
   simpa [ZY,q,q2]using h3 k w hk ek
noncomputable def ZaI(j:Nat): T→TL→Option TL:=fun t σ=>some (ZO σ j t)
noncomputable def ZdI(i j:Nat): T→TL→Option TL
 | .tup [a,b],σ=>some (ZO (ZO σ i a) j b)
 | _,_=>none
theorem PutOk.one{O:List Nat}{j:Nat}(hj:j∉O:=by decide): PutOk O [j] (ZaM j) (ZaI j):=fun c ρ σ H Φ v t F σ1 s r hs ho h=>by
 cases h
 refine⟨_,_,rfl,s.put hj r hs ho,fun i hi=>?_,fun i hi a m=>?_⟩
 ·have:i≠j:=fun q=>hi (by simp[q])
  simp[ZO,ZY,this]
 ·simp at hi;subst hi;simpa [ZY]using m
theorem PutOk.two{O:List Nat}{i j:Nat}(hi:i∉O:=by decide)(hj:j∉O:=by decide)(hij:i≠j:=by decide): PutOk O [i,j] (ZcA i j) (ZdI i j):=fun c ρ σ H Φ v t F σ1 s r hs ho h=>by
 unfold ZdI at h
 split at h
 ·cases h
  cases r with
  | tup hh=>
   obtain⟨v1,v2,F1,F2,rfl,r1,r2,rfl⟩:=hh.two_inv
   have s1:=s.put hi r1 (fun a m=>hs a (Zz4 _ m)) (fun k hk t' e a m q=>ho k hk t' e a m (Zz4 _ q))
   have s2:=s1.put hj r2 (fun a m=>hs a (Zz3 _ m)) (fun k hk t' e a m q=>by
    have:k≠i:=fun q=>hi (q▸hk)
    simp[ZO,ZY,this]at e m
    exact ho k hk t' e a m (Zz3 _ q))
   refine⟨_,_,rfl,s2,fun k hk=>?_,fun k hk a m=>?_⟩
   ·simp at hk
    simp[ZO,ZY,hk.1,hk.2]
   ·simp at hk
    rcases hk with rfl | rfl
    ·simp[ZY,hij]at m
     exact Zz4 _ m
    ·simp[ZY]at m
     exact Zz3 _ m
 ·cases h
noncomputable def ZbQ(put:T→TL→Option TL)(c:PB)(f:PE)(σ:TL): List T→Option (List T)
 | []=>some []
 | t::ts=>(put t σ).bind fun σ1=>(c σ1).bind fun b=>if b then(f σ1).bind fun x=>(ZbQ put c f σ ts).map fun xs=>x::xs else ZbQ put c f σ ts
noncomputable def ZaL(g:PG)(put:T→TL→Option TL)(c:PB)(f:PE): PE:=fun σ=>(g σ).bind fun ts=>if ts.length≤ZU then(ZbQ put c f σ ts).map .lst else none
section
variable {O Ns Ne J:List Nat} {u:Bool}
theorem comp_core{put:V→Lc→Option Lc}{pput:T→TL→Option TL}{tc:Ts}{pc:PB}{f:Ex}{pf:PE}(hj:PutOk O J put pput)(hN:∀i∈Ns,i∉O)(hc:Bt O tc pc)(hf:E O Ne u f pf)(hu:u=true→Ne=[])
  {c:Ctx} {ρ:Lc} {σ:TL} {Φ:Nat→List Nat} {H0 H1:Hp} {nx:Nx} {vs:List V} {G:List Nat} (h0:H0.length≤H1.length)
  (hG:∀a∈G,a<H1.length∧From H0 Ns σ Φ a) (hoff:∀a∈G,∀i∈O,∀t,σ i=some t→a∉Φ i) (hsrc:∀a∈G,c.H0.length≤a∨c.P a) (hnx:∀K:Hp,(∀a∈G,K[a]?=H1[a]?)→∀i,i≤vs.length→nx i K=some vs[i]?):
  ∀(rs:List T) (ws:List V) (i:Nat) (acc:List V) (K:Hp) (Fr:List Nat) (out:List T),(∀j,vs[i+j]?=ws[j]?)→i+ws.length=vs.length→St c O ρ σ K Φ→H1.length≤K.length→(∀a∈G,K[a]?=H1[a]?)→RFs K ws rs Fr→(∀a∈Fr,a∈G)→acc.length+rs.length≤ZU→ZbQ pput pc pf σ rs=some out →
   ∃xs X F,ZaY nx put tc f ρ (rs.length+1) i acc K=some (acc++xs,K++X)∧RFs (K++X) xs out F∧(∀a∈F,(u=true→K.length≤a)∧From H0 (Ns++Ne) σ Φ a)∧(u=true→F.Nodup)
 | [],ws,i,acc,K,Fr,out,hat,hlen,s,hl,hk,r,hfr,hacc,h=>by
  cases r
  cases h
  have e:=hnx K hk i (by simp at hlen;omega)
  have e2:vs[i]?=none:=by have:=hat 0;simpa using this
  refine⟨[],[],[],?_,.nil,by simp,by simp⟩
  simp[ZaY,e,e2]
 | t::rs,ws0,i,acc,K,Fr0,out,hat,hlen,s,hl,hk,r,hfr,hacc,h=>by
  cases r with
  | @cons v _ F1 ws _ F2 a b=>
  simp only[List.length_cons]at hlen hacc
  obtain⟨σ1,h1,h⟩:=Zz0.mp h
  obtain⟨bb,h2,h⟩:=Zz0.mp h
  have e:=hnx K hk i (by omega)
  have e2:vs[i]?=some v:=by have:=hat 0;simpa using this
  have hat':∀j,vs[i+1+j]?=ws[j]?:=fun j=>by have:=hat (j+1);rw[show i+1+j=i+(j+1)by omega,this];simp
  obtain⟨ρ1,Φ1,p1,s1,p3,p4⟩:=hj c ρ σ K Φ v t F1 σ1 s a (fun x m=>hsrc x (hfr x (Zz4 _ m))) (fun k hk t' e x m q=>hoff x (hfr x (Zz4 _ q)) k hk t' e m) h1
  obtain⟨X1,c1⟩:=hc c ρ1 σ1 K Φ1 bb s1 h2
  cases bb with
  | true=>
   obtain⟨y,h3,h⟩:=Zz0.mp h
   obtain⟨ys,h4,h⟩:=Zz1.mp h
   subst h
   obtain⟨w,X2,Fw,d1,d2,d3,d4⟩:=hf c ρ1 σ1 (K++X1) Φ1 y (s1.ext X1) h3
   have hext:∀a∈G,(K++X1++X2)[a]?=H1[a]?:=fun a m=>by
    have:=(hG a m).1
    rw[List.append_assoc,List.getElem?_append_left (by omega)];exact hk a m
   obtain⟨xs,X3,F3,f1,f2,f3,f4⟩:=comp_core hj hN hc hf hu h0 hG hoff hsrc hnx rs ws (i+1) (acc++[w]) (K++X1++X2) F2 ys hat' (by omega) ((s.ext X1).ext X2) (by simp;omega) hext (by rw[List.append_assoc];exact b.ext _) (fun x m=>hfr x (Zz3 _ m)) (by simp;omega) h4
   refine⟨w::xs,X1++X2++X3,Fw++F3,?_,?_,fun x m=>?_,fun hu'=>?_⟩
   ·rw[List.length_cons,ZaY,e,e2]
    simp only[Option.bind_some,p1,c1,d1,if_true]
    rw[if_pos (by omega)]
    simpa using f1
   ·have:=RFs.cons (d2.ext X3) f2
    simpa using this
   ·rcases Zz8.mp m with m | m
    ·refine⟨fun hu'=>?_,?_⟩
     ·have hne:=hu hu'
      subst hne
      have:=(d3 x m).nil
      simp at this;omega
     ·rcases d3 x m with q | ⟨k,hk1,⟨tk,ek⟩,mk⟩
      ·exact .inl (by simp at q;omega)
      ·by_cases hkJ:k∈J
       ·exact(hG x (hfr x (Zz4 _ (p4 k hkJ x mk)))).2.mono fun i hi=>List.mem_append_left _ hi
       ·obtain⟨q1,q2⟩:=p3 k hkJ
        exact .inr ⟨k,List.mem_append_right _ hk1,⟨tk,q1▸ek⟩,q2▸mk⟩
    ·obtain⟨g1,g2⟩:=f3 x m
     exact⟨fun hu'=>by have:=g1 hu';simp at this;omega,g2⟩
   ·rw[List.nodup_append]
    refine⟨d4 hu',f4 hu',fun x hx y hy e=>?_⟩
    have l1:=d2.lt x hx
    have l2:=(f3 y hy).1 hu'
    omega
  | false=>
   have hext:∀a∈G,(K++X1)[a]?=H1[a]?:=fun a m=>by
    have:=(hG a m).1
    rw[List.getElem?_append_left (by omega)];exact hk a m
   obtain⟨xs,X3,F3,f1,f2,f3,f4⟩:=comp_core hj hN hc hf hu h0 hG hoff hsrc hnx rs ws (i+1) acc (K++X1) F2 out hat' (by omega) (s.ext X1) (by simp;omega) hext (b.ext _) (fun x m=>hfr x (Zz3 _ m)) (by omega) (by simpa using h)
   refine⟨xs,X1++X3,F3,?_,by simpa using f2,fun x m=>?_,f4⟩
   ·rw[List.length_cons,ZaY,e,e2]
    simp only[Option.bind_some,p1,c1]
    simpa using f1
   ·obtain⟨g1,g2⟩:=f3 x m
    exact⟨fun hu'=>by have:=g1 hu';simp at this;omega,g2⟩
theorem Zi2{g:Src}{q:PG}{put:V→Lc→Option Lc}{pput:T→TL→Option TL}{tc:Ts}{pc:PB}{f:Ex}{pf:PE}(hg:Gs O Ns g q)(hj:PutOk O J put pput)(hN:∀i∈Ns,i∉O)(hc:Bt O tc pc)(hf:E O Ne u f pf)(hu:u=true→Ne=[]): E O (if u then []else Ns++Ne) u (ZaV g put tc f) (ZaL q pput pc pf):=fun c ρ σ H Φ t s h=>by
 obtain⟨ts,h1,h⟩:=Zz0.mp h
 split at h
 ·rename_i hl
  obtain⟨out,h2,h⟩:=Zz1.mp h
  subst h
  obtain⟨nx,X,vs,F,G,g1,g2,g3,g4,g5⟩:=hg c ρ σ H Φ ts s h1
  obtain⟨xs,Y,F',d1,d2,d3,d4⟩:=comp_core hj hN hc hf hu (H0:=H) (H1:=H++X) (by simp) g4 (fun a m i hi t e=>s.from_off hN (g4 a m).2 hi e) (fun a m=>s.from_src (g4 a m).2) g5 ts vs 0 [] (H++X) F out (by simp) (by simp) (s.ext X) (Zz10 _) (fun _ _=>rfl) g2 g3 (by simpa using hl) h2
  refine⟨.ref (H++X++Y).length,X++Y++[xs],(H++X++Y).length::F',?_,?_,fun a m=>?_,fun hu'=>?_⟩
  ·simp only[ZaV,g1,Option.bind_some,d1,Option.map_some,List.nil_append,List.append_assoc]
  ·have:=Zcb d2
   simpa using this
  ·rcases Zz7.mp m with rfl | m
   ·exact .inl (by simp)
   ·obtain⟨q1,q2⟩:=d3 a m
    cases u with
    | true=>exact .inl (by have:=q1 rfl;simp at this;omega)
    | false=>exact q2
  ·rw[List.nodup_cons]
   exact⟨fun m=>Nat.lt_irrefl _ (d2.lt _ m),d4 hu'⟩
 ·cases h
end
end TM
end
section
set_option autoImplicit false
namespace TM
open PySem PM
noncomputable abbrev PS:=TL→Option (Option T×TL)
noncomputable def Zbl(σ:TL)(N:List Nat): TL:=fun j=>if j∈N then none else σ j
noncomputable def ZbA(O:List Nat)(σ:TL)(Φ:Nat→List Nat)(a:Nat): Prop:=∃j∈O,(∃t,σ j=some t)∧a∈Φ j
noncomputable def Aft(c:Ctx)(O O' R:List Nat)(fr:Bool)(σ:TL)(H:Hp)(Φ:Nat→List Nat)(g:Option (Option V×Lc×Hp))(r:Option T×TL): Prop:=
 ∃ρ' H' Φ',H.length≤H'.length∧(∀a,a<H.length→¬ZbA O σ Φ a→H'[a]?=H[a]?) ∧
  ((r.1=none∧g=some (none,ρ',H')∧St c O' ρ' r.2 H' Φ'∧∀a,ZbA O' r.2 Φ' a→H.length≤a∨ZbA O σ Φ a) ∨
  ∃t v F,r.1=some t∧g=some (some v,ρ',H')∧RF H' v t F∧St c R ρ' r.2 H' Φ'∧(∀a∈F,c.H0.length≤a∨c.P a)∧(fr=true→F.Nodup∧∀a∈F,c.H0.length≤a∨a∈c.F0))
noncomputable def S(O O' R:List Nat)(fr:Bool)(g:Sm)(q:PS): Prop:=∀(c:Ctx) (ρ:Lc) (σ:TL) (H:Hp) (Φ:Nat→List Nat) (r:Option T×TL),St c O ρ σ H Φ→q σ=some r→Aft c O O' R fr σ H Φ (g ρ H) r
section
variable {O O' R:List Nat} {fr:Bool}
noncomputable def ZR: PS:=fun σ=>some (none,σ)
theorem Z4: S O O R fr ZW ZR:=fun c ρ σ H Φ r s e=>by
 cases e
 exact⟨ρ,H,Φ,Nat.le_refl _,fun _ _ _=>rfl,.inl ⟨rfl,rfl,s,fun a m=>.inr m⟩⟩
noncomputable def Zw(a b:PS): PS:=fun σ=>(a σ).bind fun r=>match r.1 with
 | some _=>some r
 | none=>b r.2
theorem ZF{O1:List Nat}{a b:Sm}{p q:PS}(x:S O O1 R fr a p)(y:S O1 O' R fr b q): S O O' R fr (Zz a b) (Zw p q):=fun c ρ σ H Φ r s e=>by
 obtain⟨r1,e1,e⟩:=Zz0.mp e
 obtain⟨ρ1,H1,Φ1,h1,h2,h3⟩:=x c ρ σ H Φ r1 s e1
 rcases h3 with⟨k1,k2,k3,k4⟩ | ⟨t,v,F,k1,k2,k3⟩
 ·rw[k1]at e
  obtain⟨ρ2,H2,Φ2,g1,g2,g3⟩:=y c ρ1 r1.2 H1 Φ1 r k3 e
  refine⟨ρ2,H2,Φ2,Nat.le_trans h1 g1,fun a ha hn=>?_,?_⟩
  ·rw[g2 a (by omega) fun q=>(k4 a q).elim (fun q=>by omega) hn,h2 a ha hn]
  ·have eg:Zz a b ρ H=b ρ1 H1:=by simp only[Zz,k2,Option.bind_some]
   rw[eg]
   rcases g3 with⟨l1,l2,l3,l4⟩ | l
   ·refine .inl ⟨l1,l2,l3,fun a m=>?_⟩
    rcases l4 a m with q | q
    ·exact .inl (by omega)
    ·exact k4 a q
   ·exact .inr l
 ·rw[k1]at e
  cases e
  exact⟨ρ1,H1,Φ1,h1,h2,.inr ⟨t,v,F,k1,by simp only[Zz,k2,Option.bind_some],k3⟩⟩
noncomputable def ZG(p:PE): PS:=fun σ=>(p σ).map fun t=>(some t,σ)
theorem ZM{N:List Nat}{u:Bool}{e:Ex}{p:PE}(x:E O N u e p)(hR:∀i∈R,i∈O:=by decide): S O O' R false (ZH e) (ZG p):=fun c ρ σ H Φ r s q=>by
 obtain⟨t,h1,h⟩:=Zz1.mp q
 subst h
 obtain⟨v,X,F,a1,a2,a3,a4⟩:=x c ρ σ H Φ t s h1
 refine⟨ρ,H++X,Φ,by simp,fun a ha _=>List.getElem?_append_left ha,.inr ⟨t,v,F,rfl,by simp only[ZH,a1,Option.map_some],a2,(s.ext X).less hR,fun a m=>s.from_src (a3 a m),by simp⟩⟩
theorem ZdE{N:List Nat}{e:Ex}{p:PE}(x:E O N true e p)(hN:∀i∈N,i∈O:=by decide)(hR:∀i∈R,i∈O:=by decide): S O O' R fr (ZH e) (ZG p):=fun c ρ σ H Φ r s q=>by
 obtain⟨t,h1,h⟩:=Zz1.mp q
 subst h
 obtain⟨v,X,F,a1,a2,a3,a4⟩:=x c ρ σ H Φ t s h1
 refine⟨ρ,H++X,Φ,by simp,fun a ha _=>List.getElem?_append_left ha,.inr ⟨t,v,F,rfl,by simp only[ZH,a1,Option.map_some],a2,(s.ext X).less hR,fun a m=>s.from_src (a3 a m),fun _=>⟨a4 rfl,fun a m=>?_⟩⟩⟩
 rcases a3 a m with q | ⟨i,hi,⟨t',e'⟩,m'⟩
 ·exact .inl (Nat.le_trans s.len q)
 ·exact(s.own i (hN i hi) t' e').2.1 a m'
noncomputable def Z9(i:Nat)(p:PE): PS:=fun σ=>(p σ).map fun t=>(none,ZO σ i t)
theorem Zat{N:List Nat}{u:Bool}{i:Nat}{e:Ex}{p:PE}(x:E O N u e p)(hi:i∉O':=by decide)(hN:∀j∈N,j∉O':=by decide)(hO:∀j∈O',j∈O:=by decide): S O O' R fr (Zag i e) (Z9 i p):=fun c ρ σ H Φ r s q=>by
 obtain⟨t,h1,h⟩:=Zz1.mp q
 subst h
 obtain⟨v,X,F,a1,a2,a3,a4⟩:=x c ρ σ H Φ t s h1
 have s':=s.less hO
 refine⟨upd ρ i v,H++X,ZY Φ i F,by simp,fun a ha _=>List.getElem?_append_left ha,.inl ⟨rfl,by simp only[Zag,a1,Option.map_some],(s'.ext X).put hi a2 (fun a m=>s.from_src (a3 a m)) (fun k hk t' e' a m q=>?_),fun a m=>?_⟩⟩
 ·exact s'.from_off hN (a3 a q) hk e' m
 ·obtain⟨k,hk,⟨t',e'⟩,m⟩:=m
  have:k≠i:=fun q=>hi (q▸hk)
  simp[ZO,this]at e'
  simp[ZY,this]at m
  exact .inr ⟨k,hO k hk,⟨t',e'⟩,m⟩
theorem Zge{i:Nat}{e:Ex}{p:PE}(x:E O [] true e p)(hO:∀j∈O',j∈O∨j=i:=by decide): S O O' R fr (Zag i e) (Z9 i p):=fun c ρ σ H Φ r s q=>by
 obtain⟨t,h1,h⟩:=Zz1.mp q
 subst h
 obtain⟨v,X,F,a1,a2,a3,a4⟩:=x c ρ σ H Φ t s h1
 have hnew:∀a∈F,H.length≤a:=fun a m=>(a3 a m).nil
 have hold:∀k t',σ k=some t'→∀a∈Φ k,a<H.length:=fun k t' e a m=>by
  obtain⟨_,_,r⟩:=s.slot k t' e
  exact r.lt a m
 refine⟨upd ρ i v,H++X,ZY Φ i F,by simp,fun a ha _=>List.getElem?_append_left ha,.inl ⟨rfl,by simp only[Zag,a1,Option.map_some],⟨fun k t' e'=>?_,fun k t' e'=>?_,fun k hk t' e'=>?_,(s.ext X).len,(s.ext X).keep,s.pos,s.f0⟩,fun a m=>?_⟩⟩
 ·by_cases q:k=i
  ·subst q
   simp[ZO]at e'
   subst e'
   exact⟨v,by simp[upd],by simpa [ZY]using a2⟩
  ·simp[ZO,q]at e'
   simpa [upd,ZY,q]using (s.ext X).slot k t' e'
 ·by_cases q:k=i
  ·subst q;simpa [ZY]using fun a m=>s.from_src (a3 a m)
  ·simp[ZO,q]at e'
   simpa [ZY,q]using s.src k t' e'
 ·by_cases q:k=i
  ·subst q
   simp only[ZY,if_true]
   refine⟨a4 rfl,fun a m=>.inl (Nat.le_trans s.len (hnew a m)),fun j w hj ej a m q=>?_⟩
   simp[ZO,hj]at ej
   rw[if_neg hj]at q
   have:=hold j w ej a q
   have:=hnew a m
   omega
  ·have hk':=(hO k hk).resolve_right q
   simp[ZO,q]at e'
   obtain⟨o1,o2,o3⟩:=s.own k hk' t' e'
   refine⟨by simpa [ZY,q]using o1,by simpa [ZY,q]using o2,fun j w hj ej a m=>?_⟩
   simp[ZY,q]at m
   by_cases q2:j=i
   ·subst q2
    simp only[ZY,if_true]
    intro m2
    have:=hold k t' e' a m
    have:=hnew a m2
    omega
   ·simp[ZO,q2]at ej
    simpa [ZY,q2]using o3 j w hj ej a m
 ·obtain⟨k,hk,⟨t',e'⟩,m⟩:=m
  by_cases q:k=i
  ·subst q
   simp[ZY]at m
   exact .inl (hnew a m)
  ·simp[ZO,q]at e'
   simp[ZY,q]at m
   exact .inr ⟨k,(hO k hk).resolve_right q,⟨t',e'⟩,m⟩
noncomputable def ZQ(b:PB)(p q:PS): PS:=fun σ=>(b σ).bind fun x=>if x then p σ else q σ
theorem Aft.grow{c:Ctx}{σ:TL}{H X:Hp}{Φ:Nat→List Nat}{g:Option (Option V×Lc×Hp)}{r:Option T×TL}(h:Aft c O O' R fr σ (H++X) Φ g r): Aft c O O' R fr σ H Φ g r:=by
 obtain⟨ρ',H',Φ',h1,h2,h3⟩:=h
 rw[List.length_append]at h1
 refine⟨ρ',H',Φ',by omega,fun a ha hn=>?_,?_⟩
 ·rw[h2 a (by rw[List.length_append];omega) hn,List.getElem?_append_left ha]
 ·rcases h3 with⟨k1,k2,k3,k4⟩ | k
  ·exact .inl ⟨k1,k2,k3,fun a m=>(k4 a m).imp (fun q=>by rw[List.length_append]at q;omega) id⟩
  ·exact .inr k
theorem Z5{t:Ts}{pb:PB}{a b:Sm}{p q:PS}(z:Bt O t pb)(x:S O O' R fr a p)(y:S O O' R fr b q): S O O' R fr (ZP t a b) (ZQ pb p q):=fun c ρ σ H Φ r s e=>by
 obtain⟨bb,e1,e⟩:=Zz0.mp e
 obtain⟨X,h1⟩:=z c ρ σ H Φ bb s e1
 cases bb with
 | true=>
  have:=x c ρ σ (H++X) Φ r (s.ext X) (by simpa using e)
  have eg:ZP t a b ρ H=a ρ (H++X):=by simp[ZP,h1]
  rw[eg]
  exact this.grow
 | false=>
  have:=y c ρ σ (H++X) Φ r (s.ext X) (by simpa using e)
  have eg:ZP t a b ρ H=b ρ (H++X):=by simp[ZP,h1]
  rw[eg]
  exact this.grow
noncomputable def follow(H:Hp): List Int→V→Option V
 | [],v=>some v
 | k::ks,v=>(Zx v (.int k) H).bind fun q=>follow H ks q.1
theorem Lead.follow{H:Hp}{ks:List Int}{v:V}{a:Nat}(l:Lead H ks v a): follow H ks v=some (.ref a):=by
 induction l with
 | nil=>rfl
 | ref h1 h2 h3 _ ih=>simp only[TM.follow,Zx,h1,Option.bind_some,h2,h3,Option.map_some,ih]
 | tup h2 h3 _ ih=>simp only[TM.follow,Zx,Option.bind_some,h2,h3,Option.map_some,ih]
theorem Zhk{H:Hp}{v w z:V}{K:Hp}(h:Zx v z H=some (w,K))(X:Hp): K=H∧Zx v z (H++X)=some (w,H++X):=by
 unfold Zx at h
 split at h
 ·obtain⟨vs,e1,h⟩:=Zz0.mp h
  obtain⟨j,e2,h⟩:=Zz0.mp h
  obtain⟨x,e3,h⟩:=Zz1.mp h
  cases h
  exact⟨rfl,by simp only[Zx,List.getElem?_append_left (Zz6.mp e1).1,e1,Option.bind_some,e2,e3,Option.map_some]⟩
 ·obtain⟨j,e2,h⟩:=Zz0.mp h
  obtain⟨x,e3,h⟩:=Zz1.mp h
  cases h
  exact⟨rfl,by simp only[Zx,Option.bind_some,e2,e3,Option.map_some]⟩
 ·cases h
noncomputable abbrev PPa:=TL→Option (List Int)
noncomputable def Zbm: PPa:=fun _=>some []
noncomputable def ZjY(p:PPa)(i:PE): PPa:=fun σ=>(p σ).bind fun ks=>(i σ).bind fun t=>match t with
 | .int k=>some (ks++[k])
 | _=>none
noncomputable def Pa(O:List Nat)(x:Nat)(e:Ex)(p:PPa): Prop:=∀(c:Ctx) (ρ:Lc) (σ:TL) (H:Hp) (Φ:Nat→List Nat) (ks:List Int) (v w:V),St c O ρ σ H Φ→p σ=some ks→ρ x=some v→follow H ks v=some w→∃X,e ρ H=some (w,H++X)
theorem ZcY{x:Nat}: Pa O x (Zc x) Zbm:=fun c ρ σ H Φ ks v w s h e f=>by
 cases h;cases f
 exact⟨[],by simp[Zc,e]⟩
theorem Zgf{c:Ctx}{ρ:Lc}{σ:TL}{H:Hp}{Φ:Nat→List Nat}{N:List Nat}{x a b:Nat}{t t':T}{v:V}{Fw F':List Nat}{vs':List V}(s:St c O ρ σ H Φ)(hx:x∈O)(ex:σ x=some t)(ev:ρ x=some v)(hb:c.H0.length≤b)(hlow:∀k t,σ k=some t→∀a∈Φ k,a<b)
  (hFw:∀a∈Fw,b≤a∨∃j∈N,(∃t,σ j=some t)∧a∈Φ j) (hN:∀j∈N,j∈O∧j≠x) (ha:a∈Φ x) (r:RF (H.set a vs') v t' F') (nd:F'.Nodup) (sub:∀y∈F',y∈Φ x∨y∈Fw) (hO:∀j∈O',j∈O∧j∉N):
  St c O' ρ (Zbl (ZO σ x t') N) (H.set a vs') (ZY Φ x F')∧(∀y,ZbA O' (Zbl (ZO σ x t') N) (ZY Φ x F') y→b≤y∨ZbA O σ Φ y):=by
 obtain⟨o1,o2,o3⟩:=s.own x hx t ex
 have old:∀k u,k≠x→Zbl (ZO σ x t') N k=some u→σ k=some u∧k∉N:=fun k u hk e=>by
  unfold Zbl at e
  split at e
  ·cases e
  ·rename_i hn
   simp[ZO,hk]at e
   exact⟨e,hn⟩
 have self:∀u,Zbl (ZO σ x t') N x=some u→u=t':=fun u e=>by
  unfold Zbl at e
  split at e
  ·cases e
  ·simp[ZO]at e;exact e.symm
 have foff:∀y∈F',∀k u,k≠x→σ k=some u→k∉N→y∉Φ k:=fun y hy k u hk e hkn m=>by
  rcases sub y hy with q | q
  ·exact o3 k u hk e y q m
  ·rcases hFw y q with q | ⟨j,hj,⟨tj,ej⟩,mj⟩
   ·have:=hlow k u e y m;omega
   ·exact(s.own j (hN j hj).1 tj ej).2.2 k u (fun q=>hkn (q▸hj)) e y mj m
 refine⟨⟨fun k u e=>?_,fun k u e=>?_,fun k hk u e=>?_,by simpa using s.len,fun y hy hn=>?_,s.pos,s.f0⟩,fun y hy=>?_⟩
 ·by_cases q:k=x
  ·subst q
   have:=self u e
   subst this
   exact⟨v,ev,by simpa [ZY]using r⟩
  ·obtain⟨e1,e2⟩:=old k u q e
   obtain⟨w,h1,h2⟩:=s.slot k u e1
   refine⟨w,h1,?_⟩
   simp only[ZY,q,if_false]
   refine h2.frame fun y hy=>List.getElem?_set_ne fun q'=>?_
   exact o3 k u q e1 a ha (q'▸hy)
 ·by_cases q:k=x
  ·subst q
   simp only[ZY,if_true]
   intro y hy
   rcases sub y hy with q | q
   ·exact s.src k t ex y q
   ·rcases hFw y q with q | ⟨j,hj,⟨tj,ej⟩,mj⟩
    ·exact .inl (by omega)
    ·exact s.src j tj ej y mj
  ·obtain⟨e1,e2⟩:=old k u q e
   simpa [ZY,q]using s.src k u e1
 ·by_cases q:k=x
  ·subst q
   simp only[ZY,if_true]
   refine⟨nd,fun y hy=>?_,fun j w hj ej y hy=>?_⟩
   ·rcases sub y hy with q | q
    ·exact o2 y q
    ·rcases hFw y q with q | ⟨j,hj,⟨tj,ej⟩,mj⟩
     ·exact .inl (by omega)
     ·exact(s.own j (hN j hj).1 tj ej).2.1 y mj
   ·obtain⟨e1,e2⟩:=old j w hj ej
    simpa [hj]using foff y hy j w hj e1 e2
  ·obtain⟨e1,e2⟩:=old k u q e
   obtain⟨p1,p2,p3⟩:=s.own k (hO k hk).1 u e1
   simp only[ZY,q,if_false]
   refine⟨p1,p2,fun j w hj ej y hy=>?_⟩
   by_cases q2:j=x
   ·subst q2
    simp only[if_true]
    exact fun m=>foff y m k u q e1 e2 hy
   ·obtain⟨f1,f2⟩:=old j w q2 ej
    simpa [q2]using p3 j w hj f1 y hy
 ·have:a≠y:=fun q=>by
   subst q
   rcases o2 a ha with q | q
   ·omega
   ·exact hn q
  rw[List.getElem?_set_ne this]
  exact s.keep y hy hn
 ·obtain⟨k,hk,⟨u,e⟩,m⟩:=hy
  by_cases q:k=x
  ·subst q
   simp only[ZY,if_true]at m
   rcases sub y m with q | q
   ·exact .inr ⟨k,hx,⟨t,ex⟩,q⟩
   ·rcases hFw y q with q | ⟨j,hj,q⟩
    ·exact .inl q
    ·exact .inr ⟨j,(hN j hj).1,q⟩
  ·obtain⟨e1,e2⟩:=old k u q e
   simp only[ZY,q,if_false]at m
   exact .inr ⟨k,(hO k hk).1,⟨u,e1⟩,m⟩
theorem ZfX{c:Ctx}{ρ:Lc}{σ:TL}{H:Hp}{Φ:Nat→List Nat}{x a:Nat}{t:T}(s:St c O ρ σ H Φ)(hx:x∈O)(ex:σ x=some t)(ha:a∈Φ x): a≠0:=by
 have:=s.pos
 rcases(s.own x hx t ex).2.1 a ha with q | q
 ·omega
 ·exact fun e=>s.f0 (e▸q)
noncomputable def Zfm(w:T)(ts:List T): Option (List T):=if ts.length<ZU then some (ts++[w])else none
noncomputable def Zfn(k:Int)(w:T)(ts:List T): Option (List T):=if 0≤k∧k<ts.length then some (ts.set k.toNat w)else none
noncomputable def ZdQ(x:Nat)(N:List Nat)(po:PPa)(p:PE): PS:=fun σ=>(po σ).bind fun ks=>(p σ).bind fun w=>(σ x).bind fun t=>(Zca (Zfm w) ks t).map fun t'=>(none,Zbl (ZO σ x t') N)
noncomputable def Zcc(x:Nat)(N:List Nat)(p:PE)(po:PPa)(pi:PE): PS:=fun σ=>(p σ).bind fun w=>(po σ).bind fun ks=>(pi σ).bind fun k=>match k with
 | .int k=>(σ x).bind fun t=>(Zca (Zfn k w) ks t).map fun t'=>(none,Zbl (ZO σ x t') N)
 | _=>none
theorem ZcJ{H:Hp}(X:Hp): ∀{ks:List Int} {v w:V},follow H ks v=some w→follow (H++X) ks v=some w
 | [],_,_,h=>h
 | k::ks,v,w,h=>by
  obtain⟨⟨w1,K⟩,h1,h2⟩:=Zz0.mp h
  simp only[follow,(Zhk h1 X).2,Option.bind_some]
  exact ZcJ X h2
theorem ZjM{x:Nat}{N:List Nat}{o e:Ex}{po:PPa}{p:PE}(hx:x∈O)(y:Pa O x o po)(z:E O N true e p)(hN:∀j∈N,j∈O∧j≠x)(hO:∀j∈O',j∈O∧j∉N): S O O' R fr (ZdM (Zdt o e)) (ZdQ x N po p):=fun c ρ σ H Φ r s q=>by
 obtain⟨ks,h1,q⟩:=Zz0.mp q
 obtain⟨w,h2,q⟩:=Zz0.mp q
 obtain⟨t,h3,q⟩:=Zz0.mp q
 obtain⟨t',h4,q⟩:=Zz1.mp q
 subst q
 obtain⟨v,ev,rv⟩:=s.slot x t h3
 have hlow:∀k t,σ k=some t→∀a∈Φ k,a<H.length:=fun k t e a m=>by
  obtain⟨_,_,r⟩:=s.slot k t e
  exact r.lt a m
 obtain⟨o1,o2,o3⟩:=s.own x hx t h3
 obtain⟨a,vs0,ts0,ts0',G0,l0,_⟩:=Zcp (Gn:=[]) ks rv o1 (by simp) h4
 obtain⟨X,a1⟩:=y c ρ σ H Φ ks v (.ref a) s h1 ev l0.follow
 obtain⟨vw,Y,Fw,b1,b2,b3,b4⟩:=z c ρ σ (H++X) Φ w (s.ext X) h2
 have s2:=(s.ext X).ext Y
 have rv2:RF (H++X++Y) v t (Φ x):=(rv.ext X).ext Y
 have hFw:∀a∈Fw,H.length≤a∨∃j∈N,(∃t,σ j=some t)∧a∈Φ j:=fun a m=>(b3 a m).back
 have dsj:∀a∈Fw,a∉Φ x:=fun a m q=>by
  rcases hFw a m with h | ⟨j,hj,⟨tj,ej⟩,mj⟩
  ·have:=hlow x t h3 a q;omega
  ·exact o3 j tj (hN j hj).2 ej a q mj
 obtain⟨a',vs,ts,ts',G,l,am,ea,hs,hf,gn,na,gs,go⟩:=Zcp (Gn:=Fw) ks rv2 o1 dsj h4
 have haa:a'=a:=by
  have f2:=ZcJ Y (ZcJ X l0.follow)
  rw[l.follow]at f2
  cases f2
  rfl
 subst haa
 unfold Zfm at hf
 split at hf
 ·rename_i hl
  cases hf
  obtain⟨F',r',n',sub'⟩:=go (vs++[vw]) (G++Fw) (hs.snoc b2) (by
   rw[List.nodup_append]
   exact⟨gn,b4 rfl,fun y hy z hz e=>dsj z hz (e▸gs y hy)⟩) (fun m=>(Zz8.mp m).elim na fun m=>dsj _ m am) (fun y m=>List.mem_append.mp m)
  obtain⟨st,com⟩:=Zgf (O':=O') (b:=H.length) s2 hx h3 ev s.len hlow hFw hN am r' n' sub' hO
  refine⟨ρ,(H++X++Y).set a' (vs++[vw]),ZY Φ x F',by simp,fun y hy hn=>?_,.inl ⟨rfl,?_,st,com⟩⟩
  ·have:a'≠y:=fun q=>hn ⟨x,hx,⟨t,h3⟩,q▸am⟩
   rw[List.getElem?_set_ne this,List.append_assoc,List.getElem?_append_left hy]
  ·simp only[ZdM,Zdt,a1,Option.bind_some,b1,ZcO,ea]
   rw[if_pos ⟨ZfX s hx h3 am,by rw[hs.length];exact hl⟩]
   rfl
 ·cases hf
theorem S.put{x:Nat}{N M:List Nat}{u:Bool}{o e i:Ex}{po:PPa}{p pi:PE}(hx:x∈O)(z:E O N true e p)(y:Pa O x o po)(zi:E O M u i pi)(hN:∀j∈N,j∈O∧j≠x)(hO:∀j∈O',j∈O∧j∉N): S O O' R fr (Zb7 e o i) (Zcc x N p po pi):=fun c ρ σ H Φ r s q=>by
 obtain⟨w,h2,q⟩:=Zz0.mp q
 obtain⟨ks,h1,q⟩:=Zz0.mp q
 obtain⟨tk,h5,q⟩:=Zz0.mp q
 cases tk <;> first | (cases q;done) | skip
 rename_i k
 obtain⟨t,h3,q⟩:=Zz0.mp q
 obtain⟨t',h4,q⟩:=Zz1.mp q
 subst q
 obtain⟨v,ev,rv⟩:=s.slot x t h3
 have hlow:∀k t,σ k=some t→∀a∈Φ k,a<H.length:=fun k t e a m=>by
  obtain⟨_,_,r⟩:=s.slot k t e
  exact r.lt a m
 obtain⟨o1,o2,o3⟩:=s.own x hx t h3
 obtain⟨vw,X,Fw,b1,b2,b3,b4⟩:=z c ρ σ H Φ w s h2
 obtain⟨a,vs0,ts0,ts0',G0,l0,_⟩:=Zcp (Gn:=[]) ks (rv.ext X) o1 (by simp) h4
 obtain⟨Y,a1⟩:=y c ρ σ (H++X) Φ ks v (.ref a) (s.ext X) h1 ev l0.follow
 obtain⟨vk,Z,Fk,d1,d2,d3,d4⟩:=zi c ρ σ (H++X++Y) Φ _ ((s.ext X).ext Y) h5
 cases d2
 have s2:=((s.ext X).ext Y).ext Z
 have rv2:RF (H++X++Y++Z) v t (Φ x):=((rv.ext X).ext Y).ext Z
 have hFw:∀a∈Fw,H.length≤a∨∃j∈N,(∃t,σ j=some t)∧a∈Φ j:=b3
 have dsj:∀a∈Fw,a∉Φ x:=fun a m q=>by
  rcases hFw a m with h | ⟨j,hj,⟨tj,ej⟩,mj⟩
  ·have:=hlow x t h3 a q;omega
  ·exact o3 j tj (hN j hj).2 ej a q mj
 obtain⟨a',vs,ts,ts',G,l,am,ea,hs,hf,gn,na,gs,go⟩:=Zcp (Gn:=Fw) ks rv2 o1 dsj h4
 have haa:a'=a:=by
  have f2:=ZcJ Z (ZcJ Y l0.follow)
  rw[l.follow]at f2
  cases f2
  rfl
 subst haa
 unfold Zfn at hf
 split at hf
 ·rename_i hl
  cases hf
  have hk:k.toNat<ts.length:=by omega
  obtain⟨v0,Gk,F1,F2,e0,r0,eG,rb⟩:=hs.split (List.getElem?_eq_getElem hk)
  have b2':RF (H++X++Y++Z) vw w Fw:=(b2.ext Y).ext Z
  have rs:=rb (H++X++Y++Z) vw w Fw b2' (fun _ _=>rfl) (fun _ _=>rfl)
  have sub0:∀a∈Fw,a∈Gk∨a∈Fw:=fun a m=>.inr m
  subst eG
  obtain⟨F',r',n',sub'⟩:=go _ _ rs (nd3 gn (b4 rfl) sub0 fun a m q=>dsj a m (gs a q)) (fun m=>by
   rcases in3 (G:=Gk) sub0 _ m with m | m
   ·exact na m
   ·exact dsj _ m am) (in3 sub0)
  obtain⟨st,com⟩:=Zgf (O':=O') (b:=H.length) s2 hx h3 ev s.len hlow hFw hN am r' n' sub' hO
  refine⟨ρ,(H++X++Y++Z).set a' (vs.set k.toNat vw),ZY Φ x F',by simp,fun y hy hn=>?_,.inl ⟨rfl,?_,st,com⟩⟩
  ·have:a'≠y:=fun q=>hn ⟨x,hx,⟨t,h3⟩,q▸am⟩
   rw[List.getElem?_set_ne this,List.append_assoc,List.append_assoc,List.getElem?_append_left hy]
  ·simp only[Zb7,b1,Option.bind_some,a1,d1,Zfi,ea]
   rw[if_pos ⟨ZfX s hx h3 am,by rw[hs.length];exact hl⟩]
   rfl
 ·cases hf
noncomputable def ZcC(put:T→TL→Option TL)(b:PS): TL→List T→Option (Option T×TL)
 | σ,[]=>some (none,σ)
 | σ,t::ts=>(put t σ).bind fun σ1=>(b σ1).bind fun r=>match r.1 with
  | some _=>some r
  | none=>ZcC put b r.2 ts
noncomputable def ZcD(g:PG)(put:T→TL→Option TL)(b:PS): PS:=fun σ=>(g σ).bind fun ts=>ZcC put b σ ts
theorem ZfI{J:List Nat}{put:V→Lc→Option Lc}{pput:T→TL→Option TL}{b:Sm}{qb:PS}(hj:PutOk O J put pput)(hJ:∀i∈J,i∉O)(hb:S O O R fr b qb){c:Ctx}{nx:Nx}{vs:List V}{G:List Nat}{H1:Hp}(hG:∀a∈G,a<H1.length)(hsrc:∀a∈G,c.H0.length≤a∨c.P a)(hnx:∀K:Hp,(∀a∈G,K[a]?=H1[a]?)→∀i,i≤vs.length→nx i K=some vs[i]?):
  ∀(rs:List T) (ws:List V) (i:Nat) (ρ:Lc) (σ:TL) (K:Hp) (Φ:Nat→List Nat) (Fr:List Nat) (r:Option T×TL),(∀j,vs[i+j]?=ws[j]?)→i+ws.length=vs.length→St c O ρ σ K Φ→H1.length≤K.length→(∀a∈G,K[a]?=H1[a]?)→(∀a∈G,¬ZbA O σ Φ a)→RFs K ws rs Fr→(∀a∈Fr,a∈G)→ZcC pput qb σ rs=some r →
   Aft c O O R fr σ K Φ (ZbN nx put b (rs.length+1) i ρ K) r
 | [],ws,i,ρ,σ,K,Φ,Fr,r,hat,hlen,s,hl,hk,hoff,rr,hfr,h=>by
  cases rr
  cases h
  have e:=hnx K hk i (by simp at hlen;omega)
  have e2:vs[i]?=none:=by have:=hat 0;simpa using this
  exact⟨ρ,K,Φ,Nat.le_refl _,fun _ _ _=>rfl,.inl ⟨rfl,by simp[ZbN,e,e2],s,fun a m=>.inr m⟩⟩
 | t::rs,ws0,i,ρ,σ,K,Φ,Fr0,r,hat,hlen,s,hl,hk,hoff,rr,hfr,h=>by
  cases rr with
  | @cons v _ F1 ws _ F2 a b'=>
  simp only[List.length_cons]at hlen
  obtain⟨σ1,h1,h⟩:=Zz0.mp h
  obtain⟨r1,h2,h⟩:=Zz0.mp h
  have e:=hnx K hk i (by omega)
  have e2:vs[i]?=some v:=by have:=hat 0;simpa using this
  have hat':∀j,vs[i+1+j]?=ws[j]?:=fun j=>by have:=hat (j+1);rw[show i+1+j=i+(j+1)by omega,this];simp
  obtain⟨ρ1,Φ1,p1,s1,p3,p4⟩:=hj c ρ σ K Φ v t F1 σ1 s a (fun x m=>hsrc x (hfr x (Zz4 _ m))) (fun k hk t' e x m q=>hoff x (hfr x (Zz4 _ q)) ⟨k,hk,⟨t',e⟩,m⟩) h1
  have hh:∀x,ZbA O σ1 Φ1 x→ZbA O σ Φ x:=fun x ⟨k,hk,⟨t',e⟩,m⟩=>by
   obtain⟨q1,q2⟩:=p3 k fun q=>hJ k q hk
   exact⟨k,hk,⟨t',q1▸e⟩,q2▸m⟩
  obtain⟨ρ2,K2,Φ2,g1,g2,g3⟩:=hb c ρ1 σ1 K Φ1 r1 s1 h2
  have estep:ZbN nx put b ((t::rs).length+1) i ρ K=(b ρ1 K).bind fun q=>match q.1 with
    | some _=>some q
    | none=>ZbN nx put b (rs.length+1) (i+1) q.2.1 q.2.2:=by
   rw[List.length_cons]
   show(nx i K).bind _=_
   rw[e,e2]
   first | (simp only[Option.bind_some,p1];done) | (simp only[Option.bind_some,p1];rfl)
  rcases g3 with⟨k1,k2,k3,k4⟩ | ⟨t',v',F',k1,k2,k3⟩
  ·rw[k1]at h
   have hG2:∀a∈G,K2[a]?=K[a]?:=fun x m=>g2 x (by have:=hG x m;omega) fun q=>hoff x m (hh x q)
   have hoff2:∀a∈G,¬ZbA O r1.2 Φ2 a:=fun x m q=>by
    rcases k4 x q with q | q
    ·have:=hG x m;omega
    ·exact hoff x m (hh x q)
   have ih:=ZfI hj hJ hb hG hsrc hnx rs ws (i+1) ρ2 r1.2 K2 Φ2 F2 r hat' (by omega) k3 (by omega) (fun x m=>(hG2 x m).trans (hk x m)) hoff2 (b'.frame fun x m=>hG2 x (hfr x (Zz3 _ m))) (fun x m=>hfr x (Zz3 _ m)) h
   rw[estep,k2]
   simp only[Option.bind_some]
   obtain⟨ρ3,K3,Φ3,l1,l2,l3⟩:=ih
   refine⟨ρ3,K3,Φ3,by omega,fun x hx hn=>?_,?_⟩
   ·rw[l2 x (by omega) fun q=>(k4 x q).elim (fun q=>by omega) fun q=>hn (hh x q),g2 x hx fun q=>hn (hh x q)]
   ·rcases l3 with⟨m1,m2,m3,m4⟩ | l
    ·refine .inl ⟨m1,m2,m3,fun x q=>?_⟩
     rcases m4 x q with q | q
     ·exact .inl (by omega)
     ·exact(k4 x q).imp id (hh x)
    ·exact .inr l
  ·rw[k1]at h
   cases h
   refine⟨ρ2,K2,Φ2,g1,fun x hx hn=>g2 x hx fun q=>hn (hh x q),.inr ⟨t',v',F',k1,?_,k3⟩⟩
   rw[estep,k2]
   rfl
theorem Zfc{J Ns:List Nat}{g:Src}{q:PG}{put:V→Lc→Option Lc}{pput:T→TL→Option TL}{b:Sm}{qb:PS}(hg:Gs O Ns g q)(hj:PutOk O J put pput)(hJ:∀i∈J,i∉O)(hN:∀i∈Ns,i∉O)(hb:S O O R fr b qb): S O O R fr (Zb9 g put b) (ZcD q pput qb):=fun c ρ σ H Φ r s h=>by
 obtain⟨ts,h1,h⟩:=Zz0.mp h
 obtain⟨nx,X,vs,F,G,g1,g2,g3,g4,g5⟩:=hg c ρ σ H Φ ts s h1
 have:=ZfI hj hJ hb (H1:=H++X) (fun a m=>(g4 a m).1) (fun a m=>s.from_src (g4 a m).2) g5 ts vs 0 ρ σ (H++X) Φ F r (by simp) (by simp) (s.ext X) (Zz10 _) (fun _ _=>rfl) (fun a m ⟨k,hk,⟨t,e⟩,q⟩=>s.from_off hN (g4 a m).2 hk e q) g2 g3 h
 have eg:Zb9 g put b ρ H=ZbN nx put b (ts.length+1) 0 ρ (H++X):=by simp only[Zb9,g1,Option.bind_some]
 rw[eg]
 exact this.grow
noncomputable def Zi3(t:PB)(b:PS): Nat→PS
 | 0=>fun _=>none
 | n+1=>fun σ=>(t σ).bind fun p=>if p then(b σ).bind fun q=>(match q.1 with
   | some _=>some q
   | none=>Zi3 t b n q.2)else some (none,σ)
end
noncomputable def Zai(n:Nat)(q:PS): List T→Option T:=fun ts=>if ts.length=n then(q fun i=>ts[i]?).map fun r=>r.1.getD .none else none
theorem RFs.slots{H:Hp}: ∀{vs:List V} {ts:List T} {F:List Nat},RFs H vs ts F→∃Φ:Nat→List Nat,∀i t,ts[i]?=some t→∃v,vs[i]?=some v∧RF H v t (Φ i)∧∀a∈Φ i,a∈F
 | _,_,_,.nil=>⟨fun _=>[],fun i t e=>by simp at e⟩
 | _,_,_,.cons (F:=F1) a b=>by
  obtain⟨Φ,h⟩:=b.slots
  refine⟨fun i=>match i with | 0=>F1 | i+1=>Φ i,fun i t e=>?_⟩
  cases i with
  | zero=>simp at e;subst e;exact⟨_,by simp,a,fun x m=>List.mem_append_left _ m⟩
  | succ i=>
   simp at e
   obtain⟨v,h1,h2,h3⟩:=h i t e
   exact⟨v,by simpa using h1,h2,fun x m=>List.mem_append_right _ (h3 x m)⟩
theorem Zfv{H H':Hp}(hl:H.length≤H'.length)(h:∀a,a<H.length→H'[a]?=H[a]?): H'=H++H'.drop H.length:=by
 conv=>lhs;rw[←List.take_append_drop H.length H']
 congr 1
 refine List.ext_getElem? fun i=>?_
 by_cases q:i<H.length
 ·rw[List.getElem?_take_of_lt q,h i q]
 ·rw[List.getElem?_eq_none (by simp;omega),List.getElem?_eq_none (by omega)]
theorem SimF.of{O':List Nat}{fr:Bool}{n:Nat}{g:Sm}{q:PS}(h:S [] O' [] fr g q): SimF fr (Zah n g) (Zai n q):=fun H vs ts t F1 hp r e=>by
 unfold Zai at e
 split at e
 ·rename_i hl
  obtain⟨r1,e1,e2⟩:=Zz1.mp e
  obtain⟨Φ,hΦ⟩:=r.slots
  have st:St ⟨H,[],fun a=>a∈F1⟩ [] (fun i=>vs[i]?) (fun i=>ts[i]?) H Φ:=
   ⟨(fun i t e=>by obtain⟨v,h1,h2,_⟩:=hΦ i t e;exact⟨v,h1,h2⟩),fun i t e a m=>(by obtain⟨v,h1,h2,h3⟩:=hΦ i t e;exact .inr (h3 a m)),(fun i hi=>nomatch hi),Nat.le_refl _,fun a _ _=>rfl,hp,by simp⟩
  obtain⟨ρ',H',Φ',h1,h2,h3⟩:=h _ _ _ _ _ _ st e1
  rcases h3 with⟨k1,k2,k3,k4⟩ | ⟨t',v',F',k1,k2,k3,k4,k5,k6⟩
  ·have eh:=Zfv k3.len fun a ha=>k3.keep a ha (by simp)
   refine⟨.none,H'.drop H.length,[],?_,?_,by simp,by simp⟩
   ·have hv:vs.length=n:=r.length.trans hl
    simp only[Zah,hv,if_true,k2,Option.map_some,Option.getD_none]
    rw[←eh]
   ·rw[k1]at e2
    subst e2
    exact .none
  ·have eh:=Zfv k4.len fun a ha=>k4.keep a ha (by simp)
   refine⟨v',H'.drop H.length,F',?_,?_,k5,fun hf=>⟨(k6 hf).1,fun a m=>((k6 hf).2 a m).elim id fun q=>by cases q⟩⟩
   ·have hv:vs.length=n:=r.length.trans hl
    simp only[Zah,hv,if_true,k2,Option.map_some,Option.getD_some]
    rw[←eh]
   ·rw[k1]at e2
    subst e2
    rw[←eh]
    exact k3
 ·cases e
theorem Zhl{f:List V→Hp→Option (V×Hp)}{p:List T→Option T}{fr:Bool}(h:SimF fr f p)(ns:List Int)(e:p [.lst (ns.map T.int)]=some (.bool true)): ∃H',f [.ref 0] [ns.map V.int]=some (.bool true,H'):=by
 have intsAre:∀l:List Int,RFs [ns.map V.int] (l.map V.int) (l.map T.int) []:=fun l=>by
  induction l with
  | nil=>exact .nil
  | cons a l ih=>exact .cons (.int a) ih
 obtain⟨v,X,F,h1,h2,_⟩:=h [ns.map V.int] [.ref 0] [.lst (ns.map T.int)] _ _ (by simp) (.one (.ref rfl (intsAre ns))) e
 cases h2
 exact⟨_,h1⟩
end TM
end
section
set_option autoImplicit false
namespace TM
open PySem PM
section
variable {O Ns Ne J:List Nat}
theorem ZcQ{u:Bool}{g:Src}{q:PG}{put:V→Lc→Option Lc}{pput:T→TL→Option TL}{tc:Ts}{pc:PB}{f:Ex}{pf:PE}(hg:Gs O Ns g q)(hj:PutOk O J put pput)(hN:∀i∈Ns,i∉O)(hc:Bt O tc pc)(hf:E O Ne u f pf): E O (Ns++Ne) false (ZaV g put tc f) (ZaL q pput pc pf):=
 Zi2 hg hj hN hc hf.sh (by simp)
end
end TM
end
section
set_option autoImplicit false
/-! Forward reckoning over trees. -/
namespace TM
open PySem PM
noncomputable def dec(P:Prop): Bool:=@decide P (Classical.propDecidable P)
theorem dec_iff{P:Prop}: dec P=true↔P:=by unfold dec;exact @decide_eq_true_iff P (Classical.propDecidable P)
theorem Zfd{P:Prop}(h:P): dec P=true:=dec_iff.mpr h
theorem Zfe{P:Prop}(h:¬P): dec P=false:=by
 cases e:dec P with
 | true=>exact absurd (dec_iff.mp e) h
 | false=>rfl
theorem Ze0{P:Prop}{b:Bool}(h:b=true↔P): dec P=b:=by
 cases b with
 | true=>exact Zfd (h.mp rfl)
 | false=>exact Zfe fun p=>by simpa using h.mpr p
noncomputable def tab{α:Type}(n:Nat)(f:Nat→α): List α:=(List.range n).map f
theorem Zaj{α:Type}{n:Nat}{f:Nat→α}: (tab n f).length=n:=by simp[tab]
theorem Zbd{α:Type}{n:Nat}{f:Nat→α}{i:Nat}(h:i<n): (tab n f)[i]?=some (f i):=by simp[tab,h]
theorem Zi4{α:Type}{n:Nat}{f:Nat→α}{i:Nat}(h:n≤i): (tab n f)[i]?=none:=by simp[tab,h]
theorem ZhJ{α:Type}{n:Nat}{f:Nat→α}: tab n f++[f n]=tab (n+1) f:=by simp[tab,List.range_succ]
theorem Zdw{α:Type}{n:Nat}{xs:List α}{f:Nat→α}(hl:xs.length=n)(h:∀i,i<n→xs[i]?=some (f i)): xs=tab n f:=by
 refine List.ext_getElem? fun i=>?_
 by_cases q:i<n
 ·rw[h i q,Zbd q]
 ·rw[List.getElem?_eq_none (by omega),Zi4 (by omega)]
theorem Zcj{α:Type}{n:Nat}{f g:Nat→α}(h:∀i,i<n→f i=g i): tab n f=tab n g:=by
 refine Zdw Zaj fun i hi=>?_
 rw[Zbd hi,h i hi]
theorem ZfY{α:Type}{n k:Nat}{f:Nat→α}{v:α}: (tab n f).set k v=tab n fun i=>if i=k then v else f i:=by
 refine Zdw (by rw[List.length_set,Zaj]) fun i hi=>?_
 by_cases q:i=k
 ·subst q
  rw[List.getElem?_set_self (by rw[Zaj];exact hi),if_pos rfl]
 ·rw[List.getElem?_set_ne (Ne.symm q),Zbd hi,if_neg q]
theorem tab_map{α β:Type}{n:Nat}{f:Nat→α}{g:α→β}: (tab n f).map g=tab n fun i=>g (f i):=by simp[tab]
noncomputable def cn{α:Type}(a:α)(f:Nat→α): Nat→α
 | 0=>a
 | i+1=>f i
theorem ZhK{α:Type}{n:Nat}{a:α}{f:Nat→α}: a::tab n f=tab (n+1) (cn a f):=by
 refine Zdw (by rw[List.length_cons,Zaj]) fun i hi=>?_
 cases i with
 | zero=>rfl
 | succ i=>rw[List.getElem?_cons_succ,Zbd (by omega)];rfl
theorem Zif{α β γ:Type}{n m:Nat}{f:Nat→α}{g:Nat→β}{h:α→β→γ}: List.zipWith h (tab n f) (tab m g)=tab (min n m) fun i=>h (f i) (g i):=by
 refine Zdw (by rw[List.length_zipWith,Zaj,Zaj]) fun i hi=>?_
 rw[List.getElem?_zipWith,Zbd (show i<n by omega),Zbd (show i<m by omega)]
noncomputable def Pk(c:Option T)(Q:T→Prop): Prop:=∃t,c=some t∧Q t
noncomputable def Pl(c:Option (List T))(Q:List T→Prop): Prop:=∃t,c=some t∧Q t
noncomputable def Pb(c:Option Bool)(Q:Bool→Prop): Prop:=∃t,c=some t∧Q t
noncomputable def Psk(c:Option (Option T×TL))(R:T→Prop)(N:TL→Prop): Prop:=∃o σ,c=some (o,σ)∧(∀t,o=some t→R t)∧(o=none→N σ)
theorem Pk.of{c:Option T}{Q:T→Prop}{t:T}(h:c=some t)(k:Q t): Pk c Q:=⟨t,h,k⟩
theorem Pk.eq{c:Option T}{t:T}(h:Pk c fun v=>v=t): c=some t:=by obtain⟨v,e,rfl⟩:=h;exact e
theorem Pk.mono{c:Option T}{Q Q':T→Prop}(h:Pk c Q)(k:∀t,Q t→Q' t): Pk c Q':=by obtain⟨v,e,q⟩:=h;exact⟨v,e,k v q⟩
section
variable {σ:TL} {Q:T→Prop} {L:List T→Prop} {B:Bool→Prop} {R:T→Prop} {N:TL→Prop}
theorem Zi5{k:Int}(h:Q (.int k)): Pk (Zg k σ) Q:=⟨_,rfl,h⟩
theorem Zi6(h:Q .none): Pk (Zax σ) Q:=⟨_,rfl,h⟩
theorem Zig{k:Bool}(h:Q (.bool k)): Pk (Zbk k σ) Q:=⟨_,rfl,h⟩
theorem Zi7{k:Str}(h:Q (.str k)): Pk (Zac k σ) Q:=⟨_,rfl,h⟩
theorem Zi8{i:Nat}{t:T}(e:σ i=some t)(h:Q t): Pk (Za i σ) Q:=⟨_,e,h⟩
theorem Zi9{q:T→T→Option T}{f g:PE}(h:Pk (f σ) fun x=>Pk (g σ) fun y=>Pk (q x y) Q): Pk (Zb q f g σ) Q:=by
 obtain⟨x,a,y,b,z,c,k⟩:=h
 exact⟨z,by simp only[Zb,a,b,Option.bind_some,c],k⟩
theorem Zih{q:List T→Option T}{f:PEs}(h:Pl (f σ) fun x=>Pk (q x) Q): Pk (Zu q f σ) Q:=by
 obtain⟨x,a,z,c,k⟩:=h
 exact⟨z,by simp only[Zu,a,Option.bind_some,c],k⟩
theorem Zja(h:L []): Pl (Zo σ) L:=⟨_,rfl,h⟩
theorem Zii{f:PE}{g:PEs}(h:Pk (f σ) fun x=>Pl (g σ) fun xs=>L (x::xs)): Pl (Ze f g σ) L:=by
 obtain⟨x,a,y,b,k⟩:=h
 exact⟨_,by simp only[Ze,a,b,Option.bind_some],k⟩
theorem Zjb{g:PEs}(h:Pl (g σ) fun xs=>Q (.tup xs)): Pk (Zam g σ) Q:=by
 obtain⟨x,a,k⟩:=h;exact⟨_,by simp only[Zam,a,Option.map_some],k⟩
theorem Zij{g:PEs}(h:Pl (g σ) fun xs=>Q (.lst xs)): Pk (ZaZ g σ) Q:=by
 obtain⟨x,a,k⟩:=h;exact⟨_,by simp only[ZaZ,a,Option.map_some],k⟩
theorem Zik{f:PE}(h:Pk (f σ) fun t=>t.flat=true∧Q t): Pk (Zc5 f σ) Q:=by
 obtain⟨x,a,b,k⟩:=h;exact⟨_,by simp only[Zc5,a,Option.bind_some,b,if_true],k⟩
theorem ZjN{f:PE}(h:Pk (f σ) fun t=>t.flatIn=true∧Q t): Pk (pFl f σ) Q:=by
 obtain⟨x,a,b,k⟩:=h;exact⟨_,by simp only[pFl,a,Option.bind_some,b,if_true],k⟩
theorem Zjc{f g:PE}(h:Pk (f σ) fun x=>Pb (Zcq x) fun b=>(b=true→Pk (g σ) Q)∧(b=false→Q x)): Pk (ZcB f g σ) Q:=by
 obtain⟨x,a,b,e,h1,h2⟩:=h
 cases b with
 | true=>obtain⟨t,c,q⟩:=h1 rfl;exact⟨t,by simp[ZcB,a,e,c],q⟩
 | false=>exact⟨x,by simp[ZcB,a,e],h2 rfl⟩
theorem ZjO{K:String}{f:PE}(h:Pk (f σ) fun x=>Q (.bool (Zdu K x))): Pk (pIs K f σ) Q:=by
 obtain⟨x,a,q⟩:=h;exact⟨_,by simp only[pIs,a,Option.map_some],q⟩
theorem Zjd{f:PE}(h:Pk (f σ) fun x=>Pb (Zcq x) B): Pb (ZK f σ) B:=by
 obtain⟨x,a,b,e,q⟩:=h;exact⟨_,by simp only[ZK,a,Option.bind_some,e],q⟩
theorem Zil{f:PB}(h:Pb (f σ) fun b=>B (!b)): Pb (Zbo f σ) B:=by
 obtain⟨x,a,q⟩:=h;exact⟨_,by simp only[Zbo,a,Option.map_some],q⟩
theorem Zim(h:B true): Pb (Zas σ) B:=⟨_,rfl,h⟩
theorem ZhL(h:B false): Pb (Zcr σ) B:=⟨_,rfl,h⟩
theorem Zin{f g:PB}(h:Pb (f σ) fun b=>(b=true→Pb (g σ) B)∧(b=false→B false)): Pb (Za5 f g σ) B:=by
 obtain⟨x,a,h1,h2⟩:=h
 cases x with
 | true=>obtain⟨t,c,q⟩:=h1 rfl;exact⟨t,by simp[Za5,a,c],q⟩
 | false=>exact⟨_,by simp[Za5,a],h2 rfl⟩
theorem Zje{f g:PB}(h:Pb (f σ) fun b=>(b=true→B true)∧(b=false→Pb (g σ) B)): Pb (bOr f g σ) B:=by
 obtain⟨x,a,h1,h2⟩:=h
 cases x with
 | false=>obtain⟨t,c,q⟩:=h2 rfl;exact⟨t,by simp[bOr,a,c],q⟩
 | true=>exact⟨_,by simp[bOr,a],h1 rfl⟩
theorem Zg1{b:Bool}(h:B b): Pb (Zcq (.bool b)) B:=⟨_,rfl,h⟩
theorem Zio(h:N σ): Psk (ZR σ) R N:=⟨_,_,rfl,by simp,fun _=>h⟩
theorem Zjf{f:PE}(h:Pk (f σ) R): Psk (ZG f σ) R N:=by
 obtain⟨x,a,q⟩:=h;exact⟨some x,σ,by simp only[ZG,a,Option.map_some],fun t e=>by cases e;exact q,by simp⟩
theorem Zjg{i:Nat}{f:PE}(h:Pk (f σ) fun t=>N (ZO σ i t)): Psk (Z9 i f σ) R N:=by
 obtain⟨x,a,q⟩:=h;exact⟨none,ZO σ i x,by simp only[Z9,a,Option.map_some],by simp,fun _=>q⟩
theorem Zgg{a b:PS}(h:Psk (a σ) R fun σ1=>Psk (b σ1) R N): Psk (Zw a b σ) R N:=by
 obtain⟨o,σ1,e,h1,h2⟩:=h
 cases o with
 | some t=>exact⟨some t,σ1,by simp only[Zw,e,Option.bind_some],h1,by simp⟩
 | none=>
  obtain⟨o2,σ2,e2,k1,k2⟩:=h2 rfl
  exact⟨o2,σ2,by simp only[Zw,e,Option.bind_some,e2],k1,k2⟩
theorem Zjh{b:PB}{f g:PS}(h:Pb (b σ) fun x=>(x=true→Psk (f σ) R N)∧(x=false→Psk (g σ) R N)): Psk (ZQ b f g σ) R N:=by
 obtain⟨x,a,h1,h2⟩:=h
 cases x with
 | true=>obtain⟨o,s,c,q⟩:=h1 rfl;exact⟨o,s,by simp[ZQ,a,c],q⟩
 | false=>obtain⟨o,s,c,q⟩:=h2 rfl;exact⟨o,s,by simp[ZQ,a,c],q⟩
theorem Zgh{n:Nat}{q:PS}{ts:List T}(hn:ts.length=n)(h:Psk (q fun i=>ts[i]?) Q fun _=>Q .none): Pk (Zai n q ts) Q:=by
 obtain⟨o,s,e,h1,h2⟩:=h
 cases o with
 | some t=>exact⟨t,by simp only[Zai,hn,if_true,e,Option.map_some,Option.getD_some],h1 t rfl⟩
 | none=>exact⟨.none,by simp only[Zai,hn,if_true,e,Option.map_some,Option.getD_none],h2 rfl⟩
theorem Zji{b:Bool}{A C:Prop}(h:b=true)(k:A): (b=true→A)∧(b=false→C):=⟨fun _=>k,fun e=>(by rw[h]at e;cases e)⟩
theorem Zjj{b:Bool}{A C:Prop}(h:b=false)(k:C): (b=true→A)∧(b=false→C):=⟨fun e=>(by rw[h]at e;cases e),fun _=>k⟩
theorem Zjk{a b:Int}(h:Q (.int (a+b))): Pk (ZI (.int a) (.int b)) Q:=⟨_,rfl,h⟩
theorem Zjl{a b:Int}(h:Q (.int (a-b))): Pk (Zay (.int a) (.int b)) Q:=⟨_,rfl,h⟩
theorem ZjP{a b:Int}(h:Q (.bool (decide (a<b)))): Pk (qLt (.int a) (.int b)) Q:=⟨_,rfl,h⟩
theorem Zjm{a b:Int}(hb:b≠0)(h:Q (.int (a.fmod b))): Pk (ZX (.int a) (.int b)) Q:=⟨_,by simp only[ZX];rw[if_pos hb],h⟩
theorem ZaK{a b:Int}(hb:b≠0)(hd:Builtin.divisionGoesByPylong a b=false)(h:Q (.int (a.fdiv b))): Pk (Zan (.int a) (.int b)) Q:=⟨_,by simp only[Zan];rw[if_pos ⟨hb,hd⟩],h⟩
theorem Zcs{a b:Int}(hm:mulOk a b=true)(h:Q (.int (a*b))): Pk (ZaX (.int a) (.int b)) Q:=⟨_,by simp only[ZaX];rw[if_pos hm],h⟩
theorem Zjn{a:Int}(h:Q (.int (if a<0 then -a else a))): Pk (Zbz [.int a]) Q:=⟨_,rfl,h⟩
theorem Zjo{a b:Int}(h:Q (.int (if b>a then b else a))): Pk (Zcu [.int a,.int b]) Q:=⟨_,rfl,h⟩
theorem Zjp{a b:Int}(h:Q (.int (if b<a then b else a))): Pk (Zcv [.int a,.int b]) Q:=⟨_,rfl,h⟩
theorem ZfZ(a b:Int): Za6 (.int a) (.int b)=some (decide (a=b)):=by
 simp[Za6,ZaJ,SeqAt.shaped,PyData.canLay0,PyData.depth,PyData.eqv]
 by_cases h:a=b <;> simp[h]
theorem ZjQ{a b:Int}(h:Q (.bool (decide (a=b)))): Pk (ZV (.int a) (.int b)) Q:=⟨_,by simp only[ZV,ZfZ,Option.map_some],h⟩
theorem ZjR{a b:Int}(h:Q (.bool (decide (a≠b)))): Pk (qNe (.int a) (.int b)) Q:=⟨.bool (decide (a≠b)),by simp only[qNe,ZfZ,Option.map_some];simp,h⟩
theorem ZfJ(a b:Bool): Za6 (.bool a) (.bool b)=some (a == b):=by
 cases a <;> cases b <;> simp[Za6,ZaJ,SeqAt.shaped,PyData.canLay0,PyData.depth,PyData.eqv]
theorem Zjq{a b:Bool}(h:Q (.bool (a == b))): Pk (ZV (.bool a) (.bool b)) Q:=⟨_,by simp only[ZV,ZfJ,Option.map_some],h⟩
theorem Zjr{a b:Bool}(h:Q (.bool (!(a == b)))): Pk (qNe (.bool a) (.bool b)) Q:=⟨_,by simp only[qNe,ZfJ,Option.map_some],h⟩
theorem Zjs(h:Q (.bool true)): Pk (qIs .none .none) Q:=⟨_,rfl,h⟩
theorem Zjt{a:Int}(h:Q (.bool false)): Pk (qIs (.int a) .none) Q:=⟨_,rfl,h⟩
theorem Zju{a:List T}(h:Q (.bool false)): Pk (qIs (.lst a) .none) Q:=⟨_,rfl,h⟩
theorem Zip(h:Q (.bool false)): Pk (ZdD .none .none) Q:=⟨_,rfl,h⟩
theorem Ziq{n:Nat}{f:Nat→T}(h:Q (.int n)): Pk (Zbg [.lst (tab n f)]) Q:=⟨_,by simp only[Zbg,Zaj],h⟩
theorem Zjv{ts:List T}(h:Q (.int ts.length)): Pk (Zbg [.lst ts]) Q:=⟨_,rfl,h⟩
theorem ZdJ{k:Int}{n:Nat}(h0:0≤k)(h1:k<n): seqIndex? k n=some k.toNat:=by
 unfold seqIndex?
 have:¬k<0:=by omega
 simp[this]
 omega
theorem Zir{n i:Nat}{f:Nat→T}(hi:i<n)(h:Q (f i)): Pk (Zv (.lst (tab n f)) (.int (i:Nat))) Q:=⟨_,by
 simp only[Zv,Zaj,ZdJ (show(0:Int)≤(i:Int)by omega) (show(i:Int)<(n:Int)by omega),Option.bind_some,Int.toNat_natCast]
 exact Zbd hi,h⟩
theorem Zis{n:Nat}{k:Int}{f:Nat→T}(h0:0≤k)(h1:k<n)(h:Q (f k.toNat)): Pk (Zv (.lst (tab n f)) (.int k)) Q:=⟨_,by
 simp only[Zv,Zaj,ZdJ h0 h1,Option.bind_some]
 exact Zbd (by omega),h⟩
theorem Zdx{ts:List T}{k:Int}{t:T}(h0:0≤k)(e:ts[k.toNat]?=some t)(h:Q t): Pk (Zv (.lst ts) (.int k)) Q:=⟨_,by
 simp only[Zv]
 rw[ZdJ h0 (by have:=(Zz6.mp e).1;omega)]
 exact e,h⟩
theorem Zit{ts:List T}{k:Int}{t:T}(h0:0≤k)(e:ts[k.toNat]?=some t)(h:Q t): Pk (Zv (.tup ts) (.int k)) Q:=⟨_,by
 simp only[Zv]
 rw[ZdJ h0 (by have:=(Zz6.mp e).1;omega)]
 exact e,h⟩
theorem Ziu{n:Nat}{a:T}{f:Nat→T}(hn:n<10000)(h:Q (.lst (tab (n+1) (cn a f)))): Pk (ZI (.lst [a]) (.lst (tab n f))) Q:=⟨_,by
 simp only[ZI]
 rw[if_pos (by rw[Zaz,List.length_append,Zaj];simp;omega),List.singleton_append,ZhK],h⟩
theorem ZhM{ts:List T}(h:Q (.lst ts)): Pk (Zbw [.lst ts]) Q:=⟨_,rfl,h⟩
theorem Ziv{ts:List T}(h:Q (.tup ts)): Pk (Zdv [.lst ts]) Q:=⟨_,rfl,h⟩
theorem ZhN{n:Nat}{f:Nat→Int}: Zcw (tab n fun i=>.int (f i))=some (tab n f):=by
 have:∀l:List Int,Zcw (l.map T.int)=some l:=fun l=>by
  induction l with
  | nil=>rfl
  | cons a l ih=>simp only[List.map_cons,Zcw,ih,Option.map_some]
 rw[show(tab n fun i=>T.int (f i))=(tab n f).map T.int from tab_map.symm]
 exact this _
noncomputable def SqP(x:T)(L:List T→Prop): Prop:=∃ts,(x=.lst ts∨x=.tup ts)∧L ts
theorem Ziw{f:PE}(h:Pk (f σ) fun t=>SqP t L): Pl (ZbU f σ) L:=by
 obtain⟨t,a,ts,rfl | rfl,q⟩:=h <;> exact⟨_,by simp only[ZbU,a,Option.bind_some],q⟩
theorem Sq.lst{ts:List T}(h:L ts): SqP (.lst ts) L:=⟨ts,.inl rfl,h⟩
theorem Ze1{a b c:Int}{H:Hp}{z:Nx×Nat×Hp}(h:ZaO a b c H=some z): Za8 a b c=some ((List.range (rngN a b c)).map fun(i:Nat)=>.int (a+(i:Int)*c)):=by
 unfold ZaO at h
 split at h
 ·rename_i hc
  unfold Za8
  rw[if_pos hc]
 ·cases h
theorem ZhO{n:Nat}(hn:n≤1000): Za8 0 n 1=some (tab n fun i=>.int i):=by
 rw[Ze1 (ZiY (H:=[]) (b:=n) (by omega) (by omega))]
 have e:rngN 0 n 1=n:=by
  unfold rngN Builtin.Range.rangeSize
  by_cases q:(0:Int)<n
  ·rw[if_pos (by decide),if_pos (by omega)];omega
  ·rw[if_pos (by decide),if_neg (by omega)];omega
 rw[e]
 simp[tab]
theorem Zix{a n:Nat}(ha:0<n)(hn:a+n≤1000): Za8 a (a+n) 1=some (tab n fun i=>.int (a+i)):=by
 rw[Ze1 (Zf8 (H:=[]) (a:=a) (b:=a+n) (c:=1) (by omega) (by omega) (by omega) (by omega) (by omega))]
 have e:rngN a (a+n) 1=n:=by
  unfold rngN
  rw[Zgs (by omega) (by omega)]
  omega
 rw[e]
 simp[tab]
theorem Ziy{g:PEs}{b:Int}{o:Option (List T)}(e:g σ=some [.int b])(h:Za8 0 b 1=o): ZaU g σ=o:=by
 subst h;unfold ZaU;rw[e];rfl
theorem Ziz{g:PEs}{a b:Int}{o:Option (List T)}(e:g σ=some [.int a,.int b])(h:Za8 a b 1=o): ZaU g σ=o:=by
 subst h;unfold ZaU;rw[e];rfl
noncomputable def RnP(xs:List T)(L:List T→Prop): Prop:=(∃n:Nat,xs=[.int n]∧n≤1000∧L (tab n fun i=>.int i))∨∃(a:Nat) (n:Nat),xs=[.int a,.int (a+n)]∧0<n∧a+n≤1000∧L (tab n fun i=>.int (a+i))
theorem ZhP{g:PEs}(h:Pl (g σ) fun xs=>RnP xs L): Pl (ZaU g σ) L:=by
 obtain⟨xs,e,h⟩:=h
 rcases h with⟨n,h0,h1,q⟩ | ⟨a,n,h0,h1,h2,q⟩
 ·subst h0;exact⟨_,Ziy e (ZhO h1),q⟩
 ·subst h0;exact⟨_,Ziz e (Zix h1 h2),q⟩
theorem Rn.one{n:Nat}(hn:n≤1000)(h:L (tab n fun i=>.int i)): RnP [.int n] L:=.inl ⟨n,rfl,hn,h⟩
noncomputable def ZiP(x y:T)(L:List T→Prop): Prop:=∃xs ys,x=.lst xs∧y=.lst ys∧L (List.zipWith (fun a b=>.tup [a,b]) xs ys)
theorem Zgi{f g:PE}(h:Pk (f σ) fun x=>Pk (g σ) fun y=>ZiP x y L): Pl (ZdP f g σ) L:=by
 obtain⟨x,a,y,b,xs,ys,rfl,rfl,q⟩:=h;exact⟨_,by simp only[ZdP,a,b,Option.bind_some],q⟩
theorem Zi.eq{n:Nat}{f g:Nat→T}(h:L (tab n fun i=>.tup [f i,g i])): ZiP (.lst (tab n f)) (.lst (tab n g)) L:=⟨_,_,rfl,rfl,by rw[Zif,Nat.min_self];exact h⟩
theorem Zfy{j:Nat}{f:PE}{h:T→T}: ∀{ts:List T},(∀t∈ts,f (ZO σ j t)=some (h t))→ZbQ (ZaI j) Zas f σ ts=some (ts.map h)
 | [],_=>rfl
 | t::ts,k=>by
  simp only[ZbQ,ZaI,Zas,Option.bind_some,if_true,k t Zz5,Zfy fun t m=>k t (Zz2 _ m),Option.map_some,List.map_cons]
theorem ZeN{put:T→TL→Option TL}{f:PE}: ∀{ts us:List T},us.length=ts.length→(∀(i:Nat) t u,ts[i]?=some t→us[i]?=some u→∃σ1,put t σ=some σ1∧f σ1=some u)→ZbQ put Zas f σ ts=some us
 | [],us,hl,_=>by cases us with
  | nil=>rfl
  | cons _ _=>simp at hl
 | t::ts,us,hl,k=>by
  cases us with
  | nil=>simp at hl
  | cons u us=>
   obtain⟨σ1,h1,h2⟩:=k 0 t u (by simp) (by simp)
   have:=ZeN (ts:=ts) (us:=us) (f:=f) (put:=put) (by simpa using hl) fun i t' u' h3 h4=>k (i+1) t' u' (by simpa using h3) (by simpa using h4)
   simp only[ZbQ,h1,Zas,Option.bind_some,if_true,h2,this,Option.map_some]
theorem Zf0{g:PG}{j n:Nat}{a b:Nat→T}{f:PE}(hn:n<10000)(hg:Pl (g σ) fun ts=>ts=tab n a)(hf:∀i,i<n→Pk (f (ZO σ j (a i))) fun t=>t=b i)(h:Q (.lst (tab n b))): Pk (ZaL g (ZaI j) Zas f σ) Q:=by
 obtain⟨ts,e,rfl⟩:=hg
 refine⟨_,?_,h⟩
 simp only[ZaL,e,Option.bind_some,Zaj]
 rw[if_pos (by rw[Zaz];omega),ZeN (us:=tab n b) (by rw[Zaj,Zaj]) fun i t u h1 h2=>?_]
 ·rfl
 ·have hi:i<n:=by have:=(Zz6.mp h1).1;rwa [Zaj]at this
  rw[Zbd hi]at h1 h2
  cases h1;cases h2
  exact⟨_,rfl,(hf i hi).eq⟩
theorem ZhQ{g:PG}{j k n:Nat}{a b c:Nat→T}{f:PE}(hn:n<10000)(hg:Pl (g σ) fun ts=>ts=tab n fun i=>.tup [a i,b i])(hf:∀i,i<n→Pk (f (ZO (ZO σ j (a i)) k (b i))) fun t=>t=c i)(h:Q (.lst (tab n c))): Pk (ZaL g (ZdI j k) Zas f σ) Q:=by
 obtain⟨ts,e,rfl⟩:=hg
 refine⟨_,?_,h⟩
 simp only[ZaL,e,Option.bind_some,Zaj]
 rw[if_pos (by rw[Zaz];omega),ZeN (us:=tab n c) (by rw[Zaj,Zaj]) fun i t u h1 h2=>?_]
 ·rfl
 ·have hi:i<n:=by have:=(Zz6.mp h1).1;rwa [Zaj]at this
  rw[Zbd hi]at h1 h2
  cases h1;cases h2
  exact⟨_,rfl,(hf i hi).eq⟩
theorem Zgj{put:T→TL→Option TL}{b:PS}: ∀{ts:List T} (P:Nat→TL→Prop) {σ:TL},P 0 σ→(∀(i:Nat) t σ,ts[i]?=some t→P i σ→∃σ1,put t σ=some σ1∧Psk (b σ1) R (P (i+1)))→(∀σ,P ts.length σ→N σ)→Psk (ZcC put b σ ts) R N
 | [],P,σ,h0,_,h2=>⟨_,_,rfl,by simp,fun _=>h2 _ h0⟩
 | t::ts,P,σ,h0,h1,h2=>by
  obtain⟨σ1,e1,o,σ2,e2,k1,k2⟩:=h1 0 t σ (by simp) h0
  cases o with
  | some v=>exact⟨some v,σ2,by simp only[ZcC,e1,Option.bind_some,e2],k1,by simp⟩
  | none=>
   obtain⟨o3,σ3,e3,l1,l2⟩:=Zgj (ts:=ts) (fun i=>P (i+1)) (k2 rfl) (fun i t' σ' h3 h4=>h1 (i+1) t' σ' (by simpa using h3) h4) (fun σ' h=>h2 σ' (by simpa using h))
   exact⟨o3,σ3,by simp only[ZcC,e1,Option.bind_some,e2,e3],l1,l2⟩
theorem Ze2{g:PG}{j n:Nat}{a:Nat→T}{b:PS}(hg:Pl (g σ) fun ts=>ts=tab n a)(P:Nat→TL→Prop)(h0:P 0 σ)(h1:∀i σ,i<n→P i σ→Psk (b (ZO σ j (a i))) R (P (i+1)))(h2:∀σ,P n σ→N σ): Psk (ZcD g (ZaI j) b σ) R N:=by
 obtain⟨ts,e,rfl⟩:=hg
 have:=Zgj (R:=R) (N:=N) (put:=ZaI j) (b:=b) (ts:=tab n a) P h0 (fun i t σ' h3 h4=>by
  have hi:i<n:=by have:=(Zz6.mp h3).1;rwa [Zaj]at this
  rw[Zbd hi]at h3
  cases h3
  exact⟨_,rfl,h1 i σ' hi h4⟩) (by rw[Zaj];exact h2)
 obtain⟨o,s,e2,q⟩:=this
 exact⟨o,s,by simp only[ZcD,e,Option.bind_some,e2],q⟩
theorem Zfz: Zbl σ []=σ:=by funext i;simp[Zbl]
noncomputable def AppP(σ:TL)(x:Nat)(w:T)(N:TL→Prop): Prop:=∃ts,σ x=some (.lst ts)∧ts.length<10000∧N (ZO σ x (.lst (ts++[w])))
theorem AppP.of{x:Nat}{w:T}{ts:List T}(e:σ x=some (.lst ts))(hl:ts.length<10000)(h:N (ZO σ x (.lst (ts++[w])))): AppP σ x w N:=⟨ts,e,hl,h⟩
theorem Zjw{x:Nat}{f:PE}(h:Pk (f σ) fun w=>AppP σ x w N): Psk (ZdQ x [] Zbm f σ) R N:=by
 obtain⟨w,e,ts,h1,h2,q⟩:=h
 refine⟨none,_,?_,by simp,fun _=>q⟩
 simp only[ZdQ,Zbm,Option.bind_some,e,h1,Zca,Zfm]
 rw[if_pos (by rw[Zaz];omega)]
 simp only[Option.map_some,Zfz]
noncomputable def PutP(σ:TL)(x:Nat)(w k:T)(N:TL→Prop): Prop:=∃ts m,k=.int m∧σ x=some (.lst ts)∧0≤m∧m<ts.length∧N (ZO σ x (.lst (ts.set m.toNat w)))
theorem Zdm{x n:Nat}{k:Int}{w:T}{f:Nat→T}(e:σ x=some (.lst (TM.tab n f)))(h0:0≤k)(hi:k<n)(h:N (ZO σ x (.lst (TM.tab n fun i=>if i=k.toNat then w else f i)))): PutP σ x w (.int k) N:=⟨_,_,rfl,e,h0,by rw[Zaj];omega,by rw[ZfY];exact h⟩
theorem Zjx{x:Nat}{f i:PE}(h:Pk (f σ) fun w=>Pk (i σ) fun k=>PutP σ x w k N): Psk (Zcc x [] f Zbm i σ) R N:=by
 obtain⟨w,e,k,e2,ts,m,rfl,h1,h2,h3,q⟩:=h
 refine⟨none,_,?_,by simp,fun _=>q⟩
 simp only[Zcc,Zbm,Option.bind_some,e,e2,h1,Zca,Zfn]
 rw[if_pos ⟨h2,h3⟩]
 simp only[Option.map_some,Zfz]
theorem ZiA{i j:Nat}{t:T}{o:Option T}(h:j≠i)(e:σ j=o): ZO σ i t j=o:=by simp[ZO,h,e]
end
end TM
end
section
set_option autoImplicit false
namespace TM
open PySem PM
inductive Pln: Nat→T→Prop where
 | none {n:Nat}:Pln n .none
 | int {n:Nat} {i:Int}:Pln n (.int i)
 | str {n:Nat} {x:Str}:PyData.strOk x=true→Pln n (.str x)
 | tup {n:Nat} {ts:List T}:(∀t∈ts,Pln n t)→Pln (n+1) (.tup ts)
 | lst {n:Nat} {ts:List T}:(∀t∈ts,Pln n t)→Pln (n+1) (.lst ts)
mutual
noncomputable def dd: T→PyData
 | .none=>.none
 | .bool b=>.bool b
 | .int i=>.int i
 | .str x=>.str x
 | .tup ts=>.tuple (dds ts)
 | .lst ts=>.list (dds ts)
noncomputable def dds: List T→List PyData
 | []=>[]
 | t::ts=>dd t::dds ts
end
theorem ZcN{f:T→Option PyData}: ∀{ts:List T},(∀t∈ts,f t=some (dd t))→Zb4 f ts=some (dds ts)
 | [],_=>rfl
 | t::ts,h=>by simp only[Zb4,h t Zz5,ZcN fun t m=>h t (Zz2 _ m),Option.bind_some,dds]
theorem ZcR: ∀{ts:List T},(∀t∈ts,PyData.canLay0 (dd t)=true)→PyData.canLayAll0 (dds ts)=true
 | [],_=>rfl
 | t::ts,h=>by simp only[dds,PyData.canLayAll0,h t Zz5,ZcR fun t m=>h t (Zz2 _ m),Bool.and_self]
theorem ZcS{n:Nat}: ∀{ts:List T},(∀t∈ts,PyData.depth (dd t)≤n)→PyData.depthAll (dds ts)≤n
 | [],_=>by simp[dds,PyData.depthAll]
 | t::ts,h=>by
  have h1:=h t Zz5
  have h2:=ZcS fun t m=>h t (Zz2 _ m)
  simp only[dds,PyData.depthAll]
  omega
theorem Pln.dat{n:Nat}{t:T}(h:Pln n t): ZaJ n t=some (dd t)∧PyData.canLay0 (dd t)=true∧PyData.depth (dd t)≤n:=by
 induction h with
 | @none n=>cases n <;> exact⟨rfl,rfl,by simp[dd,PyData.depth]⟩
 | @int n i=>cases n <;> exact⟨rfl,rfl,by simp[dd,PyData.depth]⟩
 | @str n x h=>cases n <;> exact⟨rfl,by simpa [dd,PyData.canLay0]using h,by simp[dd,PyData.depth]⟩
 | @tup n ts _ ih=>
  refine⟨?_,?_,?_⟩
  ·simp only[ZaJ,ZcN fun t m=>(ih t m).1,Option.map_some,dd]
  ·simp only[dd,PyData.canLay0];exact ZcR fun t m=>(ih t m).2.1
  ·simp only[dd,PyData.depth]
   have:=ZcS fun t m=>(ih t m).2.2
   omega
 | @lst n ts _ ih=>
  refine⟨?_,?_,?_⟩
  ·simp only[ZaJ,ZcN fun t m=>(ih t m).1,Option.map_some,dd]
  ·simp only[dd,PyData.canLay0];exact ZcR fun t m=>(ih t m).2.1
  ·simp only[dd,PyData.depth]
   have:=ZcS fun t m=>(ih t m).2.2
   omega
theorem ZeO: ∀{ts us:List T},(∀t∈ts,∀u∈us,(PyData.eqv (dd t) (dd u)=true↔t=u))→(PyData.eqvAll (dds ts) (dds us)=true↔ts=us)
 | [],[],_=>by simp[dds,PyData.eqvAll]
 | [],_::_,_=>by simp[dds,PyData.eqvAll]
 | _::_,[],_=>by simp[dds,PyData.eqvAll]
 | t::ts,u::us,h=>by
  simp only[dds,PyData.eqvAll,Bool.and_eq_true,h t Zz5 u Zz5,ZeO fun t m u n=>h t (Zz2 _ m) u (Zz2 _ n),List.cons.injEq]
theorem Pln.eqv{n:Nat}{t:T}(h:Pln n t): ∀{m:Nat} {u:T},Pln m u→(PyData.eqv (dd t) (dd u)=true↔t=u):=by
 induction h with
 | none=>intro m u h;cases h <;> simp[dd,PyData.eqv]
 | int=>intro m u h;cases h <;> simp[dd,PyData.eqv]
 | str _=>intro m u h;cases h <;> simp[dd,PyData.eqv]
 | tup hs ih=>
  intro m u h
  cases h with
  | tup hu=>simp only[dd,PyData.eqv,T.tup.injEq];exact ZeO fun t a u b=>ih t a (hu u b)
  | none=>simp[dd,PyData.eqv]
  | int=>simp[dd,PyData.eqv]
  | str=>simp[dd,PyData.eqv]
  | lst=>simp[dd,PyData.eqv]
 | lst hs ih=>
  intro m u h
  cases h with
  | lst hu=>simp only[dd,PyData.eqv,T.lst.injEq];exact ZeO fun t a u b=>ih t a (hu u b)
  | none=>simp[dd,PyData.eqv]
  | int=>simp[dd,PyData.eqv]
  | str=>simp[dd,PyData.eqv]
  | tup=>simp[dd,PyData.eqv]
theorem Pln.mono{n:Nat}{t:T}(h:Pln n t): ∀{m:Nat},n≤m→Pln m t:=by
 induction h with
 | none=>intro m _;exact .none
 | int=>intro m _;exact .int
 | str h=>intro m _;exact .str h
 | tup hs ih=>
  intro m hm
  cases m with
  | zero=>omega
  | succ m=>exact .tup fun t a=>ih t a (by omega)
 | lst hs ih=>
  intro m hm
  cases m with
  | zero=>omega
  | succ m=>exact .lst fun t a=>ih t a (by omega)
theorem ZiB{n m:Nat}{a b:T}(ha:Pln n a)(hb:Pln m b)(hn:n≤8:=by decide)(hm:m≤8:=by decide): Za6 a b=some (dec (a=b)):=by
 have ha:=ha.mono hn
 have hb:=hb.mono hm
 obtain⟨a1,a2,a3⟩:=ha.dat
 obtain⟨b1,b2,b3⟩:=hb.dat
 unfold Za6 Zav
 rw[a1,b1]
 simp only[Option.bind_some]
 rw[if_pos ⟨by simp only[SeqAt.shaped,a2,Bool.true_and,decide_eq_true_eq];omega,by simp only[SeqAt.shaped,b2,Bool.true_and,decide_eq_true_eq];omega⟩,Ze0 (ha.eqv hb)]
section
variable {Q:T→Prop}
theorem Ze3{n m:Nat}{a b:T}(ha:Pln n a)(hb:Pln m b)(h:Q (.bool (dec (a=b))))(hn:n≤8:=by decide)(hm:m≤8:=by decide): Pk (ZV a b) Q:=⟨_,by simp only[ZV,ZiB ha hb hn hm,Option.map_some],h⟩
end
theorem Zdy{α:Type}{n:Nat}{f:Nat→α}{x:α}(h:x∈tab n f): ∃i,i<n∧x=f i:=by
 obtain⟨i,hi,e⟩:=Zz11.mp h
 exact⟨i,List.mem_range.mp hi,e.symm⟩
theorem Zhm{n:Nat}{f:Nat→T}(h:∀i,i<n→(f i).flat=true): T.flats (tab n f)=true:=by
 have key:∀l:List T,(∀t∈l,t.flat=true)→T.flats l=true:=fun l=>by
  induction l with
  | nil=>intro _;rfl
  | cons t l ih=>intro h;simp only[T.flats,h t Zz5,ih fun t m=>h t (Zz2 _ m),Bool.and_self]
 exact key _ fun t m=>by obtain⟨i,hi,rfl⟩:=Zdy m;exact h i hi
theorem Zdj{n:Nat}{f:Nat→T}(h:∀i,i<n→(f i).flat=true): T.flatIn (.lst (tab n f))=true:=Zhm h
noncomputable def oT: Option Int→T
 | none=>.none
 | some x=>.int x
noncomputable def Zq(n:Nat)(x:Nat→Int): T:=.lst (tab n fun i=>.int (x i))
theorem Zcn: oT none=.none:=rfl
theorem ZbG{c:Int}: oT (some c)=.int c:=rfl
theorem Zjy{n k:Nat}{f:Nat→T}(h:∀i,i<k→Pln n (f i)): Pln (n+1) (.lst (tab k f)):=.lst fun t m=>by obtain⟨i,hi,rfl⟩:=Zdy m;exact h i hi
theorem ZiC{n:Nat}{x:Nat→Int}: Pln 1 (Zq n x):=Zjy fun _ _=>.int
theorem ZfA{σ:TL}{i:Nat}{t:T}: ZO σ i t i=some t:=by simp[ZO]
end TM
end
section
set_option autoImplicit false
namespace PM
open PySem PySem.W PySem.Calls PyProof.Rows PyProof PyProof.Rows.LCg PyProof.Rows.LCp
noncomputable def inD(d:PyData): PyData→Option Bool
 | .list xs=>if PyData.canLayAll0 xs=true∧d.canLay0=true∧d.depth≤64 then some (xs.any fun y=>PyData.eqv y d)else none
 | .tuple xs=>if PyData.canLayAll0 xs=true∧d.canLay0=true∧d.depth≤64 then some (xs.any fun y=>PyData.eqv y d)else none
 | _=>none
noncomputable def Zfo(a b:V)(H:Hp): Option Bool:=(toD H Zav a).bind fun d=>(toD H Zav b).bind fun e=>inD d e
noncomputable def oIn(a b:V)(H:Hp): Option (V×Hp):=(Zfo a b H).map fun c=>(.bool c,H)
section
variable {prog:Program} {w:World} {Γ:Cx}
theorem ZjS: Op2 prog w (compareOp .In) oIn:=by
 intro Γ W ρ H fr s Q E a b x y v H' r hx hy ho post
 obtain⟨c,e1,e2⟩:=Zz1.mp ho
 cases e2
 obtain⟨d,h1,e1⟩:=Zz0.mp e1
 obtain⟨e,h2,e1⟩:=Zz0.mp e1
 obtain⟨as,R1⟩:=Zch r Zav a x d hx h1
 obtain⟨bs,R2⟩:=Zch r Zav b y e hy h2
 have hu:=Γ.hu
 unfold inD at e1
 split at e1
 ·split at e1
  ·rename_i hs
   cases e1
   exact SeqAt.in_list_reads R2 R1 hs.1 hs.2.1 (by omega) (post W s.heap s.toks _ (.refl W) r (.bool _))
  ·cases e1
 ·split at e1
  ·rename_i hs
   cases e1
   exact SeqAt.in_tuple_reads R2 R1 hs.1 hs.2.1 (by omega) (post W s.heap s.toks _ (.refl W) r (.bool _))
  ·cases e1
 ·cases e1
end
end PM
end
section
set_option autoImplicit false
namespace TM
open PySem PM
noncomputable def Zdb(a b:T): Option Bool:=(ZaJ Zav a).bind fun d=>(ZaJ Zav b).bind fun e=>inD d e
noncomputable def qIn(a b:T): Option T:=(Zdb a b).map .bool
theorem Zjz{H:Hp}{v1 v2:V}{t1 t2:T}{F1 F2:List Nat}(r1:RF H v1 t1 F1)(r2:RF H v2 t2 F2): Zfo v1 v2 H=Zdb t1 t2:=by
 simp only[Zfo,Zdb,ZdC Zav _ _ _ r1,ZdC Zav _ _ _ r2]
theorem ZjW: OA2 oIn qIn:=fun H v1 v2 t1 t2 t F1 F2 r1 r2 h=>by
 obtain⟨c,h1,h⟩:=Zz1.mp h
 subst h
 exact⟨_,by simp only[oIn,Zjz r1 r2,h1,Option.map_some],.bool _⟩
theorem Zgk{d:T}: ∀{ts:List T},(∀t∈ts,(PyData.eqv (dd t) (dd d)=true↔t=d))→((dds ts).any fun y=>PyData.eqv y (dd d))=dec (d∈ts)
 | [],_=>by simp[dds,Zfe]
 | t::ts,h=>by
  have ih:=Zgk (d:=d) (ts:=ts) fun t m=>h t (Zz2 _ m)
  simp only[dds,List.any_cons,ih]
  symm
  apply Ze0
  rw[Bool.or_eq_true,h t Zz5,dec_iff]
  simp[eq_comm]
section
variable {Q:T→Prop}
end
section
variable {σ:TL} {L:List T→Prop}
end
end TM
end
section
set_option autoImplicit false
namespace TM
open PySem PM
theorem Zhn{fr:Bool}: SimF fr (fun _ _=>none) (fun _=>none):=by
 intro H vs ts t F1 hp r h
 cases h
end TM
end
section
set_option autoImplicit false
namespace PM
open PySem PySem.W PySem.Calls PyProof.Rows PyProof PySem.Spec
section
variable {prog:Program} {w:World} {Γ:Cx}
theorem ln1{α:Type _}: ∀{xs:List α},xs.length=1→∃x0,xs=[x0]
 | [x0],_=>⟨x0,rfl⟩
theorem ln2{α:Type _}: ∀{xs:List α},xs.length=2→∃x0 x1,xs=[x0,x1]
 | [x0,x1],_=>⟨x0,x1,rfl⟩
theorem ln3{α:Type _}: ∀{xs:List α},xs.length=3→∃x0 x1 x2,xs=[x0,x1,x2]
 | [x0,x1,x2],_=>⟨x0,x1,x2,rfl⟩
theorem ln4{α:Type _}: ∀{xs:List α},xs.length=4→∃x0 x1 x2 x3,xs=[x0,x1,x2,x3]
 | [x0,x1,x2,x3],_=>⟨x0,x1,x2,x3,rfl⟩
theorem ln5{α:Type _}: ∀{xs:List α},xs.length=5→∃x0 x1 x2 x3 x4,xs=[x0,x1,x2,x3,x4]
 | [x0,x1,x2,x3,x4],_=>⟨x0,x1,x2,x3,x4,rfl⟩
theorem ln6{α:Type _}: ∀{xs:List α},xs.length=6→∃x0 x1 x2 x3 x4 x5,xs=[x0,x1,x2,x3,x4,x5]
 | [x0,x1,x2,x3,x4,x5],_=>⟨x0,x1,x2,x3,x4,x5,rfl⟩
theorem ln7{α:Type _}: ∀{xs:List α},xs.length=7→∃x0 x1 x2 x3 x4 x5 x6,xs=[x0,x1,x2,x3,x4,x5,x6]
 | [x0,x1,x2,x3,x4,x5,x6],_=>⟨x0,x1,x2,x3,x4,x5,x6,rfl⟩
theorem jI{k:Int}{n:Nat}{pos:Pos}: J prog w Γ (.Constant (.int k) n pos) (Zl k):=J.int _ _ _
theorem jN{n:Nat}{pos:Pos}: J prog w Γ (.Constant .none n pos) Zao:=J.none _ _
theorem jB{b:Bool}{n:Nat}{pos:Pos}: J prog w Γ (.Constant (.bool b) n pos) (Zbj b):=J.bool _ _ _
theorem jS{x:Str}{n:Nat}{pos:Pos}: J prog w Γ (.Constant (.str x) n pos) (Zaa x):=J.str _ _ _
theorem cO{elt iter:Expr}{x:Str}{px:Pos}{ifs:List Expr}{scope:Scope}{pos:Pos}{cl:List (Str×Addr)}{t:Nat}{g:Src}{c:Ts}{f:Ex}(hg:JI prog w Γ iter g)(hel:∀C ρ,J prog w (Zal Γ scope cl C [(x,t)] ρ) elt f)(hif:∀C ρ,JF prog w (Zal Γ scope cl C [(x,t)] ρ) ifs c)
  (hclos:closureFor scope Γ.env=pure cl:=by with_unfolding_all rfl) (hcell:∀y∈scope.names,y.2≠.cell:=by decide) (hkind:scope.kind=.function:=by exact rfl) (hnames:∀y∈scope.names,y.2=.local→scope.names.lookup y.1=some .local:=by decide) (hx:scope.names.lookup x=some .local:=by exact rfl) (hs:∀x,foldedSetIterable iter Γ.env x=pure x:=by intro _;rfl):
  J prog w Γ (.ListComp elt [⟨.Name x px,iter,ifs,0⟩] scope pos) (ZaV g (ZaM t) c f):=ZiU hg hel hif hclos hcell hkind hnames hx hs
theorem cT{elt iter:Expr}{x x₂:Str}{px px₂ tp:Pos}{kt:Nat}{scope:Scope}{pos:Pos}{cl:List (Str×Addr)}{t t₂:Nat}{g:Src}{f:Ex}(hg:JI2 prog w Γ iter g)(hel:∀C ρ,J prog w (Zal Γ scope cl C [(x,t),(x₂,t₂)] ρ) elt f)
  (hclos:closureFor scope Γ.env=pure cl:=by with_unfolding_all rfl) (hcell:∀y∈scope.names,y.2≠.cell:=by decide) (hkind:scope.kind=.function:=by exact rfl) (hnames:∀y∈scope.names,y.2=.local→scope.names.lookup y.1=some .local:=by decide) (hx:scope.names.lookup x=some .local:=by exact rfl) (hx₂:scope.names.lookup x₂=some .local:=by exact rfl) (hxx:x≠x₂:=by decide) (htt:t≠t₂:=by decide) (hs:∀x,foldedSetIterable iter Γ.env x=pure x:=by intro _;rfl):
  J prog w Γ (.ListComp elt [⟨.Tuple [.Name x px,.Name x₂ px₂] kt tp,iter,[],0⟩] scope pos) (ZaV g (ZcA t t₂) ZaG f):=Zh6 hg hel hclos hcell hkind hnames hx hx₂ hxx htt hs
theorem sO{elt iter:Expr}{x y:Str}{px py pos spos:Pos}{ifs:List Expr}{scope:Scope}{cl:List (Str×Addr)}{t i:Nat}{g:Src}{c:Ts}{f:Ex}(hy:Sto prog w Γ y i)(hg:JI prog w Γ iter g)(hel:∀C ρ,J prog w (Zal Γ scope cl C [(x,t)] ρ) elt f)(hif:∀C ρ,JF prog w (Zal Γ scope cl C [(x,t)] ρ) ifs c)
  (hsw:swapsWith (.ListComp elt [⟨.Name x px,iter,ifs,0⟩] scope pos) (some (.Name y py)) spos.line Γ.env=pure true:=by rfl)
  (hclos:closureFor scope Γ.env=pure cl:=by with_unfolding_all rfl) (hcell:∀y∈scope.names,y.2≠.cell:=by decide) (hkind:scope.kind=.function:=by exact rfl) (hnames:∀y∈scope.names,y.2=.local→scope.names.lookup y.1=some .local:=by decide) (hx:scope.names.lookup x=some .local:=by exact rfl) (hs:∀x,foldedSetIterable iter Γ.env x=pure x:=by intro _;rfl):
  S1 prog w Γ (.Assign [.Name y py] (.ListComp elt [⟨.Name x px,iter,ifs,0⟩] scope pos) spos) (Zag i (ZaV g (ZaM t) c f)):=ZgW hy hg hel hif hsw hclos hcell hkind hnames hx hs
end
section
variable {prog:Program} {w:World} {dp un:Nat} {gd:Option (List Code)} {cn:Str} {cs:Scope} {L a:Addr} {ccd:Value} {cl:List (Str×Addr)} {outer:List Env} {h₀:Heap} {hu:un+200<cLine} {names:List Str}
theorem vL{x:Str}{i:Nat}{pos:Pos}(hi:names[i]?=some x:=by rfl)(hx:cs.names.lookup x=some .local:=by exact rfl)(hk:cs.kind=.function:=by exact rfl)(hd:(x == ("__debug__":Str))=false:=by exact rfl): J prog w (Zaw dp un gd cn cs L a ccd cl outer h₀ hu names) (.Name x pos) (Zc i):=ZdH (ZiS hi hx hk hd)
theorem vC{x:Str}{i:Nat}{pos:Pos}(hi:names[i]?=some x:=by rfl)(hx:cs.names.lookup x=some .cell:=by exact rfl)(hk:cs.kind=.function:=by exact rfl)(hd:(x == ("__debug__":Str))=false:=by exact rfl): J prog w (Zaw dp un gd cn cs L a ccd cl outer h₀ hu names) (.Name x pos) (Zc i):=ZdH (ZiT hi hx hk hd)
theorem sL{x:Str}{i:Nat}(nd:names.Nodup:=by decide)(hi:names[i]?=some x:=by rfl)(hx:cs.names.lookup x=some .local:=by exact rfl)(hk:cs.kind=.function:=by exact rfl): Sto prog w (Zaw dp un gd cn cs L a ccd cl outer h₀ hu names) x i:=Zh4 nd hi hx hk
theorem sC{x:Str}{i:Nat}(nd:names.Nodup:=by decide)(hi:names[i]?=some x:=by rfl)(hx:cs.names.lookup x=some .cell:=by exact rfl)(hk:cs.kind=.function:=by exact rfl)(hcl:(cl.lookup x).isSome=true:=by exact rfl): Sto prog w (Zaw dp un gd cn cs L a ccd cl outer h₀ hu names) x i:=Zh5 nd hi hx hk hcl
end
section
variable {prog:Program} {w:World} {K:Frag} {p:Program} {loose:List Str} {mean:ExcName→Option Value} {mg mb:Str→Option Value} {Γ:Cx} {dp un:Nat}
theorem nB{x:Str}{v:Value}(clr:Clr K p loose mean mg mb Γ dp un)(e:nsIn K mainGlobals x=some Option.none:=by k_is)(hv:bootBuiltins x=some v:=by boot_by_name)(hn:x≠"__name__":=by decide)(hg:Γ.env.globals=mainGlobals:=by exact rfl)(hb:Γ.env.builtins=builtinsNs:=by exact rfl)(hk:Γ.env.scope.kind=.function:=by exact rfl)(hx:Γ.env.kindOf x=some .globalImplicit:=by exact rfl)(hd:(x == ("__debug__":Str))=false:=by exact rfl): Nm prog w Γ x v:=ZhE clr e hv hn hg hb hk hx hd
theorem cF{x:Str}{np pos:Pos}{f:Addr}{room:Nat}{e:Expr}{es:List Expr}{g:Exs}{o:List V→Hp→Option (V×Hp)}(clr:Clr K p loose mean mg mb Γ dp un)(D:Def prog w K p loose mean mg mb f room o)(h:Js prog w Γ (e::es) g)
  (en:nsIn K mainGlobals x=some (some (.ref f)):=by k_is) (hg:Γ.env.globals=mainGlobals:=by exact rfl) (hk:Γ.env.scope.kind=.function:=by exact rfl) (hx:Γ.env.kindOf x=some .globalImplicit:=by exact rfl) (hd0:(x == ("__debug__":Str))=false:=by exact rfl)
  (hkeep:keepIn K (.ref f)=true:=by k_is) (hd:dp+room<recursionLimit:=by omega) (hu:un+10*room+300<cLine:=by omega)
  (he:starEach (e::es) Γ.env=(false,eval e Γ.env)::starEach es Γ.env:=by rfl) (hp:∀pos,(backTo pos (starEach es Γ.env)).any (·.1)=false:=by intro _;rfl):J prog w Γ (.Call (.Name x np) (e::es) [] pos) (Zy o g):=Zh7 clr (ZiX clr en hg hk hx hd0) hkeep D hd hu h he hp
theorem Dof{name qual:Str}{params:Arguments}{body:List Stmt}{scope:Scope}{dV kV doc pm cdv ct oc:Value}{an od:Option Addr}{osl:Array (Option Value)}{f:Addr}{names:List Str}{n room:Nat}{g:Sm}
  (hbody:∀(dp un:Nat) (gd:Option (List Code)) (L:Addr) (outer:List Env) (h₀:Heap) (hu:un+200<cLine),Clr K p loose mean mg mb (Zaw dp un gd qual scope L f cdv (cellsFrom (L+1) scope.names []) outer h₀ hu names) dp un→dp+room<recursionLimit→un+10*room+300<cLine →
   Ss prog w (Zaw dp un gd qual scope L f cdv (cellsFrom (L+1) scope.names []) outer h₀ hu names) body g)
  (ho:K.lookup f=some ⟨oc,od,.func (fnOf name qual params body scope dV kV doc pm an cdv ct),osl⟩:=by k_is) (hcd:codeIn K cdv qual=true:=by k_is) (nd:names.Nodup:=by decide) (hn:n≤names.length:=by decide)
  (hbind:∀s xs,xs.length=n→BindsTo s (fnOf name qual params body scope dV kV doc pm an cdv ct) ⟨xs,[]⟩ ((names.take n).zip xs):=by
   intro s xs hx
   first
   | (obtain⟨x0,rfl⟩:=ln1 hx;exact BindsTo.of_eq rfl)
   | (obtain⟨x0,x1,rfl⟩:=ln2 hx;exact BindsTo.of_eq rfl)
   | (obtain⟨x0,x1,x2,rfl⟩:=ln3 hx;exact BindsTo.of_eq rfl)
   | (obtain⟨x0,x1,x2,x3,rfl⟩:=ln4 hx;exact BindsTo.of_eq rfl)
   | (obtain⟨x0,x1,x2,x3,x4,rfl⟩:=ln5 hx;exact BindsTo.of_eq rfl)
   | (obtain⟨x0,x1,x2,x3,x4,x5,rfl⟩:=ln6 hx;exact BindsTo.of_eq rfl)
   | (obtain⟨x0,x1,x2,x3,x4,x5,x6,rfl⟩:=ln7 hx;exact BindsTo.of_eq rfl)) (hkinds:∀x∈names.take n,scope.names.lookup x=some .local∨scope.names.lookup x=some .cell:=by decide) (hone:((cellsFrom 0 scope.names []).map (·.1)).Nodup:=by decide +kernel)
  (hco:scope.isCoroutine=false:=by exact rfl) (hgen:scope.isGenerator=false:=by exact rfl) (hk:scope.kind=.function:=by exact rfl):
  Def prog w K p loose mean mg mb f (room+1) (Zah n g):=Def.of ho hcd nd hn hbind hkinds hone hco hgen hk hbody
end
section
variable {prog:Program} {w:World} {Γ:Cx} {scope:Scope} {cl:List (Str×Addr)} {C:Addr} {ts:List (Str×Nat)} {ρ0:Lc}
theorem vO{x:Str}{t:Nat}{pos:Pos}(hm:(x,t)∈ts:=by first | exact Zz5 | exact Zz2 _ Zz5)(hk:scope.kind=.function:=by exact rfl)(hl:(compEnvC scope cl C Γ.env).kindOf x=some .local:=by exact rfl)(hd:(x == ("__debug__":Str))=false:=by exact rfl): J prog w (Zal Γ scope cl C ts ρ0) (.Name x pos) (Zc t):=ZdH (Zh9 hm hk hl hd)
end
section
variable {prog:Program} {w:World} {dp un:Nat} {gd:Option (List Code)} {cn:Str} {cs:Scope} {L a:Addr} {ccd:Value} {clf:List (Str×Addr)} {outer:List Env} {h₀:Heap} {hu:un+200<cLine} {names:List Str} {scope:Scope} {cl:List (Str×Addr)} {C:Addr} {ts:List (Str×Nat)} {ρ0:Lc}
theorem vD{x:Str}{i:Nat}{pos:Pos}(hi:names[i]?=some x:=by rfl)(hx:cs.names.lookup x=some .cell:=by exact rfl)(hne:∀p∈ts,p.2≠i:=by decide)(hcl:cl.lookup x=clf.lookup x:=by exact rfl)(hk:scope.kind=.function:=by exact rfl)(hl:(compEnvC scope cl C (envX cn cs L a ccd clf)).kindOf x=some .cell:=by exact rfl)(hd:(x == ("__debug__":Str))=false:=by exact rfl):
  J prog w (Zal (Zaw dp un gd cn cs L a ccd clf outer h₀ hu names) scope cl C ts ρ0) (.Name x pos) (Zc i):=ZdH (Zia hi hx hne hcl hk hl hd)
end
end PM
end
section
open PySem PM TM
namespace L
noncomputable def Zel: Sm:=Zz (ZP (ZL (Zf oLt (Zc 1) (Zy Zbn (Zh (Zc 0) Zr)))) (ZH (Zf Zx (Zc 0) (Zc 1))) ZW) (ZH (Zl 0))
noncomputable def Zba:=Zah 2 Zel
noncomputable def Zem: PS:=(Zw (ZQ (ZK (Zb qLt (Za 1) (Zu Zbg (Ze (Za 0) Zo)))) (ZG (Zb Zv (Za 0) (Za 1))) ZR) (ZG (Zg 0)))
noncomputable def Zar:=Zai 2 Zem
theorem Zbs: SimF false Zba Zar:=SimF.of (show S [] [] [] false Zel Zem from(ZF (Z5 (ZN (Zn Zfj (Zd 1) (ZaP Zc6 (Zk (Zd 0) Zt)))) (ZM (ZA ZC (Zd 0) (Zd 1))) Z4) (ZM (Zm _))))
noncomputable def ZdV: Sm:=Zz (Zag 1 (Zf Za1 (Zf oDiv (Zc 0) (Zl 5)) (Zf oPow (Zl 48271) (Zl 14)))) (Zz (ZP (ZL (Zf oEq (Zf oMod (Zc 0) (Zl 5)) (Zl 0))) (ZH (Zf Zau (Zf oMod (Zc 1) (Zl 13)) (Zl 6))) ZW) (Zz (ZP (ZL (Zf oEq (Zf oMod (Zc 0) (Zl 5)) (Zl 1))) (ZH (Zf Zau (Zf oMod (Zc 1) (Zl 2001)) (Zl 1000))) ZW) (Zz (ZP (ZL (Zf oEq (Zf oMod (Zc 0) (Zl 5)) (Zl 2))) (ZH (Zf Zau (Zf oMod (Zc 1) (Zf Zau (Zf Za1 (Zl 2) (Zf oPow (Zl 10) (Zl 60))) (Zl 1))) (Zf Zau (Zf oPow (Zl 10) (Zl 60)) (Zl 1)))) ZW) (Zz (ZP (ZL (Zf oEq (Zf oMod (Zc 0) (Zl 5)) (Zl 3))) (ZH (Zf Zau (Zf oMod (Zc 1) (Zf Z6 (Zf Za1 (Zl 2) (Zf oPow (Zl 10) (Zl 9))) (Zl 1))) (Zf oPow (Zl 10) (Zl 9)))) ZW) (ZH (Zf oMod (Zc 1) (Zl 9)))))))
noncomputable def Zcd:=Zah 1 ZdV
noncomputable def ZdW: PS:=(Zw (Z9 1 (Zb ZaX (Zb Zan (Za 0) (Zg 5)) (Zb Zap (Zg 48271) (Zg 14)))) (Zw (ZQ (ZK (Zb ZV (Zb ZX (Za 0) (Zg 5)) (Zg 0))) (ZG (Zb Zay (Zb ZX (Za 1) (Zg 13)) (Zg 6))) ZR) (Zw (ZQ (ZK (Zb ZV (Zb ZX (Za 0) (Zg 5)) (Zg 1))) (ZG (Zb Zay (Zb ZX (Za 1) (Zg 2001)) (Zg 1000))) ZR) (Zw (ZQ (ZK (Zb ZV (Zb ZX (Za 0) (Zg 5)) (Zg 2))) (ZG (Zb Zay (Zb ZX (Za 1) (Zb Zay (Zb ZaX (Zg 2) (Zb Zap (Zg 10) (Zg 60))) (Zg 1))) (Zb Zay (Zb Zap (Zg 10) (Zg 60)) (Zg 1)))) ZR) (Zw (ZQ (ZK (Zb ZV (Zb ZX (Za 0) (Zg 5)) (Zg 3))) (ZG (Zb Zay (Zb ZX (Za 1) (Zb ZI (Zb ZaX (Zg 2) (Zb Zap (Zg 10) (Zg 9))) (Zg 1))) (Zb Zap (Zg 10) (Zg 9)))) ZR) (ZG (Zb ZX (Za 1) (Zg 9))))))))
noncomputable def Za9:=Zai 1 ZdW
theorem Zdd: SimF false Zcd Za9:=SimF.of (show S [] [] [] false ZdV ZdW from(ZF (Zat (O':=[]) (Z3 ZbP (Zn ZaW (Zd 0) (Zm _)) (Zn Zbf (Zm _) (Zm _)))) (ZF (Z5 (ZN (Zn Zaf (Zn Zae (Zd 0) (Zm _)) (Zm _))) (ZM (Zn ZaC (Zn Zae (Zd 1) (Zm _)) (Zm _))) Z4) (ZF (Z5 (ZN (Zn Zaf (Zn Zae (Zd 0) (Zm _)) (Zm _))) (ZM (Zn ZaC (Zn Zae (Zd 1) (Zm _)) (Zm _))) Z4) (ZF (Z5 (ZN (Zn Zaf (Zn Zae (Zd 0) (Zm _)) (Zm _))) (ZM (Zn ZaC (Zn Zae (Zd 1) (Zn ZaC (Z3 ZbP (Zm _) (Zn Zbf (Zm _) (Zm _))) (Zm _))) (Zn ZaC (Zn Zbf (Zm _) (Zm _)) (Zm _)))) Z4) (ZF (Z5 (ZN (Zn Zaf (Zn Zae (Zd 0) (Zm _)) (Zm _))) (ZM (Zn ZaC (Zn Zae (Zd 1) (Z3 Zab (Z3 ZbP (Zm _) (Zn Zbf (Zm _) (Zm _))) (Zm _))) (Zn Zbf (Zm _) (Zm _)))) Z4) (ZM (Zn Zae (Zd 1) (Zm _)))))))))
noncomputable def Ze4: Sm:=ZH (Zf Z6 (Zf Z6 (ZbI (Zc 0) Zb1 (Zb2 (Zf Zau (Zc 1) (Zl 1)))) (Za2 (Zh (Zc 2) Zr))) (ZbI (Zc 0) (Zb2 (Zc 1)) Zb1))
noncomputable def Ze5:=Zah 3 Ze4
noncomputable def Ze6: PS:=(ZG (pFl (Zb ZI (Zb ZI (ZbM (Za 0) ZbY (ZbZ (Zb Zay (Za 1) (Zg 1)))) (ZaZ (Ze (Za 2) Zo))) (ZbM (Za 0) (ZbZ (Za 1)) ZbY))))
noncomputable def ZcZ:=Zai 3 Ze6
theorem ZjA: SimF true Ze5 ZcZ:=SimF.of (show S [] [] [] true Ze4 Ze6 from(ZdE (Zi1 Zab (Z3 Zab (ZfW (Zd 0) Pe.none (Pe.some (Zn ZaC (Zd 1) (Zm _)))) (E.list (Zk (Zd 2) Zt))) (ZfW (Zd 0) (Pe.some (Zd 1)) Pe.none))))
noncomputable def ZdX: Sm:=Zz (Zag 2 (Zf Zx (Zc 0) (Zl 0))) (Zz (Zb9 (Zbv (Zh (Zy Zbn (Zh (Zc 1) Zr)) Zr)) (ZaM 3) (Zag 2 (Zf Z6 (Zc 2) (Zf Za1 (Zf Zx (Zc 0) (Zf Z6 (Zc 3) (Zl 1))) (Zf Zx (Zc 1) (Zc 3)))))) (ZH (Zc 2)))
noncomputable def ZbV:=Zah 2 ZdX
noncomputable def ZdY: PS:=(Zw (Z9 2 (Zb Zv (Za 0) (Zg 0))) (Zw (ZcD (ZaU (Ze (Zu Zbg (Ze (Za 1) Zo)) Zo)) (ZaI 3) (Z9 2 (Zb ZI (Za 2) (Zb ZaX (Zb Zv (Za 0) (Zb ZI (Za 3) (Zg 1))) (Zb Zv (Za 1) (Za 3)))))) (ZG (Za 2))))
noncomputable def ZaQ:=Zai 2 ZdY
theorem ZcF: SimF false ZbV ZaQ:=SimF.of (show S [] [] [] false ZdX ZdY from(ZF (Zat (O':=[]) (ZA ZC (Zd 0) (Zm _))) (ZF (Zfc (Gs.range (Zk (ZaP Zc6 (Zk (Zd 1) Zt)) Zt)) PutOk.one (by decide) (by decide) (Zat (O':=[]) (Z3 Zab (Zd 2) (Z3 ZbP (ZA ZC (Zd 0) (Z3 Zab (Zd 3) (Zm _))) (ZA ZC (Zd 1) (Zd 3)))))) (ZM (Zd 2)))))
noncomputable def Zen: Sm:=Zz (ZP (ZL (Zf oEq (Zf oMod (Zc 2) (Zl 2)) (Zl 0))) (ZH (Zc 0)) ZW) (ZH (Zf Z6 (Za2 (Zh (Zf Zau (Zf Z6 (Zf Zau (Zf Zx (Zc 0) (Zl 0)) (Zy ZbV (Zh (Zc 0) (Zh (Zc 1) Zr)))) (Zf oMod (Zf oDiv (Zc 2) (Zl 2)) (Zl 3))) (Zl 1)) Zr)) (Zb3 (Zc 0) 1)))
noncomputable def Zeo:=Zah 3 Zen
noncomputable def Zep: PS:=(Zw (ZQ (ZK (Zb ZV (Zb ZX (Za 2) (Zg 2)) (Zg 0))) (ZG (Za 0)) ZR) (ZG (Zb ZI (ZaZ (Ze (Zb Zay (Zb ZI (Zb Zay (Zb Zv (Za 0) (Zg 0)) (Zu ZaQ (Ze (Za 0) (Ze (Za 1) Zo)))) (Zb ZX (Zb Zan (Za 2) (Zg 2)) (Zg 3))) (Zg 1)) Zo)) (Zcx (Za 0) 1))))
noncomputable def ZcK:=Zai 3 Zep
theorem Zg2: SimF false Zeo ZcK:=SimF.of (show S [] [] [] false Zen Zep from(ZF (Z5 (ZN (Zn Zaf (Zn Zae (Zd 2) (Zm _)) (Zm _))) (ZM (Zd 0)) Z4) (ZM (Z3 Zab (E.list (Zk (Zn ZaC (Z3 Zab (Zn ZaC (ZA ZC (Zd 0) (Zm _)) (Z7 ZcF (Zk (Zd 0) (Zk (Zd 1) Zt)))) (Zn Zae (Zn ZaW (Zd 2) (Zm _)) (Zm _))) (Zm _)) Zt)) (Zgd (Zd 0))))))
noncomputable def ZdS: Sm:=Zz (Zag 3 (Zy Zc2 (Zh (Zc 0) (Zh (Zc 1) Zr)))) (Zz (Zag 4 (Zy Zc1 (Zh (Zc 0) (Zh (Zc 1) Zr)))) (Zz (ZP (Za4 (ZL (Zf oEq (Zf oMod (Zc 2) (Zl 4)) (Zl 1))) (Za4 (ZL (Zf oEq (Zf oMod (Zf oDiv (Zc 2) (Zl 4)) (Zl 4)) (Zl 1))) ZaG)) (ZH (Zak (Zh (Zao) (Zh (Zao) Zr)))) ZW) (Zz (ZP (ZL (Zf oEq (Zf oMod (Zc 2) (Zl 4)) (Zl 1))) (ZH (Zak (Zh (Zao) (Zh (Zc 4) Zr)))) ZW) (Zz (ZP (ZL (Zf oEq (Zf oMod (Zf oDiv (Zc 2) (Zl 4)) (Zl 4)) (Zl 1))) (ZH (Zak (Zh (Zc 3) (Zh (Zao) Zr)))) ZW) (ZH (Zak (Zh (Zc 3) (Zh (Zc 4) Zr))))))))
noncomputable def ZdT:=Zah 3 ZdS
noncomputable def ZdU: PS:=(Zw (Z9 3 (Zu Zcv (Ze (Za 0) (Ze (Za 1) Zo)))) (Zw (Z9 4 (Zu Zcu (Ze (Za 0) (Ze (Za 1) Zo)))) (Zw (ZQ (Za5 (ZK (Zb ZV (Zb ZX (Za 2) (Zg 4)) (Zg 1))) (Za5 (ZK (Zb ZV (Zb ZX (Zb Zan (Za 2) (Zg 4)) (Zg 4)) (Zg 1))) Zas)) (ZG (Zam (Ze (Zax) (Ze (Zax) Zo)))) ZR) (Zw (ZQ (ZK (Zb ZV (Zb ZX (Za 2) (Zg 4)) (Zg 1))) (ZG (Zam (Ze (Zax) (Ze (Za 4) Zo)))) ZR) (Zw (ZQ (ZK (Zb ZV (Zb ZX (Zb Zan (Za 2) (Zg 4)) (Zg 4)) (Zg 1))) (ZG (Zam (Ze (Za 3) (Ze (Zax) Zo)))) ZR) (ZG (Zam (Ze (Za 3) (Ze (Za 4) Zo)))))))))
noncomputable def ZcE:=Zai 3 ZdU
theorem ZgC: SimF false ZdT ZcE:=SimF.of (show S [] [] [] false ZdS ZdU from(ZF (Zat (O':=[]) (ZaP Zgb (Zk (Zd 0) (Zk (Zd 1) Zt)))) (ZF (Zat (O':=[]) (ZaP Zga (Zk (Zd 0) (Zk (Zd 1) Zt)))) (ZF (Z5 (ZbL (ZN (Zn Zaf (Zn Zae (Zd 2) (Zm _)) (Zm _))) (ZbL (ZN (Zn Zaf (Zn Zae (Zn ZaW (Zd 2) (Zm _)) (Zm _)) (Zm _))) Zbt)) (ZM (E.tup (Zk (ZaB) (Zk (ZaB) Zt)))) Z4) (ZF (Z5 (ZN (Zn Zaf (Zn Zae (Zd 2) (Zm _)) (Zm _))) (ZM (E.tup (Zk (ZaB) (Zk (Zd 4) Zt)))) Z4) (ZF (Z5 (ZN (Zn Zaf (Zn Zae (Zn ZaW (Zd 2) (Zm _)) (Zm _)) (Zm _))) (ZM (E.tup (Zk (Zd 3) (Zk (ZaB) Zt)))) Z4) (ZM (E.tup (Zk (Zd 3) (Zk (Zd 4) Zt))))))))))
noncomputable def Zeq: Sm:=Zz (Zag 5 (Za2 (Zh (Zak (Zh (Zaa (Str.ofString "set")) (Zh (Zc 1) (Zh (Zc 0) Zr)))) (Zh (Zak (Zh (Zaa (Str.ofString "part")) (Zh (Zc 1) (Zh (Zc 0) (Zh (Zc 2) Zr))))) (Zh (Zak (Zh (Zaa (Str.ofString "rest")) (Zh (Zc 1) (Zh (Zc 0) (Zh (Zc 2) Zr))))) (Zh (Zak (Zh (Zaa (Str.ofString "any")) (Zh (Zc 1) (Zh (Zf Zx (Zc 3) (Zl 0)) (Zh (Zf Zx (Zc 3) (Zl 1)) Zr))))) Zr)))))) (Zz (Zag 5 (Zf Z6 (Zc 5) (Za2 (Zh (Zak (Zh (Zaa (Str.ofString "when")) (Zh (Zak (Zh (Zaa (Str.ofString "under")) (Zh (Zc 0) Zr))) (Zh (Zc 4) Zr)))) (Zh (Zak (Zh (Zaa (Str.ofString "when")) (Zh (Zak (Zh (Zaa (Str.ofString "same")) (Zh (Zc 0) Zr))) (Zh (Zc 4) Zr)))) (Zh (Zak (Zh (Zaa (Str.ofString "when")) (Zh (Zak (Zh (Zaa (Str.ofString "even")) (Zh (Zc 0) (Zh (Zc 2) Zr)))) (Zh (Zc 4) Zr)))) Zr)))))) (ZH (Zf Z6 (Zc 5) (Za2 (Zh (Zak (Zh (Zaa (Str.ofString "go")) Zr)) (Zh (Zak (Zh (Zaa (Str.ofString "say")) (Zh (Zak (Zh (Zaa (Str.ofString "same")) (Zh (Zc 0) Zr))) Zr))) (Zh (Zak (Zh (Zaa (Str.ofString "say")) (Zh (Zak (Zh (Zaa (Str.ofString "even")) (Zh (Zc 0) (Zh (Zc 2) Zr)))) Zr))) Zr)))))))
noncomputable def Zer:=Zah 5 Zeq
noncomputable def Zes: PS:=(Zw (Z9 5 (ZaZ (Ze (Zam (Ze (Zac (Str.ofString "set")) (Ze (Za 1) (Ze (Za 0) Zo)))) (Ze (Zam (Ze (Zac (Str.ofString "part")) (Ze (Za 1) (Ze (Za 0) (Ze (Za 2) Zo))))) (Ze (Zam (Ze (Zac (Str.ofString "rest")) (Ze (Za 1) (Ze (Za 0) (Ze (Za 2) Zo))))) (Ze (Zam (Ze (Zac (Str.ofString "any")) (Ze (Za 1) (Ze (Zb Zv (Za 3) (Zg 0)) (Ze (Zb Zv (Za 3) (Zg 1)) Zo))))) Zo)))))) (Zw (Z9 5 (Zb ZI (Za 5) (ZaZ (Ze (Zam (Ze (Zac (Str.ofString "when")) (Ze (Zam (Ze (Zac (Str.ofString "under")) (Ze (Za 0) Zo))) (Ze (Za 4) Zo)))) (Ze (Zam (Ze (Zac (Str.ofString "when")) (Ze (Zam (Ze (Zac (Str.ofString "same")) (Ze (Za 0) Zo))) (Ze (Za 4) Zo)))) (Ze (Zam (Ze (Zac (Str.ofString "when")) (Ze (Zam (Ze (Zac (Str.ofString "even")) (Ze (Za 0) (Ze (Za 2) Zo)))) (Ze (Za 4) Zo)))) Zo)))))) (ZG (Zb ZI (Za 5) (ZaZ (Ze (Zam (Ze (Zac (Str.ofString "go")) Zo)) (Ze (Zam (Ze (Zac (Str.ofString "say")) (Ze (Zam (Ze (Zac (Str.ofString "same")) (Ze (Za 0) Zo))) Zo))) (Ze (Zam (Ze (Zac (Str.ofString "say")) (Ze (Zam (Ze (Zac (Str.ofString "even")) (Ze (Za 0) (Ze (Za 2) Zo)))) Zo))) Zo))))))))
noncomputable def ZcL:=Zai 5 Zes
theorem Zg3: SimF false Zer ZcL:=SimF.of (show S [] [] [] false Zeq Zes from(ZF (Zat (O':=[]) (E.list (Zk (E.tup (Zk (E.str _) (Zk (Zd 1) (Zk (Zd 0) Zt)))) (Zk (E.tup (Zk (E.str _) (Zk (Zd 1) (Zk (Zd 0) (Zk (Zd 2) Zt))))) (Zk (E.tup (Zk (E.str _) (Zk (Zd 1) (Zk (Zd 0) (Zk (Zd 2) Zt))))) (Zk (E.tup (Zk (E.str _) (Zk (Zd 1) (Zk (ZA ZC (Zd 3) (Zm _)) (Zk (ZA ZC (Zd 3) (Zm _)) Zt))))) Zt)))))) (ZF (Zat (O':=[]) (Z3 Zab (Zd 5) (E.list (Zk (E.tup (Zk (E.str _) (Zk (E.tup (Zk (E.str _) (Zk (Zd 0) Zt))) (Zk (Zd 4) Zt)))) (Zk (E.tup (Zk (E.str _) (Zk (E.tup (Zk (E.str _) (Zk (Zd 0) Zt))) (Zk (Zd 4) Zt)))) (Zk (E.tup (Zk (E.str _) (Zk (E.tup (Zk (E.str _) (Zk (Zd 0) (Zk (Zd 2) Zt)))) (Zk (Zd 4) Zt)))) Zt)))))) (ZM (Z3 Zab (Zd 5) (E.list (Zk (E.tup (Zk (E.str _) Zt)) (Zk (E.tup (Zk (E.str _) (Zk (E.tup (Zk (E.str _) (Zk (Zd 0) Zt))) Zt))) (Zk (E.tup (Zk (E.str _) (Zk (E.tup (Zk (E.str _) (Zk (Zd 0) (Zk (Zd 2) Zt)))) Zt))) Zt)))))))))
noncomputable def Zeb: Sm:=Zz (ZP (Za4 (ZL (Zf oIs (Zf Zx (Zc 0) (Zl 0)) (Zao))) (Za4 (ZL (Zf oIs (Zf Zx (Zc 0) (Zl 1)) (Zao))) ZaG)) (ZH (Zc 1)) ZW) (Zz (ZP (ZL (Zf oIs (Zf Zx (Zc 0) (Zl 0)) (Zao))) (ZH (Zf Zau (Zf Zx (Zc 0) (Zl 1)) (Zy ZbT (Zh (Zc 1) Zr)))) ZW) (Zz (ZP (ZL (Zf oIs (Zf Zx (Zc 0) (Zl 1)) (Zao))) (ZH (Zf Z6 (Zf Zx (Zc 0) (Zl 0)) (Zy ZbT (Zh (Zc 1) Zr)))) ZW) (ZH (Zf Z6 (Zf Zx (Zc 0) (Zl 0)) (Zf oMod (Zc 1) (Zf Z6 (Zf Zau (Zf Zx (Zc 0) (Zl 1)) (Zf Zx (Zc 0) (Zl 0))) (Zl 1)))))))
noncomputable def Zec:=Zah 2 Zeb
noncomputable def Zed: PS:=(Zw (ZQ (Za5 (ZK (Zb qIs (Zb Zv (Za 0) (Zg 0)) (Zax))) (Za5 (ZK (Zb qIs (Zb Zv (Za 0) (Zg 1)) (Zax))) Zas)) (ZG (Za 1)) ZR) (Zw (ZQ (ZK (Zb qIs (Zb Zv (Za 0) (Zg 0)) (Zax))) (ZG (Zb Zay (Zb Zv (Za 0) (Zg 1)) (Zu Zbz (Ze (Za 1) Zo)))) ZR) (Zw (ZQ (ZK (Zb qIs (Zb Zv (Za 0) (Zg 1)) (Zax))) (ZG (Zb ZI (Zb Zv (Za 0) (Zg 0)) (Zu Zbz (Ze (Za 1) Zo)))) ZR) (ZG (Zb ZI (Zb Zv (Za 0) (Zg 0)) (Zb ZX (Za 1) (Zb ZI (Zb Zay (Zb Zv (Za 0) (Zg 1)) (Zb Zv (Za 0) (Zg 0))) (Zg 1))))))))
noncomputable def Zdi:=Zai 2 Zed
theorem ZgN: SimF false Zec Zdi:=SimF.of (show S [] [] [] false Zeb Zed from(ZF (Z5 (ZbL (ZN (Zn Za7 (ZA ZC (Zd 0) (Zm _)) (ZaB))) (ZbL (ZN (Zn Za7 (ZA ZC (Zd 0) (Zm _)) (ZaB))) Zbt)) (ZM (Zd 1)) Z4) (ZF (Z5 (ZN (Zn Za7 (ZA ZC (Zd 0) (Zm _)) (ZaB))) (ZM (Zn ZaC (ZA ZC (Zd 0) (Zm _)) (ZaP Zc7 (Zk (Zd 1) Zt)))) Z4) (ZF (Z5 (ZN (Zn Za7 (ZA ZC (Zd 0) (Zm _)) (ZaB))) (ZM (Z3 Zab (ZA ZC (Zd 0) (Zm _)) (ZaP Zc7 (Zk (Zd 1) Zt)))) Z4) (ZM (Z3 Zab (ZA ZC (Zd 0) (Zm _)) (Zn Zae (Zd 1) (Z3 Zab (Zn ZaC (ZA ZC (Zd 0) (Zm _)) (ZA ZC (Zd 0) (Zm _))) (Zm _)))))))))
noncomputable def ZdZ: Sm:=Zz (Zag 2 (Zy ZbV (Zh (Zf Zx (Zc 0) (Zl 1)) (Zh (Zc 1) Zr)))) (Zz (ZP (ZL (Zf oEq (Zf Zx (Zc 0) (Zl 0)) (Zaa (Str.ofString "under")))) (ZH (Zf oLt (Zc 2) (Zl 0))) ZW) (Zz (ZP (ZL (Zf oEq (Zf Zx (Zc 0) (Zl 0)) (Zaa (Str.ofString "same")))) (ZH (Zf oEq (Zc 2) (Zl 0))) ZW) (ZH (Zf oEq (Zf oMod (Zc 2) (Zf Zx (Zc 0) (Zl 2))) (Zl 0)))))
noncomputable def Zd0:=Zah 2 ZdZ
noncomputable def ZcG: PS:=(Zw (Z9 2 (Zu ZaQ (Ze (Zb Zv (Za 0) (Zg 1)) (Ze (Za 1) Zo)))) (Zw (ZQ (ZK (Zb ZV (Zb Zv (Za 0) (Zg 0)) (Zac (Str.ofString "under")))) (ZG (Zb qLt (Za 2) (Zg 0))) ZR) (Zw (ZQ (ZK (Zb ZV (Zb Zv (Za 0) (Zg 0)) (Zac (Str.ofString "same")))) (ZG (Zb ZV (Za 2) (Zg 0))) ZR) (ZG (Zb ZV (Zb ZX (Za 2) (Zb Zv (Za 0) (Zg 2))) (Zg 0))))))
noncomputable def Zbp:=Zai 2 ZcG
theorem ZgE: SimF false Zd0 Zbp:=SimF.of (show S [] [] [] false ZdZ ZcG from(ZF (Zat (O':=[]) (Z7 ZcF (Zk (ZA ZC (Zd 0) (Zm _)) (Zk (Zd 1) Zt)))) (ZF (Z5 (ZN (Zn Zaf (ZA ZC (Zd 0) (Zm _)) (E.str _))) (ZM (Zn Zfj (Zd 2) (Zm _))) Z4) (ZF (Z5 (ZN (Zn Zaf (ZA ZC (Zd 0) (Zm _)) (E.str _))) (ZM (Zn Zaf (Zd 2) (Zm _))) Z4) (ZM (Zn Zaf (Zn Zae (Zd 2) (ZA ZC (Zd 0) (Zm _))) (Zm _)))))))
noncomputable def Zd9: Sm:=Zz (Zag 3 (Zy ZbK (Zh (Zc 0) Zr))) (Zz (ZP (ZL (Zf oEq (Zf Zx (Zc 1) (Zl 0)) (Zaa (Str.ofString "when")))) (Zz (ZP (ZL (Zf oEq (Zy Zd0 (Zh (Zf Zx (Zc 1) (Zl 1)) (Zh (Zc 0) Zr))) (Zf Zx (Zc 1) (Zl 2)))) (ZH (Zc 3)) ZW) (ZH (Zao))) ZW) (Zz (ZP (ZL (Zf oEq (Zf Zx (Zc 1) (Zl 0)) (Zaa (Str.ofString "set")))) (Zb7 (Zy ZbV (Zh (Zf Zx (Zc 1) (Zl 2)) (Zh (Zc 0) Zr))) (Zc 3) (Zf Zau (Zf Zx (Zc 1) (Zl 1)) (Zl 1))) ZW) (Zz (ZP (ZL (Zf oEq (Zf Zx (Zc 1) (Zl 0)) (Zaa (Str.ofString "part")))) (Zb7 (Zf oDiv (Zy ZbV (Zh (Zf Zx (Zc 1) (Zl 2)) (Zh (Zc 0) Zr))) (Zf Zx (Zc 1) (Zl 3))) (Zc 3) (Zf Zau (Zf Zx (Zc 1) (Zl 1)) (Zl 1))) ZW) (Zz (ZP (ZL (Zf oEq (Zf Zx (Zc 1) (Zl 0)) (Zaa (Str.ofString "rest")))) (Zb7 (Zf oMod (Zy ZbV (Zh (Zf Zx (Zc 1) (Zl 2)) (Zh (Zc 0) Zr))) (Zf Zx (Zc 1) (Zl 3))) (Zc 3) (Zf Zau (Zf Zx (Zc 1) (Zl 1)) (Zl 1))) ZW) (Zz (ZP (ZL (Zf oEq (Zf Zx (Zc 1) (Zl 0)) (Zaa (Str.ofString "any")))) (Zb7 (Zy Zec (Zh (Zak (Zh (Zf Zx (Zc 1) (Zl 2)) (Zh (Zf Zx (Zc 1) (Zl 3)) Zr))) (Zh (Zc 2) Zr))) (Zc 3) (Zf Zau (Zf Zx (Zc 1) (Zl 1)) (Zl 1))) ZW) (ZH (Zc 3)))))))
noncomputable def Zea:=Zah 3 Zd9
noncomputable def Zbq: PS:=(Zw (Z9 3 (pFl (Zu Zbw (Ze (Za 0) Zo)))) (Zw (ZQ (ZK (Zb ZV (Zb Zv (Za 1) (Zg 0)) (Zac (Str.ofString "when")))) (Zw (ZQ (ZK (Zb ZV (Zu Zbp (Ze (Zb Zv (Za 1) (Zg 1)) (Ze (Za 0) Zo))) (Zb Zv (Za 1) (Zg 2)))) (ZG (Za 3)) ZR) (ZG (Zax))) ZR) (Zw (ZQ (ZK (Zb ZV (Zb Zv (Za 1) (Zg 0)) (Zac (Str.ofString "set")))) (Zcc 3 [] (Zc5 (Zu ZaQ (Ze (Zb Zv (Za 1) (Zg 2)) (Ze (Za 0) Zo)))) Zbm (Zb Zay (Zb Zv (Za 1) (Zg 1)) (Zg 1))) ZR) (Zw (ZQ (ZK (Zb ZV (Zb Zv (Za 1) (Zg 0)) (Zac (Str.ofString "part")))) (Zcc 3 [] (Zb Zan (Zu ZaQ (Ze (Zb Zv (Za 1) (Zg 2)) (Ze (Za 0) Zo))) (Zb Zv (Za 1) (Zg 3))) Zbm (Zb Zay (Zb Zv (Za 1) (Zg 1)) (Zg 1))) ZR) (Zw (ZQ (ZK (Zb ZV (Zb Zv (Za 1) (Zg 0)) (Zac (Str.ofString "rest")))) (Zcc 3 [] (Zb ZX (Zu ZaQ (Ze (Zb Zv (Za 1) (Zg 2)) (Ze (Za 0) Zo))) (Zb Zv (Za 1) (Zg 3))) Zbm (Zb Zay (Zb Zv (Za 1) (Zg 1)) (Zg 1))) ZR) (Zw (ZQ (ZK (Zb ZV (Zb Zv (Za 1) (Zg 0)) (Zac (Str.ofString "any")))) (Zcc 3 [] (Zc5 (Zu Zdi (Ze (Zam (Ze (Zb Zv (Za 1) (Zg 2)) (Ze (Zb Zv (Za 1) (Zg 3)) Zo))) (Ze (Za 2) Zo)))) Zbm (Zb Zay (Zb Zv (Za 1) (Zg 1)) (Zg 1))) ZR) (ZG (Za 3))))))))
noncomputable def ZaF:=Zai 3 Zbq
theorem ZgI: SimF false Zea ZaF:=SimF.of (show S [] [3] [] false Zd9 Zbq from(ZF (Zge (O':=[3]) (ZfU ZeM (Zk (Zd 0) Zt))) (ZF (Z5 (ZN (Zn Zaf (ZA ZC (Zd 1) (Zm _)) (E.str _))) (ZF (Z5 (ZN (Zn Zaf (Z7 ZgE (Zk (ZA ZC (Zd 1) (Zm _)) (Zk (Zd 0) Zt))) (ZA ZC (Zd 1) (Zm _)))) (ZM (Zd 3)) Z4) (ZM (ZaB))) Z4) (ZF (Z5 (ZN (Zn Zaf (ZA ZC (Zd 1) (Zm _)) (E.str _))) (S.put (O':=[3]) (by decide) (Zc4 (O':=[]) (E.flat (Z7 ZcF (Zk (ZA ZC (Zd 1) (Zm _)) (Zk (Zd 0) Zt))))) ZcY (Zn ZaC (ZA ZC (Zd 1) (Zm _)) (Zm _)) (by decide) (by decide)) Z4) (ZF (Z5 (ZN (Zn Zaf (ZA ZC (Zd 1) (Zm _)) (E.str _))) (S.put (O':=[3]) (by decide) (Zc4 (O':=[]) (Zn ZaW (Z7 ZcF (Zk (ZA ZC (Zd 1) (Zm _)) (Zk (Zd 0) Zt))) (ZA ZC (Zd 1) (Zm _)))) ZcY (Zn ZaC (ZA ZC (Zd 1) (Zm _)) (Zm _)) (by decide) (by decide)) Z4) (ZF (Z5 (ZN (Zn Zaf (ZA ZC (Zd 1) (Zm _)) (E.str _))) (S.put (O':=[3]) (by decide) (Zc4 (O':=[]) (Zn Zae (Z7 ZcF (Zk (ZA ZC (Zd 1) (Zm _)) (Zk (Zd 0) Zt))) (ZA ZC (Zd 1) (Zm _)))) ZcY (Zn ZaC (ZA ZC (Zd 1) (Zm _)) (Zm _)) (by decide) (by decide)) Z4) (ZF (Z5 (ZN (Zn Zaf (ZA ZC (Zd 1) (Zm _)) (E.str _))) (S.put (O':=[3]) (by decide) (Zc4 (O':=[]) (E.flat (Z7 ZgN (Zk (E.tup (Zk (ZA ZC (Zd 1) (Zm _)) (Zk (ZA ZC (Zd 1) (Zm _)) Zt))) (Zk (Zd 2) Zt))))) ZcY (Zn ZaC (ZA ZC (Zd 1) (Zm _)) (Zm _)) (by decide) (by decide)) Z4) (ZM (Zd 3)))))))))
noncomputable def ZeP: Sm:=ZH (Zf Z6 (Zf Zx (Zc 0) (Zl 0)) (Zy Zc8 (Zh (ZaV (ZdN (Zb3 (Zc 0) 1) (Zc 1)) (ZcA 100 101) ZaG (Zf Za1 (Zc 100) (Zc 101))) Zr)))
noncomputable def Zdz:=Zah 2 ZeP
noncomputable def ZeQ: PS:=(ZG (Zb ZI (Zb Zv (Za 0) (Zg 0)) (Zu ZdO (Ze (ZaL (ZdP (Zcx (Za 0) 1) (Za 1)) (ZdI 100 101) Zas (Zb ZaX (Za 100) (Za 101))) Zo))))
noncomputable def ZaS:=Zai 2 ZeQ
theorem Zf1: SimF false Zdz ZaS:=SimF.of (show S [] [] [] false ZeP ZeQ from(ZM (Z3 Zab (ZA ZC (Zd 0) (Zm _)) (ZaP ZjL (Zk (ZcQ (Gs.zip (Zgd (Zd 0)) (Zd 1)) PutOk.two (by decide) Zbt (Z3 ZbP (Zd 100) (Zd 101))) Zt)))))
noncomputable def ZeB: Sm:=Zz (ZP (Za4 (ZL (Zf oIs (Zc 0) (Zao))) (Za4 (ZL (Zf oIs (Zc 1) (Zao))) ZaG)) (ZH (Zc 2)) ZW) (Zz (ZP (ZL (Zf oIs (Zc 1) (Zao))) (ZH (Zf Z6 (Zc 0) (Zy ZbT (Zh (Zc 2) Zr)))) ZW) (Zz (ZP (ZL (Zf oIs (Zc 0) (Zao))) (ZH (Zf Zau (Zc 1) (Zy ZbT (Zh (Zc 2) Zr)))) ZW) (ZH (Zf Z6 (Zc 0) (Zf oMod (Zc 2) (Zf Z6 (Zf Zau (Zc 1) (Zc 0)) (Zl 1)))))))
noncomputable def ZeC:=Zah 3 ZeB
noncomputable def ZeD: PS:=(Zw (ZQ (Za5 (ZK (Zb qIs (Za 0) (Zax))) (Za5 (ZK (Zb qIs (Za 1) (Zax))) Zas)) (ZG (Za 2)) ZR) (Zw (ZQ (ZK (Zb qIs (Za 1) (Zax))) (ZG (Zb ZI (Za 0) (Zu Zbz (Ze (Za 2) Zo)))) ZR) (Zw (ZQ (ZK (Zb qIs (Za 0) (Zax))) (ZG (Zb Zay (Za 1) (Zu Zbz (Ze (Za 2) Zo)))) ZR) (ZG (Zb ZI (Za 0) (Zb ZX (Za 2) (Zb ZI (Zb Zay (Za 1) (Za 0)) (Zg 1))))))))
noncomputable def Zdp:=Zai 3 ZeD
theorem ZhR: SimF false ZeC Zdp:=SimF.of (show S [] [] [] false ZeB ZeD from(ZF (Z5 (ZbL (ZN (Zn Za7 (Zd 0) (ZaB))) (ZbL (ZN (Zn Za7 (Zd 1) (ZaB))) Zbt)) (ZM (Zd 2)) Z4) (ZF (Z5 (ZN (Zn Za7 (Zd 1) (ZaB))) (ZM (Z3 Zab (Zd 0) (ZaP Zc7 (Zk (Zd 2) Zt)))) Z4) (ZF (Z5 (ZN (Zn Za7 (Zd 0) (ZaB))) (ZM (Zn ZaC (Zd 1) (ZaP Zc7 (Zk (Zd 2) Zt)))) Z4) (ZM (Z3 Zab (Zd 0) (Zn Zae (Zd 2) (Z3 Zab (Zn ZaC (Zd 1) (Zd 0)) (Zm _)))))))))
noncomputable def Zee: Sm:=Zz (ZP (ZL (Zf oEq (Zf Zx (Zc 1) (Zl 0)) (Zaa (Str.ofString "any")))) (ZH (Zy ZeC (Zh (Zf Zx (Zc 1) (Zl 2)) (Zh (Zf Zx (Zc 1) (Zl 3)) (Zh (Zc 2) Zr))))) ZW) (Zz (Zag 3 (Zy Zdz (Zh (Zf Zx (Zc 1) (Zl 2)) (Zh (Zc 0) Zr)))) (Zz (ZP (ZL (Zf oEq (Zf Zx (Zc 1) (Zl 0)) (Zaa (Str.ofString "part")))) (ZH (Zf oDiv (Zc 3) (Zf Zx (Zc 1) (Zl 3)))) ZW) (Zz (ZP (ZL (Zf oEq (Zf Zx (Zc 1) (Zl 0)) (Zaa (Str.ofString "rest")))) (ZH (Zf oMod (Zc 3) (Zf Zx (Zc 1) (Zl 3)))) ZW) (ZH (Zc 3)))))
noncomputable def Zef:=Zah 3 Zee
noncomputable def Zcg: PS:=(Zw (ZQ (ZK (Zb ZV (Zb Zv (Za 1) (Zg 0)) (Zac (Str.ofString "any")))) (ZG (Zu Zdp (Ze (Zb Zv (Za 1) (Zg 2)) (Ze (Zb Zv (Za 1) (Zg 3)) (Ze (Za 2) Zo))))) ZR) (Zw (Z9 3 (Zu ZaS (Ze (Zb Zv (Za 1) (Zg 2)) (Ze (Za 0) Zo)))) (Zw (ZQ (ZK (Zb ZV (Zb Zv (Za 1) (Zg 0)) (Zac (Str.ofString "part")))) (ZG (Zb Zan (Za 3) (Zb Zv (Za 1) (Zg 3)))) ZR) (Zw (ZQ (ZK (Zb ZV (Zb Zv (Za 1) (Zg 0)) (Zac (Str.ofString "rest")))) (ZG (Zb ZX (Za 3) (Zb Zv (Za 1) (Zg 3)))) ZR) (ZG (Za 3))))))
noncomputable def Zbh:=Zai 3 Zcg
theorem ZgO: SimF false Zef Zbh:=SimF.of (show S [] [] [] false Zee Zcg from(ZF (Z5 (ZN (Zn Zaf (ZA ZC (Zd 1) (Zm _)) (E.str _))) (ZM (Z7 ZhR (Zk (ZA ZC (Zd 1) (Zm _)) (Zk (ZA ZC (Zd 1) (Zm _)) (Zk (Zd 2) Zt))))) Z4) (ZF (Zat (O':=[]) (Z7 Zf1 (Zk (ZA ZC (Zd 1) (Zm _)) (Zk (Zd 0) Zt)))) (ZF (Z5 (ZN (Zn Zaf (ZA ZC (Zd 1) (Zm _)) (E.str _))) (ZM (Zn ZaW (Zd 3) (ZA ZC (Zd 1) (Zm _)))) Z4) (ZF (Z5 (ZN (Zn Zaf (ZA ZC (Zd 1) (Zm _)) (E.str _))) (ZM (Zn Zae (Zd 3) (ZA ZC (Zd 1) (Zm _)))) Z4) (ZM (Zd 3)))))))
noncomputable def ZeR: Sm:=Zz (Zag 2 (Zy Zdz (Zh (Zf Zx (Zc 0) (Zl 1)) (Zh (Zc 1) Zr)))) (Zz (ZP (ZL (Zf oEq (Zf Zx (Zc 0) (Zl 0)) (Zaa (Str.ofString "under")))) (ZH (Zf oLt (Zc 2) (Zl 0))) ZW) (Zz (ZP (ZL (Zf oEq (Zf Zx (Zc 0) (Zl 0)) (Zaa (Str.ofString "same")))) (ZH (Zf oEq (Zc 2) (Zl 0))) ZW) (ZH (Zf oEq (Zf oMod (Zc 2) (Zf Zx (Zc 0) (Zl 2))) (Zl 0)))))
noncomputable def ZeS:=Zah 2 ZeR
noncomputable def ZcT: PS:=(Zw (Z9 2 (Zu ZaS (Ze (Zb Zv (Za 0) (Zg 1)) (Ze (Za 1) Zo)))) (Zw (ZQ (ZK (Zb ZV (Zb Zv (Za 0) (Zg 0)) (Zac (Str.ofString "under")))) (ZG (Zb qLt (Za 2) (Zg 0))) ZR) (Zw (ZQ (ZK (Zb ZV (Zb Zv (Za 0) (Zg 0)) (Zac (Str.ofString "same")))) (ZG (Zb ZV (Za 2) (Zg 0))) ZR) (ZG (Zb ZV (Zb ZX (Za 2) (Zb Zv (Za 0) (Zg 2))) (Zg 0))))))
noncomputable def Zbu:=Zai 2 ZcT
theorem ZiD: SimF false ZeS Zbu:=SimF.of (show S [] [] [] false ZeR ZcT from(ZF (Zat (O':=[]) (Z7 Zf1 (Zk (ZA ZC (Zd 0) (Zm _)) (Zk (Zd 1) Zt)))) (ZF (Z5 (ZN (Zn Zaf (ZA ZC (Zd 0) (Zm _)) (E.str _))) (ZM (Zn Zfj (Zd 2) (Zm _))) Z4) (ZF (Z5 (ZN (Zn Zaf (ZA ZC (Zd 0) (Zm _)) (E.str _))) (ZM (Zn Zaf (Zd 2) (Zm _))) Z4) (ZM (Zn Zaf (Zn Zae (Zd 2) (ZA ZC (Zd 0) (Zm _))) (Zm _)))))))
noncomputable def Ze7: Sm:=Zz (ZP (Za4 (ZL (Zf oEq (Zf Zx (Zc 1) (Zl 0)) (Zaa (Str.ofString "when")))) (Za4 (ZL (Zf oNe (Zy ZeS (Zh (Zf Zx (Zc 1) (Zl 1)) (Zh (Zc 0) Zr))) (Zf Zx (Zc 1) (Zl 2)))) ZaG)) (ZH (Zao)) ZW) (Zz (ZP (ZL (Zf oIn (Zf Zx (Zc 1) (Zl 0)) (Zak (Zh (Zaa (Str.ofString "go")) (Zh (Zaa (Str.ofString "say")) (Zh (Zaa (Str.ofString "when")) Zr)))))) (ZH (Zy ZbK (Zh (Zc 0) Zr))) ZW) (ZH (Zy Ze5 (Zh (Zc 0) (Zh (Zf Zx (Zc 1) (Zl 1)) (Zh (Zy Zef (Zh (Zc 0) (Zh (Zc 1) (Zh (Zc 2) Zr)))) Zr))))))
noncomputable def ZdF:=Zah 3 Ze7
noncomputable def Zbx: PS:=(Zw (ZQ (Za5 (ZK (Zb ZV (Zb Zv (Za 1) (Zg 0)) (Zac (Str.ofString "when")))) (Za5 (ZK (Zb qNe (Zu Zbu (Ze (Zb Zv (Za 1) (Zg 1)) (Ze (Za 0) Zo))) (Zb Zv (Za 1) (Zg 2)))) Zas)) (ZG (Zax)) ZR) (Zw (ZQ (ZK (Zb qIn (Zb Zv (Za 1) (Zg 0)) (Zam (Ze (Zac (Str.ofString "go")) (Ze (Zac (Str.ofString "say")) (Ze (Zac (Str.ofString "when")) Zo)))))) (ZG (pFl (Zu Zbw (Ze (Za 0) Zo)))) ZR) (ZG (Zu ZcZ (Ze (Za 0) (Ze (Zb Zv (Za 1) (Zg 1)) (Ze (Zu Zbh (Ze (Za 0) (Ze (Za 1) (Ze (Za 2) Zo)))) Zo)))))))
noncomputable def ZaE:=Zai 3 Zbx
theorem Zgl: SimF true ZdF ZaE:=SimF.of (show S [] [] [] true Ze7 Zbx from(ZF (Z5 (ZbL (ZN (Zn Zaf (ZA ZC (Zd 1) (Zm _)) (E.str _))) (ZbL (ZN (Zn Zfk (Z7 ZiD (Zk (ZA ZC (Zd 1) (Zm _)) (Zk (Zd 0) Zt))) (ZA ZC (Zd 1) (Zm _)))) Zbt)) (ZdE (ZaB)) Z4) (ZF (Z5 (ZN (Zn ZjW (ZA ZC (Zd 1) (Zm _)) (E.tup (Zk (E.str _) (Zk (E.str _) (Zk (E.str _) Zt)))))) (ZdE (ZfU ZeM (Zk (Zd 0) Zt))) Z4) (ZdE (Zgt ZjA (Zk (Zd 0) (Zk (ZA ZC (Zd 1) (Zm _)) (Zk (Z7 ZgO (Zk (Zd 0) (Zk (Zd 1) (Zk (Zd 2) Zt)))) Zt))))))))
noncomputable def Zd4(F:List V→Hp→Option (V×Hp)): Sm:=Zz (ZP (ZL (eIs "list" (Zc 0))) (ZH (ZaV (Zb8 (Zc 0)) (ZaM 100) ZaG (Zy F (Zh (Zc 100) Zr)))) ZW) (Zz (ZP (ZL (eIs "tuple" (Zc 0))) (ZH (Zy Zcm (Zh (ZaV (Zb8 (Zc 0)) (ZaM 102) ZaG (Zy F (Zh (Zc 102) Zr))) Zr))) ZW) (ZH (Zc 0)))
noncomputable def Zce: Nat→List V→Hp→Option (V×Hp)
 | 0=>fun _ _=>none
 | n+1=>Zah 1 (Zd4 (Zce n))
noncomputable def Zd5: List V→Hp→Option (V×Hp):=Zce 9
noncomputable def Zcf(F:List T→Option T): PS:=(Zw (ZQ (ZK (pIs "list" (Za 0))) (ZG (ZaL (ZbU (Za 0)) (ZaI 100) Zas (Zu F (Ze (Za 100) Zo)))) ZR) (Zw (ZQ (ZK (pIs "tuple" (Za 0))) (ZG (Zu Zdv (Ze (ZaL (ZbU (Za 0)) (ZaI 102) Zas (Zu F (Ze (Za 102) Zo))) Zo))) ZR) (ZG (Za 0))))
noncomputable def ZbW: Nat→List T→Option T
 | 0=>fun _=>none
 | n+1=>Zai 1 (Zcf (ZbW n))
noncomputable def Zd6: List T→Option T:=ZbW 9
theorem Zd1: ∀n:Nat,SimF false (Zce n) (ZbW n)
 | 0=>Zhn
 | n+1=>SimF.of (show S [] [] [] false (Zd4 (Zce n)) (Zcf (ZbW n))from(ZF (Z5 (ZN (Zda (Zd 0))) (ZM (ZcQ (Gs.seq (Zd 0)) PutOk.one (by decide) Zbt (Z7 (Zd1 n) (Zk (Zd 100) Zt)))) Z4) (ZF (Z5 (ZN (Zda (Zd 0))) (ZM (ZfT ZhI (Zk (ZcQ (Gs.seq (Zd 0)) PutOk.one (by decide) Zbt (Z7 (Zd1 n) (Zk (Zd 102) Zt))) Zt))) Z4) (ZM (Zd 0)))))
theorem ZgG: SimF false Zd5 Zd6:=Zd1 9
noncomputable def Zd7: Sm:=Zz (ZP (tOr (ZL (Zf oIs (Zc 1) (Zao))) (tOr (ZL (Zf oIs (Zc 0) (Zao))) ZbX)) (ZH (Zcy (Zf oIs (Zc 0) (Zao)) (Zf oIs (Zc 1) (Zao)))) ZW) (Zz (ZP (tOr (ZbS (ZL (eIs "list" (Zc 0)))) (tOr (ZL (Zf oNe (Zy Zbn (Zh (Zc 0) Zr)) (Zy Zbn (Zh (Zc 1) Zr)))) ZbX)) (ZH (Zbj false)) ZW) (Zz (Zb9 (Zb8 (Zc 0)) (ZaM 2) (ZP (tOr (ZbS (ZL (eIs "int" (Zc 2)))) (tOr (ZL (eIs "bool" (Zc 2))) ZbX)) (ZH (Zbj false)) ZW)) (ZH (Zf oEq (Zc 0) (Zc 1)))))
noncomputable def Zdg:=Zah 2 Zd7
noncomputable def Zdh: PS:=(Zw (ZQ (bOr (ZK (Zb qIs (Za 1) (Zax))) (bOr (ZK (Zb qIs (Za 0) (Zax))) Zcr)) (ZG ((ZcB (Zb qIs (Za 0) (Zax)) (Zb qIs (Za 1) (Zax))))) ZR) (Zw (ZQ (bOr (Zbo (ZK (pIs "list" (Za 0)))) (bOr (ZK (Zb qNe (Zu Zbg (Ze (Za 0) Zo)) (Zu Zbg (Ze (Za 1) Zo)))) Zcr)) (ZG (Zbk false)) ZR) (Zw (ZcD (ZbU (Za 0)) (ZaI 2) (ZQ (bOr (Zbo (ZK (pIs "int" (Za 2)))) (bOr (ZK (pIs "bool" (Za 2))) Zcr)) (ZG (Zbk false)) ZR)) (ZG (Zb ZV (Za 0) (Za 1))))))
noncomputable def ZbC:=Zai 2 Zdh
theorem Zfs: SimF false Zdg ZbC:=SimF.of (show S [] [] [] false Zd7 Zdh from(ZF (Z5 (ZbO (ZN (Zn Za7 (Zd 1) (ZaB))) (ZbO (ZN (Zn Za7 (Zd 0) (ZaB))) Zdo)) (ZM ((Zgu (E.sh (Zn Za7 (Zd 0) (ZaB))) (E.sh (Zn Za7 (Zd 1) (ZaB)))))) Z4) (ZF (Z5 (ZbO (ZcX (ZN (Zda (Zd 0)))) (ZbO (ZN (Zn Zfk (ZaP Zc6 (Zk (Zd 0) Zt)) (ZaP Zc6 (Zk (Zd 1) Zt)))) Zdo)) (ZM (E.bool _)) Z4) (ZF (Zfc (Gs.seq (Zd 0)) PutOk.one (by decide) (by decide) (Z5 (ZbO (ZcX (ZN (Zda (Zd 2)))) (ZbO (ZN (Zda (Zd 2))) Zdo)) (ZM (E.bool _)) Z4)) (ZM (Zn Zaf (Zd 0) (Zd 1)))))))
noncomputable def Zd2: Sm:=Zz (Zag 3 (Zy Zea (Zh (Zc 0) (Zh (Zc 1) (Zh (Zc 2) Zr))))) (Zz (Zag 4 (Za2 (Zh (Zy ZbK (Zh (Zc 0) Zr)) (Zh (Zy Zd5 (Zh (Zc 1) Zr)) Zr)))) (Zz (Zag 5 (Zy ZdF (Zh (Zf Zx (Zc 4) (Zl 0)) (Zh (Zf Zx (Zc 4) (Zl 1)) (Zh (Zc 2) Zr))))) (Zz (ZP (tOr (ZbS (ZL (Zy Zdg (Zh (Zc 5) (Zh (Zc 3) Zr))))) (tOr (ZL (Zf oNe (Zc 4) (Za2 (Zh (Zc 0) (Zh (Zc 1) Zr))))) ZbX)) (ZH (Zbj false)) ZW) (Zz (ZP (ZL (Zf ZeV (Zc 5) (Zao))) (ZdM (Zdt (Zc 5) (Zl 9))) ZW) (ZH (Zcy (Zy Zdg (Zh (Zy ZdF (Zh (Zf Zx (Zc 4) (Zl 0)) (Zh (Zf Zx (Zc 4) (Zl 1)) (Zh (Zc 2) Zr)))) (Zh (Zc 3) Zr))) (Zf oEq (Zc 4) (Za2 (Zh (Zc 0) (Zh (Zc 1) Zr))))))))))
noncomputable def Zdf:=Zah 3 Zd2
noncomputable def Zd3: PS:=(Zw (Z9 3 (Zu ZaF (Ze (Za 0) (Ze (Za 1) (Ze (Za 2) Zo))))) (Zw (Z9 4 (ZaZ (Ze (Zu Zbw (Ze (Za 0) Zo)) (Ze (Zu Zd6 (Ze (Za 1) Zo)) Zo)))) (Zw (Z9 5 (Zu ZaE (Ze (Zb Zv (Za 4) (Zg 0)) (Ze (Zb Zv (Za 4) (Zg 1)) (Ze (Za 2) Zo))))) (Zw (ZQ (bOr (Zbo (ZK (Zu ZbC (Ze (Za 5) (Ze (Za 3) Zo))))) (bOr (ZK (Zb qNe (Za 4) (ZaZ (Ze (Za 0) (Ze (Za 1) Zo))))) Zcr)) (ZG (Zbk false)) ZR) (Zw (ZQ (ZK (Zb ZdD (Za 5) (Zax))) (ZdQ 5 [] Zbm (Zg 9)) ZR) (ZG ((ZcB (Zu ZbC (Ze (Zu ZaE (Ze (Zb Zv (Za 4) (Zg 0)) (Ze (Zb Zv (Za 4) (Zg 1)) (Ze (Za 2) Zo)))) (Ze (Za 3) Zo))) (Zb ZV (Za 4) (ZaZ (Ze (Za 0) (Ze (Za 1) Zo))))))))))))
noncomputable def ZbB:=Zai 3 Zd3
theorem Zfp: SimF false Zdf ZbB:=SimF.of (show S [] [5] [] false Zd2 Zd3 from(ZF (Zat (O':=[]) (Z7 ZgI (Zk (Zd 0) (Zk (Zd 1) (Zk (Zd 2) Zt))))) (ZF (Zat (O':=[]) (E.list (Zk (ZfT ZeM (Zk (Zd 0) Zt)) (Zk (Z7 ZgG (Zk (Zd 1) Zt)) Zt)))) (ZF (Zge (O':=[5]) (Zgt Zgl (Zk (ZA ZC (Zd 4) (Zm _)) (Zk (ZA ZC (Zd 4) (Zm _)) (Zk (Zd 2) Zt))))) (ZF (Z5 (ZbO (ZcX (ZN (Z7 Zfs (Zk (Zd 5) (Zk (Zd 3) Zt))))) (ZbO (ZN (Zn Zfk (Zd 4) (E.list (Zk (Zd 0) (Zk (Zd 1) Zt))))) Zdo)) (ZM (E.bool _)) Z4) (ZF (Z5 (ZN (Zn Zie (Zd 5) (ZaB))) (ZjM (O':=[5]) (by decide) ZcY (Zc4 (O':=[]) (Zm _)) (by decide) (by decide)) Z4) (ZM ((Zgu (E.sh (Z7 Zfs (Zk (Z7 Zgl (Zk (ZA ZC (Zd 4) (Zm _)) (Zk (ZA ZC (Zd 4) (Zm _)) (Zk (Zd 2) Zt)))) (Zk (Zd 3) Zt)))) (E.sh (Zn Zaf (Zd 4) (E.list (Zk (Zd 0) (Zk (Zd 1) Zt))))))))))))))
noncomputable def Zeg: Sm:=Zz (ZP (ZL (Zf oEq (Zf oMod (Zc 0) (Zl 4)) (Zl 0))) (ZH (Zf Zau (Zf oMod (Zf Za1 (Zf oDiv (Zc 0) (Zl 4)) (Zf oPow (Zl 48271) (Zl 14))) (Zf Z6 (Zf Za1 (Zl 2) (Zf oPow (Zl 10) (Zl 9))) (Zl 1))) (Zf oPow (Zl 10) (Zl 9)))) ZW) (ZH (Zf Zau (Zf oMod (Zf Za1 (Zf oDiv (Zc 0) (Zl 4)) (Zf oPow (Zl 48271) (Zl 14))) (Zl 9)) (Zl 4)))
noncomputable def Zeh:=Zah 1 Zeg
noncomputable def Zei: PS:=(Zw (ZQ (ZK (Zb ZV (Zb ZX (Za 0) (Zg 4)) (Zg 0))) (ZG (Zb Zay (Zb ZX (Zb ZaX (Zb Zan (Za 0) (Zg 4)) (Zb Zap (Zg 48271) (Zg 14))) (Zb ZI (Zb ZaX (Zg 2) (Zb Zap (Zg 10) (Zg 9))) (Zg 1))) (Zb Zap (Zg 10) (Zg 9)))) ZR) (ZG (Zb Zay (Zb ZX (Zb ZaX (Zb Zan (Za 0) (Zg 4)) (Zb Zap (Zg 48271) (Zg 14))) (Zg 9)) (Zg 4))))
noncomputable def ZcI:=Zai 1 Zei
theorem ZgP: SimF false Zeh ZcI:=SimF.of (show S [] [] [] false Zeg Zei from(ZF (Z5 (ZN (Zn Zaf (Zn Zae (Zd 0) (Zm _)) (Zm _))) (ZM (Zn ZaC (Zn Zae (Z3 ZbP (Zn ZaW (Zd 0) (Zm _)) (Zn Zbf (Zm _) (Zm _))) (Z3 Zab (Z3 ZbP (Zm _) (Zn Zbf (Zm _) (Zm _))) (Zm _))) (Zn Zbf (Zm _) (Zm _)))) Z4) (ZM (Zn ZaC (Zn Zae (Z3 ZbP (Zn ZaW (Zd 0) (Zm _)) (Zn Zbf (Zm _) (Zm _))) (Zm _)) (Zm _)))))
noncomputable def ZeE: Sm:=Zz (Zb9 (Zbv (Zh (Zl 2) (Zh (Zy Zc1 (Zh (Zl 3) (Zh (Zy Zc2 (Zh (Zy Zbn (Zh (Zc 0) Zr)) (Zh (Zl 62) Zr))) Zr))) (Zh (Zl 10) Zr)))) (ZaM 1) (Zz (Zag 2 (Zf Z6 (Zl 1) (Zf oMod (Zf Z6 (Zy Zba (Zh (Zc 0) (Zh (Zl 0) Zr))) (Zc 1)) (Zl 4)))) (Zz (Zag 3 (ZaV (Zbv (Zh (Zc 2) Zr)) (ZaM 100) ZaG (Zy Zcd (Zh (Zy Zba (Zh (Zc 0) (Zh (Zf Z6 (Zc 1) (Zc 100)) Zr))) Zr)))) (Zz (Zag 4 (Zf Z6 (Za2 (Zh (Zy Zcd (Zh (Zy Zba (Zh (Zc 0) (Zh (Zf Z6 (Zc 1) (Zl 4)) Zr))) Zr)) Zr)) (ZaV (Zbv (Zh (Zc 2) Zr)) (ZaM 102) ZaG (Zy Zeh (Zh (Zy Zba (Zh (Zc 0) (Zh (Zf Z6 (Zf Z6 (Zc 1) (Zl 5)) (Zc 102)) Zr))) Zr))))) (Zz (Zag 4 (Zy Zeo (Zh (Zc 4) (Zh (Zc 3) (Zh (Zf Z6 (Zy Zba (Zh (Zc 0) (Zh (Zl 1) Zr))) (Zf oDiv (Zc 1) (Zl 10))) Zr))))) (Zz (Zag 5 (Zf oMod (Zy Zba (Zh (Zc 0) (Zh (Zf Z6 (Zc 1) (Zl 9)) Zr))) (Zf oPow (Zl 10) (Zl 6)))) (Zz (Zag 6 (Zf Z6 (Zl 1) (Zy ZbT (Zh (Zy Zcd (Zh (Zf oDiv (Zy Zba (Zh (Zc 0) (Zh (Zf Z6 (Zc 1) (Zl 8)) Zr))) (Zl 3)) Zr)) Zr)))) (Zz (Zag 7 (Zy ZdT (Zh (Zf Zx (Zc 4) (Zl 0)) (Zh (Zf Zx (Zc 3) (Zl 0)) (Zh (Zf oDiv (Zc 5) (Zl 3)) Zr))))) (Zz (Zag 8 (Zy Zcd (Zh (Zf Z6 (Zf oDiv (Zc 5) (Zl 7)) (Zf oMod (Zy Zba (Zh (Zc 0) (Zh (Zf Z6 (Zc 1) (Zl 8)) Zr))) (Zf oPow (Zl 10) (Zl 60)))) Zr))) (Zz (Zag 9 (Zy Zer (Zh (Zc 4) (Zh (Zf Z6 (Zl 1) (Zf oMod (Zc 5) (Zc 2))) (Zh (Zc 6) (Zh (Zc 7) (Zh (Zf oEq (Zf oMod (Zf oDiv (Zc 5) (Zl 2)) (Zl 2)) (Zl 0)) Zr))))))) (Zz (ZP (ZbS (ZL (Zy Zdf (Zh (Zc 3) (Zh (Zf Zx (Zc 9) (Zf oMod (Zy Zba (Zh (Zc 0) (Zh (Zf Z6 (Zc 1) (Zl 3)) Zr))) (Zl 10))) (Zh (Zc 8) Zr)))))) (ZH (Zbj false)) ZW) (ZP (ZbS (ZL (Zy Zdf (Zh (Zc 3) (Zh (Zf Zx (Zc 9) (Zf oMod (Zf Z6 (Zf oDiv (Zc 5) (Zl 5)) (Zc 1)) (Zl 10))) (Zh (Zc 8) Zr)))))) (ZH (Zbj false)) ZW)))))))))))) (ZH (Zbj true))
noncomputable def ZfK:=Zah 1 ZeE
noncomputable def ZeF: PS:=(Zw (ZcD (ZaU (Ze (Zg 2) (Ze (Zu Zcu (Ze (Zg 3) (Ze (Zu Zcv (Ze (Zu Zbg (Ze (Za 0) Zo)) (Ze (Zg 62) Zo))) Zo))) (Ze (Zg 10) Zo)))) (ZaI 1) (Zw (Z9 2 (Zb ZI (Zg 1) (Zb ZX (Zb ZI (Zu Zar (Ze (Za 0) (Ze (Zg 0) Zo))) (Za 1)) (Zg 4)))) (Zw (Z9 3 (ZaL (ZaU (Ze (Za 2) Zo)) (ZaI 100) Zas (Zu Za9 (Ze (Zu Zar (Ze (Za 0) (Ze (Zb ZI (Za 1) (Za 100)) Zo))) Zo)))) (Zw (Z9 4 (Zb ZI (ZaZ (Ze (Zu Za9 (Ze (Zu Zar (Ze (Za 0) (Ze (Zb ZI (Za 1) (Zg 4)) Zo))) Zo)) Zo)) (ZaL (ZaU (Ze (Za 2) Zo)) (ZaI 102) Zas (Zu ZcI (Ze (Zu Zar (Ze (Za 0) (Ze (Zb ZI (Zb ZI (Za 1) (Zg 5)) (Za 102)) Zo))) Zo))))) (Zw (Z9 4 (Zu ZcK (Ze (Za 4) (Ze (Za 3) (Ze (Zb ZI (Zu Zar (Ze (Za 0) (Ze (Zg 1) Zo))) (Zb Zan (Za 1) (Zg 10))) Zo))))) (Zw (Z9 5 (Zb ZX (Zu Zar (Ze (Za 0) (Ze (Zb ZI (Za 1) (Zg 9)) Zo))) (Zb Zap (Zg 10) (Zg 6)))) (Zw (Z9 6 (Zb ZI (Zg 1) (Zu Zbz (Ze (Zu Za9 (Ze (Zb Zan (Zu Zar (Ze (Za 0) (Ze (Zb ZI (Za 1) (Zg 8)) Zo))) (Zg 3)) Zo)) Zo)))) (Zw (Z9 7 (Zu ZcE (Ze (Zb Zv (Za 4) (Zg 0)) (Ze (Zb Zv (Za 3) (Zg 0)) (Ze (Zb Zan (Za 5) (Zg 3)) Zo))))) (Zw (Z9 8 (Zu Za9 (Ze (Zb ZI (Zb Zan (Za 5) (Zg 7)) (Zb ZX (Zu Zar (Ze (Za 0) (Ze (Zb ZI (Za 1) (Zg 8)) Zo))) (Zb Zap (Zg 10) (Zg 60)))) Zo))) (Zw (Z9 9 (Zu ZcL (Ze (Za 4) (Ze (Zb ZI (Zg 1) (Zb ZX (Za 5) (Za 2))) (Ze (Za 6) (Ze (Za 7) (Ze (Zb ZV (Zb ZX (Zb Zan (Za 5) (Zg 2)) (Zg 2)) (Zg 0)) Zo))))))) (Zw (ZQ (Zbo (ZK (Zu ZbB (Ze (Za 3) (Ze (Zb Zv (Za 9) (Zb ZX (Zu Zar (Ze (Za 0) (Ze (Zb ZI (Za 1) (Zg 3)) Zo))) (Zg 10))) (Ze (Za 8) Zo)))))) (ZG (Zbk false)) ZR) (ZQ (Zbo (ZK (Zu ZbB (Ze (Za 3) (Ze (Zb Zv (Za 9) (Zb ZX (Zb ZI (Zb Zan (Za 5) (Zg 5)) (Za 1)) (Zg 10))) (Ze (Za 8) Zo)))))) (ZG (Zbk false)) ZR)))))))))))) (ZG (Zbk true)))
noncomputable def ZeG:=Zai 1 ZeF
theorem ZhS: SimF false ZfK ZeG:=SimF.of (show S [] [] [] false ZeE ZeF from(ZF (Zfc (Gs.range (Zk (Zm _) (Zk (ZaP Zga (Zk (Zm _) (Zk (ZaP Zgb (Zk (ZaP Zc6 (Zk (Zd 0) Zt)) (Zk (Zm _) Zt))) Zt))) (Zk (Zm _) Zt)))) PutOk.one (by decide) (by decide) (ZF (Zat (O':=[]) (Z3 Zab (Zm _) (Zn Zae (Z3 Zab (Z7 Zbs (Zk (Zd 0) (Zk (Zm _) Zt))) (Zd 1)) (Zm _)))) (ZF (Zat (O':=[]) (ZcQ (Gs.range (Zk (Zd 2) Zt)) PutOk.one (by decide) Zbt (Z7 Zdd (Zk (Z7 Zbs (Zk (Zd 0) (Zk (Z3 Zab (Zd 1) (Zd 100)) Zt))) Zt)))) (ZF (Zat (O':=[]) (Z3 Zab (E.list (Zk (Z7 Zdd (Zk (Z7 Zbs (Zk (Zd 0) (Zk (Z3 Zab (Zd 1) (Zm _)) Zt))) Zt)) Zt)) (ZcQ (Gs.range (Zk (Zd 2) Zt)) PutOk.one (by decide) Zbt (Z7 ZgP (Zk (Z7 Zbs (Zk (Zd 0) (Zk (Z3 Zab (Z3 Zab (Zd 1) (Zm _)) (Zd 102)) Zt))) Zt))))) (ZF (Zat (O':=[]) (Z7 Zg2 (Zk (Zd 4) (Zk (Zd 3) (Zk (Z3 Zab (Z7 Zbs (Zk (Zd 0) (Zk (Zm _) Zt))) (Zn ZaW (Zd 1) (Zm _))) Zt))))) (ZF (Zat (O':=[]) (Zn Zae (Z7 Zbs (Zk (Zd 0) (Zk (Z3 Zab (Zd 1) (Zm _)) Zt))) (Zn Zbf (Zm _) (Zm _)))) (ZF (Zat (O':=[]) (Z3 Zab (Zm _) (ZaP Zc7 (Zk (Z7 Zdd (Zk (Zn ZaW (Z7 Zbs (Zk (Zd 0) (Zk (Z3 Zab (Zd 1) (Zm _)) Zt))) (Zm _)) Zt)) Zt)))) (ZF (Zat (O':=[]) (Z7 ZgC (Zk (ZA ZC (Zd 4) (Zm _)) (Zk (ZA ZC (Zd 3) (Zm _)) (Zk (Zn ZaW (Zd 5) (Zm _)) Zt))))) (ZF (Zat (O':=[]) (Z7 Zdd (Zk (Z3 Zab (Zn ZaW (Zd 5) (Zm _)) (Zn Zae (Z7 Zbs (Zk (Zd 0) (Zk (Z3 Zab (Zd 1) (Zm _)) Zt))) (Zn Zbf (Zm _) (Zm _)))) Zt))) (ZF (Zat (O':=[]) (Z7 Zg3 (Zk (Zd 4) (Zk (Z3 Zab (Zm _) (Zn Zae (Zd 5) (Zd 2))) (Zk (Zd 6) (Zk (Zd 7) (Zk (Zn Zaf (Zn Zae (Zn ZaW (Zd 5) (Zm _)) (Zm _)) (Zm _)) Zt))))))) (ZF (Z5 (ZcX (ZN (Z7 Zfp (Zk (Zd 3) (Zk (ZA ZC (Zd 9) (Zn Zae (Z7 Zbs (Zk (Zd 0) (Zk (Z3 Zab (Zd 1) (Zm _)) Zt))) (Zm _))) (Zk (Zd 8) Zt)))))) (ZM (E.bool _)) Z4) (Z5 (ZcX (ZN (Z7 Zfp (Zk (Zd 3) (Zk (ZA ZC (Zd 9) (Zn Zae (Z3 Zab (Zn ZaW (Zd 5) (Zm _)) (Zd 1)) (Zm _))) (Zk (Zd 8) Zt)))))) (ZM (E.bool _)) Z4)))))))))))) (ZM (E.bool _))))
end L
end
section
set_option autoImplicit false
open PySem PySem.W PyProof.Rows PM TM My
local macro_rules | `(tactic| walk_at "tkrd") => `(tactic| first | with_reducible assumption | with_reducible exact ZfA | ((with_reducible apply ZiA); decide; walk_at "tkrd") | ((with_reducible apply delTs_no); decide; walk_at "tkrd") | exact rfl | assumption)
local macro_rules | `(tactic| walk_at "tkyes") => `(tactic| first | rfl | (with_reducible assumption) | (simp only [Bool.not_eq_true', Bool.not_eq_false', decide_eq_true_eq, decide_eq_false_iff_not, beq_iff_eq, beq_eq_false_iff_ne, ne_eq, Bool.not_true, Bool.not_false, not_false_eq_true, not_true_eq_false, bne_iff_ne, Decidable.not_not, List.length_map] <;> first | done | omega | assumption))
local macro_rules | `(tactic| walk_at "tkflat") => `(tactic| first | rfl | exact flat_oT | exact flat_prT | exact Zdj fun i hi => by first | rfl | exact flat_oT | exact flat_prT)
local macro_rules | `(tactic| walk_at "tkop") => `(tactic| first | with_reducible refine Zjk ?_ | with_reducible refine Zjl ?_ | with_reducible refine tk_neg ?_ | with_reducible refine ZjP ?_ | with_reducible refine tk_le ?_ | with_reducible refine tk_gt ?_ | with_reducible refine tk_ge ?_ | with_reducible refine Zjn ?_ | with_reducible refine Zjo ?_ | with_reducible refine Zjp ?_ | with_reducible refine ZjQ ?_ | with_reducible refine ZjR ?_ | with_reducible refine Zjq ?_ | with_reducible refine Zjr ?_ | with_reducible refine Zjs ?_ | with_reducible refine Zjt ?_ | with_reducible refine Zju ?_ | with_reducible refine tk_ist ?_ | with_reducible refine Zip ?_ | with_reducible refine tk_noti ?_ | with_reducible refine tk_notl ?_ | with_reducible refine tk_nott ?_ | with_reducible refine Ziq ?_ | with_reducible refine Zjv ?_ | with_reducible refine tk_lent ?_ | ((with_reducible apply Zir); (first | assumption | omega)) | ((with_reducible apply Zis); (first | decide | omega); (first | decide | omega)) | ((with_reducible apply Zit); (first | decide | omega); rfl) | ((with_reducible apply Zdx); (first | decide | omega); rfl) | ((with_reducible apply Ziu); omega) | with_reducible refine ZhM ?_ | with_reducible refine tk_list1t ?_ | with_reducible refine Ziv ?_ | with_reducible refine tk_all ?_ | with_reducible refine tk_any ?_ | ((with_reducible apply Zjm); (first | decide | omega)))
local macro_rules | `(tactic| walk_at "tk1") => `(tactic| first | with_reducible refine Zi9 ?_ | with_reducible refine tk_un ?_ | with_reducible refine Zii ?_ | with_reducible refine Zja ?_ | with_reducible refine Zjb ?_ | with_reducible refine Zij ?_ | with_reducible refine Zih ?_ | with_reducible refine Zik ?_ | with_reducible refine ZjN ?_ | with_reducible refine tk_if ?_ | with_reducible refine tk_not ?_ | with_reducible refine Zjc ?_ | with_reducible refine tk_or ?_ | with_reducible refine ZjO ?_ | with_reducible refine Zjd ?_ | with_reducible refine Zil ?_ | with_reducible refine Zim ?_ | with_reducible refine ZhL ?_ | with_reducible refine Zin ?_ | with_reducible refine Zje ?_ | with_reducible refine Zg1 ?_ | with_reducible refine tk_truth_n ?_ | with_reducible refine Zio ?_ | with_reducible refine Zjf ?_ | with_reducible refine Zjg ?_ | with_reducible refine tk_exp ?_ | with_reducible refine Zgg ?_ | with_reducible refine Zjh ?_ | with_reducible refine Zi5 ?_ | with_reducible refine Zi6 ?_ | with_reducible refine Zig ?_ | with_reducible refine Zi7 ?_ | ((with_reducible apply Zi8); walk_at "tkrd") | ((with_reducible apply Zji); walk_at "tkyes") | ((with_reducible apply Zjj); walk_at "tkyes") | ((with_reducible apply Zgh); rfl) | (refine And.intro (show T.flat _ = true by walk_at "tkflat") ?_) | (refine And.intro (show T.flatIn _ = true by walk_at "tkflat") ?_) | with_reducible refine Ziw ?_ | with_reducible refine Sq.lst ?_ | with_reducible refine Sq.tup ?_ | with_reducible refine ZhP ?_ | ((with_reducible apply Rn.one); omega) | with_reducible refine Zgi ?_ | with_reducible refine tk_enum ?_ | with_reducible refine EnP.tab ?_ | with_reducible refine tk_chain ?_ | with_reducible refine Zi.eq ?_ | with_reducible refine Zi.mn ?_ | with_reducible refine Zjw ?_ | with_reducible refine tk_appM ?_ | with_reducible refine Zjx ?_ | with_reducible refine tk_put2 ?_ | ((with_reducible apply AppP.of); walk_at "tkrd"; (first | (rw [Zaj]; omega) | (simp; done))) | ((with_reducible apply AppQ.of); walk_at "tkrd"; (first | (rw [Zaj]; omega) | (simp; done))) | ((with_reducible apply PutP.tab); walk_at "tkrd"; (first | assumption | omega)) | ((with_reducible apply Put2.tab); walk_at "tkrd"; (first | assumption | omega); (first | assumption | omega)) | walk_at "tkop")
local macro_rules | `(tactic| walk_at "zz") => `(tactic| repeat' walk_at "tk1")
local macro_rules | `(tactic| walk_at "zr") => `(tactic| walk_at "tkrd")
namespace L
open PySem PySem.W PyProof.Rows PM TM My
variable {a:Str} {b d v y:Int} {i j n:Nat} {σ:TL} {Q:T→Prop} {c x:Nat→Int} {p:PE} {ns:List Int} {r:Bool} {t:T}
section
variable {Q:T→Prop}
theorem ZdR(h:Q (.int T9)): Pk (Zap (.int 10) (.int 9)) Q:=by
 have:=ZjJ []
 simp only[oPow]at this
 split at this
 ·rename_i hc
  refine⟨_,by simp only[Zap];rw[if_pos hc],?_⟩
  simp only[Option.some.injEq,Prod.mk.injEq,V.int.injEq,and_true]at this
  rw[this];exact h
 ·cases this
theorem ZeT{a:Int}(h1:-(2 ^ 64)<a)(h2:a<2 ^ 64)(h:Q (.int (a*b))): Pk (ZaX (.int a) (.int b)) Q:=Zcs (ZgZ h1 h2) h
end
noncomputable def scr(ns:List Int): T:=.lst (ns.map T.int)
noncomputable def Lay(ns:List Int): Prop:=PyData.layable0 (.list (ns.map .int))=true
noncomputable def Zgy(a:Int): Int:=if a<0 then -a else a
theorem ZaR{a:Int}(h0:0≤b)(h1:b<2 ^ 30): Builtin.divisionGoesByPylong a b=false:=PyProof.noPylong_small (by omega)
theorem ZhT{a:Nat}(h:a<2 ^ i)(hij:i≤j): a<2 ^ j:=Nat.lt_of_lt_of_le h (Nat.pow_le_pow_right (by decide) hij)
theorem Zho{g:PG}{a:Nat→T}{f:PE}{β:Type}(e:β→T)(P:Nat→β→Prop)(hn:n<10000)(hg:Pl (g σ) fun ts=>ts=tab n a)(hf:∀i,i<n→Pk (f (ZO σ j (a i))) fun t=>∃y,t=e y∧P i y)(d:β)(h:∀y:Nat→β,(∀i,i<n→P i (y i))→Q (.lst (tab n fun i=>e (y i)))): Pk (ZaL g (ZaI j) Zas f σ) Q:=by
 have hc:∃y:Nat→β,∀i,i<n→Pk (f (ZO σ j (a i))) (fun t=>t=e (y i))∧P i (y i):=by
  have hx:∀i,∃y:β,i<n→Pk (f (ZO σ j (a i))) (fun t=>t=e y)∧P i y:=fun i=>by
   by_cases q:i<n
   ·obtain⟨t,e1,y,e2,p⟩:=hf i q
    exact⟨y,fun _=>⟨⟨t,e1,e2⟩,p⟩⟩
   ·exact⟨d,fun h=>absurd h q⟩
  exact⟨fun i=>Classical.choose (hx i),fun i=>Classical.choose_spec (hx i)⟩
 obtain⟨y,hy⟩:=hc
 exact Zf0 hn hg (fun i hi=>(hy i hi).1) (h y fun i hi=>(hy i hi).2)
noncomputable def Bd(k:Nat)(x:Int): Prop:=x.natAbs<2 ^ k
theorem Bd.mono{x:Int}(h:Bd i x)(hij:i≤j): Bd j x:=ZhT h hij
theorem ZfL{x:Int}(h:Bd i x)(k:Bd j y)(hi:i≤1000000)(hj:j≤1000000): mulOk x y=true:=ZhH (Nat.le_trans (PyProof.Rows.intBits_le h) (Nat.le_trans hi (by decide))) (Nat.le_trans (PyProof.Rows.intBits_le k) (Nat.le_trans hj (by decide)))
theorem Bd.mul{x:Int}(h:Bd i x)(k:Bd j y): Bd (i+j) (x*y):=by
 unfold Bd at *
 rw[Int.natAbs_mul,Nat.pow_add]
 exact Nat.mul_lt_mul'' h k
theorem Bd.add{x:Int}(h:Bd i x)(k:Bd i y): Bd (i+1) (x+y):=by
 unfold Bd at *
 rw[Nat.pow_succ]
 omega
theorem Bd.sub{x:Int}(h:Bd i x)(k:Bd i y): Bd (i+1) (x-y):=by
 unfold Bd at *
 rw[Nat.pow_succ]
 omega
theorem Zgm{x:Int}(h:Bd i y)(hi:i≤9000): Builtin.divisionGoesByPylong x y=false:=by
 refine PyProof.noPylong_of_log2 ?_
 by_cases h0:y.natAbs=0
 ·rw[h0];decide +kernel
 ·exact Nat.lt_of_lt_of_le ((Nat.log2_lt h0).mpr h) hi
section
variable {Q:T→Prop}
theorem Zff(h:Q (.int T60)): Pk (Zap (.int 10) (.int 60)) Q:=by
 have:=ZiZ []
 simp only[oPow]at this
 split at this
 ·rename_i hc
  refine⟨_,by simp only[Zap];rw[if_pos hc],?_⟩
  simp only[Option.some.injEq,Prod.mk.injEq,V.int.injEq,and_true]at this
  rw[this];exact h
 ·cases this
theorem Zfg(h:Q (.int M5)): Pk (Zap (.int 48271) (.int 14)) Q:=by
 have:=ZjI []
 simp only[oPow]at this
 split at this
 ·rename_i hc
  refine⟨_,by simp only[Zap];rw[if_pos hc],?_⟩
  simp only[Option.some.injEq,Prod.mk.injEq,V.int.injEq,and_true]at this
  rw[this];exact h
 ·cases this
theorem ZfB{k:Nat}(h:Pk (p σ) fun t=>∃ts,t=.lst ts∧Q (.lst (ts.drop k))): Pk (Zcx p k σ) Q:=by
 obtain⟨_,e,ts,rfl,q⟩:=h
 exact⟨_,by simp only[Zcx,e,Option.bind_some],q⟩
end
theorem ZfC(hd:0<d)(h:Cell v): Cell (v.fdiv d):=by
 refine⟨?_⟩
 have hb:=h.bits
 unfold Builtin.Int.intBits at hb ⊢
 rw[Int.fdiv_eq_ediv_of_nonneg v (by omega)]
 by_cases z:v / d=0
 ·simp[z]
 ·have hv:v≠0:=fun q=>z (by rw[q];simp)
  rw[if_neg (by simpa using hv)]at hb
  rw[if_neg (by simpa using z)]
  have hn:(v / d).natAbs≤v.natAbs:=Int.natAbs_ediv_le_natAbs v d
  have h1:v.natAbs.log2<2 ^ 20:=by omega
  have h2:v.natAbs<2 ^ (2 ^ 20):=(Nat.log2_lt (by omega)).mp h1
  have h3:(v / d).natAbs.log2<2 ^ 20:=(Nat.log2_lt (by omega)).mpr (Nat.lt_of_le_of_lt hn h2)
  omega
theorem Zby{k:Int}(h0:0≤k): Zar [scr ns,.int k]=some (.int (cellAt ns k 0)):=by
 apply Pk.eq
 unfold Zar Zem scr
 have e:(ns.map T.int).length=ns.length:=by simp
 by_cases h:k<ns.length
 ·walk_at "zz"
  refine Zdx (t:=.int (cellAt ns k 0)) h0 ?_ rfl
  rw[List.getElem?_map,List.getElem?_eq_getElem (by omega),cellAt_def]
  simp only[Option.map_some,T.int.injEq,Option.some.injEq]
  rw[List.getD_eq_getElem?_getD,List.getElem?_eq_getElem (by omega)]
  rfl
 ·walk_at "zz"
  rw[←cell_out h0 h]
theorem ZdA(hv:Cell v): Za9 [.int v]=some (.int (numb v)):=by
 apply Pk.eq
 unfold Za9 ZdW
 have h60:(2*T60-1:Int)≠0:=by have:=T60_eq;omega
 have h9:(2*T9+1:Int)≠0:=by have:=T9_eq;omega
 walk_at "zz"
 refine ZaK (by decide) (ZaR (by decide) (by decide)) ?_
 walk_at "zz"
 refine Zfg ?_
 refine Zcs (ZgY hv) ?_
 rw[←Zib]
 by_cases c0:v.fmod 5=0
 ·walk_at "zz"
  rw[numb_0 c0]
 by_cases c1:v.fmod 5=1
 ·walk_at "zz"
  rw[numb_1 c1]
 by_cases c2:v.fmod 5=2
 ·walk_at "zz"
  refine Zff ?_
  walk_at "zz"
  refine ZeT (by decide) (by decide) ?_
  walk_at "zz"
  refine Zff ?_
  walk_at "zz"
  rw[numb_2 c2]
 by_cases c3:v.fmod 5=3
 ·walk_at "zz"
  refine ZdR ?_
  walk_at "zz"
  refine ZeT (by decide) (by decide) ?_
  walk_at "zz"
  refine ZdR ?_
  walk_at "zz"
  rw[numb_3 c3]
 ·walk_at "zz"
  rw[numb_4 c0 c1 c2 c3]
theorem ZeU(v:Int): Bd 200 (numb v):=by
 have h:=numb_in v
 rw[T60_eq]at h
 unfold Bd
 omega
noncomputable abbrev Sp:=Option Int×Option Int
noncomputable def spT(s:Sp): T:=.tup [oT s.1,oT s.2]
theorem ZhU{f:Nat→T}: (tab (n+1) f).drop 1=tab n fun i=>f (i+1):=by
 apply List.ext_getElem
 ·simp[tab]
 ·intro i h1 h2
  simp[tab]
theorem Zf2{F:List T→Option T}{g:PE}{ts:List T}(hg:ZbU g σ=some ts)(hl:ts.length≤10000)(h:∀t∈ts,F [t]=some t)(q:Q (.lst ts)): Pk (ZaL (ZbU g) (ZaI j) Zas (Zu F (Ze (Za j) Zo)) σ) Q:=by
 refine⟨.lst ts,?_,q⟩
 have:=Zfy (σ:=σ) (j:=j) (f:=Zu F (Ze (Za j) Zo)) (h:=fun t=>t) (ts:=ts) fun t m=>by
  simp only[Zu,Ze,Za,Zo,ZfA,Option.bind_some,Option.map_some]
  exact h t m
 simp only[ZaL,hg,Option.bind_some,this]
 rw[if_pos (by rw[Zaz];omega)]
 simp
section
variable {σ:TL} {Q:T→Prop}
theorem ZjT{e:PE}(h:Pk (p σ) fun t=>∃ts,t=.lst ts∧Pk (e σ) fun u=>∃a:Nat,u=.int a∧Q (.lst (ts.take a))): Pk (ZbM p ZbY (ZbZ e) σ) Q:=by
 obtain⟨_,e1,ts,rfl,_,e2,a,rfl,q⟩:=h
 refine⟨_,?_,q⟩
 simp only[ZbM,e1,ZbY,ZbZ,e2,Option.bind_some,Zh3 ts rfl]
theorem ZjU{e:PE}(h:Pk (p σ) fun t=>∃ts,t=.lst ts∧Pk (e σ) fun u=>∃a:Nat,u=.int a∧Q (.lst (ts.drop a))): Pk (ZbM p (ZbZ e) ZbY σ) Q:=by
 obtain⟨_,e1,ts,rfl,_,e2,a,rfl,q⟩:=h
 refine⟨_,?_,q⟩
 simp only[ZbM,e1,ZbY,ZbZ,e2,Option.bind_some,Zfw ts rfl]
theorem ZcU{a b:List T}(hl:a.length+b.length≤10000)(h:Q (.lst (a++b))): Pk (ZI (.lst a) (.lst b)) Q:=by
 refine⟨_,?_,h⟩
 simp only[ZI]
 rw[if_pos (by rw[Zaz,List.length_append];omega)]
end
theorem ZiE{l:List T}{x:Nat}{w:T}(h:x<l.length): l.take x++[w]++l.drop (x+1)=l.set x w:=by
 rw[List.set_eq_take_append_cons_drop,if_pos h]
 simp
theorem ZiF{x:Nat}{f:Nat→T}{w:T}(hx:x<n)(hn:n≤1000)(hf:∀i,i<n→(f i).flat=true)(hw:w.flat=true): ZcZ [.lst (tab n f),.int ((x:Int)+1),w]=some (.lst (tab n fun i=>if i=x then w else f i)):=by
 apply Pk.eq
 unfold ZcZ Ze6
 have hlen:(tab n f).length=n:=Zaj
 walk_at "zz"
 refine ZjT ?_
 walk_at "zz"
 refine⟨_,rfl,?_⟩
 walk_at "zz"
 refine⟨x,by congr 1;omega,?_⟩
 walk_at "zz"
 refine ZcU (by simp[hlen];omega) ?_
 refine ZjU ?_
 walk_at "zz"
 refine⟨_,rfl,?_⟩
 walk_at "zz"
 refine⟨x+1,rfl,?_⟩
 refine ZcU (by simp[hlen];omega) ?_
 rw[ZiE (by omega),ZfY]
 refine⟨Zdj fun i hi=>?_,rfl⟩
 split
 ·exact hw
 ·exact hf i hi
noncomputable def ZZ(n:Nat)(c:Nat→Int): T:=.lst (tab (n+1) fun i=>.int (c i))
theorem tab_map{α β:Type}{f:Nat→α}{g:α→β}: (tab n f).map g=tab n fun i=>g (f i):=by simp[tab]
noncomputable def Z8(c:Nat→Int)(x:Nat→Int): Nat→Int
 | 0=>c 0
 | j+1=>Z8 c x j+c (j+1)*x j
theorem Zf3{c x:Nat→Int}: ∀n,c 0+(tab n fun i=>c (i+1)*x i).sum=Z8 c x n
 | 0=>by simp[tab,Z8]
 | n+1=>by
  rw[←ZhJ (n:=n) (f:=fun i=>c (i+1)*x i),List.sum_append]
  have:=Zf3 (c:=c) (x:=x) n
  simp only[List.sum_cons,List.sum_nil,Z8]
  omega
noncomputable def gT(N:Nat)(Γ:Nat→Nat→Option Int): T:=.lst (tab N fun a=>.lst (tab N fun b=>oT (Γ a b)))
theorem Zgn{n b:Nat}{c x:Nat→Int}(bc:∀i,i<n+1→Bd b (c i))(bx:∀i,i<n→Bd b (x i)): ∀j,j≤n→Bd (b+b+j) (Z8 c x j)
 | 0,_=>(bc 0 (by omega)).mono (by omega)
 | j+1,hj=>by
  have h1:=Zgn bc bx j (by omega)
  have h2:=((bc (j+1) (by omega)).mul (bx j (by omega))).mono (show b+b≤b+b+j by omega)
  exact h1.add h2
noncomputable def Zdc(c:Nat→Int)(top:Int): Nat→Int:=fun k=>if k=0 then c 0-top else c k
theorem ZjB{b:Nat}{top:Int}(bc:∀i,i<n+1→Bd b (c i))(bt:Bd b top): ∀i,i<n+1→Bd (b+1) (Zdc c top i):=fun i hi=>by
 unfold Zdc
 split
 ·exact(bc 0 (by omega)).sub bt
 ·exact(bc i hi).mono (by omega)
theorem su: PyData.strOk (Str.ofString "under")=true:=by decide +kernel
noncomputable def unT(n:Nat)(c:Nat→Int): T:=.tup [.str (Str.ofString "under"),ZZ n c]
theorem ZiG{top:Int}: [T.int (c 0-top)]++(tab (n+1) fun i=>T.int (c i)).drop 1=tab (n+1) fun i=>T.int (Zdc c top i):=by
 apply List.ext_getElem
 ·simp[tab]
 ·intro i h1 h2
  cases i with
  | zero=>simp[tab,Zdc]
  | succ i=>simp[tab,Zdc]
theorem ss_: PyData.strOk (Str.ofString "same")=true:=by decide +kernel
noncomputable def smT(n:Nat)(c:Nat→Int): T:=.tup [.str (Str.ofString "same"),ZZ n c]
theorem se_: PyData.strOk (Str.ofString "even")=true:=by decide +kernel
theorem ZjC{b:Str}(h:a≠b): ¬(T.str a=T.str b):=fun q=>h (T.str.inj q)
noncomputable def evT(n:Nat)(c:Nat→Int)(d:Int): T:=.tup [.str (Str.ofString "even"),ZZ n c,.int d]
section
variable {Q:T→Prop}
theorem Za0(ha:PyData.strOk a=true)(h:Q (.bool true)): Pk (ZV (.str a) (.str a)) Q:=Ze3 (n:=1) (m:=1) (.str ha) (.str ha) (by rw[Zfd rfl];exact h)
theorem ZT{b:Str}(hab:(PyData.strOk a && PyData.strOk b && decide (a≠b))=true)(h:Q (.bool false)): Pk (ZV (.str a) (.str b)) Q:=by
 simp only[Bool.and_eq_true,decide_eq_true_eq]at hab
 exact Ze3 (n:=1) (m:=1) (.str hab.1.1) (.str hab.1.2) (by rw[Zfe (ZjC hab.2)];exact h)
end
theorem ZhV{b:Nat}(hn:n≤60)(hb:b≤100000)(bc:∀i,i<n+1→Bd b (c i))(bx:∀i,i<n→Bd b (x i)): ZaS [ZZ n c,Zq n x]=some (.int (Z8 c x n)):=by
 apply Pk.eq
 unfold ZaS ZeQ ZZ Zq
 have h0:0<n+1:=by omega
 walk_at "zz"
 refine ZhQ (n:=n) (a:=fun i=>.int (c (i+1))) (b:=fun i=>.int (x i)) (c:=fun i=>.int (c (i+1)*x i)) (by omega) ?_ (fun i hi=>?_) ?_
 ·refine Zgi ?_
  refine ZfB ?_
  walk_at "zz"
  refine⟨_,rfl,?_⟩
  rw[ZhU]
  walk_at "zz"
  rfl
 ·walk_at "zz"
  exact Zcs (ZfL (bc (i+1) (by omega)) (bx i hi) (by omega) (by omega)) rfl
 walk_at "zz"
 refine⟨.int (tab n fun i=>c (i+1)*x i).sum,by simp only[ZdO,ZhN,Option.map_some],?_⟩
 walk_at "zz"
 rw[show(Int.toNat 0)=0 from rfl,Zf3]
theorem ZfD{b:Nat}(hn:n≤60)(hb:b≤100000)(bc:∀i,i<n+1→Bd b (c i))(bx:∀i,i<n→Bd b (x i)): ZaQ [ZZ n c,Zq n x]=some (.int (Z8 c x n)):=by
 apply Pk.eq
 unfold ZaQ ZdY ZZ Zq
 have h0:0<n+1:=by omega
 walk_at "zz"
 refine Ze2 (n:=n) (a:=fun i=>.int i) (P:=fun k σ=>σ 0=some (.lst (tab (n+1) fun i=>.int (c i)))∧σ 1=some (.lst (tab n fun i=>.int (x i)))∧σ 2=some (.int (Z8 c x k))) ?_ ⟨by walk_at "zr",by walk_at "zr",by walk_at "zr"⟩ ?_ ?_
 ·walk_at "zz"
  rfl
 ·rintro i σ hi ⟨e0,e1,e2⟩
  walk_at "zz"
  rw[show((i:Int)+1).toNat=i+1 by omega]
  refine Zcs (ZfL (bc (i+1) (by omega)) (bx i hi) (by omega) (by omega)) ?_
  walk_at "zz"
  exact⟨by walk_at "zr",by walk_at "zr",by walk_at "zr"⟩
 ·rintro σ ⟨e0,e1,e2⟩
  walk_at "zz"
  rfl
theorem Zg4(h:ZaS [ZZ n c,Zq n x]=some (.int v)): Zbu [unT n c,Zq n x]=some (.bool (decide (v<0))):=by
 apply Pk.eq
 unfold Zbu ZcT unT
 walk_at "zz"
 refine Pk.of h ?_
 walk_at "zz"
 refine Za0 su ?_
 walk_at "zz"
 rfl
theorem Zg5(h:ZaS [ZZ n c,Zq n x]=some (.int v)): Zbu [smT n c,Zq n x]=some (.bool (decide (v=0))):=by
 apply Pk.eq
 unfold Zbu ZcT smT
 walk_at "zz"
 refine Pk.of h ?_
 walk_at "zz"
 refine ZT (by decide +kernel) ?_
 walk_at "zz"
 refine Za0 ss_ ?_
 walk_at "zz"
 rfl
theorem Zg6(hd:0<d)(h:ZaS [ZZ n c,Zq n x]=some (.int v)): Zbu [evT n c d,Zq n x]=some (.bool (decide (v.fmod d=0))):=by
 apply Pk.eq
 unfold Zbu ZcT evT
 walk_at "zz"
 refine Pk.of h ?_
 walk_at "zz"
 refine ZT (by decide +kernel) ?_
 walk_at "zz"
 refine ZT (by decide +kernel) ?_
 walk_at "zz"
 rfl
theorem Zgz(h:ZaQ [ZZ n c,Zq n x]=some (.int v)): Zbp [unT n c,Zq n x]=some (.bool (decide (v<0))):=by
 apply Pk.eq
 unfold Zbp ZcG unT
 walk_at "zz"
 refine Pk.of h ?_
 walk_at "zz"
 refine Za0 su ?_
 walk_at "zz"
 rfl
theorem ZgA(h:ZaQ [ZZ n c,Zq n x]=some (.int v)): Zbp [smT n c,Zq n x]=some (.bool (decide (v=0))):=by
 apply Pk.eq
 unfold Zbp ZcG smT
 walk_at "zz"
 refine Pk.of h ?_
 walk_at "zz"
 refine ZT (by decide +kernel) ?_
 walk_at "zz"
 refine Za0 ss_ ?_
 walk_at "zz"
 rfl
theorem ZgB(hd:0<d)(h:ZaQ [ZZ n c,Zq n x]=some (.int v)): Zbp [evT n c d,Zq n x]=some (.bool (decide (v.fmod d=0))):=by
 apply Pk.eq
 unfold Zbp ZcG evT
 walk_at "zz"
 refine Pk.of h ?_
 walk_at "zz"
 refine ZT (by decide +kernel) ?_
 walk_at "zz"
 refine ZT (by decide +kernel) ?_
 walk_at "zz"
 rfl
noncomputable def pkd(s:Sp)(p:Int): Int:=match s.1,s.2 with
 | none,none=>p
 | some l,none=>l+Zgy p
 | none,some h=>h-Zgy p
 | some l,some h=>l+p.fmod (h-l+1)
theorem Zhp{s:Sp}{p:Int}(h:∀x y,s.1=some x→s.2=some y→x≤y): Zdp [oT s.1,oT s.2,.int p]=some (.int (pkd s p)):=by
 apply Pk.eq
 unfold Zdp ZeD pkd
 obtain⟨a,b⟩:=s
 cases a with
 | none=>
  cases b with
  | none=>rw[Zcn];walk_at "zz";rfl
  | some y=>rw[Zcn,ZbG];walk_at "zz";rfl
 | some x=>
  cases b with
  | none=>rw[Zcn,ZbG];walk_at "zz";rfl
  | some y=>
   have:y-x+1≠0:=by have:=h x y rfl rfl;omega
   rw[ZbG,ZbG];walk_at "zz";rfl
theorem Zg7{s:Sp}{p:Int}(h:∀x y,s.1=some x→s.2=some y→x≤y): Zdi [.tup [oT s.1,oT s.2],.int p]=some (.int (pkd s p)):=by
 apply Pk.eq
 unfold Zdi Zed pkd
 obtain⟨a,b⟩:=s
 cases a with
 | none=>
  cases b with
  | none=>rw[Zcn];walk_at "zz";rfl
  | some y=>rw[Zcn,ZbG];walk_at "zz";rfl
 | some x=>
  cases b with
  | none=>rw[Zcn,ZbG];walk_at "zz";rfl
  | some y=>
   have:y-x+1≠0:=by have:=h x y rfl rfl;omega
   rw[ZbG,ZbG];walk_at "zz";rfl
theorem ZiH{m:Nat}{a:T}{ts:List T}(ha:Pln n a)(hb:Pln m (.tup ts))(hn:n≤8:=by decide)(hm:m≤8:=by decide): Zdb a (.tup ts)=some (dec (a∈ts)):=by
 have ha:=ha.mono hn
 have hb:=hb.mono hm
 obtain⟨a1,a2,a3⟩:=ha.dat
 obtain⟨b1,b2,b3⟩:=hb.dat
 unfold Zdb Zav
 rw[a1,b1]
 simp only[Option.bind_some,dd,inD]
 simp only[dd,PyData.canLay0]at b2
 rw[if_pos ⟨b2,a2,by omega⟩,Zgk]
 intro t m
 cases hb with
 | tup hs=>exact(hs t m).eqv ha
theorem Zb0{b c d:Str}(hok:(PyData.strOk a && PyData.strOk b && PyData.strOk c && PyData.strOk d)=true)(hr:decide (a=b∨a=c∨a=d)=r)(h:Q (.bool r)): Pk (qIn (.str a) (.tup [.str b,.str c,.str d])) Q:=by
 simp only[Bool.and_eq_true]at hok
 obtain⟨⟨⟨ha,hb⟩,hc⟩,hd⟩:=hok
 refine⟨.bool r,?_,h⟩
 have hp:Pln 1 (.tup [.str b,.str c,.str d]):=.tup fun t m=>by
  simp at m
  rcases m with rfl | rfl | rfl
  ·exact .str hb
  ·exact .str hc
  ·exact .str hd
 simp only[qIn,ZiH (.str ha:Pln 1 (.str a)) hp,Option.map_some]
 congr 2
 rw[←hr]
 exact Ze0 (by rw[decide_eq_true_eq];simp)
section
variable {n X:Nat} {c x:Nat→Int} {d p v:Int} {s:Sp} {A:T}
theorem Zdq(hX:X<n)(hn:n≤60): ZcZ [Zq n x,.int ((X:Int)+1),.int v]=some (Zq n fun i=>if i=X then v else x i):=by
 unfold Zq
 rw[ZiF hX (by omega) (fun i _=>rfl) rfl]
 congr 2
 refine Zcj fun i _=>?_
 show _=T.int (if i=X then v else x i)
 split <;> rfl
theorem ZhW(hv:ZaS [ZZ n c,Zq n x]=some (.int (Z8 c x n))): Zbh [Zq n x,.tup [.str (Str.ofString "set"),.int ((X:Int)+1),ZZ n c],.int p]=some (.int (Z8 c x n)):=by
 apply Pk.eq
 unfold Zbh Zcg
 walk_at "zz"
 refine ZT (by decide +kernel) ?_
 walk_at "zz"
 refine Pk.of hv ?_
 walk_at "zz"
 refine ZT (by decide +kernel) ?_
 walk_at "zz"
 refine ZT (by decide +kernel) ?_
 walk_at "zz"
 rfl
theorem ZhX(hX:X<n)(hn:n≤60)(hv:ZaS [ZZ n c,Zq n x]=some (.int (Z8 c x n))): ZaE [Zq n x,.tup [.str (Str.ofString "set"),.int ((X:Int)+1),ZZ n c],.int p]=some (Zq n fun i=>if i=X then Z8 c x n else x i):=by
 have hl:=Zdq (x:=x) (v:=Z8 c x n) hX hn
 have hw:=ZhW (n:=n) (X:=X) (x:=x) (p:=p) hv
 apply Pk.eq
 unfold ZaE Zbx
 walk_at "zz"
 refine ZT (by decide +kernel) ?_
 walk_at "zz"
 refine Zb0 (by decide +kernel) (r:=false) (by decide +kernel) ?_
 walk_at "zz"
 refine Pk.of hw ?_
 walk_at "zz"
 exact Pk.of hl rfl
theorem ZiI(hX:X<n)(hn:n≤60)(hw:ZaQ [ZZ n c,Zq n x]=some (.int (Z8 c x n))): ZaF [Zq n x,.tup [.str (Str.ofString "set"),.int ((X:Int)+1),ZZ n c],.int p]=some (Zq n fun i=>if i=X then Z8 c x n else x i):=by
 apply Pk.eq
 unfold ZaF Zbq Zq
 have hX2:((X:Int)+1-1).toNat=X:=by omega
 unfold Zq at hw
 walk_at "zz"
 refine ZT (by decide +kernel) ?_
 walk_at "zz"
 refine Za0 (by decide +kernel) ?_
 walk_at "zz"
 refine Pk.of hw ?_
 walk_at "zz"
 refine Zdm (n:=n) (f:=fun i=>.int (x i)) (by walk_at "zr") (by omega) (by omega) ?_
 rw[hX2]
 walk_at "zz"
 refine ZT (by decide +kernel) ?_
 walk_at "zz"
 refine ZT (by decide +kernel) ?_
 walk_at "zz"
 refine ZT (by decide +kernel) ?_
 walk_at "zz"
 show T.lst _=T.lst _
 congr 1
 refine Zcj fun i _=>?_
 show _=T.int (if i=X then Z8 c x n else x i)
 split <;> rfl
theorem Zhq(hd:0<d)(bd:Bd 300 d)(hv:ZaS [ZZ n c,Zq n x]=some (.int (Z8 c x n))): Zbh [Zq n x,.tup [.str (Str.ofString "part"),.int ((X:Int)+1),ZZ n c,.int d],.int p]=some (.int ((Z8 c x n).fdiv d)):=by
 apply Pk.eq
 unfold Zbh Zcg
 walk_at "zz"
 refine ZT (by decide +kernel) ?_
 walk_at "zz"
 refine Pk.of hv ?_
 walk_at "zz"
 refine Za0 (by decide +kernel) ?_
 walk_at "zz"
 exact ZaK (by omega) (Zgm bd (by decide)) rfl
theorem Zhr(hX:X<n)(hn:n≤60)(hd:0<d)(bd:Bd 300 d)(hv:ZaS [ZZ n c,Zq n x]=some (.int (Z8 c x n))): ZaE [Zq n x,.tup [.str (Str.ofString "part"),.int ((X:Int)+1),ZZ n c,.int d],.int p]=some (Zq n fun i=>if i=X then(Z8 c x n).fdiv d else x i):=by
 have hl:=Zdq (x:=x) (v:=(Z8 c x n).fdiv d) hX hn
 have hw:=Zhq (n:=n) (X:=X) (x:=x) (p:=p) hd bd hv
 apply Pk.eq
 unfold ZaE Zbx
 walk_at "zz"
 refine ZT (by decide +kernel) ?_
 walk_at "zz"
 refine Zb0 (by decide +kernel) (r:=false) (by decide +kernel) ?_
 walk_at "zz"
 refine Pk.of hw ?_
 walk_at "zz"
 exact Pk.of hl rfl
theorem ZhY(hX:X<n)(hn:n≤60)(hd:0<d)(bd:Bd 300 d)(hw:ZaQ [ZZ n c,Zq n x]=some (.int (Z8 c x n))): ZaF [Zq n x,.tup [.str (Str.ofString "part"),.int ((X:Int)+1),ZZ n c,.int d],.int p]=some (Zq n fun i=>if i=X then(Z8 c x n).fdiv d else x i):=by
 apply Pk.eq
 unfold ZaF Zbq Zq
 have hX2:((X:Int)+1-1).toNat=X:=by omega
 unfold Zq at hw
 walk_at "zz"
 refine ZT (by decide +kernel) ?_
 walk_at "zz"
 refine ZT (by decide +kernel) ?_
 walk_at "zz"
 refine Za0 (by decide +kernel) ?_
 walk_at "zz"
 refine Pk.of hw ?_
 walk_at "zz"
 refine ZaK (by omega) (Zgm bd (by decide)) ?_
 walk_at "zz"
 refine Zdm (n:=n) (f:=fun i=>.int (x i)) (by walk_at "zr") (by omega) (by omega) ?_
 rw[hX2]
 walk_at "zz"
 refine ZT (by decide +kernel) ?_
 walk_at "zz"
 refine ZT (by decide +kernel) ?_
 walk_at "zz"
 show T.lst _=T.lst _
 congr 1
 refine Zcj fun i _=>?_
 show _=T.int (if i=X then(Z8 c x n).fdiv d else x i)
 split <;> rfl
theorem Zhs(hd:0<d)(hv:ZaS [ZZ n c,Zq n x]=some (.int (Z8 c x n))): Zbh [Zq n x,.tup [.str (Str.ofString "rest"),.int ((X:Int)+1),ZZ n c,.int d],.int p]=some (.int ((Z8 c x n).fmod d)):=by
 apply Pk.eq
 unfold Zbh Zcg
 walk_at "zz"
 refine ZT (by decide +kernel) ?_
 walk_at "zz"
 refine Pk.of hv ?_
 walk_at "zz"
 refine ZT (by decide +kernel) ?_
 walk_at "zz"
 refine Za0 (by decide +kernel) ?_
 walk_at "zz"
 rfl
theorem Zht(hX:X<n)(hn:n≤60)(hd:0<d)(hv:ZaS [ZZ n c,Zq n x]=some (.int (Z8 c x n))): ZaE [Zq n x,.tup [.str (Str.ofString "rest"),.int ((X:Int)+1),ZZ n c,.int d],.int p]=some (Zq n fun i=>if i=X then(Z8 c x n).fmod d else x i):=by
 have hl:=Zdq (x:=x) (v:=(Z8 c x n).fmod d) hX hn
 have hw:=Zhs (n:=n) (X:=X) (x:=x) (p:=p) hd hv
 apply Pk.eq
 unfold ZaE Zbx
 walk_at "zz"
 refine ZT (by decide +kernel) ?_
 walk_at "zz"
 refine Zb0 (by decide +kernel) (r:=false) (by decide +kernel) ?_
 walk_at "zz"
 refine Pk.of hw ?_
 walk_at "zz"
 exact Pk.of hl rfl
theorem ZhZ(hX:X<n)(hn:n≤60)(hd:0<d)(hw:ZaQ [ZZ n c,Zq n x]=some (.int (Z8 c x n))): ZaF [Zq n x,.tup [.str (Str.ofString "rest"),.int ((X:Int)+1),ZZ n c,.int d],.int p]=some (Zq n fun i=>if i=X then(Z8 c x n).fmod d else x i):=by
 apply Pk.eq
 unfold ZaF Zbq Zq
 have hX2:((X:Int)+1-1).toNat=X:=by omega
 unfold Zq at hw
 walk_at "zz"
 refine ZT (by decide +kernel) ?_
 walk_at "zz"
 refine ZT (by decide +kernel) ?_
 walk_at "zz"
 refine ZT (by decide +kernel) ?_
 walk_at "zz"
 refine Za0 (by decide +kernel) ?_
 walk_at "zz"
 refine Pk.of hw ?_
 walk_at "zz"
 refine Zdm (n:=n) (f:=fun i=>.int (x i)) (by walk_at "zr") (by omega) (by omega) ?_
 rw[hX2]
 walk_at "zz"
 refine ZT (by decide +kernel) ?_
 walk_at "zz"
 show T.lst _=T.lst _
 congr 1
 refine Zcj fun i _=>?_
 show _=T.int (if i=X then(Z8 c x n).fmod d else x i)
 split <;> rfl
theorem Zh0(hs:∀x y,s.1=some x→s.2=some y→x≤y): Zbh [Zq n x,.tup [.str (Str.ofString "any"),.int ((X:Int)+1),oT s.1,oT s.2],.int p]=some (.int (pkd s p)):=by
 apply Pk.eq
 unfold Zbh Zcg
 walk_at "zz"
 refine Za0 (by decide +kernel) ?_
 walk_at "zz"
 exact Pk.of (Zhp hs) rfl
theorem Zh1(hX:X<n)(hn:n≤60)(hs:∀x y,s.1=some x→s.2=some y→x≤y): ZaE [Zq n x,.tup [.str (Str.ofString "any"),.int ((X:Int)+1),oT s.1,oT s.2],.int p]=some (Zq n fun i=>if i=X then pkd s p else x i):=by
 have hl:=Zdq (x:=x) (v:=pkd s p) hX hn
 have hw:=Zh0 (n:=n) (X:=X) (x:=x) (p:=p) hs
 apply Pk.eq
 unfold ZaE Zbx
 walk_at "zz"
 refine ZT (by decide +kernel) ?_
 walk_at "zz"
 refine Zb0 (by decide +kernel) (r:=false) (by decide +kernel) ?_
 walk_at "zz"
 refine Pk.of hw ?_
 walk_at "zz"
 exact Pk.of hl rfl
theorem ZiJ(hX:X<n)(hn:n≤60)(hs:∀x y,s.1=some x→s.2=some y→x≤y): ZaF [Zq n x,.tup [.str (Str.ofString "any"),.int ((X:Int)+1),oT s.1,oT s.2],.int p]=some (Zq n fun i=>if i=X then pkd s p else x i):=by
 apply Pk.eq
 unfold ZaF Zbq Zq
 have hX2:((X:Int)+1-1).toNat=X:=by omega
 walk_at "zz"
 refine ZT (by decide +kernel) ?_
 walk_at "zz"
 refine ZT (by decide +kernel) ?_
 walk_at "zz"
 refine ZT (by decide +kernel) ?_
 walk_at "zz"
 refine ZT (by decide +kernel) ?_
 walk_at "zz"
 refine Za0 (by decide +kernel) ?_
 walk_at "zz"
 refine Pk.of (Zg7 hs) ?_
 walk_at "zz"
 refine Zdm (n:=n) (f:=fun i=>.int (x i)) (by walk_at "zr") (by omega) (by omega) ?_
 rw[hX2]
 walk_at "zz"
 show T.lst _=T.lst _
 congr 1
 refine Zcj fun i _=>?_
 show _=T.int (if i=X then pkd s p else x i)
 split <;> rfl
theorem Zeu{Cl:T}{b:Bool}(h:Zbu [Cl,Zq n x]=some (.bool r)): ZaE [Zq n x,.tup [.str (Str.ofString "when"),Cl,.bool b],.int p]=some (if r=b then Zq n x else .none):=by
 have hl:∀{Q:T→Prop},Q (Zq n x)→Pk (Zbw [Zq n x]) Q:=fun h=>⟨_,rfl,h⟩
 have hf:(Zq n x).flatIn=true:=Zdj fun _ _=>rfl
 apply Pk.eq
 unfold ZaE Zbx
 cases r <;> cases b
 all_goals
  walk_at "zz"
  refine Za0 (by decide +kernel) ?_
  walk_at "zz"
  refine Pk.of h ?_
  walk_at "zz"
  first
  | rfl
  | (refine Zb0 (by decide +kernel) (r:=true) (by decide +kernel) ?_;walk_at "zz";refine hl ?_;refine⟨hf,?_⟩;walk_at "zz";rfl)
theorem ZeH{Cl:T}{b:Bool}(h:Zbp [Cl,Zq n x]=some (.bool r)): ZaF [Zq n x,.tup [.str (Str.ofString "when"),Cl,.bool b],.int p]=some (if r=b then Zq n x else .none):=by
 apply Pk.eq
 unfold ZaF Zbq
 have hl:∀{Q:T→Prop},Q (Zq n x)→Pk (Zbw [Zq n x]) Q:=fun h=>⟨_,rfl,h⟩
 have hf:(Zq n x).flatIn=true:=Zdj fun _ _=>rfl
 cases r <;> cases b
 all_goals
  walk_at "zz"
  refine hl ?_
  refine⟨hf,?_⟩
  walk_at "zz"
  refine Za0 (by decide +kernel) ?_
  walk_at "zz"
  refine Pk.of h ?_
  walk_at "zz"
  rfl
theorem ZiK: ZaE [Zq n x,.tup [.str (Str.ofString "go")],.int p]=some (Zq n x):=by
 apply Pk.eq
 unfold ZaE Zbx
 walk_at "zz"
 refine ZT (by decide +kernel) ?_
 walk_at "zz"
 refine Zb0 (by decide +kernel) (r:=true) (by decide +kernel) ?_
 unfold Zq
 walk_at "zz"
 rfl
theorem ZjD: ZaF [Zq n x,.tup [.str (Str.ofString "go")],.int p]=some (Zq n x):=by
 apply Pk.eq
 unfold ZaF Zbq Zq
 walk_at "zz"
 refine ZT (by decide +kernel) ?_
 walk_at "zz"
 refine ZT (by decide +kernel) ?_
 walk_at "zz"
 refine ZT (by decide +kernel) ?_
 walk_at "zz"
 refine ZT (by decide +kernel) ?_
 walk_at "zz"
 refine ZT (by decide +kernel) ?_
 walk_at "zz"
 rfl
theorem ZfM: ZaE [Zq n x,.tup [.str (Str.ofString "say"),A],.int p]=some (Zq n x):=by
 apply Pk.eq
 unfold ZaE Zbx
 walk_at "zz"
 refine ZT (by decide +kernel) ?_
 walk_at "zz"
 refine Zb0 (by decide +kernel) (r:=true) (by decide +kernel) ?_
 unfold Zq
 walk_at "zz"
 rfl
theorem Zf4: ZaF [Zq n x,.tup [.str (Str.ofString "say"),A],.int p]=some (Zq n x):=by
 apply Pk.eq
 unfold ZaF Zbq Zq
 walk_at "zz"
 refine ZT (by decide +kernel) ?_
 walk_at "zz"
 refine ZT (by decide +kernel) ?_
 walk_at "zz"
 refine ZT (by decide +kernel) ?_
 walk_at "zz"
 refine ZT (by decide +kernel) ?_
 walk_at "zz"
 refine ZT (by decide +kernel) ?_
 walk_at "zz"
 rfl
end
inductive Bl: Nat→T→Prop where
 | none {n:Nat}:Bl n .none
 | bool {n:Nat} {b:Bool}:Bl n (.bool b)
 | int {n:Nat} {i:Int}:Bl n (.int i)
 | str {n:Nat} {x:Str}:PyData.strOk x=true→Bl n (.str x)
 | tup {n:Nat} {ts:List T}:(∀t∈ts,Bl n t)→ts.length≤10000→Bl (n+1) (.tup ts)
 | lst {n:Nat} {ts:List T}:(∀t∈ts,Bl n t)→ts.length≤10000→Bl (n+1) (.lst ts)
theorem Bl.mono(h:Bl n t): ∀{m:Nat},n≤m→Bl m t:=by
 induction h with
 | none=>intro m _;exact .none
 | bool=>intro m _;exact .bool
 | int=>intro m _;exact .int
 | str h=>intro m _;exact .str h
 | tup hs hl ih=>
  intro m hm
  cases m with
  | zero=>omega
  | succ m=>exact .tup (fun t a=>ih t a (by omega)) hl
 | lst hs hl ih=>
  intro m hm
  cases m with
  | zero=>omega
  | succ m=>exact .lst (fun t a=>ih t a (by omega)) hl
theorem Bl.dat(h:Bl n t): ZaJ n t=some (dd t)∧PyData.canLay0 (dd t)=true∧PyData.depth (dd t)≤n:=by
 induction h with
 | @none n=>cases n <;> exact⟨rfl,rfl,by simp[dd,PyData.depth]⟩
 | @bool n b=>cases n <;> exact⟨rfl,rfl,by simp[dd,PyData.depth]⟩
 | @int n i=>cases n <;> exact⟨rfl,rfl,by simp[dd,PyData.depth]⟩
 | @str n x h=>cases n <;> exact⟨rfl,by simpa [dd,PyData.canLay0]using h,by simp[dd,PyData.depth]⟩
 | @tup n ts _ _ ih=>
  refine⟨?_,?_,?_⟩
  ·simp only[ZaJ,ZcN fun t m=>(ih t m).1,Option.map_some,dd]
  ·simp only[dd,PyData.canLay0];exact ZcR fun t m=>(ih t m).2.1
  ·simp only[dd,PyData.depth]
   have:=ZcS fun t m=>(ih t m).2.2
   omega
 | @lst n ts _ _ ih=>
  refine⟨?_,?_,?_⟩
  ·simp only[ZaJ,ZcN fun t m=>(ih t m).1,Option.map_some,dd]
  ·simp only[dd,PyData.canLay0];exact ZcR fun t m=>(ih t m).2.1
  ·simp only[dd,PyData.depth]
   have:=ZcS fun t m=>(ih t m).2.2
   omega
theorem Zev: ∀{ts:List T},(∀t∈ts,PyData.eqv (dd t) (dd t)=true)→PyData.eqvAll (dds ts) (dds ts)=true
 | [],_=>by simp[dds,PyData.eqvAll]
 | t::ts,h=>by
  simp only[dds,PyData.eqvAll,Bool.and_eq_true,h t Zz5,Zev fun t m=>h t (Zz2 _ m),and_self]
theorem Bl.eqv(h:Bl n t): PyData.eqv (dd t) (dd t)=true:=by
 induction h with
 | none=>simp[dd,PyData.eqv]
 | bool=>simp[dd,PyData.eqv]
 | int=>simp[dd,PyData.eqv]
 | str _=>simp[dd,PyData.eqv]
 | tup hs _ ih=>simp only[dd,PyData.eqv];exact Zev ih
 | lst hs _ ih=>simp only[dd,PyData.eqv];exact Zev ih
theorem ZfN{a:T}(ha:Bl n a)(hn:n≤8:=by decide): Za6 a a=some true:=by
 have ha:=ha.mono hn
 obtain⟨a1,a2,a3⟩:=ha.dat
 unfold Za6 Zav
 rw[a1]
 simp only[Option.bind_some]
 have hs:SeqAt.shaped (dd a)=true:=by simp only[SeqAt.shaped,a2,Bool.true_and,decide_eq_true_eq];omega
 rw[if_pos ⟨hs,hs⟩,ha.eqv]
section
variable {Q:T→Prop}
theorem Zgo{a:T}(ha:Bl n a)(h:Q (.bool true))(hn:n≤8:=by decide): Pk (ZV a a) Q:=⟨_,by simp only[ZV,ZfN ha hn,Option.map_some],h⟩
theorem ZjE{a:T}(ha:Bl n a)(h:Q (.bool false))(hn:n≤8:=by decide): Pk (qNe a a) Q:=⟨_,by simp only[qNe,ZfN ha hn,Option.map_some];rfl,h⟩
end
theorem Zhu(h:Bl n t): ZbW (n+1) [t]=some t:=by
 induction h with
 | none=>rfl
 | bool=>rfl
 | int=>rfl
 | str _=>rfl
 | @tup n ts hs hl ih=>
  apply Pk.eq
  show Pk (Zai 1 (Zcf (ZbW (n+1))) [.tup ts]) _
  unfold Zcf
  walk_at "zz"
  refine Zf2 (ts:=ts) rfl hl ih ?_
  walk_at "zz"
  rfl
 | @lst n ts hs hl ih=>
  apply Pk.eq
  show Pk (Zai 1 (Zcf (ZbW (n+1))) [.lst ts]) _
  unfold Zcf
  walk_at "zz"
  exact Zf2 (ts:=ts) rfl hl ih rfl
theorem Zhv(h:Bl 8 t): Zd6 [t]=some t:=Zhu h
theorem ZgU: ZbC [.none,.none]=some (.bool true):=by
 apply Pk.eq
 unfold ZbC Zdh
 walk_at "zz"
 rfl
theorem Zg8{y:Nat→Int}(hn:n≤60): ZbC [Zq n y,Zq n y]=some (.bool true):=by
 apply Pk.eq
 unfold ZbC Zdh
 have pl:Pln 1 (.lst (tab n fun i=>T.int (y i))):=ZiC
 unfold Zq
 walk_at "zz"
 refine Ze2 (n:=n) (a:=fun i=>.int (y i)) (P:=fun k σ=>σ 0=some (.lst (tab n fun i=>.int (y i)))∧σ 1=some (.lst (tab n fun i=>.int (y i)))) ?_ ⟨by walk_at "zr",by walk_at "zr"⟩ ?_ ?_
 ·walk_at "zz"
  rfl
 ·rintro i σ hi ⟨e0,e1⟩
  walk_at "zz"
  exact⟨by walk_at "zr",by walk_at "zr"⟩
 ·rintro σ ⟨e0,e1⟩
  walk_at "zz"
  refine Ze3 pl pl ?_
  rw[Zfd rfl]
theorem Zbi{A D:T}{p:Int}(hn:n≤60)(hA:Bl 6 A)(h1:ZaE [Zq n x,A,.int p]=some D)(h2:ZaF [Zq n x,A,.int p]=some D)(hD:D=.none∨∃y,D=Zq n y): ZbB [Zq n x,A,.int p]=some (.bool true):=by
 have hs:ZbC [D,D]=some (.bool true):=by
  rcases hD with rfl | ⟨y,rfl⟩
  ·exact ZgU
  ·exact Zg8 hn
 have hl:∀{Q:T→Prop},Q (Zq n x)→Pk (Zbw [Zq n x]) Q:=fun h=>⟨_,rfl,h⟩
 have bb:Bl 7 (.lst [Zq n x,A]):=.lst (fun t m=>by
  simp at m
  rcases m with rfl | rfl
  ·exact .lst (fun t m=>by obtain⟨i,_,rfl⟩:=Zdy m;exact .int) (by rw[Zaj];omega)
  ·exact hA) (by simp)
 have cp:=Zhv (hA.mono (by decide))
 apply Pk.eq
 unfold ZbB Zd3
 walk_at "zz"
 refine Pk.of h2 ?_
 walk_at "zz"
 refine hl ?_
 walk_at "zz"
 refine Pk.of cp ?_
 walk_at "zz"
 refine Pk.of h1 ?_
 walk_at "zz"
 refine Pk.of hs ?_
 walk_at "zz"
 refine ZjE bb ?_
 walk_at "zz"
 rcases hD with rfl | ⟨y,rfl⟩
 ·walk_at "zz"
  refine Pk.of h1 ?_
  walk_at "zz"
  refine Pk.of hs ?_
  walk_at "zz"
  refine Zgo bb ?_
  rfl
 ·have hn2:∀{Q:T→Prop},Q (.bool true)→Pk (ZdD (Zq n y) .none) Q:=fun h=>⟨_,rfl,h⟩
  refine hn2 ?_
  have eb:Zq n y=.lst (tab n fun i=>.int (y i)):=rfl
  rw[eb]at *
  walk_at "zz"
  refine Pk.of h1 ?_
  walk_at "zz"
  refine Pk.of hs ?_
  walk_at "zz"
  refine Zgo bb ?_
  rfl
noncomputable def Zfh(n X:Nat)(c:Nat→Int)(d:Int)(s:Sp)(b:Bool): List T:=[.tup [.str (Str.ofString "set"),.int ((X:Int)+1),ZZ n c],.tup [.str (Str.ofString "part"),.int ((X:Int)+1),ZZ n c,.int d],.tup [.str (Str.ofString "rest"),.int ((X:Int)+1),ZZ n c,.int d],.tup [.str (Str.ofString "any"),.int ((X:Int)+1),oT s.1,oT s.2],.tup [.str (Str.ofString "when"),unT n c,.bool b],.tup [.str (Str.ofString "when"),smT n c,.bool b],.tup [.str (Str.ofString "when"),evT n c d,.bool b],.tup [.str (Str.ofString "go")],.tup [.str (Str.ofString "say"),smT n c],.tup [.str (Str.ofString "say"),evT n c d]]
section
variable {n X:Nat} {c x:Nat→Int} {d p:Int} {s:Sp} {b:Bool}
theorem ZiL: ZcL [ZZ n c,.int ((X:Int)+1),.int d,spT s,.bool b]=some (.lst (Zfh n X c d s b)):=by
 apply Pk.eq
 unfold ZcL Zes spT
 walk_at "zz"
 refine ZcU (by simp) ?_
 walk_at "zz"
 refine ZcU (by simp) ?_
 rfl
theorem ZjF(hX:X<n)(hn:n≤4)(bc:∀i,i<n+1→Bd 450 (c i))(bx:∀i,i<n→Bd 450 (x i))(hd:0<d)(bd:Bd 300 d)(hs:∀x y,s.1=some x→s.2=some y→x≤y): ∀j,j<10→∃A,(Zfh n X c d s b)[j]?=some A∧ZbB [Zq n x,A,.int p]=some (.bool true):=by
 have hv:=ZhV (n:=n) (b:=450) (c:=c) (x:=x) (by omega) (by decide) bc bx
 have hw:=ZfD (n:=n) (b:=450) (c:=c) (x:=x) (by omega) (by decide) bc bx
 have bs:Bl 3 (ZZ n c):=.lst (fun t m=>by obtain⟨i,_,rfl⟩:=Zdy m;exact .int) (by rw[Zaj];omega)
 have s1:∀{a:Option Int} {k:Nat},Bl k (oT a):=fun {a k}=>by cases a;exact .none;exact .int
 have bu:Bl 4 (unT n c):=.tup (fun t m=>by
  simp at m
  rcases m with rfl | rfl
  ·exact .str su
  ·exact bs) (by simp)
 have bm:Bl 4 (smT n c):=.tup (fun t m=>by
  simp at m
  rcases m with rfl | rfl
  ·exact .str ss_
  ·exact bs) (by simp)
 have be:Bl 4 (evT n c d):=.tup (fun t m=>by
  simp at m
  rcases m with rfl | rfl | rfl
  ·exact .str se_
  ·exact bs
  ·exact .int) (by simp)
 have box:∀y,Zq n y=.none∨∃z,Zq n y=Zq n z:=fun y=>.inr ⟨y,rfl⟩
 have ifb:∀{r b:Bool},(if r=b then Zq n x else .none)=.none∨∃z,(if r=b then Zq n x else .none)=Zq n z:=fun {r b}=>by
  split
  ·exact .inr ⟨x,rfl⟩
  ·exact .inl rfl
 intro j hj
 match j,hj with
 | 0,_=>exact⟨_,rfl,Zbi (by omega) (.tup (fun t m=>by simp at m;rcases m with rfl | rfl | rfl;exact .str (by decide +kernel);exact .int;exact bs.mono (by decide)) (by simp)) (ZhX hX (by omega) hv) (ZiI hX (by omega) hw) (box _)⟩
 | 1,_=>exact⟨_,rfl,Zbi (by omega) (.tup (fun t m=>by simp at m;rcases m with rfl | rfl | rfl | rfl;exact .str (by decide +kernel);exact .int;exact bs.mono (by decide);exact .int) (by simp)) (Zhr hX (by omega) hd bd hv) (ZhY hX (by omega) hd bd hw) (box _)⟩
 | 2,_=>exact⟨_,rfl,Zbi (by omega) (.tup (fun t m=>by simp at m;rcases m with rfl | rfl | rfl | rfl;exact .str (by decide +kernel);exact .int;exact bs.mono (by decide);exact .int) (by simp)) (Zht hX (by omega) hd hv) (ZhZ hX (by omega) hd hw) (box _)⟩
 | 3,_=>exact⟨_,rfl,Zbi (by omega) (.tup (fun t m=>by simp at m;rcases m with rfl | rfl | rfl | rfl;exact .str (by decide +kernel);exact .int;exact s1;exact s1) (by simp)) (Zh1 hX (by omega) hs) (ZiJ hX (by omega) hs) (box _)⟩
 | 4,_=>exact⟨_,rfl,Zbi (by omega) (.tup (fun t m=>by simp at m;rcases m with rfl | rfl | rfl;exact .str (by decide +kernel);exact bu.mono (by decide);exact .bool) (by simp)) (Zeu (Zg4 hv)) (ZeH (Zgz hw)) ifb⟩
 | 5,_=>exact⟨_,rfl,Zbi (by omega) (.tup (fun t m=>by simp at m;rcases m with rfl | rfl | rfl;exact .str (by decide +kernel);exact bm.mono (by decide);exact .bool) (by simp)) (Zeu (Zg5 hv)) (ZeH (ZgA hw)) ifb⟩
 | 6,_=>exact⟨_,rfl,Zbi (by omega) (.tup (fun t m=>by simp at m;rcases m with rfl | rfl | rfl;exact .str (by decide +kernel);exact be.mono (by decide);exact .bool) (by simp)) (Zeu (Zg6 hd hv)) (ZeH (ZgB hd hw)) ifb⟩
 | 7,_=>exact⟨_,rfl,Zbi (by omega) (.tup (fun t m=>by simp at m;rcases m with rfl;exact .str (by decide +kernel)) (by simp)) ZiK ZjD (box _)⟩
 | 8,_=>exact⟨_,rfl,Zbi (by omega) (.tup (fun t m=>by simp at m;rcases m with rfl | rfl;exact .str (by decide +kernel);exact bm.mono (by decide)) (by simp)) ZfM Zf4 (box _)⟩
 | 9,_=>exact⟨_,rfl,Zbi (by omega) (.tup (fun t m=>by simp at m;rcases m with rfl | rfl;exact .str (by decide +kernel);exact be.mono (by decide)) (by simp)) ZfM Zf4 (box _)⟩
end
theorem ZiM{k:Int}(hn:n≤4)(bc:∀i,i<n+1→Bd 200 (c i))(bx:∀i,i<n→Bd 200 (x i)): Pk (ZcK [ZZ n c,Zq n x,.int k]) fun t=>∃c',t=ZZ n c'∧∀i,i<n+1→Bd 450 (c' i):=by
 unfold ZcK Zep
 have hw:=ZfD (n:=n) (b:=200) (c:=c) (x:=x) (by omega) (by decide) bc bx
 have es:ZZ n c=.lst (tab (n+1) fun i=>.int (c i)):=rfl
 have bv:=(Zgn bc bx n (Zz10 n)).mono (show 200+200+n≤404 by omega)
 walk_at "zz"
 refine⟨fun q=>?_,fun q=>?_⟩
 ·walk_at "zz"
  exact⟨c,rfl,fun i hi=>(bc i hi).mono (by decide)⟩
 ·rw[es]at hw ⊢
  walk_at "zz"
  refine Pk.of hw ?_
  walk_at "zz"
  refine ZaK (by decide) (ZaR (by decide) (by decide)) ?_
  walk_at "zz"
  refine ZfB ?_
  walk_at "zz"
  refine⟨_,rfl,?_⟩
  refine ZcU (by simp[tab];omega) ?_
  have z0:=Int.fmod_nonneg_of_pos (k.fdiv 2) (show(0:Int)<3 by decide)
  have z1:=Int.fmod_lt_of_pos (k.fdiv 2) (show(0:Int)<3 by decide)
  generalize (k.fdiv 2).fmod 3=u at *
  rw[show c (Int.toNat 0)-Z8 c x n+u-1=c 0-(Z8 c x n-u+1)by rw[show Int.toNat 0=0 from rfl];omega,ZiG]
  refine⟨_,rfl,fun i hi=>?_⟩
  have hu:Bd 404 (u-1):=(show Bd 2 (u-1)by unfold Bd;omega).mono (by decide)
  have h2:Bd 405 (Z8 c x n-u+1):=by rw[show Z8 c x n-u+1=Z8 c x n-(u-1)by omega];exact bv.sub hu
  exact(ZjB (fun i hi=>(bc i hi).mono (by decide)) h2 i hi).mono (by decide)
theorem stretch_14{a code:Int}: Pk (ZcE [.int a,.int b,.int code]) fun t=>∃s:Sp,t=spT s∧∀x y,s.1=some x→s.2=some y→x≤y:=by
 unfold ZcE ZdU
 by_cases c1:code.fmod 4=1
 ·by_cases c2:(code.fdiv 4).fmod 4=1
  ·walk_at "zz"
   refine ZaK (by decide) (ZaR (by decide) (by decide)) ?_
   walk_at "zz"
   exact⟨(none,none),rfl,fun x y h=>by cases h⟩
  ·walk_at "zz"
   refine ZaK (by decide) (ZaR (by decide) (by decide)) ?_
   walk_at "zz"
   exact⟨(none,some _),rfl,fun x y h=>by cases h⟩
 ·by_cases c2:(code.fdiv 4).fmod 4=1
  ·walk_at "zz"
   refine ZaK (by decide) (ZaR (by decide) (by decide)) ?_
   walk_at "zz"
   exact⟨(some _,none),rfl,fun x y _ h=>by cases h⟩
  ·walk_at "zz"
   refine ZaK (by decide) (ZaR (by decide) (by decide)) ?_
   walk_at "zz"
   refine⟨(some _,some _),rfl,fun x y h1 h2=>?_⟩
   cases h1
   cases h2
   repeat' split
   all_goals omega
theorem ZjX(h:Q (.int 1000000)): Pk (Zap (.int 10) (.int 6)) Q:=⟨_,by simp only[Zap];rw[if_pos (by decide +kernel)];rfl,h⟩
theorem Zhw(hv:Cell v): Pk (ZcI [.int v]) fun t=>∃f,t=.int f∧Bd 200 f:=by
 unfold ZcI Zei
 have h9:=T9_eq
 have hz:(2*T9+1:Int)≠0:=by omega
 have mo:mulOk (v.fdiv 4) M5=true:=by
  unfold M5
  exact Zex (IntMulOk.of_bits (ZfC (by decide) hv).bits (Nat.le_trans (PyProof.Rows.intBits_le (k:=256) (by decide +kernel)) (by decide)))
 by_cases q:v.fmod 4=0
 ·walk_at "zz"
  refine ZaK (by decide) (ZaR (by decide) (by decide)) ?_
  walk_at "zz"
  refine Zfg ?_
  refine Zcs mo ?_
  walk_at "zz"
  refine ZdR ?_
  walk_at "zz"
  refine ZeT (by decide) (by decide) ?_
  walk_at "zz"
  refine ZdR ?_
  walk_at "zz"
  have z0:=Int.fmod_nonneg_of_pos (v.fdiv 4*M5) (show(0:Int)<2*T9+1 by omega)
  have z1:=Int.fmod_lt_of_pos (v.fdiv 4*M5) (show(0:Int)<2*T9+1 by omega)
  exact⟨_,rfl,(show Bd 40 _ by unfold Bd;omega).mono (by decide)⟩
 ·walk_at "zz"
  refine ZaK (by decide) (ZaR (by decide) (by decide)) ?_
  walk_at "zz"
  refine Zfg ?_
  refine Zcs mo ?_
  walk_at "zz"
  have z0:=Int.fmod_nonneg_of_pos (v.fdiv 4*M5) (show(0:Int)<9 by decide)
  have z1:=Int.fmod_lt_of_pos (v.fdiv 4*M5) (show(0:Int)<9 by decide)
  exact⟨_,rfl,(show Bd 40 _ by unfold Bd;omega).mono (by decide)⟩
theorem Zhx{g:PEs}(h3:3≤b)(h9:b≤62)(e:g σ=some [.int 2,.int b,.int 10]): Pl (ZaU g σ) fun ts=>ts=tab (rngN 2 b 10) fun i=>.int (2+(i:Int)*10):=by
 refine⟨_,?_,rfl⟩
 unfold ZaU
 rw[e]
 show Za8 2 b 10=_
 rw[Ze1 (Zf8 (H:=[]) (a:=2) (b:=b) (c:=10) (by omega) (by omega) (by omega) (by omega) (by omega))]
 rfl
theorem Zg9{k:Nat}(h:Bd k v)(hk:k≤1000): Cell v:=⟨Nat.le_trans (PyProof.Rows.intBits_le h) (Nat.le_trans hk (by decide))⟩
theorem ZiN{N:TL→Prop}(hL:Lay ns)(e0:σ 0=some (scr ns))(e1:σ 1=some (.int (2+(i:Int)*10)))(hN:∀σ',σ' 0=some (scr ns)→N σ'): Psk ((Zw (Z9 2 (Zb ZI (Zg 1) (Zb ZX (Zb ZI (Zu Zar (Ze (Za 0) (Ze (Zg 0) Zo))) (Za 1)) (Zg 4)))) (Zw (Z9 3 (ZaL (ZaU (Ze (Za 2) Zo)) (ZaI 100) Zas (Zu Za9 (Ze (Zu Zar (Ze (Za 0) (Ze (Zb ZI (Za 1) (Za 100)) Zo))) Zo)))) (Zw (Z9 4 (Zb ZI (ZaZ (Ze (Zu Za9 (Ze (Zu Zar (Ze (Za 0) (Ze (Zb ZI (Za 1) (Zg 4)) Zo))) Zo)) Zo)) (ZaL (ZaU (Ze (Za 2) Zo)) (ZaI 102) Zas (Zu ZcI (Ze (Zu Zar (Ze (Za 0) (Ze (Zb ZI (Zb ZI (Za 1) (Zg 5)) (Za 102)) Zo))) Zo))))) (Zw (Z9 4 (Zu ZcK (Ze (Za 4) (Ze (Za 3) (Ze (Zb ZI (Zu Zar (Ze (Za 0) (Ze (Zg 1) Zo))) (Zb Zan (Za 1) (Zg 10))) Zo))))) (Zw (Z9 5 (Zb ZX (Zu Zar (Ze (Za 0) (Ze (Zb ZI (Za 1) (Zg 9)) Zo))) (Zb Zap (Zg 10) (Zg 6)))) (Zw (Z9 6 (Zb ZI (Zg 1) (Zu Zbz (Ze (Zu Za9 (Ze (Zb Zan (Zu Zar (Ze (Za 0) (Ze (Zb ZI (Za 1) (Zg 8)) Zo))) (Zg 3)) Zo)) Zo)))) (Zw (Z9 7 (Zu ZcE (Ze (Zb Zv (Za 4) (Zg 0)) (Ze (Zb Zv (Za 3) (Zg 0)) (Ze (Zb Zan (Za 5) (Zg 3)) Zo))))) (Zw (Z9 8 (Zu Za9 (Ze (Zb ZI (Zb Zan (Za 5) (Zg 7)) (Zb ZX (Zu Zar (Ze (Za 0) (Ze (Zb ZI (Za 1) (Zg 8)) Zo))) (Zb Zap (Zg 10) (Zg 60)))) Zo))) (Zw (Z9 9 (Zu ZcL (Ze (Za 4) (Ze (Zb ZI (Zg 1) (Zb ZX (Za 5) (Za 2))) (Ze (Za 6) (Ze (Za 7) (Ze (Zb ZV (Zb ZX (Zb Zan (Za 5) (Zg 2)) (Zg 2)) (Zg 0)) Zo))))))) (Zw (ZQ (Zbo (ZK (Zu ZbB (Ze (Za 3) (Ze (Zb Zv (Za 9) (Zb ZX (Zu Zar (Ze (Za 0) (Ze (Zb ZI (Za 1) (Zg 3)) Zo))) (Zg 10))) (Ze (Za 8) Zo)))))) (ZG (Zbk false)) ZR) (ZQ (Zbo (ZK (Zu ZbB (Ze (Za 3) (Ze (Zb Zv (Za 9) (Zb ZX (Zb ZI (Zb Zan (Za 5) (Zg 5)) (Za 1)) (Zg 10))) (Ze (Za 8) Zo)))))) (ZG (Zbk false)) ZR))))))))))) σ) (fun t=>t=.bool true) N:=by
 have hc:∀k:Int,Cell (cellAt ns k 0):=fun k=>cell_at hL k
 have h60:=T60_eq
 have hz60:T60≠0:=by omega
 obtain⟨k,hk⟩:∃k:Nat,(2+(i:Int)*10)=k:=⟨2+i*10,by omega⟩
 rw[hk]at e1
 clear hk
 walk_at "zz"
 refine Pk.of (Zby (by omega)) ?_
 walk_at "zz"
 have z0:=Int.fmod_nonneg_of_pos (cellAt ns 0 0+(k:Int)) (show(0:Int)<4 by decide)
 have z1:=Int.fmod_lt_of_pos (cellAt ns 0 0+(k:Int)) (show(0:Int)<4 by decide)
 obtain⟨n,en,hn0,hn⟩:∃n:Nat,1+(cellAt ns 0 0+(k:Int)).fmod 4=n∧0<n∧n≤4:=⟨(1+(cellAt ns 0 0+(k:Int)).fmod 4).toNat,by omega,by omega,by omega⟩
 rw[en]
 clear en z0 z1
 refine Zf0 (n:=n) (a:=fun i=>.int i) (b:=fun i=>.int (numb (cellAt ns ((k:Int)+i) 0))) (by omega) ?_ (fun t ht=>?_) ?_
 ·walk_at "zz"
  rfl
 ·walk_at "zz"
  refine Pk.of (Zby (by omega)) ?_
  walk_at "zz"
  exact Pk.of (ZdA (hc _)) rfl
 have bx:∀i,i<n→Bd 200 (numb (cellAt ns ((k:Int)+i) 0)):=fun i _=>ZeU _
 generalize hx:(fun i:Nat=>numb (cellAt ns ((k:Int)+i) 0))=x
 have bx:∀i,i<n→Bd 200 (x i):=fun i hi=>by rw[←hx];exact bx i hi
 rw[show(fun i:Nat=>T.int (numb (cellAt ns ((k:Int)+i) 0)))=fun i=>T.int (x i)by rw[←hx]]
 walk_at "zz"
 refine Pk.of (Zby (by omega)) ?_
 walk_at "zz"
 refine Pk.of (ZdA (hc _)) ?_
 walk_at "zz"
 refine Zho (n:=n) (a:=fun i=>.int i) T.int (fun _ f=>Bd 200 f) (by omega) ?_ (fun t ht=>?_) 0 fun f hf=>?_
 ·walk_at "zz"
  rfl
 ·walk_at "zz"
  refine Pk.of (Zby (by omega)) ?_
  walk_at "zz"
  exact Zhw (hc _)
 walk_at "zz"
 have e4:T.lst (tab (n+1) (cn (T.int (numb (cellAt ns ((k:Int)+4) 0))) fun i=>T.int (f i)))=ZZ n fun j=>match j with | 0=>numb (cellAt ns ((k:Int)+4) 0) | j+1=>f j:=by
  show T.lst _=T.lst _
  congr 1
  refine Zcj fun j _=>?_
  cases j <;> rfl
 rw[e4]
 have bc0:∀j,j<n+1→Bd 200 ((fun j:Nat=>match j with | 0=>numb (cellAt ns ((k:Int)+4) 0) | j+1=>f j) j):=fun j hj=>by
  cases j with
  | zero=>exact ZeU _
  | succ j=>exact hf j (by omega)
 generalize (fun j:Nat=>match j with | 0=>numb (cellAt ns ((k:Int)+4) 0) | j+1=>f j)=c0 at *
 refine Pk.of (Zby (by omega)) ?_
 walk_at "zz"
 refine ZaK (by decide) (ZaR (by decide) (by decide)) ?_
 walk_at "zz"
 refine(ZiM hn bc0 bx).mono ?_
 rintro _ ⟨c,rfl,bc⟩
 walk_at "zz"
 refine Pk.of (Zby (by omega)) ?_
 walk_at "zz"
 refine ZjX ?_
 walk_at "zz"
 have c0':=Int.fmod_nonneg_of_pos (cellAt ns ((k:Int)+9) 0) (show(0:Int)<1000000 by decide)
 have c1':=Int.fmod_lt_of_pos (cellAt ns ((k:Int)+9) 0) (show(0:Int)<1000000 by decide)
 generalize (cellAt ns ((k:Int)+9) 0).fmod 1000000=code at *
 refine Pk.of (Zby (by omega)) ?_
 walk_at "zz"
 refine ZaK (by decide) (ZaR (by decide) (by decide)) ?_
 walk_at "zz"
 refine Pk.of (ZdA (ZfC (by decide) (hc _))) ?_
 walk_at "zz"
 have bn:=ZeU ((cellAt ns ((k:Int)+8) 0).fdiv 3)
 generalize numb ((cellAt ns ((k:Int)+8) 0).fdiv 3)=nb at *
 obtain⟨d,ed,hd0,bd⟩:∃d:Int,1+(if nb<0 then -nb else nb)=d∧0<d∧Bd 300 d:=⟨_,rfl,by split <;> omega,by
  refine(show Bd 201 _ from ?_).mono (by decide)
  unfold Bd at *
  have e:(2:Nat) ^ 201=2*2 ^ 200:=by decide
  split <;> omega⟩
 rw[ed]
 clear ed bn
 have es:ZZ n c=.lst (tab (n+1) fun i=>.int (c i)):=rfl
 have h0:0<n+1:=by omega
 have hq4:∀{Q:T→Prop},Q (.int (c 0))→Pk (Zv (ZZ n c) (.int 0)) Q:=fun h=>by
  rw[es]
  walk_at "zz"
  exact h
 refine hq4 ?_
 walk_at "zz"
 refine ZaK (by decide) (ZaR (by decide) (by decide)) ?_
 walk_at "zz"
 refine stretch_14.mono ?_
 rintro _ ⟨s,rfl,hs⟩
 walk_at "zz"
 refine ZaK (by decide) (ZaR (by decide) (by decide)) ?_
 walk_at "zz"
 refine Pk.of (Zby (by omega)) ?_
 walk_at "zz"
 refine Zff ?_
 walk_at "zz"
 have w0:=Int.fmod_nonneg_of_pos (cellAt ns ((k:Int)+8) 0) (show(0:Int)<T60 by omega)
 have w1:=Int.fmod_lt_of_pos (cellAt ns ((k:Int)+8) 0) (show(0:Int)<T60 by omega)
 have w2:0≤code.fdiv 7∧code.fdiv 7≤1000000:=by rw[Int.fdiv_eq_ediv_of_nonneg _ (by decide)];omega
 refine Pk.of (ZdA (Zg9 (k:=210) (by unfold Bd;omega) (by decide))) ?_
 generalize numb (code.fdiv 7+(cellAt ns ((k:Int)+8) 0).fmod T60)=pk at *
 have hn':(n:Int)≠0:=by omega
 have x0:=Int.fmod_nonneg_of_pos code (show(0:Int)<(n:Int)by omega)
 have x1:=Int.fmod_lt_of_pos code (show(0:Int)<(n:Int)by omega)
 obtain⟨X,eX,hX⟩:∃X:Nat,1+code.fmod n=(X:Int)+1∧X<n:=⟨(code.fmod n).toNat,by omega,by omega⟩
 walk_at "zz"
 rw[eX]
 refine ZaK (by decide) (ZaR (by decide) (by decide)) ?_
 walk_at "zz"
 refine Pk.of ZiL ?_
 have all:=ZjF (n:=n) (X:=X) (c:=c) (x:=x) (d:=d) (p:=pk) (s:=s) (b:=decide (((code.fdiv 2).fmod 2)=0)) hX hn bc (fun i hi=>(bx i hi).mono (by decide)) hd0 bd hs
 generalize Zfh n X c d s (decide (((code.fdiv 2).fmod 2)=0))=acts at *
 have eb:T.lst (tab n fun i=>T.int (x i))=Zq n x:=rfl
 rw[eb]
 generalize Zq n x=B0 at *
 walk_at "zz"
 refine Pk.of (Zby (by omega)) ?_
 walk_at "zz"
 have a0:=Int.fmod_nonneg_of_pos (cellAt ns ((k:Int)+3) 0) (show(0:Int)<10 by decide)
 have a1:=Int.fmod_lt_of_pos (cellAt ns ((k:Int)+3) 0) (show(0:Int)<10 by decide)
 obtain⟨A,eA,hA⟩:=all ((cellAt ns ((k:Int)+3) 0).fmod 10).toNat (by omega)
 refine Zdx (t:=A) a0 eA ?_
 walk_at "zz"
 refine Pk.of hA ?_
 walk_at "zz"
 refine ZaK (by decide) (ZaR (by decide) (by decide)) ?_
 walk_at "zz"
 have b0:=Int.fmod_nonneg_of_pos (code.fdiv 5+(k:Int)) (show(0:Int)<10 by decide)
 have b1:=Int.fmod_lt_of_pos (code.fdiv 5+(k:Int)) (show(0:Int)<10 by decide)
 obtain⟨A',eA',hA'⟩:=all ((code.fdiv 5+(k:Int)).fmod 10).toNat (by omega)
 refine Zdx (t:=A') b0 eA' ?_
 walk_at "zz"
 refine Pk.of hA' ?_
 walk_at "zz"
 exact hN _ (by walk_at "zr")
theorem ZgV(hL:Lay ns): ZeG [scr ns]=some (.bool true):=by
 apply Pk.eq
 unfold ZeG ZeF
 refine Zgh rfl ?_
 refine Zgg ?_
 have hp:Pl ((Ze (Zg 2) (Ze (Zu Zcu (Ze (Zg 3) (Ze (Zu Zcv (Ze (Zu Zbg (Ze (Za 0) Zo)) (Ze (Zg 62) Zo))) Zo))) (Ze (Zg 10) Zo))) (fun i=>[scr ns][i]?)) fun xs=>∃b:Int,xs=[.int 2,.int b,.int 10]∧3≤b∧b≤62:=by
  unfold scr
  walk_at "zz"
  refine⟨_,rfl,?_,?_⟩
  ·repeat' split
   all_goals omega
  ·repeat' split
   all_goals omega
 obtain⟨xs,e,b,rfl,h3,h9⟩:=hp
 refine Ze2 (n:=rngN 2 b 10) (a:=fun i=>.int (2+(i:Int)*10)) (P:=fun _ σ=>σ 0=some (scr ns)) (Zhx h3 h9 e) rfl ?_ ?_
 ·intro i σ hi e0
  exact ZiN hL (by walk_at "zr") (by walk_at "zr") fun σ' h=>h
 ·intro σ e0
  walk_at "zz"
  rfl
theorem ZgQ(hlen:ns.length≤63)(hL:PyData.layable0 (.list (ns.map .int))=true): ∃H',ZfK [.ref 0] [ns.map V.int]=some (.bool true,H'):=Zhl ZhS ns (ZgV hL)
end L
end
section
open PySem PySem.W PyProof.Rows
namespace PySem.W.Fast
def tw5105673956185107153:=0
def tw16968176118458789586:=0
def tw9497945907656264259:=0
def tw1176975735165151067:=0
def tw10426125643436316091:=0
def tw9515242367644423802:=0
def tw4621932581444047675:=0
def tw15452572443179084588:=0
def tw9156678896304099913:=0
def tw4419873286371483742:=0
def tw12798869161161681673:=0
def tw2257529940240947247:=0
def tw16002967266952078866:=0
def tw4361700775904427359:=0
def tw10299302589577801163:=0
def tw9991952250452883065:=0
def tw16932301668260661676:=0
def tw16472409268878238316:=0
def tw10700183255674453818:=0
def tw3764688243253525356:=0
def tw529536973988259948:=0
def tw2215426274937266770:=0
def tw14501001857826371202:=0
def tw17925384258215065573:=0
def tw4026151001005817321:=0
def tw13517250619966689955:=0
def tw5312734613080425828:=0
def tw14613296582639449008:=0
def tw16749348522385944071:=0
def tw69414778264802052:=0
def tw734138898119960010:=0
def tw11418939547134857076:=0
def tw3094701115853657799:=0
def tw804092199982636349:=0
def tw13829591483307370896:=0
def tw15213048550514571353:=0
def tw4033379813872489195:=0
def tw8903238766108814736:=0
def tw10097012582147076362:=0
def tw8646929664414959583:=0
def tw14439765378166140033:=0
def tw7470021291188754609:=0
def tw12059592832596718669:=0
def tw15210816241431372910:=0
def tw18237729455371770227:=0
def tw14790834132378566595:=0
def tw8160871880118814707:=0
def tw5036445103931068615:=0
def tw13792483299354683862:=0
def tw6511239469406747073:=0
def tw10042499479572932358:=0
def tw16004625103595009689:=0
def tw17857563459279650048:=0
def tw13218621648322568166:=0
def tw5485572742587201778:=0
def tw17093224777342109595:=0
def tw15862806813707239167:=0
def tw6315216371427503177:=0
def tw14805814515597417852:=0
def tw15632992782082381434:=0
def tw11763852733077360975:=0
def tw8526028360262338249:=0
def tw12067549021546063074:=0
def tw15755044616229629136:=0
def tw1647960591809683682:=0
def tw5916140570258018564:=0
def tw14734032772098568817:=0
def tw16266442582153907279:=0
def tw6793172497655745189:=0
def tw7524379617451308511:=0
def tw18167724695441219349:=0
def tw4968929673044707356:=0
def tw12712400820596877648:=0
def tw2873748437651673626:=0
def tw10497823618577955822:=0
def tw14279065940840616024:=0
def tw16463793508043411602:=0
def tw10800367221633172730:=0
def tw6699028693077151116:=0
def tw4177351759533223642:=0
def tw16925118299729312639:=0
def tw12325562205625792791:=0
def tw6760056911573607715:=0
def tw7618804249908900691:=0
def tw2207379490860805584:=0
def tw6252695792229605141:=0
def tw10393078302967963895:=0
def tw17960406059949683352:=0
def tw133755455108545178:=0
def tw16286715671046524454:=0
def tw7717702957765121957:=0
def tw3822784309164373692:=0
def tw8697654515486363317:=0
def tw2456577590951144490:=0
def tw16970792351503237766:=0
def tw17960848765466677729:=0
def tw17802128708061929859:=0
def tw18042889414512086050:=0
def tw6662249597110656733:=0
def tw16504757533647375273:=0
end PySem.W.Fast
set_option maxRecDepth 100000 in
set_option maxHeartbeats 8000000 in
open_top head for PySem.Challenge.rw_seer_k14_done
end
section
open PySem PySem.W PySem.Calls PyProof.Rows PM
namespace L
noncomputable abbrev DD(w:World)(s₀:Shared)(mg mb:Str→Option Value)(f:Addr)(r:Nat)(F:List V→Hp→Option (V×Hp)): Prop:=Def PySem.Challenge.rw_seer_k14_done.row.prog w (head.heap_39 w.params) head.view_39 (looseW head.view_39 []) (ExcName.means s₀.heap) mg mb f r F
section
variable {w:World} {s₀:Shared} {mg mb:Str→Option Value}
theorem ZcH: DD w s₀ mg mb 82 1 ZbV:=by
 unfold DD;k_fill
 refine Dof (names:=["_law_one","_law_boxes","_law_total","_law_k"]) (g:=ZdX) ?_
 exact fun _ _ _ _ _ _ _ c _ _=>(ZD (Zaq sL (ZB vL jI)) (ZD (ZeZ sL (JI.range (nB c) (Zj (ZaN (nB c) (Zj vL Zs) ok_len) Zs)) (ZE (Zaq sL (Zp vL (Zp (ZB vL (Zp vL jI ok_add)) (ZB vL vL) ZbJ) ok_add)))) (ZE (ZJ vL))))
theorem Zha: DD w s₀ mg mb 103 2 Zeo:=by
 unfold DD;k_fill
 refine Dof (names:=["_law_one","_law_boxes","_law_cell_here"]) (g:=Zen) ?_
 exact fun _ _ _ _ _ _ _ c _ _=>(ZD (Z2 (Z0 (Zp vL jI ok_mod) jI Zad) (ZE (ZJ vL)) Z1) (ZE (ZJ (Zp (J.list (Zj (Zp (Zp (Zp (ZB vL jI) (cF c ZcH (Zj vL (Zj vL Zs))) ZaA) (Zp (Zp vL jI ZaT) jI ok_mod) ok_add) jI ZaA) Zs)) (Zf7 vL jI) ok_add))))
theorem ZgD: DD w s₀ mg mb 89 1 ZdT:=by
 unfold DD;k_fill
 refine Dof (names:=["_law_low","_law_high","_law_code","_law_lo","_law_hi"]) (g:=ZdS) ?_
 exact fun _ _ _ _ _ _ _ c _ _=>(ZD (Zaq sL (ZaN (nB c) (Zj vL (Zj vL Zs)) ok_min2)) (ZD (Zaq sL (ZaN (nB c) (Zj vL (Zj vL Zs)) ok_max2)) (ZD (Z2 (ZbF (ZbD (Z0 (Zp vL jI ok_mod) jI Zad) (ZbD (Z0 (Zp (Zp vL jI ZaT) jI ok_mod) jI Zad) Zdk))) (ZE (ZJ (J.tup (Zj jN (Zj jN Zs))))) Z1) (ZD (Z2 (Z0 (Zp vL jI ok_mod) jI Zad) (ZE (ZJ (J.tup (Zj jN (Zj vL Zs))))) Z1) (ZD (Z2 (Z0 (Zp (Zp vL jI ZaT) jI ok_mod) jI Zad) (ZE (ZJ (J.tup (Zj vL (Zj jN Zs))))) Z1) (ZE (ZJ (J.tup (Zj vL (Zj vL Zs))))))))))
theorem Zde: DD w s₀ mg mb 68 1 Zcd:=by
 unfold DD;k_fill
 refine Dof (names:=["_law_cell_here","_law_wide"]) (g:=ZdV) ?_
 exact fun _ _ _ _ _ _ _ c _ _=>(ZD (Zaq sL (Zp (Zp vL jI ZaT) (Zp jI jI Zbc) ZbJ)) (ZD (Z2 (Z0 (Zp vL jI ok_mod) jI Zad) (ZE (ZJ (Zp (Zp vL jI ok_mod) jI ZaA))) Z1) (ZD (Z2 (Z0 (Zp vL jI ok_mod) jI Zad) (ZE (ZJ (Zp (Zp vL jI ok_mod) jI ZaA))) Z1) (ZD (Z2 (Z0 (Zp vL jI ok_mod) jI Zad) (ZE (ZJ (Zp (Zp vL (Zp (Zp jI (Zp jI jI Zbc) ZbJ) jI ZaA) ok_mod) (Zp (Zp jI jI Zbc) jI ZaA) ZaA))) Z1) (ZD (Z2 (Z0 (Zp vL jI ok_mod) jI Zad) (ZE (ZJ (Zp (Zp vL (Zp (Zp jI (Zp jI jI Zbc) ZbJ) jI ok_add) ok_mod) (Zp jI jI Zbc) ZaA))) Z1) (ZE (ZJ (Zp vL jI ok_mod))))))))
theorem Zhb: DD w s₀ mg mb 143 1 Zer:=by
 unfold DD;k_fill
 refine Dof (names:=["_law_one","_law_x","_law_d","_law_span","_law_truth","_law_acts_here"]) (g:=Zeq) ?_
 exact fun _ _ _ _ _ _ _ c _ _=>(ZD (Zaq sL (J.list (Zj (J.tup (Zj jS (Zj vL (Zj vL Zs)))) (Zj (J.tup (Zj jS (Zj vL (Zj vL (Zj vL Zs))))) (Zj (J.tup (Zj jS (Zj vL (Zj vL (Zj vL Zs))))) (Zj (J.tup (Zj jS (Zj vL (Zj (ZB vL jI) (Zj (ZB vL jI) Zs))))) Zs)))))) (ZD (Zaq sL (Zp vL (J.list (Zj (J.tup (Zj jS (Zj (J.tup (Zj jS (Zj vL Zs))) (Zj vL Zs)))) (Zj (J.tup (Zj jS (Zj (J.tup (Zj jS (Zj vL Zs))) (Zj vL Zs)))) (Zj (J.tup (Zj jS (Zj (J.tup (Zj jS (Zj vL (Zj vL Zs)))) (Zj vL Zs)))) Zs)))) ok_add)) (ZE (ZJ (Zp vL (J.list (Zj (J.tup (Zj jS Zs)) (Zj (J.tup (Zj jS (Zj (J.tup (Zj jS (Zj vL Zs))) Zs))) (Zj (J.tup (Zj jS (Zj (J.tup (Zj jS (Zj vL (Zj vL Zs)))) Zs))) Zs)))) ok_add)))))
theorem law_cell_d: DD w s₀ mg mb 61 1 Zba:=by
 unfold DD;k_fill
 refine Dof (names:=["_law_script","_law_k"]) (g:=Zel) ?_
 exact fun _ _ _ _ _ _ _ c _ _=>(ZD (Z2 (Z0 vL (ZaN (nB c) (Zj vL Zs) ok_len) Ze9) (ZE (ZJ (ZB vL vL))) Z1) (ZE (ZJ jI)))
theorem ZgR: DD w s₀ mg mb 96 1 Zec:=by
 unfold DD;k_fill
 refine Dof (names:=["_law_span","_law_pick"]) (g:=Zeb) ?_
 exact fun _ _ _ _ _ _ _ c _ _=>(ZD (Z2 (ZbF (ZbD (Z0 (ZB vL jI) jN Za3) (ZbD (Z0 (ZB vL jI) jN Za3) Zdk))) (ZE (ZJ vL)) Z1) (ZD (Z2 (Z0 (ZB vL jI) jN Za3) (ZE (ZJ (Zp (ZB vL jI) (ZaN (nB c) (Zj vL Zs) ZcW) ZaA))) Z1) (ZD (Z2 (Z0 (ZB vL jI) jN Za3) (ZE (ZJ (Zp (ZB vL jI) (ZaN (nB c) (Zj vL Zs) ZcW) ok_add))) Z1) (ZE (ZJ (Zp (ZB vL jI) (Zp vL (Zp (Zp (ZB vL jI) (ZB vL jI) ZaA) jI ok_add) ok_mod) ok_add))))))
theorem ZgF: DD w s₀ mg mb 110 2 Zd0:=by
 unfold DD;k_fill
 refine Dof (names:=["_law_claim","_law_boxes","_law_total"]) (g:=ZdZ) ?_
 exact fun _ _ _ _ _ _ _ c _ _=>(ZD (Zaq sL (cF c ZcH (Zj (ZB vL jI) (Zj vL Zs)))) (ZD (Z2 (Z0 (ZB vL jI) jS Zad) (ZE (ZJ (Zbe vL jI Ze9))) Z1) (ZD (Z2 (Z0 (ZB vL jI) jS Zad) (ZE (ZJ (Zbe vL jI Zad))) Z1) (ZE (ZJ (Zbe (Zp vL (ZB vL jI) ok_mod) jI Zad))))))
theorem ZgJ: DD w s₀ mg mb 117 3 Zea:=by
 unfold DD;k_fill
 refine Dof (names:=["_law_boxes","_law_act","_law_pick","_law_due_here"]) (g:=Zd9) ?_
 exact fun _ _ _ _ _ _ _ c _ _=>(ZD (Zaq sL (Zds (nB c) (Zj vL Zs) Zew)) (ZD (Z2 (Z0 (ZB vL jI) jS Zad) (ZD (Z2 (Z0 (cF c ZgF (Zj (ZB vL jI) (Zj vL Zs))) (ZB vL jI) Zad) (ZE (ZJ vL)) Z1) (ZE (ZJ jN))) Z1) (ZD (Z2 (Z0 (ZB vL jI) jS Zad) (ZE (S1.put (cF c ZcH (Zj (ZB vL jI) (Zj vL Zs))) vL (Zp (ZB vL jI) jI ZaA))) Z1) (ZD (Z2 (Z0 (ZB vL jI) jS Zad) (ZE (S1.put (Zp (cF c ZcH (Zj (ZB vL jI) (Zj vL Zs))) (ZB vL jI) ZaT) vL (Zp (ZB vL jI) jI ZaA))) Z1) (ZD (Z2 (Z0 (ZB vL jI) jS Zad) (ZE (S1.put (Zp (cF c ZcH (Zj (ZB vL jI) (Zj vL Zs))) (ZB vL jI) ok_mod) vL (Zp (ZB vL jI) jI ZaA))) Z1) (ZD (Z2 (Z0 (ZB vL jI) jS Zad) (ZE (S1.put (cF c ZgR (Zj (J.tup (Zj (ZB vL jI) (Zj (ZB vL jI) Zs))) (Zj vL Zs))) vL (Zp (ZB vL jI) jI ZaA))) Z1) (ZE (ZJ vL))))))))
theorem ZjG: DD w s₀ mg mb 21 1 Ze5:=by
 unfold DD;k_fill
 refine Dof (names:=["row","x","thing"]) (g:=Ze4) ?_
 exact fun _ _ _ _ _ _ _ c _ _=>(ZE (ZJ (Zp (Zp (ZeI vL JP.none (JP.some (Zp vL jI ZaA))) (J.list (Zj vL Zs)) ok_add) (ZeI vL (JP.some vL) JP.none) ok_add)))
theorem Zf5: DD w s₀ mg mb 26 1 Zdz:=by
 unfold DD;k_fill
 refine Dof (names:=["one","boxes"]) (g:=ZeP) ?_
 exact fun _ _ _ _ _ _ _ c _ _=>(ZE (ZJ (Zp (ZB vL jI) (ZaN (nB c) (Zj (by refine cT ?_ ?_;(exact(JI2.zip (nB c) (Zf7 vL jI) vL));(exact fun _ _=>(Zp vO vO ZbJ))) Zs) ZiQ) ok_add)))
theorem Zh2: DD w s₀ mg mb 54 1 ZeC:=by
 unfold DD;k_fill
 refine Dof (names:=["lo","hi","pick"]) (g:=ZeB) ?_
 exact fun _ _ _ _ _ _ _ c _ _=>(ZD (Z2 (ZbF (ZbD (Z0 vL jN Za3) (ZbD (Z0 vL jN Za3) Zdk))) (ZE (ZJ vL)) Z1) (ZD (Z2 (Z0 vL jN Za3) (ZE (ZJ (Zp vL (ZaN (nB c) (Zj vL Zs) ZcW) ok_add))) Z1) (ZD (Z2 (Z0 vL jN Za3) (ZE (ZJ (Zp vL (ZaN (nB c) (Zj vL Zs) ZcW) ZaA))) Z1) (ZE (ZJ (Zp vL (Zp vL (Zp (Zp vL vL ZaA) jI ok_add) ok_mod) ok_add))))))
theorem ZgS: DD w s₀ mg mb 47 2 Zef:=by
 unfold DD;k_fill
 refine Dof (names:=["boxes","act","pick","number"]) (g:=Zee) ?_
 exact fun _ _ _ _ _ _ _ c _ _=>(ZD (Z2 (Z0 (ZB vL jI) jS Zad) (ZE (ZJ (cF c Zh2 (Zj (ZB vL jI) (Zj (ZB vL jI) (Zj vL Zs)))))) Z1) (ZD (Zaq sL (cF c Zf5 (Zj (ZB vL jI) (Zj vL Zs)))) (ZD (Z2 (Z0 (ZB vL jI) jS Zad) (ZE (ZJ (Zp vL (ZB vL jI) ZaT))) Z1) (ZD (Z2 (Z0 (ZB vL jI) jS Zad) (ZE (ZJ (Zp vL (ZB vL jI) ok_mod))) Z1) (ZE (ZJ vL))))))
theorem ZiO: DD w s₀ mg mb 33 2 ZeS:=by
 unfold DD;k_fill
 refine Dof (names:=["claim","boxes","told"]) (g:=ZeR) ?_
 exact fun _ _ _ _ _ _ _ c _ _=>(ZD (Zaq sL (cF c Zf5 (Zj (ZB vL jI) (Zj vL Zs)))) (ZD (Z2 (Z0 (ZB vL jI) jS Zad) (ZE (ZJ (Zbe vL jI Ze9))) Z1) (ZD (Z2 (Z0 (ZB vL jI) jS Zad) (ZE (ZJ (Zbe vL jI Zad))) Z1) (ZE (ZJ (Zbe (Zp vL (ZB vL jI) ok_mod) jI Zad))))))
theorem Zgp: DD w s₀ mg mb 40 3 ZdF:=by
 unfold DD;k_fill
 refine Dof (names:=["boxes","act","pick"]) (g:=Ze7) ?_
 exact fun _ _ _ _ _ _ _ c _ _=>(ZD (Z2 (ZbF (ZbD (Z0 (ZB vL jI) jS Zad) (ZbD (Z0 (cF c ZiO (Zj (ZB vL jI) (Zj vL Zs))) (ZB vL jI) Zfa) Zdk))) (ZE (ZJ jN)) Z1) (ZD (Z2 (Z0 (ZB vL jI) (J.tup (Zj jS (Zj jS (Zj jS Zs)))) ZjS) (ZE (ZJ (Zds (nB c) (Zj vL Zs) Zew))) Z1) (ZE (ZJ (cF c ZjG (Zj vL (Zj (ZB vL jI) (Zj (cF c ZgS (Zj vL (Zj vL (Zj vL Zs)))) Zs))))))))
theorem Zfq: ∀n:Nat,Def PySem.Challenge.rw_seer_k14_done.row.prog w (head.heap_39 w.params) head.view_39 (looseW head.view_39 []) (ExcName.means s₀.heap) mg mb 122 (n) (Zce n)
 | 0=>by intro Γ dp un clr hd hu W ρ H fr s Q E as xs v H' r hx hF post;cases hF
 | n+1=>by
  have ih:=Zfq n
  k_fill
  refine' Def.of (names:=["_law_thing"]) (n:=1) (room:=n) (g:=Zd4 (Zce n)) (ho:=?ho) (hcd:=?hcd) (nd:=by decide) (hn:=by decide) (hbind:=?hb) (hkinds:=?hk) (hone:=?h1) (hco:=?z1) (hgen:=?z2) (hk:=?z3) (hbody:=?hbody)
  case ho=>k_is
  case z1=>rfl
  case z2=>rfl
  case z3=>rfl
  case hcd=>k_is
  case hb=>intro s xs hx;match xs,hx with | [x0],_=>exact BindsTo.of_eq rfl
  case hk=>decide
  case h1=>decide +kernel
  case hbody=>
   intro dp un gd L outer h₀ hu clr hd1 hu1
   exact(ZD (Z2 (ZbH (ZcM (nB clr) (nB clr) (.inr (.inr (.inl rfl))) vL)) (ZE (ZJ (by refine cO ?_ ?_ ?_;(exact(JI.seq vL));(exact fun _ _=>(cF (Zck clr) ih (Zj vO Zs)));(exact fun _ _=>JF.nil)))) Z1) (ZD (Z2 (ZbH (ZcM (nB clr) (nB clr) (.inr (.inr (.inr rfl))) vL)) (ZE (ZJ (Zds (nB clr) (Zj (by refine cO ?_ ?_ ?_;(exact(JI.seq vL));(exact fun _ _=>(cF (Zck clr) ih (Zj vO Zs)));(exact fun _ _=>JF.nil)) Zs) Zhi))) Z1) (ZE (ZJ vL))))
theorem ZgH: Def PySem.Challenge.rw_seer_k14_done.row.prog w (head.heap_39 w.params) head.view_39 (looseW head.view_39 []) (ExcName.means s₀.heap) mg mb 122 9 Zd5:=Zfq 9
theorem Zft: DD w s₀ mg mb 129 1 Zdg:=by
 unfold DD;k_fill
 refine Dof (names:=["_law_found","_law_due_here","_law_each"]) (g:=Zd7) ?_
 exact fun _ _ _ _ _ _ _ c _ _=>(ZD (Z2 (ZbF (ZbE (Z0 vL jN Za3) (ZbE (Z0 vL jN Za3) Zdn))) (ZE (ZJ (Zgq (Zbe vL jN Za3) (Zbe vL jN Za3)))) Z1) (ZD (Z2 (ZbF (ZbE (ZcV (ZbH (ZcM (nB c) (nB c) (.inr (.inr (.inl rfl))) vL))) (ZbE (Z0 (ZaN (nB c) (Zj vL Zs) ok_len) (ZaN (nB c) (Zj vL Zs) ok_len) Zfa) Zdn))) (ZE (ZJ jB)) Z1) (ZD (ZeZ sL (JI.seq vL) (ZE (Z2 (ZbF (ZbE (ZcV (ZbH (ZcM (nB c) (nB c) (.inl rfl) vL))) (ZbE (ZbH (ZcM (nB c) (nB c) (.inr (.inl rfl)) vL)) Zdn))) (ZE (ZJ jB)) Z1))) (ZE (ZJ (Zbe vL vL Zad))))))
theorem Zfr: DD w s₀ mg mb 136 10 Zdf:=by
 unfold DD;k_fill
 refine Dof (names:=["_law_boxes","_law_act","_law_pick","_law_due_here","_law_handed","_law_first"]) (g:=Zd2) ?_
 exact fun _ _ _ _ _ _ _ c _ _=>(ZD (Zaq sL (cF c ZgJ (Zj vL (Zj vL (Zj vL Zs))))) (ZD (Zaq sL (J.list (Zj (Zds (nB c) (Zj vL Zs) Zew) (Zj (cF c ZgH (Zj vL Zs)) Zs)))) (ZD (Zaq sL (cF c Zgp (Zj (ZB vL jI) (Zj (ZB vL jI) (Zj vL Zs))))) (ZD (Z2 (ZbF (ZbE (ZcV (ZbH (cF c Zft (Zj vL (Zj vL Zs))))) (ZbE (Z0 vL (J.list (Zj vL (Zj vL Zs))) Zfa) Zdn))) (ZE (ZJ jB)) Z1) (ZD (Z2 (Z0 vL jN Zhz) (ZE (ZiR (J.append vL jI))) Z1) (ZE (ZJ (Zgq (cF c Zft (Zj (cF c Zgp (Zj (ZB vL jI) (Zj (ZB vL jI) (Zj vL Zs)))) (Zj vL Zs))) (Zbe vL (J.list (Zj vL (Zj vL Zs))) Zad)))))))))
theorem ZgT: DD w s₀ mg mb 75 1 Zeh:=by
 unfold DD;k_fill
 refine Dof (names:=["_law_cell_here"]) (g:=Zeg) ?_
 exact fun _ _ _ _ _ _ _ c _ _=>(ZD (Z2 (Z0 (Zp vL jI ok_mod) jI Zad) (ZE (ZJ (Zp (Zp (Zp (Zp vL jI ZaT) (Zp jI jI Zbc) ZbJ) (Zp (Zp jI (Zp jI jI Zbc) ZbJ) jI ok_add) ok_mod) (Zp jI jI Zbc) ZaA))) Z1) (ZE (ZJ (Zp (Zp (Zp (Zp vL jI ZaT) (Zp jI jI Zbc) ZbJ) jI ok_mod) jI ZaA))))
end
end L
end
section
open PySem PySem.W PySem.Calls PyProof.Rows PM
open L
theorem PySem.Challenge.cw_seer_k14_done_holds : PySem.Challenge.rw_seer_k14_done.Holds :=
 head (by
  w_strict (k_go0;(rename Well _ _ _ _=>w9);(rename Frag.In _ _=>kx9);(rename Top _ _ _ _ _ _=>t9);(rename Fr _ _ _ _=>f9);(rename News _ _ _ _=>n9);(rename CellsAre _ _ _=>x9);(rename (PyData.layable0 _=true)=>hl9);(obtain⟨H9,e9⟩:=L.ZgQ (by omega) hl9);(refine' PM.Zh8 (names:=["_law_script","_law_at","_law_n","_law_boxes","_law_one","_law_code","_law_d","_law_span","_law_pick","_law_acts_here"]) (g:=ZeE) (room:=10) ?hb ?h1 ?h2 ?h3 ?h4 kx9 t9 w9 ?len f9 n9 x9 e9 ?post);(case h1=>decide);(case h2=>decide);(case h3=>rfl);(case h4=>rfl);(case len=>(rw[PM.Zaz];omega));(case hb=>(intro dp un gd L a ccd outer h₀ hu clr hd1 hu1;exact(ZD (ZeZ sC (JI.range (nB clr) (Zj jI (Zj (ZaN (nB clr) (Zj jI (Zj (ZaN (nB clr) (Zj (ZaN (nB clr) (Zj vC Zs) ok_len) (Zj jI Zs)) ok_min2) Zs)) ok_max2) (Zj jI Zs)))) (ZD (Zaq sL (Zp jI (Zp (Zp (cF clr law_cell_d (Zj vC (Zj jI Zs))) vC ok_add) jI ok_mod) ok_add)) (ZD (by refine sO sL ?_ ?_ ?_;(exact(JI.range (nB clr) (Zj vL Zs)));(exact fun _ _=>(cF (Zck clr) Zde (Zj (cF (Zck clr) law_cell_d (Zj vD (Zj (Zp vD vO ok_add) Zs))) Zs)));(exact fun _ _=>JF.nil)) (ZD (Zaq sL (Zp (J.list (Zj (cF clr Zde (Zj (cF clr law_cell_d (Zj vC (Zj (Zp vC jI ok_add) Zs))) Zs)) Zs)) (by refine cO ?_ ?_ ?_;(exact(JI.range (nB clr) (Zj vL Zs)));(exact fun _ _=>(cF (Zck clr) ZgT (Zj (cF (Zck clr) law_cell_d (Zj vD (Zj (Zp (Zp vD jI ok_add) vO ok_add) Zs))) Zs)));(exact fun _ _=>JF.nil)) ok_add)) (ZD (Zaq sL (cF clr Zha (Zj vL (Zj vL (Zj (Zp (cF clr law_cell_d (Zj vC (Zj jI Zs))) (Zp vC jI ZaT) ok_add) Zs))))) (ZD (Zaq sL (Zp (cF clr law_cell_d (Zj vC (Zj (Zp vC jI ok_add) Zs))) (Zp jI jI Zbc) ok_mod)) (ZD (Zaq sL (Zp jI (ZaN (nB clr) (Zj (cF clr Zde (Zj (Zp (cF clr law_cell_d (Zj vC (Zj (Zp vC jI ok_add) Zs))) jI ZaT) Zs)) Zs) ZcW) ok_add)) (ZD (Zaq sL (cF clr ZgD (Zj (ZB vL jI) (Zj (ZB vL jI) (Zj (Zp vL jI ZaT) Zs))))) (ZD (Zaq sL (cF clr Zde (Zj (Zp (Zp vL jI ZaT) (Zp (cF clr law_cell_d (Zj vC (Zj (Zp vC jI ok_add) Zs))) (Zp jI jI Zbc) ok_mod) ok_add) Zs))) (ZD (Zaq sL (cF clr Zhb (Zj vL (Zj (Zp jI (Zp vL vL ok_mod) ok_add) (Zj vL (Zj vL (Zj (Zbe (Zp (Zp vL jI ZaT) jI ok_mod) jI Zad) Zs))))))) (ZD (Z2 (ZcV (ZbH (cF clr Zfr (Zj vL (Zj (ZB vL (Zp (cF clr law_cell_d (Zj vC (Zj (Zp vC jI ok_add) Zs))) jI ok_mod)) (Zj vL Zs)))))) (ZE (ZJ jB)) Z1) (ZE (Z2 (ZcV (ZbH (cF clr Zfr (Zj vL (Zj (ZB vL (Zp (Zp (Zp vL jI ZaT) vC ok_add) jI ok_mod)) (Zj vL Zs)))))) (ZE (ZJ jB)) Z1))))))))))))) (ZE (ZJ jB)))));(case post=>(intro h' tk' m' F';k_steps)))
  )
end
