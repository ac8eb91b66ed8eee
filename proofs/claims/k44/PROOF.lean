import PyProof.Rows.All
import Wide.All
import OpenK.AllK
import Wide.FinOn
import PySem.Challenge.RW_seer_k44_held_and_under
import PyProof.Rows.News
import PyProof.Rows.Nodes
import PyProof.Rows.Chain
import PyProof.Rows.TupSub
import PyProof.PureInt
import PyProof.Rules2
import PyProof.Rules3
import PyProof.Rows.Globals
import PyProof.Rows.RuleB_mod
import PyProof.Rows.RuleB_floordiv
import PyProof.Rows.RuleB_small
import PyProof.NoPylong
import PyProof.Rows.RuleB_pow
import PyProof.Rows.EqDataRows
import PyProof.Rows.StrTemp
import PyProof.Rows.TupAdd
import PyProof.Rows.ListMul
import PyProof.ListIndexNeg
import PyProof.SliceList
import PyProof.Methods
import PyProof.Rows.Tup
import PyProof.IsiPairs
import PyProof.IsiHeapPairs
import PyProof.IsiNone
import PyProof.Rows.RuleN_abs
import PyProof.Rows.SumAny
import PyProof.WalkInts
import PyProof.PvWalk
import PyProof.RulesRaise
import PyProof.Raises
import PyProof.Dict
import PyProof.Seq
import PyProof.Rows.ListAppend
import PyProof.ForAppend
import PyProof.ForAny
import PyProof.Walks
import PyProof.WalksT
import KE.KItem
import PyProof.WalksMore
import PyProof.RangeFor
import PyProof.Rows.Range3
import OpenK.KCell
import KE.KTree
import KE.RegLcTurns
import KE.KCompFold
import KE.KLcPair
import KE.LcTurns
import PyProof.CompUse
import PyProof.Rows.ZipGen
import OpenK.KLine
import KE.KState
import Wide.Well
import PyProof.ListCopy
import PyProof.Rows.TupleOfSeqD
import KE.LcSums
import KE.KCellOne
import PyProof.FitsBits
import KE.KEqDeep
import PyProof.Rows.TupMore
import PyProof.Rows.NestLooks
import PyProof.EnumMake
import PyProof.WalksEnum
import PyProof.Rows.SortWalk
import PyProof.DictStraight
import PyProof.EqAt
import PyProof.Rows.SeqMore2
import KE.KAnyBase
import PyProof.Rows.SeqSlice
set_option linter.all false
set_option maxRecDepth 100000
set_option maxHeartbeats 8000000
abbrev Zz0:=@Option.bind_eq_some_iff
abbrev Zz1:=@Option.map_eq_some_iff
abbrev Zz2:=@List.mem_cons_of_mem
abbrev Zz3:=@List.mem_append_right
abbrev Zz4:=@List.mem_append_left
abbrev Zz5:=@List.mem_cons_self
abbrev Zz6:=@List.getElem?_eq_some_iff
abbrev Zz7:=@List.mem_cons
abbrev Zz8:=@List.mem_append
abbrev Zz9:=@List.mem_singleton
abbrev Zz10:=@Nat.le_refl
abbrev Zz11:=@List.mem_map
set_option Elab.async false
set_option compiler.extract_closed false
section
/-! The plain machine: values as trees, lists as places; and how it stands for the model's heap. -/
namespace PM
open PySem PyProof.Rows
inductive V where
 | none
 | bool (b:Bool)
 | int (i:Int)
 | str (s:Str)
 | tup (vs:List V)
 | ref (a:Nat)
noncomputable abbrev Hp:=List (List V)
noncomputable abbrev Lc:=Nat→Option V
noncomputable def LEN: Nat:=100000
theorem ZaP: LEN=100000:=rfl
theorem Zcx{n:Nat}(h:n≤LEN): n≤sizeLine:=by
 have:sizeLine=2 ^ 24:=rfl
 rw[this];rw[ZaP]at h;omega
noncomputable abbrev Zd0(xs:List Value)(k:Nat): Obj:={ cls:=.type "tuple",data:=.seq xs.toArray k }
noncomputable abbrev Zbz(xs:List Value)(k:Nat): Obj:={ cls:=.type "list",data:=.seq xs.toArray k }
structure Wd where
 pi:List Addr
 tups:List (Addr×Obj)
 sc:Addr×Obj
structure Wd.Le(W W':Wd): Prop where
 pi:W.pi <+: W'.pi
 tups:∀q∈W.tups,q∈W'.tups
 sc:W'.sc=W.sc
theorem Wd.Le.refl(W:Wd): W.Le W:=⟨List.prefix_refl _,fun _ h=>h,rfl⟩
theorem Wd.Le.trans{W W' W'':Wd}(a:W.Le W')(b:W'.Le W''): W.Le W'':=⟨a.pi.trans b.pi,fun q h=>b.tups q (a.tups q h),b.sc.trans a.sc⟩
theorem Wd.Le.at{W W':Wd}(h:W.Le W'){i:Nat}{a:Addr}(e:W.pi[i]?=some a): W'.pi[i]?=some a:=by
 obtain⟨t,ht⟩:=h.pi
 have hi:i<W.pi.length:=(Zz6.mp e).1
 rw[←ht,List.getElem?_append_left hi]
 exact e
mutual
inductive VR(W:Wd): V→Value→Prop where
 | none:VR W .none .none
 | bool (b:Bool):VR W (.bool b) (.bool b)
 | int (i:Int) (t:Tok):VR W (.int i) (.int i t)
 | str (s:Str) (t:Tok):VR W (.str s) (.str s t)
 | tup {vs:List V} {a:Addr} {xs:List Value} {k:Nat}:(a,Zd0 xs k)∈W.tups→vs.length≤LEN→VRs W vs xs→VR W (.tup vs) (.ref a)
 | ref {i:Nat} {a:Addr}:W.pi[i]?=some a→VR W (.ref i) (.ref a)
inductive VRs(W:Wd): List V→List Value→Prop where
 | nil:VRs W [] []
 | cons {v:V} {x:Value} {vs:List V} {xs:List Value}:VR W v x→VRs W vs xs→VRs W (v::vs) (x::xs)
end
mutual
theorem VR.mono{W W':Wd}(h:W.Le W'){v:V}{x:Value}(r:VR W v x): VR W' v x:=by
 cases r with
 | none=>exact .none
 | bool b=>exact .bool b
 | int i t=>exact .int i t
 | str s t=>exact .str s t
 | tup hm hl hs=>exact .tup (h.tups _ hm) hl (VRs.mono h hs)
 | ref e=>exact .ref (h.at e)
theorem VRs.mono{W W':Wd}(h:W.Le W'){vs:List V}{xs:List Value}(r:VRs W vs xs): VRs W' vs xs:=by
 cases r with
 | nil=>exact .nil
 | cons a b=>exact .cons (VR.mono h a) (VRs.mono h b)
end
theorem VRs.length{W:Wd}: ∀{vs:List V} {xs:List Value},VRs W vs xs→xs.length=vs.length
 | _,_,.nil=>rfl
 | _,_,.cons _ r=>by rw[List.length_cons,List.length_cons,r.length]
theorem VRs.at{W:Wd}: ∀{vs:List V} {xs:List Value} {i:Nat} {v:V},VRs W vs xs→vs[i]?=some v→∃x,xs[i]?=some x∧VR W v x
 | _,_,_,_,.nil,e=>by simp at e
 | _,_,0,_,.cons a _,e=>by
  simp at e
  exact⟨_,by simp,e▸a⟩
 | _,_,i+1,_,.cons _ r,e=>by
  simp at e
  obtain⟨x,hx,hr⟩:=r.at e
  exact⟨x,by simpa using hx,hr⟩
theorem VRs.append{W:Wd}: ∀{vs us:List V} {xs ys:List Value},VRs W vs xs→VRs W us ys→VRs W (vs++us) (xs++ys)
 | _,_,_,_,.nil,h=>h
 | _,_,_,_,.cons a r,h=>.cons a (r.append h)
theorem VRs.snoc{W:Wd}{vs:List V}{xs:List Value}{v:V}{x:Value}(h:VRs W vs xs)(r:VR W v x): VRs W (vs++[v]) (xs++[x]):=h.append (.cons r .nil)
theorem VRs.set{W:Wd}: ∀{vs:List V} {xs:List Value} {v:V} {x:Value} (i:Nat),VRs W vs xs→VR W v x→VRs W (vs.set i v) (xs.set i x)
 | _,_,_,_,_,.nil,_=>.nil
 | _,_,_,_,0,.cons _ r,h=>.cons h r
 | _,_,_,_,i+1,.cons a r,h=>.cons a (r.set i h)
theorem VRs.drop{W:Wd}: ∀{vs:List V} {xs:List Value} (i:Nat),VRs W vs xs→VRs W (vs.drop i) (xs.drop i)
 | _,_,0,h=>h
 | _,_,_+1,.nil=>.nil
 | _,_,i+1,.cons _ r=>r.drop i
structure HR(W:Wd)(H:Hp)(led:List (Addr×Obj)): Prop where
 len:W.pi.length=H.length
 nd:W.pi.Nodup
 lists:∀(i:Nat) (vs:List V),H[i]?=some vs→vs.length≤LEN∧∃a xs k,W.pi[i]?=some a∧(a,Zbz xs k)∈led∧VRs W vs xs
 tups:∀q∈W.tups,q∈led
 kind:∀q∈W.tups,∃xs k,q.2=Zd0 xs k
theorem HR.mono{W:Wd}{H:Hp}{led led':List (Addr×Obj)}(R:HR W H led)(h:∀q∈led,q∈led'): HR W H led':=
 ⟨R.len,R.nd,fun i vs e=>by
  obtain⟨l,a,xs,k,h1,h2,h3⟩:=R.lists i vs e
  exact⟨l,a,xs,k,h1,h _ h2,h3⟩,fun q hq=>h q (R.tups q hq),R.kind⟩
structure Cx where
 A:Around
 env:Env
 h₀:Heap
 L:Addr
 hh:A.handled=none
 hu:A.units+200<cLine
 Own:Wd→Lc→(Str→Option Value)→List (Addr×Obj)→Prop
 mono:∀{W W':Wd} {ρ:Lc} {m:Str→Option Value} {c:List (Addr×Obj)},W.Le W'→Own W ρ m c→Own W' ρ m c
structure Rep'(Γ:Cx)(W:Wd)(ρ:Lc)(H:Hp)(fr:List (Addr×Obj))(h:Heap)(m:Str→Option Value)(cells led:List (Addr×Obj)): Prop where
 F:Fr Γ.h₀ Γ.L h m
 N:News Γ.h₀ Γ.L h led
 R:HR W H (W.sc::led)
 sc:Γ.h₀.get? W.sc.1=some W.sc.2
 sc0:W.pi[0]?=some W.sc.1
 frIn:∀q∈fr,q∈led
 frOff:∀q∈fr,q.1∉W.pi
 clIn:∀q∈cells,q∈led
 clOff:∀q∈cells,q.1∉W.pi
 apart:∀q∈cells,∀r∈fr,q.1≠r.1
 frTup:∀q∈fr,∀t∈W.tups,q.1≠t.1
 clTup:∀q∈cells,∀t∈W.tups,q.1≠t.1
 own:Γ.Own W ρ m cells
def Rep(Γ:Cx)(W:Wd)(ρ:Lc)(H:Hp)(fr:List (Addr×Obj))(h:Heap): Prop:=∃m cells led,Rep' Γ W ρ H fr h m cells led
theorem Rep.grown{Γ:Cx}{W:Wd}{ρ:Lc}{H:Hp}{fr:List (Addr×Obj)}{h h':Heap}(r:Rep Γ W ρ H fr h)(up:∀b o,h.get? b=some o→h'.get? b=some o): Rep Γ W ρ H fr h':=by
 obtain⟨m,c,led,r⟩:=r
 refine⟨m,c,led,⟨⟨?_,fun b o e=>up b o (r.F.keep b o e),r.F.above⟩,fun q hq=>⟨up _ _ (r.N q hq).1,(r.N q hq).2⟩,r.R,r.sc,r.sc0,r.frIn,r.frOff,r.clIn,r.clOff,r.apart,r.frTup,r.clTup,r.own⟩⟩
 obtain⟨o,es,ep,h1,h2⟩:=r.F.ns
 exact⟨o,es,ep,up _ _ h1,h2⟩
theorem Rep.push{Γ:Cx}{W:Wd}{ρ:Lc}{H:Hp}{fr:List (Addr×Obj)}{h:Heap}(r:Rep Γ W ρ H fr h)(o:Obj): Rep Γ W ρ H fr (h.push o):=r.grown fun _ _ e=>Heap.get?_push_of_some _ e
theorem Zdu{q s:Addr×Obj}{l l':List (Addr×Obj)}(h:q∈s::l)(m:q∈l→q∈l'): q∈s::l':=by
 rcases Zz7.mp h with e | h
 ·exact e▸List.mem_cons_self
 ·exact Zz2 _ (m h)
theorem ZeK{q s:Addr×Obj}{l l':List (Addr×Obj)}(h:q∈s::l)(m:∀x∈l,x∈l'): q∈s::l':=by
 rcases Zz7.mp h with e | h
 ·exact e▸List.mem_cons_self
 ·exact Zz2 _ (m q h)
theorem Rep'.get{Γ:Cx}{W:Wd}{ρ:Lc}{H:Hp}{fr:List (Addr×Obj)}{h:Heap}{m:Str→Option Value}{c led:List (Addr×Obj)}(r:Rep' Γ W ρ H fr h m c led){q:Addr×Obj}(hq:q∈W.sc::led): h.get? q.1=some q.2:=by
 rcases Zz7.mp hq with e | hq
 ·rw[e]
  exact r.F.keep _ _ r.sc
 ·exact(r.N q hq).1
theorem Rep'.off{Γ:Cx}{W:Wd}{ρ:Lc}{H:Hp}{fr:List (Addr×Obj)}{h:Heap}{m:Str→Option Value}{c led:List (Addr×Obj)}(r:Rep' Γ W ρ H fr h m c led): ∀q∈W.sc::led,q.1≠h.objs.size:=fun q hq=>Nat.ne_of_lt (Heap.lt_size (r.get hq))
theorem Rep'.same{Γ:Cx}{W:Wd}{ρ:Lc}{H:Hp}{fr:List (Addr×Obj)}{h h':Heap}{m:Str→Option Value}{c led:List (Addr×Obj)}(r:Rep' Γ W ρ H fr h m c led)(F':Fr Γ.h₀ Γ.L h' m)(N':News Γ.h₀ Γ.L h' led): Rep Γ W ρ H fr h':=
 ⟨m,c,led,F',N',r.R,r.sc,r.sc0,r.frIn,r.frOff,r.clIn,r.clOff,r.apart,r.frTup,r.clTup,r.own⟩
theorem Rep'.piIn{Γ:Cx}{W:Wd}{ρ:Lc}{H:Hp}{fr:List (Addr×Obj)}{h:Heap}{m:Str→Option Value}{c led:List (Addr×Obj)}(r:Rep' Γ W ρ H fr h m c led): ∀a∈W.pi,∃o,(a,o)∈W.sc::led:=by
 intro a ha
 obtain⟨i,hi,e⟩:=List.getElem_of_mem ha
 have hi':i<H.length:=r.R.len▸hi
 obtain⟨_,b,xs,k,h1,h2,_⟩:=r.R.lists i H[i] (List.getElem?_eq_getElem hi')
 have:b=a:=by rw[List.getElem?_eq_getElem hi,e]at h1;exact(Option.some.inj h1).symm
 exact⟨_,this▸h2⟩
theorem Rep'.inLed{Γ:Cx}{W:Wd}{ρ:Lc}{H:Hp}{fr:List (Addr×Obj)}{h:Heap}{m:Str→Option Value}{c led:List (Addr×Obj)}(r:Rep' Γ W ρ H fr h m c led){i:Nat}{a:Addr}{o:Obj}(hi:i≠0)(ea:W.pi[i]?=some a)(hm:(a,o)∈W.sc::led): (a,o)∈led:=by
 rcases Zz7.mp hm with e | hm
 ·have e1:a=W.sc.1:=congrArg (·.1) e
  have hl:i<W.pi.length:=(Zz6.mp ea).1
  have:i=0:=(List.getElem?_inj hl r.R.nd).mp (by rw[ea,r.sc0,e1])
  exact absurd this hi
 ·exact hm
theorem Rep'.notSc{Γ:Cx}{W:Wd}{ρ:Lc}{H:Hp}{fr:List (Addr×Obj)}{h:Heap}{m:Str→Option Value}{c led:List (Addr×Obj)}(r:Rep' Γ W ρ H fr h m c led): ∀q∈led,q.1≠W.sc.1:=fun q hq e=>by
 have:=(r.N q hq).2.2
 rw[e,r.sc]at this
 cases this
theorem Rep'.newTup{Γ:Cx}{W:Wd}{ρ:Lc}{H:Hp}{fr:List (Addr×Obj)}{h h':Heap}{m:Str→Option Value}{c led:List (Addr×Obj)}{vs:List V}{xs:List Value}{k:Nat}{n:Addr}(r:Rep' Γ W ρ H fr h m c led)(F':Fr Γ.h₀ Γ.L h' m)(N':News Γ.h₀ Γ.L h' ((n,Zd0 xs k)::led))(hn:∀q∈W.sc::led,q.1≠n)(hv:VRs W vs xs)(hl:vs.length≤LEN):
  ∃W',W.Le W'∧Rep Γ W' ρ H fr h'∧VR W' (.tup vs) (.ref n):=by
 have le:W.Le ⟨W.pi,(n,Zd0 xs k)::W.tups,W.sc⟩:=⟨List.prefix_refl _,fun q hq=>List.mem_cons_of_mem _ hq,rfl⟩
 refine⟨⟨W.pi,(n,Zd0 xs k)::W.tups,W.sc⟩,le,⟨m,c,(n,Zd0 xs k)::led,⟨F',N',?_,r.sc,r.sc0,fun q hq=>List.mem_cons_of_mem _ (r.frIn q hq),r.frOff,fun q hq=>List.mem_cons_of_mem _ (r.clIn q hq),r.clOff,r.apart,fun q hq t ht=>?_,fun q hq t ht=>?_,Γ.mono le r.own⟩⟩,.tup Zz5 hl (hv.mono le)⟩
 ·refine⟨r.R.len,r.R.nd,fun i us e=>?_,fun q hq=>?_,fun q hq=>?_⟩
  ·obtain⟨l,a,ys,j,h1,h2,h3⟩:=r.R.lists i us e
   exact⟨l,a,ys,j,h1,ZeK h2 fun x hx=>List.mem_cons_of_mem _ hx,h3.mono le⟩
  ·rcases Zz7.mp hq with e | hq
   ·exact e▸List.mem_cons_of_mem _ Zz5
   ·exact ZeK (r.R.tups q hq) fun x hx=>List.mem_cons_of_mem _ hx
  ·rcases Zz7.mp hq with e | hq
   ·exact⟨xs,k,by rw[e]⟩
   ·exact r.R.kind q hq
 ·rcases Zz7.mp ht with e | ht
  ·rw[e]
   exact hn q (Zz2 _ (r.frIn q hq))
  ·exact r.frTup q hq t ht
 ·rcases Zz7.mp ht with e | ht
  ·rw[e]
   exact hn q (Zz2 _ (r.clIn q hq))
  ·exact r.clTup q hq t ht
theorem Rep.tuple{Γ:Cx}{W:Wd}{ρ:Lc}{H:Hp}{fr:List (Addr×Obj)}{h:Heap}{vs:List V}{xs:List Value}{k:Nat}(r:Rep Γ W ρ H fr h)(hv:VRs W vs xs)(hl:vs.length≤LEN):
  ∃W',W.Le W'∧Rep Γ W' ρ H fr (h.push (Zd0 xs k))∧VR W' (.tup vs) (.ref h.objs.size):=by
 obtain⟨m,c,led,r⟩:=r
 exact r.newTup (r.F.push _) (News.push r.F r.N _) r.off hv hl
theorem Rep'.newList{Γ:Cx}{W:Wd}{ρ:Lc}{H:Hp}{fr:List (Addr×Obj)}{h h':Heap}{m:Str→Option Value}{c led:List (Addr×Obj)}{vs:List V}{xs:List Value}{k:Nat}{n:Addr}(r:Rep' Γ W ρ H fr h m c led)(F':Fr Γ.h₀ Γ.L h' m)(N':News Γ.h₀ Γ.L h' ((n,Zbz xs k)::led))(hn:∀q∈W.sc::led,q.1≠n)(hv:VRs W vs xs)(hl:vs.length≤LEN):
  ∃W',W.Le W'∧Rep Γ W' ρ (H++[vs]) fr h'∧VR W' (.ref H.length) (.ref n):=by
 have le:W.Le ⟨W.pi++[n],W.tups,W.sc⟩:=⟨List.prefix_append _ _,fun q hq=>hq,rfl⟩
 have h0:0<W.pi.length:=(Zz6.mp r.sc0).1
 have at_n:(W.pi++[n])[H.length]?=some n:=by rw[←r.R.len];simp
 refine⟨⟨W.pi++[n],W.tups,W.sc⟩,le,⟨m,c,(n,Zbz xs k)::led,⟨F',N',?_,r.sc,(List.getElem?_append_left h0).trans r.sc0,fun q hq=>List.mem_cons_of_mem _ (r.frIn q hq),fun q hq=>?_,fun q hq=>List.mem_cons_of_mem _ (r.clIn q hq),fun q hq=>?_,r.apart,r.frTup,r.clTup,Γ.mono le r.own⟩⟩,.ref at_n⟩
 ·refine⟨by simp[r.R.len],?_,fun i us e=>?_,fun q hq=>ZeK (r.R.tups q hq) fun x hx=>List.mem_cons_of_mem _ hx,r.R.kind⟩
  ·show(W.pi++[n]).Nodup
   rw[List.nodup_append]
   refine⟨r.R.nd,by simp,fun a ha b hb=>?_⟩
   rw[List.mem_singleton.mp hb]
   obtain⟨o,ho⟩:=r.piIn a ha
   exact hn _ ho
  ·by_cases hi:i<H.length
   ·rw[List.getElem?_append_left hi]at e
    obtain⟨l,a,ys,j,h1,h2,h3⟩:=r.R.lists i us e
    exact⟨l,a,ys,j,le.at h1,ZeK h2 fun x hx=>List.mem_cons_of_mem _ hx,h3.mono le⟩
   ·have:i=H.length:=by
     have:=(Zz6.mp e).1
     simp at this
     omega
    subst this
    simp at e
    subst e
    exact⟨hl,n,xs,k,at_n,List.mem_cons_of_mem _ Zz5,hv.mono le⟩
 ·intro hm
  rcases Zz8.mp hm with hm | hm
  ·exact r.frOff q hq hm
  ·exact hn q (Zz2 _ (r.frIn q hq)) (Zz9.mp hm)
 ·intro hm
  rcases Zz8.mp hm with hm | hm
  ·exact r.clOff q hq hm
  ·exact hn q (Zz2 _ (r.clIn q hq)) (Zz9.mp hm)
theorem Rep.list{Γ:Cx}{W:Wd}{ρ:Lc}{H:Hp}{fr:List (Addr×Obj)}{h:Heap}{vs:List V}{xs:List Value}{k:Nat}(r:Rep Γ W ρ H fr h)(hv:VRs W vs xs)(hl:vs.length≤LEN):
  ∃W',W.Le W'∧Rep Γ W' ρ (H++[vs]) fr (h.push (Zbz xs k))∧VR W' (.ref H.length) (.ref h.objs.size):=by
 obtain⟨m,c,led,r⟩:=r
 exact r.newList (r.F.push _) (News.push r.F r.N _) r.off hv hl
theorem Rep.at{Γ:Cx}{W:Wd}{ρ:Lc}{H:Hp}{fr:List (Addr×Obj)}{h:Heap}{i:Nat}{a:Addr}{vs:List V}(r:Rep Γ W ρ H fr h)(e:H[i]?=some vs)(ea:W.pi[i]?=some a): vs.length≤LEN∧∃xs k,h.get? a=some (Zbz xs k)∧VRs W vs xs:=by
 obtain⟨m,c,led,r⟩:=r
 obtain⟨l,b,xs,k,h1,h2,h3⟩:=r.R.lists i vs e
 rw[ea]at h1
 cases h1
 exact⟨l,xs,k,r.get h2,h3⟩
theorem Rep.tupAt{Γ:Cx}{W:Wd}{ρ:Lc}{H:Hp}{fr:List (Addr×Obj)}{h:Heap}{q:Addr×Obj}(r:Rep Γ W ρ H fr h)(e:q∈W.tups): h.get? q.1=some q.2:=by
 obtain⟨m,c,led,r⟩:=r
 exact r.get (r.R.tups _ e)
theorem Rep'.changed{Γ:Cx}{W:Wd}{ρ:Lc}{H:Hp}{fr:List (Addr×Obj)}{h h':Heap}{m:Str→Option Value}{c led:List (Addr×Obj)}{i:Nat}{a:Addr}{vs us:List V}{ys:List Value}{k:Nat}(r:Rep' Γ W ρ H fr h m c led)(i0:i≠0)(e:H[i]?=some vs)(ea:W.pi[i]?=some a)(F':Fr Γ.h₀ Γ.L h' m)(N':News Γ.h₀ Γ.L h' ((a,Zbz ys k)::led.filter (fun q=>decide (q.1≠a))))(hv:VRs W us ys)(hl:us.length≤LEN):
  Rep Γ W ρ (H.set i us) fr h':=by
 obtain⟨_,b,xs,j,h1,h2,h3⟩:=r.R.lists i vs e
 rw[ea]at h1
 cases h1
 have h2:=r.inLed i0 ea h2
 have hN:=r.N _ h2
 have hm:a∈W.pi:=List.mem_of_getElem? ea
 have hi:i<H.length:=(Zz6.mp e).1
 refine⟨m,c,(a,Zbz ys k)::led.filter (fun q=>decide (q.1≠a)),⟨F',N',?_,r.sc,r.sc0,fun q hq=>?_,r.frOff,fun q hq=>?_,r.clOff,r.apart,r.frTup,r.clTup,r.own⟩⟩
 ·refine⟨by simp[r.R.len],r.R.nd,fun n ws en=>?_,fun q hq=>?_,r.R.kind⟩
  ·by_cases hn:n=i
   ·subst hn
    rw[List.getElem?_set_self hi]at en
    cases en
    exact⟨hl,a,ys,k,ea,List.mem_cons_of_mem _ Zz5,hv⟩
   ·rw[List.getElem?_set_ne (Ne.symm hn)]at en
    obtain⟨l,d,zs,j',g1,g2,g3⟩:=r.R.lists n ws en
    refine⟨l,d,zs,j',g1,Zdu g2 fun g2=>List.mem_cons_of_mem _ (List.mem_filter.mpr ⟨g2,?_⟩),g3⟩
    have:d≠a:=fun e=>by
     subst e
     exact hn ((List.getElem?_inj (Zz6.mp g1).1 r.R.nd).mp (g1.trans ea.symm))
    simpa using this
  ·refine Zdu (r.R.tups q hq) fun g2=>List.mem_cons_of_mem _ (List.mem_filter.mpr ⟨g2,?_⟩)
   have:q.1≠a:=fun e=>by
    obtain⟨zs,j',hk⟩:=r.R.kind q hq
    have g:=r.get (r.R.tups q hq)
    rw[e,hN.1,hk]at g
    have c:=congrArg Obj.cls (Option.some.inj g)
    exact absurd c (by simp)
   simpa using this
 ·refine Zz2 _ (List.mem_filter.mpr ⟨r.frIn q hq,?_⟩)
  have:q.1≠a:=fun e=>r.frOff q hq (e▸hm)
  simpa using this
 ·refine Zz2 _ (List.mem_filter.mpr ⟨r.clIn q hq,?_⟩)
  have:q.1≠a:=fun e=>r.clOff q hq (e▸hm)
  simpa using this
theorem Rep.change{Γ:Cx}{W:Wd}{ρ:Lc}{H:Hp}{fr:List (Addr×Obj)}{h h':Heap}{i:Nat}{a:Addr}{vs us:List V}{ys:List Value}{k:Nat}(r:Rep Γ W ρ H fr h)(i0:i≠0)(e:H[i]?=some vs)(ea:W.pi[i]?=some a)(sb:Heap.SameBut a h h')(ha:h'.get? a=some (Zbz ys k))(hv:VRs W us ys)(hl:us.length≤LEN):
  Rep Γ W ρ (H.set i us) fr h':=by
 obtain⟨m,c,led,r⟩:=r
 obtain⟨_,b,xs,j,h1,h2,h3⟩:=r.R.lists i vs e
 rw[ea]at h1
 cases h1
 have h2:=r.inLed i0 ea h2
 have hN:=r.N _ h2
 have keep:∀q∈led,q.1≠a→h'.get? q.1=some q.2:=fun q hq hn=>sb.extBut _ _ hn (r.N q hq).1
 refine r.changed (k:=k) i0 e ea ⟨r.F.ns.sameBut sb (Ne.symm hN.2.1),fun b o eb=>sb.extBut b o (fun q=>?_) (r.F.keep b o eb),r.F.above⟩ (fun q hq=>?_) hv hl
 ·subst q
  rw[hN.2.2]at eb
  cases eb
 ·rcases Zz7.mp hq with e | hq
  ·subst e
   exact⟨ha,hN.2⟩
  ·obtain⟨h1,h2⟩:=List.mem_filter.mp hq
   exact⟨keep q h1 (by simpa using h2),(r.N q h1).2⟩
theorem Rep.swap{Γ:Cx}{W:Wd}{ρ:Lc}{H:Hp}{fs fs' fr:List (Addr×Obj)}{h h':Heap}(r:Rep Γ W ρ H (fs++fr) h)(ap:∀q∈fs,∀t∈fr,q.1≠t.1)(keep:∀b o,b∉fs.map (·.1)→h.get? b=some o→h'.get? b=some o)(new:∀q∈fs',h'.get? q.1=some q.2∧q.1∈fs.map (·.1)): Rep Γ W ρ H (fs'++fr) h':=by
 obtain⟨m,c,led,r⟩:=r
 have inF:∀q∈fs,q∈fs++fr:=fun q hq=>List.mem_append_left _ hq
 have nL:∀a∈fs.map (·.1),a≠Γ.L∧Γ.h₀.get? a=none:=fun a ha=>by
  obtain⟨q,hq,e⟩:=Zz11.mp ha
  exact e▸(r.N q (r.frIn q (inF q hq))).2
 have kp:∀q∈led,q.1∉fs.map (·.1)→h'.get? q.1=some q.2:=fun q hq hn=>keep _ _ hn (r.N q hq).1
 refine⟨m,c,fs'++led.filter (fun q=>decide (q.1∉fs.map (·.1))),⟨⟨?_,fun b o e=>?_,r.F.above⟩,fun q hq=>?_,⟨r.R.len,r.R.nd,fun i vs e=>?_,fun q hq=>?_,r.R.kind⟩,r.sc,r.sc0,fun q hq=>?_,fun q hq=>?_,fun q hq=>?_,r.clOff,fun q hq t ht=>?_,fun q hq t ht=>?_,r.clTup,r.own⟩⟩
 ·obtain⟨o,es,ep,h1,h2⟩:=r.F.ns
  exact⟨o,es,ep,keep _ _ (fun q=>(nL _ q).1 rfl) h1,h2⟩
 ·refine keep b o (fun q=>?_) (r.F.keep b o e)
  rw[(nL b q).2]at e
  cases e
 ·rcases Zz8.mp hq with hq | hq
  ·obtain⟨h1,h2⟩:=new q hq
   exact⟨h1,nL _ h2⟩
  ·obtain⟨h1,h2⟩:=List.mem_filter.mp hq
   exact⟨kp q h1 (by simpa using h2),(r.N q h1).2⟩
 ·obtain⟨l,a,xs,k,h1,h2,h3⟩:=r.R.lists i vs e
  refine⟨l,a,xs,k,h1,Zdu h2 fun h2=>List.mem_append_right _ (List.mem_filter.mpr ⟨h2,?_⟩),h3⟩
  have:a∉fs.map (·.1):=fun q=>by
   obtain⟨t,ht,e⟩:=Zz11.mp q
   exact r.frOff t (inF t ht) (e▸List.mem_of_getElem? h1)
  simpa using this
 ·refine Zdu (r.R.tups q hq) fun h2=>List.mem_append_right _ (List.mem_filter.mpr ⟨h2,?_⟩)
  have:q.1∉fs.map (·.1):=fun z=>by
   obtain⟨t,ht,e⟩:=Zz11.mp z
   exact r.frTup t (inF t ht) q hq e
  simpa using this
 ·rcases Zz8.mp hq with hq | hq
  ·exact Zz4 _ hq
  ·refine Zz3 _ (List.mem_filter.mpr ⟨r.frIn q (Zz3 _ hq),?_⟩)
   have:q.1∉fs.map (·.1):=fun z=>by
    obtain⟨t,ht,e⟩:=Zz11.mp z
    exact ap t ht q hq e
   simpa using this
 ·rcases Zz8.mp hq with hq | hq
  ·obtain⟨t,ht,e⟩:=Zz11.mp (new q hq).2
   exact e▸r.frOff t (inF t ht)
  ·exact r.frOff q (Zz3 _ hq)
 ·refine Zz3 _ (List.mem_filter.mpr ⟨r.clIn q hq,?_⟩)
  have:q.1∉fs.map (·.1):=fun z=>by
   obtain⟨t,ht,e⟩:=Zz11.mp z
   exact r.apart q hq t (inF t ht) e.symm
  simpa using this
 ·rcases Zz8.mp ht with ht | ht
  ·obtain⟨u,hu,e⟩:=Zz11.mp (new t ht).2
   exact e▸r.apart q hq u (inF u hu)
  ·exact r.apart q hq t (Zz3 _ ht)
 ·rcases Zz8.mp hq with hq | hq
  ·obtain⟨u,hu,e⟩:=Zz11.mp (new q hq).2
   exact e▸r.frTup u (inF u hu) t ht
  ·exact r.frTup q (Zz3 _ hq) t ht
theorem Rep.more{Γ:Cx}{W:Wd}{ρ:Lc}{H:Hp}{fs fr:List (Addr×Obj)}{h h':Heap}(r:Rep Γ W ρ H fr h)(up:∀b o,h.get? b=some o→h'.get? b=some o)(new:∀q∈fs,h'.get? q.1=some q.2∧h.objs.size≤q.1): Rep Γ W ρ H (fs++fr) h'∧∀q∈fs,∀t∈fr,q.1≠t.1:=by
 have r':=r.grown up
 obtain⟨m,c,led,r⟩:=r
 have lt:∀q∈W.sc::led,q.1<h.objs.size:=fun q hq=>Heap.lt_size (r.get hq)
 have ne:∀q∈fs,∀t∈W.sc::led,q.1≠t.1:=fun q hq t ht=>Nat.ne_of_gt (Nat.lt_of_lt_of_le (lt t ht) (new q hq).2)
 refine⟨⟨m,c,fs++led,⟨⟨?_,fun b o e=>up b o (r.F.keep b o e),r.F.above⟩,fun q hq=>?_,r.R.mono fun q hq=>ZeK hq fun x hx=>List.mem_append_right _ hx,r.sc,r.sc0,fun q hq=>?_,fun q hq=>?_,fun q hq=>List.mem_append_right _ (r.clIn q hq),r.clOff,fun q hq t ht=>?_,fun q hq t ht=>?_,r.clTup,r.own⟩⟩,fun q hq t ht=>ne q hq t (Zz2 _ (r.frIn t ht))⟩
 ·obtain⟨o,es,ep,h1,h2⟩:=r.F.ns
  exact⟨o,es,ep,up _ _ h1,h2⟩
 ·rcases Zz8.mp hq with hq | hq
  ·obtain⟨h1,h2⟩:=new q hq
   refine⟨h1,fun e=>?_,?_⟩
   ·exact absurd (e▸r.F.ns.lt) (Nat.not_lt.mpr h2)
   ·cases e:Γ.h₀.get? q.1 with
    | none=>rfl
    | some o=>exact absurd (Heap.lt_size (r.F.keep _ _ e)) (Nat.not_lt.mpr h2)
  ·exact⟨up _ _ (r.N q hq).1,(r.N q hq).2⟩
 ·rcases Zz8.mp hq with hq | hq
  ·exact Zz4 _ hq
  ·exact Zz3 _ (r.frIn q hq)
 ·rcases Zz8.mp hq with hq | hq
  ·intro hm
   obtain⟨o,ho⟩:=r.piIn _ hm
   exact ne q hq _ ho rfl
  ·exact r.frOff q hq
 ·rcases Zz8.mp ht with ht | ht
  ·exact(ne t ht q (Zz2 _ (r.clIn q hq))).symm
  ·exact r.apart q hq t ht
 ·rcases Zz8.mp hq with hq | hq
  ·exact ne q hq t (r.R.tups t ht)
  ·exact r.frTup q hq t ht
theorem Rep.less{Γ:Cx}{W:Wd}{ρ:Lc}{H:Hp}{fs fr:List (Addr×Obj)}{h:Heap}(r:Rep Γ W ρ H fs h)(sub:∀q∈fr,q∈fs): Rep Γ W ρ H fr h:=by
 obtain⟨m,c,led,r⟩:=r
 exact⟨m,c,led,⟨r.F,r.N,r.R,r.sc,r.sc0,fun q hq=>r.frIn q (sub q hq),fun q hq=>r.frOff q (sub q hq),r.clIn,r.clOff,fun q hq t ht=>r.apart q hq t (sub t ht),fun q hq=>r.frTup q (sub q hq),r.clTup,r.own⟩⟩
theorem Rep.frAt{Γ:Cx}{W:Wd}{ρ:Lc}{H:Hp}{fr:List (Addr×Obj)}{h:Heap}{q:Addr×Obj}(r:Rep Γ W ρ H fr h)(hq:q∈fr): h.get? q.1=some q.2:=by
 obtain⟨m,c,led,r⟩:=r
 exact(r.N q (r.frIn q hq)).1
end PM
end
section
namespace PM
open PySem PyProof.Rows PyProof
noncomputable abbrev Ex:=Lc→Hp→Option (V×Hp)
noncomputable abbrev Exs:=Lc→Hp→Option (List V×Hp)
noncomputable abbrev Ts:=Lc→Hp→Option (Bool×Hp)
noncomputable abbrev ZgB(Γ:Cx)(W:Wd)(ρ:Lc)(H:Hp)(fr:List (Addr×Obj))(s:Shared)(Q:Value→Shared→Prop)(v:V): Prop:=
 ∀(W':Wd) (h':Heap) (tk':Nat) (x:Value),W.Le W'→Rep Γ W' ρ H fr h'→VR W' v x→Q x { s with heap:=h',toks:=tk' }
noncomputable abbrev Zh9(Γ:Cx)(W:Wd)(ρ:Lc)(H:Hp)(fr:List (Addr×Obj))(s:Shared)(Q:Bool→Shared→Prop)(b:Bool): Prop:=
 ∀(W':Wd) (h':Heap) (tk':Nat),W.Le W'→Rep Γ W' ρ H fr h'→Q b { s with heap:=h',toks:=tk' }
section
variable (prog:Program) (w:World)
def J(Γ:Cx)(e:Expr)(f:Ex): Prop:=∀(W:Wd) (ρ:Lc) (H:Hp) (fr:List (Addr×Obj)) (s:Shared) (Q E:Value→Shared→Prop) (v:V) (H':Hp),
 Rep Γ W ρ H fr s.heap→f ρ H=some (v,H')→ZgB Γ W ρ H' fr s Q v→wpAny (model prog w) Γ.A (eval e Γ.env) Q E s
def Js(Γ:Cx)(es:List Expr)(f:Exs): Prop:=∀(pos:Pos) (W:Wd) (ρ:Lc) (H:Hp) (fr:List (Addr×Obj)) (s:Shared) (Q:List Value→Shared→Prop) (E:Value→Shared→Prop) (vs:List V) (H':Hp),
 Rep Γ W ρ H fr s.heap→f ρ H=some (vs,H')→(∀(W':Wd) (h':Heap) (tk':Nat) (xs:List Value),W.Le W'→Rep Γ W' ρ H' fr h'→VRs W' vs xs→Q xs { s with heap:=h',toks:=tk' })→wpAny (model prog w) Γ.A (spliced (backTo pos (starEach es Γ.env))) Q E s
def JT(Γ:Cx)(e:Expr)(f:Ts): Prop:=∀(W:Wd) (ρ:Lc) (H:Hp) (fr:List (Addr×Obj)) (s:Shared) (Q:Bool→Shared→Prop) (E:Value→Shared→Prop) (b:Bool) (H':Hp),
 Rep Γ W ρ H fr s.heap→f ρ H=some (b,H')→Zh9 Γ W ρ H' fr s Q b→wpAny (model prog w) Γ.A (isTrue e Γ.env (eval e Γ.env)) Q E s
def Op2(m:Value→Value→Sem Value)(o:V→V→Hp→Option (V×Hp)): Prop:=∀(Γ:Cx) (W:Wd) (ρ:Lc) (H:Hp) (fr:List (Addr×Obj)) (s:Shared) (Q E:Value→Shared→Prop) (a b:V) (x y:Value) (v:V) (H':Hp),
 Rep Γ W ρ H fr s.heap→VR W a x→VR W b y→o a b H=some (v,H')→ZgB Γ W ρ H' fr s Q v→wpAny (model prog w) Γ.A (m x y) Q E s
def Op1(m:Value→Sem Value)(o:V→Hp→Option (V×Hp)): Prop:=∀(Γ:Cx) (W:Wd) (ρ:Lc) (H:Hp) (fr:List (Addr×Obj)) (s:Shared) (Q E:Value→Shared→Prop) (a:V) (x:Value) (v:V) (H':Hp),
 Rep Γ W ρ H fr s.heap→VR W a x→o a H=some (v,H')→ZgB Γ W ρ H' fr s Q v→wpAny (model prog w) Γ.A (m x) Q E s
def OpT(m:Value→Sem Bool)(o:V→Hp→Option Bool): Prop:=∀(Γ:Cx) (W:Wd) (ρ:Lc) (H:Hp) (fr:List (Addr×Obj)) (s:Shared) (Q:Bool→Shared→Prop) (E:Value→Shared→Prop) (a:V) (x:Value) (b:Bool),
 Rep Γ W ρ H fr s.heap→VR W a x→o a H=some b→Zh9 Γ W ρ H fr s Q b→wpAny (model prog w) Γ.A (m x) Q E s
end
noncomputable def ZL(k:Int): Ex:=fun _ H=>some (.int k,H)
noncomputable def Zas: Ex:=fun _ H=>some (.none,H)
noncomputable def Zia(b:Bool): Ex:=fun _ H=>some (.bool b,H)
noncomputable def Zie(x:Str): Ex:=fun _ H=>some (.str x,H)
noncomputable def Zo(i:Nat): Ex:=fun ρ H=>(ρ i).map fun v=>(v,H)
noncomputable def Zx(o:V→V→Hp→Option (V×Hp))(f g:Ex): Ex:=fun ρ H=>(f ρ H).bind fun p=>(g ρ p.2).bind fun q=>o p.1 q.1 q.2
noncomputable def eUn(o:V→Hp→Option (V×Hp))(f:Ex): Ex:=fun ρ H=>(f ρ H).bind fun p=>o p.1 p.2
noncomputable def eIf(t:Ts)(f g:Ex): Ex:=fun ρ H=>(t ρ H).bind fun p=>if p.1 then f ρ p.2 else g ρ p.2
noncomputable def Z0: Exs:=fun _ H=>some ([],H)
noncomputable def Zw(f:Ex)(g:Exs): Exs:=fun ρ H=>(f ρ H).bind fun p=>(g ρ p.2).bind fun q=>some (p.1::q.1,q.2)
noncomputable def ZcK(g:Exs): Ex:=fun ρ H=>(g ρ H).bind fun p=>if p.1.length≤LEN then some (.tup p.1,p.2)else none
noncomputable def ZdR(g:Exs): Ex:=fun ρ H=>(g ρ H).bind fun p=>if p.1.length≤LEN then some (.ref p.2.length,p.2++[p.1])else none
noncomputable def Zcg: V→Hp→Option Bool
 | .bool b,_=>some b
 | .int i,_=>some (i != 0)
 | .none,_=>some false
 | _,_=>none
noncomputable def Zai(f:Ex): Ts:=fun ρ H=>(f ρ H).bind fun p=>(Zcg p.1 p.2).map fun b=>(b,p.2)
noncomputable def Zli(t:Ts): Ts:=fun ρ H=>(t ρ H).map fun p=>(!p.1,p.2)
noncomputable def Zby: Ts:=fun _ H=>some (true,H)
noncomputable def Zgl: Ts:=fun _ H=>some (false,H)
noncomputable def ZcV(t u:Ts): Ts:=fun ρ H=>(t ρ H).bind fun p=>if p.1 then u ρ p.2 else some (false,p.2)
noncomputable def tOr(t u:Ts): Ts:=fun ρ H=>(t ρ H).bind fun p=>if p.1 then some (true,p.2)else u ρ p.2
noncomputable def tIf(t u v:Ts): Ts:=fun ρ H=>(t ρ H).bind fun p=>if p.1 then u ρ p.2 else v ρ p.2
noncomputable def Zlj(f:Ex): Ex:=fun ρ H=>(f ρ H).bind fun p=>(Zcg p.1 p.2).map fun b=>(.bool (!b),p.2)
noncomputable def ZgC(f g:Ex): Ex:=fun ρ H=>(f ρ H).bind fun p=>(Zcg p.1 p.2).bind fun b=>if b then g ρ p.2 else some p
noncomputable def eOr(f g:Ex): Ex:=fun ρ H=>(f ρ H).bind fun p=>(Zcg p.1 p.2).bind fun b=>if b then some p else g ρ p.2
section
variable {prog:Program} {w:World} {Γ:Cx}
theorem J.int(k:Int)(n:Nat)(pos:Pos): J prog w Γ (.Constant (.int k) n pos) (ZL k):=fun W ρ H fr s Q E v H' r e post=>by
 cases e
 exact wpAny_Constant_int (post W s.heap _ _ (.refl W) r (.int k _))
theorem J.none(n:Nat)(pos:Pos): J prog w Γ (.Constant .none n pos) Zas:=fun W ρ H fr s Q E v H' r e post=>by
 cases e
 exact wpAny_Constant_none (post W s.heap s.toks _ (.refl W) r .none)
theorem J.bool(b:Bool)(n:Nat)(pos:Pos): J prog w Γ (.Constant (.bool b) n pos) (Zia b):=fun W ρ H fr s Q E v H' r e post=>by
 cases e
 exact wpAny_Constant_bool (post W s.heap s.toks _ (.refl W) r (.bool b))
theorem J.str(x:Str)(n:Nat)(pos:Pos): J prog w Γ (.Constant (.str x) n pos) (Zie x):=fun W ρ H fr s Q E v H' r e post=>by
 cases e
 exact wpAny_Constant_str (post W s.heap _ _ (.refl W) r (.str x _))
theorem Zu{e1 e2:Expr}{op:Operator}{pos:Pos}{f g:Ex}{o:V→V→Hp→Option (V×Hp)}(h1:J prog w Γ e1 f)(h2:J prog w Γ e2 g)(ho:Op2 prog w (binaryOp op) o): J prog w Γ (.BinOp e1 op e2 pos) (Zx o f g):=by
 intro W ρ H fr s Q E v H' r hf post
 obtain⟨p,e1,hf⟩:=Zz0.mp hf
 obtain⟨q,e2,e3⟩:=Zz0.mp hf
 refine wpAny_BinOp (h1 W ρ H fr s _ E _ _ r e1 fun W1 k1 t1 x l1 r1 x1=>?_)
 refine h2 W1 ρ _ fr _ _ E _ _ r1 e2 fun W2 k2 t2 y l2 r2 y2=>?_
 exact ho Γ W2 ρ _ fr _ Q E _ _ x y v H' r2 (x1.mono l2) y2 e3 fun W3 k3 t3 z l3 r3 z3=>post W3 k3 t3 z ((l1.trans l2).trans l3) r3 z3
theorem ZbS{e1 e2:Expr}{op:CmpOp}{pos:Pos}{f g:Ex}{o:V→V→Hp→Option (V×Hp)}(h1:J prog w Γ e1 f)(h2:J prog w Γ e2 g)(ho:Op2 prog w (compareOp op) o)(hm:behindInMarks op e2=false:=by with_unfolding_all rfl): J prog w Γ (.Compare e1 [op] [e2] pos) (Zx o f g):=by
 intro W ρ H fr s Q E v H' r hf post
 obtain⟨p,e1,hf⟩:=Zz0.mp hf
 obtain⟨q,e2,e3⟩:=Zz0.mp hf
 refine wpAny_Compare1 (h1 W ρ H fr s _ E _ _ r e1 fun W1 k1 t1 x l1 r1 x1=>?_) hm
 refine h2 W1 ρ _ fr _ _ E _ _ r1 e2 fun W2 k2 t2 y l2 r2 y2=>?_
 exact ho Γ W2 ρ _ fr _ Q E _ _ x y v H' r2 (x1.mono l2) y2 e3 fun W3 k3 t3 z l3 r3 z3=>post W3 k3 t3 z ((l1.trans l2).trans l3) r3 z3
theorem Zbp{e1:Expr}{op:UnaryOp}{pos:Pos}{f:Ex}{o:V→Hp→Option (V×Hp)}(h1:J prog w Γ e1 f)(ho:Op1 prog w (unaryOp op) o): J prog w Γ (.UnaryOp op e1 pos) (eUn o f):=by
 intro W ρ H fr s Q E v H' r hf post
 obtain⟨p,e1,hf⟩:=Zz0.mp hf
 refine wpAny_UnaryOp (h1 W ρ H fr s _ E _ _ r e1 fun W1 k1 t1 x l1 r1 x1=>?_)
 exact ho Γ W1 ρ _ fr _ Q E _ x v H' r1 x1 hf fun W3 k3 t3 z l3 r3 z3=>post W3 k3 t3 z (l1.trans l3) r3 z3
theorem truth: OpT prog w truthy Zcg:=by
 intro Γ W ρ H fr s Q E a x b r hx ho post
 cases hx with
 | none=>cases ho;exact truthy_none (post W s.heap s.toks (.refl W) r)
 | bool c=>cases ho;exact fun _ _ _=>post W s.heap s.toks (.refl W) r
 | int i t=>cases ho;exact P.truthy_int (post W s.heap s.toks (.refl W) r)
 | str _ _=>cases ho
 | tup _ _ _=>cases ho
 | ref _=>cases ho
theorem Zvm{e1:Expr}{pos:Pos}{f:Ex}(h1:J prog w Γ e1 f): J prog w Γ (.UnaryOp .Not e1 pos) (Zlj f):=by
 intro W ρ H fr s Q E v H' r hf post
 obtain⟨p,e1,hf⟩:=Zz0.mp hf
 obtain⟨b,e2,e3⟩:=Zz1.mp hf
 cases e3
 refine wpAny_UnaryOp (h1 W ρ H fr s _ E _ _ r e1 fun W1 k1 t1 x l1 r1 x1=>?_)
 exact not_of (truth Γ W1 ρ _ fr _ _ E _ x b r1 x1 e2 fun W2 k2 t2 l2 r2=>post W2 k2 t2 _ (l1.trans l2) r2 (.bool _))
theorem ZeL{e1 e2:Expr}{pos:Pos}{f g:Ex}(h1:J prog w Γ e1 f)(h2:J prog w Γ e2 g): J prog w Γ (.BoolOp .And [e1,e2] pos) (ZgC f g):=by
 intro W ρ H fr s Q E v H' r hf post
 obtain⟨p,e1,hf⟩:=Zz0.mp hf
 obtain⟨b,e2,e3⟩:=Zz0.mp hf
 refine wpAny_And2 (h1 W ρ H fr s _ E _ _ r e1 fun W1 k1 t1 x l1 r1 x1=>?_)
 refine truth Γ W1 ρ _ fr _ _ E _ x b r1 x1 e2 fun W2 k2 t2 l2 r2=>?_
 cases b with
 | true=>exact h2 W2 ρ _ fr _ Q E v H' r2 e3 fun W3 k3 t3 z l3 r3 z3=>post W3 k3 t3 z ((l1.trans l2).trans l3) r3 z3
 | false=>
  cases e3
  exact post W2 k2 t2 x (l1.trans l2) r2 (x1.mono l2)
theorem ZvM{e1 e2:Expr}{pos:Pos}{f g:Ex}(h1:J prog w Γ e1 f)(h2:J prog w Γ e2 g): J prog w Γ (.BoolOp .Or [e1,e2] pos) (eOr f g):=by
 intro W ρ H fr s Q E v H' r hf post
 obtain⟨p,e1,hf⟩:=Zz0.mp hf
 obtain⟨b,e2,e3⟩:=Zz0.mp hf
 refine wpAny_Or2 (h1 W ρ H fr s _ E _ _ r e1 fun W1 k1 t1 x l1 r1 x1=>?_)
 refine truth Γ W1 ρ _ fr _ _ E _ x b r1 x1 e2 fun W2 k2 t2 l2 r2=>?_
 cases b with
 | false=>exact h2 W2 ρ _ fr _ Q E v H' r2 e3 fun W3 k3 t3 z l3 r3 z3=>post W3 k3 t3 z ((l1.trans l2).trans l3) r3 z3
 | true=>
  cases e3
  exact post W2 k2 t2 x (l1.trans l2) r2 (x1.mono l2)
theorem ZdS{t e1 e2:Expr}{pos:Pos}{u:Ts}{f g:Ex}(ht:JT prog w Γ t u)(h1:J prog w Γ e1 f)(h2:J prog w Γ e2 g): J prog w Γ (.IfExp t e1 e2 pos) (eIf u f g):=by
 intro W ρ H fr s Q E v H' r hf post
 obtain⟨p,e1,hf⟩:=Zz0.mp hf
 refine wpAny_IfExp (ht W ρ H fr s _ E _ _ r e1 fun W1 k1 t1 l1 r1=>?_)
 obtain⟨b,H1⟩:=p
 cases b with
 | true=>exact h1 W1 ρ _ fr _ Q E v H' r1 hf fun W3 k3 t3 z l3 r3 z3=>post W3 k3 t3 z (l1.trans l3) r3 z3
 | false=>exact h2 W1 ρ _ fr _ Q E v H' r1 hf fun W3 k3 t3 z l3 r3 z3=>post W3 k3 t3 z (l1.trans l3) r3 z3
theorem Ze: Js prog w Γ [] Z0:=fun pos W ρ H fr s Q E vs H' r hf post=>by
 cases hf
 exact wpAny_items_nil (post W s.heap s.toks [] (.refl W) r .nil)
theorem Ztp{e:Expr}{es:List Expr}{f:Ex}{g:Exs}(h1:J prog w Γ e f)(h2:Js prog w Γ es g)(he:starEach (e::es) Γ.env=(false,eval e Γ.env)::starEach es Γ.env:=by rfl): Js prog w Γ (e::es) (Zw f g):=by
 intro pos W ρ H fr s Q E vs H' r hf post
 obtain⟨p,e1,hf⟩:=Zz0.mp hf
 obtain⟨q,e2,e3⟩:=Zz0.mp hf
 cases e3
 refine wpAny_items_cons (h1 W ρ H fr s _ E _ _ r e1 fun W1 k1 t1 x l1 r1 x1=>?_) he
 exact h2 pos W1 ρ _ fr _ _ E _ _ r1 e2 fun W2 k2 t2 ys l2 r2 y2=>post W2 k2 t2 _ (l1.trans l2) r2 (.cons (x1.mono l2) y2)
theorem J.tup{es:List Expr}{k:Nat}{pos:Pos}{g:Exs}(h:Js prog w Γ es g): J prog w Γ (.Tuple es k pos) (ZcK g):=by
 intro W ρ H fr s Q E v H' r hf post
 obtain⟨p,e1,hf⟩:=Zz0.mp hf
 by_cases hl:p.1.length≤LEN
 ·rw[if_pos hl]at hf
  cases hf
  refine wpAny_Tuple (h pos W ρ H fr s _ E _ _ r e1 fun W1 k1 t1 xs l1 r1 x1=>⟨Zcx (by rw[x1.length];exact hl),?_⟩)
  obtain⟨W2,l2,r2,v2⟩:=r1.tuple (k:=0) x1 hl
  exact post W2 _ _ _ (l1.trans l2) r2 v2
 ·rw[if_neg hl]at hf
  cases hf
theorem J.list{es:List Expr}{pos:Pos}{g:Exs}(h:Js prog w Γ es g): J prog w Γ (.List es pos) (ZdR g):=by
 intro W ρ H fr s Q E v H' r hf post
 obtain⟨p,e1,hf⟩:=Zz0.mp hf
 by_cases hl:p.1.length≤LEN
 ·rw[if_pos hl]at hf
  cases hf
  refine wpAny_List (h pos W ρ H fr s _ E _ _ r e1 fun W1 k1 t1 xs l1 r1 x1=>⟨Zcx (by rw[x1.length];exact hl),?_⟩)
  obtain⟨W2,l2,r2,v2⟩:=r1.list (k:=0) x1 hl
  exact post W2 _ _ _ (l1.trans l2) r2 v2
 ·rw[if_neg hl]at hf
  cases hf
theorem Zb2{e:Expr}{pos:Pos}{t:Ts}(h:JT prog w Γ e t): JT prog w Γ (.UnaryOp .Not e pos) (Zli t):=by
 intro W ρ H fr s Q E b H' r hf post
 obtain⟨p,e1,e2⟩:=Zz1.mp hf
 cases e2
 exact isTrue_not (h W ρ H fr s _ E _ _ r e1 post)
def JA(prog:Program)(w:World)(Γ:Cx)(op:BoolOp)(es:List Expr)(f:Ts): Prop:=∀(W:Wd) (ρ:Lc) (H:Hp) (fr:List (Addr×Obj)) (s:Shared) (Q:Bool→Shared→Prop) (E:Value→Shared→Prop) (b:Bool) (H':Hp),
 Rep Γ W ρ H fr s.heap→f ρ H=some (b,H')→Zh9 Γ W ρ H' fr s Q b→wpAny (model prog w) Γ.A (allTrue op es Γ.env) Q E s
theorem ZbG: JA prog w Γ .And [] Zby:=fun W ρ H fr s Q E b H' r hf post=>by
 cases hf
 exact wpAny_allTrue_And_nil (post W s.heap s.toks (.refl W) r)
theorem Zcd: JA prog w Γ .Or [] Zgl:=fun W ρ H fr s Q E b H' r hf post=>by
 cases hf
 exact wpAny_allTrue_Or_nil (post W s.heap s.toks (.refl W) r)
theorem Zaj{e:Expr}{es:List Expr}{t u:Ts}(h1:JT prog w Γ e t)(h2:JA prog w Γ .And es u): JA prog w Γ .And (e::es) (ZcV t u):=by
 intro W ρ H fr s Q E b H' r hf post
 obtain⟨p,e1,hf⟩:=Zz0.mp hf
 refine wpAny_allTrue_And_cons (h1 W ρ H fr s _ E _ _ r e1 fun W1 k1 t1 l1 r1=>?_)
 obtain⟨c,H1⟩:=p
 cases c with
 | true=>exact h2 W1 ρ _ fr _ Q E b H' r1 hf fun W3 k3 t3 l3 r3=>post W3 k3 t3 (l1.trans l3) r3
 | false=>
  cases hf
  exact post W1 k1 t1 l1 r1
theorem ZaN{e:Expr}{es:List Expr}{t u:Ts}(h1:JT prog w Γ e t)(h2:JA prog w Γ .Or es u): JA prog w Γ .Or (e::es) (tOr t u):=by
 intro W ρ H fr s Q E b H' r hf post
 obtain⟨p,e1,hf⟩:=Zz0.mp hf
 refine wpAny_allTrue_Or_cons (h1 W ρ H fr s _ E _ _ r e1 fun W1 k1 t1 l1 r1=>?_)
 obtain⟨c,H1⟩:=p
 cases c with
 | false=>exact h2 W1 ρ _ fr _ Q E b H' r1 hf fun W3 k3 t3 l3 r3=>post W3 k3 t3 (l1.trans l3) r3
 | true=>
  cases hf
  exact post W1 k1 t1 l1 r1
theorem ZaF{op:BoolOp}{es:List Expr}{pos:Pos}{t:Ts}(h:JA prog w Γ op es t): JT prog w Γ (.BoolOp op es pos) t:=fun W ρ H fr s Q E b H' r hf post=>wpAny_isTrue_BoolOp (h W ρ H fr s Q E b H' r hf post)
theorem ZaU{e:Expr}{f:Ex}(h:J prog w Γ e f)(he:isTrue e Γ.env (eval e Γ.env)=(do let v ←eval e Γ.env;standAt e.pos;holding [v] (truthy v)):=by rfl): JT prog w Γ e (Zai f):=by
 intro W ρ H fr s Q E b H' r hf post
 obtain⟨p,e1,hf⟩:=Zz0.mp hf
 obtain⟨c,e2,e3⟩:=Zz1.mp hf
 cases e3
 refine isTrue_plain (h W ρ H fr s _ E _ _ r e1 fun W1 k1 t1 x l1 r1 x1=>?_) he
 exact truth Γ W1 ρ _ fr _ _ E _ x b r1 x1 e2 fun W2 k2 t2 l2 r2=>post W2 k2 t2 (l1.trans l2) r2
theorem Zz{e1 e2:Expr}{op:CmpOp}{pos:Pos}{f g:Ex}{o:V→V→Hp→Option (V×Hp)}(h1:J prog w Γ e1 f)(h2:J prog w Γ e2 g)(ho:Op2 prog w (compareOp op) o)(hm:behindInMarks op e2=false:=by with_unfolding_all rfl): JT prog w Γ (.Compare e1 [op] [e2] pos) (Zai (Zx o f g)):=by
 intro W ρ H fr s Q E b H' r hf post
 obtain⟨pp,e0,hf0⟩:=Zz0.mp hf
 obtain⟨c,e4,e5⟩:=Zz1.mp hf0
 cases e5
 obtain⟨p,e1,hf⟩:=Zz0.mp e0
 obtain⟨q,e2,e3⟩:=Zz0.mp hf
 refine wpAny_isTrue_Compare1 (h1 W ρ H fr s _ E _ _ r e1 fun W1 k1 t1 x l1 r1 x1=>?_) hm
 refine h2 W1 ρ _ fr _ _ E _ _ r1 e2 fun W2 k2 t2 y l2 r2 y2=>?_
 refine ho Γ W2 ρ _ fr _ _ E _ _ x y _ _ r2 (x1.mono l2) y2 e3 fun W3 k3 t3 z l3 r3 z3=>?_
 exact truth Γ W3 ρ _ fr _ _ E _ z b r3 z3 e4 fun W4 k4 t4 l4 r4=>post W4 k4 t4 (((l1.trans l2).trans l3).trans l4) r4
theorem ZvU{t e1 e2:Expr}{pos:Pos}{u f g:Ts}(ht:JT prog w Γ t u)(h1:JT prog w Γ e1 f)(h2:JT prog w Γ e2 g): JT prog w Γ (.IfExp t e1 e2 pos) (tIf u f g):=by
 intro W ρ H fr s Q E v H' r hf post
 obtain⟨p,e1,hf⟩:=Zz0.mp hf
 refine isTrue_IfExp (ht W ρ H fr s _ E _ _ r e1 fun W1 k1 t1 l1 r1=>?_)
 obtain⟨b,H1⟩:=p
 cases b with
 | true=>exact h1 W1 ρ _ fr _ Q E v H' r1 hf fun W3 k3 t3 l3 r3=>post W3 k3 t3 (l1.trans l3) r3
 | false=>exact h2 W1 ρ _ fr _ Q E v H' r1 hf fun W3 k3 t3 l3 r3=>post W3 k3 t3 (l1.trans l3) r3
end
end PM
end
section
namespace PM
open PySem PyProof.Rows PyProof
noncomputable def mulOk(a b:Int): Bool:=!(decide (Builtin.Int.intBits a>shortFactorBits) && decide (Builtin.Int.intBits b>shortFactorBits) && Builtin.Int.intTooBig (Builtin.Int.intBits a+Builtin.Int.intBits b))
theorem ZsD{a b:Int}(h:mulOk a b=true): IntMulOk a b:=by
 unfold mulOk at h
 unfold IntMulOk
 intro c
 rw[c]at h
 cases h
noncomputable def Zd1: V→V→Hp→Option (V×Hp)
 | .int a,.int b,H=>some (.int (a-b),H)
 | _,_,_=>none
noncomputable def oDiv: V→V→Hp→Option (V×Hp)
 | .int a,.int b,H=>if b≠0∧Builtin.divisionGoesByPylong a b=false then some (.int (a.fdiv b),H)else none
 | _,_,_=>none
noncomputable def oMod: V→V→Hp→Option (V×Hp)
 | .int a,.int b,H=>if b≠0 then some (.int (a.fmod b),H)else none
 | _,_,_=>none
noncomputable def oPow: V→V→Hp→Option (V×Hp)
 | .int a,.int b,H=>if 0≤b∧(Builtin.Int.intBits a:Int)*b≤2 ^ 27 then some (.int (a ^ b.toNat),H)else none
 | _,_,_=>none
noncomputable def ZgD: V→Hp→Option (V×Hp)
 | .int a,H=>some (.int (-a),H)
 | _,_=>none
noncomputable def Zif(p:Int→Int→Bool): V→V→Hp→Option (V×Hp)
 | .int a,.int b,H=>some (.bool (p a b),H)
 | _,_,_=>none
noncomputable def oLt:=Zif fun a b=>decide (a<b)
noncomputable def oLe:=Zif fun a b=>decide (a≤b)
noncomputable def oGt:=Zif fun a b=>decide (b<a)
section
variable {prog:Program} {w:World}
theorem Za2: Op2 prog w (binaryOp .Sub) Zd1:=by
 intro Γ W ρ H fr s Q E a b x y v H' r hx hy ho post
 cases hx <;> first | (cases ho;done) | skip
 cases hy <;> first | (cases ho;done) | skip
 cases ho
 exact PySem.P.sub_int (post W s.heap _ _ (.refl W) r (.int _ _))
theorem ZaV: Op2 prog w (binaryOp .Mod) oMod:=by
 intro Γ W ρ H fr s Q E a b x y v H' r hx hy ho post
 cases hx <;> first | (cases ho;done) | skip
 cases hy <;> first | (cases ho;done) | skip
 rename_i i t j u
 simp only[oMod]at ho
 by_cases hb:j≠0
 ·rw[if_pos hb]at ho
  cases ho
  exact mod_int' hb (post W s.heap _ _ (.refl W) r (.int _ _))
 ·rw[if_neg hb]at ho
  cases ho
theorem Zcp: Op2 prog w (binaryOp .FloorDiv) oDiv:=by
 intro Γ W ρ H fr s Q E a b x y v H' r hx hy ho post
 cases hx <;> first | (cases ho;done) | skip
 cases hy <;> first | (cases ho;done) | skip
 rename_i i t j u
 simp only[oDiv]at ho
 by_cases hb:j≠0∧Builtin.divisionGoesByPylong i j=false
 ·rw[if_pos hb]at ho
  cases ho
  exact floordiv_int hb.1 (post W s.heap _ _ (.refl W) r (.int _ _)) (.inl hb.2)
 ·rw[if_neg hb]at ho
  cases ho
theorem ZkI: Op2 prog w (binaryOp .Pow) oPow:=by
 intro Γ W ρ H fr s Q E a b x y v H' r hx hy ho post
 cases hx <;> first | (cases ho;done) | skip
 cases hy <;> first | (cases ho;done) | skip
 rename_i i t j u
 simp only[oPow]at ho
 by_cases hb:0≤j∧(Builtin.Int.intBits i:Int)*j≤2 ^ 27
 ·rw[if_pos hb]at ho
  cases ho
  exact pow_int hb.1 hb.2 (post W s.heap _ _ (.refl W) r (.int _ _))
 ·rw[if_neg hb]at ho
  cases ho
theorem Zbk: Op1 prog w (unaryOp .USub) ZgD:=by
 intro Γ W ρ H fr s Q E a x v H' r hx ho post
 cases hx <;> first | (cases ho;done) | skip
 cases ho
 exact PySem.P.neg_int (post W s.heap _ _ (.refl W) r (.int _ _))
theorem ZbO: Op2 prog w (compareOp .Lt) oLt:=by
 intro Γ W ρ H fr s Q E a b x y v H' r hx hy ho post
 cases hx <;> first | (cases ho;done) | skip
 cases hy <;> first | (cases ho;done) | skip
 cases ho
 exact PySem.P.lt_int (post W s.heap s.toks _ (.refl W) r (.bool _))
theorem Zk1: Op2 prog w (compareOp .LtE) oLe:=by
 intro Γ W ρ H fr s Q E a b x y v H' r hx hy ho post
 cases hx <;> first | (cases ho;done) | skip
 cases hy <;> first | (cases ho;done) | skip
 cases ho
 exact PySem.P.le_int (post W s.heap s.toks _ (.refl W) r (.bool _))
theorem ZcG: Op2 prog w (compareOp .Gt) oGt:=by
 intro Γ W ρ H fr s Q E a b x y v H' r hx hy ho post
 cases hx <;> first | (cases ho;done) | skip
 cases hy <;> first | (cases ho;done) | skip
 cases ho
 exact PySem.P.gt_int (post W s.heap s.toks _ (.refl W) r (.bool _))
end
end PM
end
section
namespace PM
open PySem PyProof.Rows PyProof
noncomputable def ZeO(f:V→Option PyData): List V→Option (List PyData)
 | []=>some []
 | v::vs=>(f v).bind fun d=>(ZeO f vs).bind fun ds=>some (d::ds)
noncomputable def toD(H:Hp): Nat→V→Option PyData
 | _,.none=>some .none
 | _,.bool b=>some (.bool b)
 | _,.int i=>some (.int i)
 | _,.str x=>some (.str x)
 | n+1,.tup vs=>(ZeO (toD H n) vs).map .tuple
 | n+1,.ref a=>H[a]?.bind fun vs=>(ZeO (toD H n) vs).map .list
 | 0,.tup _=>none
 | 0,.ref _=>none
theorem Zjn{W:Wd}{h:Heap}{f:V→Option PyData}(ih:∀v x d,VR W v x→f v=some d→∃as,Reads h x d as): ∀{vs:List V} {xs:List Value} {ds:List PyData},VRs W vs xs→ZeO f vs=some ds→∃as,ReadsAll h xs ds as
 | _,_,_,.nil,e=>by
  cases e
  exact⟨_,.nil⟩
 | _,_,_,.cons a r,e=>by
  obtain⟨d,e1,e⟩:=Zz0.mp e
  obtain⟨ds,e2,e3⟩:=Zz0.mp e
  cases e3
  obtain⟨as,h1⟩:=ih _ _ _ a e1
  obtain⟨bs,h2⟩:=Zjn ih r e2
  exact⟨_,.cons h1 h2⟩
theorem Zei{Γ:Cx}{W:Wd}{ρ:Lc}{H:Hp}{fr:List (Addr×Obj)}{h:Heap}(r:Rep Γ W ρ H fr h): ∀(n:Nat) (v:V) (x:Value) (d:PyData),VR W v x→toD H n v=some d→∃as,Reads h x d as:=by
 intro n
 induction n with
 | zero=>
  intro v x d hv e
  cases hv with
  | none=>cases e;exact⟨_,.none⟩
  | bool b=>cases e;exact⟨_,.bool b⟩
  | int i t=>cases e;exact⟨_,.int i t⟩
  | str y t=>cases e;exact⟨_,.str y t⟩
  | tup _ _ _=>cases e
  | ref _=>cases e
 | succ n ih=>
  intro v x d hv e
  cases hv with
  | none=>cases e;exact⟨_,.none⟩
  | bool b=>cases e;exact⟨_,.bool b⟩
  | int i t=>cases e;exact⟨_,.int i t⟩
  | str y t=>cases e;exact⟨_,.str y t⟩
  | @tup vs a xs k hm hl hs=>
   obtain⟨ds,e1,e2⟩:=Zz1.mp e
   subst e2
   obtain⟨as,h1⟩:=Zjn ih hs e1
   exact⟨_,.tuple (r.tupAt hm) rfl rfl (by simpa using h1)⟩
  | @ref i a ea=>
   obtain⟨vs,e0,e⟩:=Zz0.mp e
   obtain⟨ds,e1,e2⟩:=Zz1.mp e
   subst e2
   obtain⟨hl,xs,k,hg,hs⟩:=r.at e0 ea
   obtain⟨as,h1⟩:=Zjn ih hs e1
   exact⟨_,.list hg rfl rfl (by simpa using h1)⟩
noncomputable def ZbA: Nat:=8
noncomputable def Zig(a b:V)(H:Hp): Option Bool:=(toD H ZbA a).bind fun d=>(toD H ZbA b).bind fun e=>if SeqAt.shaped d=true∧SeqAt.shaped e=true then some (PyData.eqv d e)else none
noncomputable def oEq(a b:V)(H:Hp): Option (V×Hp):=(Zig a b H).map fun c=>(.bool c,H)
noncomputable def oNe(a b:V)(H:Hp): Option (V×Hp):=(Zig a b H).map fun c=>(.bool (!c),H)
noncomputable def oIs: V→V→Hp→Option (V×Hp)
 | .none,.none,H=>some (.bool true,H)
 | .bool _,.none,H=>some (.bool false,H)
 | .int _,.none,H=>some (.bool false,H)
 | .str _,.none,H=>some (.bool false,H)
 | .tup _,.none,H=>some (.bool false,H)
 | .ref _,.none,H=>some (.bool false,H)
 | _,_,_=>none
noncomputable def ZhS(a b:V)(H:Hp): Option (V×Hp):=(oIs a b H).bind fun p=>match p.1 with | .bool c=>some (.bool (!c),p.2) | _=>none
section
variable {prog:Program} {w:World}
theorem Zal: Op2 prog w (compareOp .Eq) oEq:=by
 intro Γ W ρ H fr s Q E a b x y v H' r hx hy ho post
 obtain⟨c,e1,e2⟩:=Zz1.mp ho
 cases e2
 obtain⟨d,h1,e1⟩:=Zz0.mp e1
 obtain⟨e,h2,e1⟩:=Zz0.mp e1
 by_cases hs:SeqAt.shaped d=true∧SeqAt.shaped e=true
 ·rw[if_pos hs]at e1
  cases e1
  obtain⟨as,R1⟩:=Zei r ZbA a x d hx h1
  obtain⟨bs,R2⟩:=Zei r ZbA b y e hy h2
  exact eq_dataH R1 R2 hs.1 hs.2 (by have:=Γ.hu;omega) (post W s.heap s.toks _ (.refl W) r (.bool _))
 ·rw[if_neg hs]at e1
  cases e1
theorem Za8: Op2 prog w (compareOp .NotEq) oNe:=by
 intro Γ W ρ H fr s Q E a b x y v H' r hx hy ho post
 obtain⟨c,e1,e2⟩:=Zz1.mp ho
 cases e2
 obtain⟨d,h1,e1⟩:=Zz0.mp e1
 obtain⟨e,h2,e1⟩:=Zz0.mp e1
 by_cases hs:SeqAt.shaped d=true∧SeqAt.shaped e=true
 ·rw[if_pos hs]at e1
  cases e1
  obtain⟨as,R1⟩:=Zei r ZbA a x d hx h1
  obtain⟨bs,R2⟩:=Zei r ZbA b y e hy h2
  exact ne_dataH R1 R2 hs.1 hs.2 (by have:=Γ.hu;omega) (post W s.heap s.toks _ (.refl W) r (.bool _))
 ·rw[if_neg hs]at e1
  cases e1
theorem ZaR: Op2 prog w (compareOp .Is) oIs:=by
 intro Γ W ρ H fr s Q E a b x y v H' r hx hy ho post
 cases hy <;> first | (cases hx <;> cases ho;done) | skip
 refine PySem.is_none ?_
 cases hx <;> (cases ho;exact post W s.heap s.toks _ (.refl W) r (.bool _))
theorem Zbt: Op2 prog w (compareOp .IsNot) ZhS:=by
 intro Γ W ρ H fr s Q E a b x y v H' r hx hy ho post
 cases hy <;> first | (cases hx <;> cases ho;done) | skip
 refine PySem.isNot_none ?_
 cases hx <;> (cases ho;exact post W s.heap s.toks _ (.refl W) r (.bool _))
end
end PM
end
section
namespace PM
open PySem PyProof.Rows PyProof
noncomputable def ZY: V→V→Hp→Option (V×Hp)
 | .ref a,.int k,H=>H[a]?.bind fun vs=>(seqIndex? k vs.length).bind fun j=>vs[j]?.map fun v=>(v,H)
 | .tup vs,.int k,H=>(seqIndex? k vs.length).bind fun j=>vs[j]?.map fun v=>(v,H)
 | _,_,_=>none
theorem Zme{k:Int}{n j:Nat}(h:seqIndex? k n=some j): j<n∧(k:Int)<n∧-(n:Int)≤k∧(0≤k→k.toNat=j)∧(k<0→(k+n).toNat=j):=by
 unfold seqIndex? at h
 by_cases c:k<0
 ·simp only[c,if_true]at h
  split at h
  ·rename_i d
   simp at d h
   omega
  ·cases h
 ·simp only[c,if_false]at h
  split at h
  ·rename_i d
   simp at d h
   omega
  ·cases h
section
variable {prog:Program} {w:World} {Γ:Cx}
theorem Zg{e1 e2:Expr}{pos:Pos}{f g:Ex}(h1:J prog w Γ e1 f)(h2:J prog w Γ e2 g)(hs:∀a k u,subscripted e2 false (.ref a) (.int k u)=operate [.ref a,.int k u] (getItem (.ref a) (.int k u)):=by intros;with_unfolding_all rfl): J prog w Γ (.Subscript e1 e2 pos) (Zx ZY f g):=by
 intro W ρ H fr s Q E v H' r hf post
 obtain⟨p,e1,hf⟩:=Zz0.mp hf
 obtain⟨q,e2,e3⟩:=Zz0.mp hf
 refine Subscript_ (h1 W ρ H fr s _ E _ _ r e1 fun W1 k1 t1 x l1 r1 x1=>?_)
 refine h2 W1 ρ _ fr _ _ E _ _ r1 e2 fun W2 k2 t2 y l2 r2 y2=>?_
 have x2:=x1.mono l2
 obtain⟨v1,H1⟩:=p
 obtain⟨v2,H2⟩:=q
 simp only at e3 r2 x2 y2
 cases y2 <;> first | (cases x2 <;> cases e3;done) | skip
 rename_i k u
 cases x2 <;> first | (cases e3;done) | skip
 ·rename_i vs a xs kk hm hl hv
  obtain⟨j,hj,e4⟩:=Zz0.mp e3
  obtain⟨z,hz,e5⟩:=Zz1.mp e4
  cases e5
  obtain⟨z',hz',rz⟩:=hv.at hz
  have hx:xs.length=vs.length:=hv.length
  have hb:=Zme hj
  rw[ZaP]at hl
  have it:IsTup k2 a xs.toArray:=⟨_,r2.tupAt hm,rfl,kk,rfl⟩
  exact item_tupleT it (by omega) (by omega) (by rw[hx];exact hj) hz' (post W2 k2 t2 z' (l1.trans l2) r2 rz) (hs _ _ _)
 ·rename_i i a ea
  obtain⟨vs,hvs,e3⟩:=Zz0.mp e3
  obtain⟨j,hj,e4⟩:=Zz0.mp e3
  obtain⟨z,hz,e5⟩:=Zz1.mp e4
  cases e5
  obtain⟨hl,xs,kk,hg,hv⟩:=r2.at hvs ea
  obtain⟨z',hz',rz⟩:=hv.at hz
  have hx:xs.length=vs.length:=hv.length
  have hb:=Zme hj
  rw[ZaP]at hl
  have isl:k2.IsList a xs.toArray:=⟨_,hg,rfl,kk,rfl⟩
  refine tail_any (s:={ s with heap:=k2,toks:=t2 }) isl.typeIs slot_list_getitem.lookup ?_ (hs _ _ _)
  by_cases hk:0≤k
  ·exact wpAny_getItem_list isl hk (by omega) (by rw[hb.2.2.2.1 hk];simpa using hz') (post W2 k2 t2 z' (l1.trans l2) r2 rz)
  ·refine wpAny_getItem_list_neg isl (by omega) (by simp;omega) (by omega) ?_ (post W2 k2 t2 z' (l1.trans l2) r2 rz)
   have:=hb.2.2.2.2 (by omega)
   rw[←hx]at this
   simpa [this]using hz'
end
noncomputable def Zcs{α:Type}(vs:List α)(lo hi:Option Int): List α:=(sliceRange (sliceBounds lo hi none vs.length).1 (sliceBounds lo hi none vs.length).2.1 (sliceBounds lo hi none vs.length).2.2).filterMap fun i=>vs[i]?
theorem VRs.pick{W:Wd}{vs:List V}{xs:List Value}(h:VRs W vs xs)(l:List Nat): VRs W (l.filterMap fun i=>vs[i]?) (l.filterMap fun i=>xs[i]?):=by
 induction l with
 | nil=>exact .nil
 | cons i l ih=>
  simp only[List.filterMap_cons]
  have hl:=h.length
  cases e:vs[i]? with
  | none=>
   have:xs[i]?=none:=by rw[List.getElem?_eq_none_iff]at e ⊢;omega
   rw[this]
   exact ih
  | some v=>
   obtain⟨x,hx,hr⟩:=h.at e
   rw[hx]
   exact .cons hr ih
theorem ZsE{α:Type}(vs:List α)(lo hi:Option Int): (Zcs vs lo hi).length≤vs.length:=by
 unfold Zcs
 refine Nat.le_trans (List.length_filterMap_le _ _) ?_
 refine sliceRange_length_le _ _ _ _ (fun _=>?_) fun c=>?_
 ·unfold sliceBounds
  cases lo <;> cases hi <;> simp <;> omega
 ·exact absurd (by unfold sliceBounds;simp) c
theorem ZsF{α:Type}(vs:List α)(a:Nat): ∀m:Nat,a+m≤vs.length→((List.range m).map fun k=>a+k).filterMap (fun i=>vs[i]?)=(vs.drop a).take m:=by
 intro m
 induction m with
 | zero=>intro _;simp
 | succ m ih=>
  intro h
  rw[List.range_succ,List.map_append,List.filterMap_append,ih (by omega),List.take_add_one]
  congr 1
  simp only[List.map_cons,List.map_nil,List.filterMap_cons,List.filterMap_nil,List.getElem?_drop]
  cases e:vs[a+m]? with
  | none=>rw[List.getElem?_eq_none_iff]at e;omega
  | some v=>rfl
theorem Zod{α:Type}(vs:List α)(lo hi:Option Int){a b:Nat}(ha:(sliceBounds lo hi none vs.length).1=(a:Int))(hb:(sliceBounds lo hi none vs.length).2.1=(b:Int))(h:b≤vs.length): Zcs vs lo hi=(vs.drop a).take (b-a):=by
 have hc:(sliceBounds lo hi none vs.length).2.2=1:=by unfold sliceBounds;rfl
 unfold Zcs
 rw[ha,hb,hc]
 have e:sliceRange (a:Int) (b:Int) 1=(List.range (b-a)).map fun k=>a+k:=by
  unfold sliceRange
  simp only[show(1:Int)>0 from by decide,if_true]
  by_cases c:(a:Int)<b
  ·rw[if_pos c]
   have:((b:Int)-a+1-1) / 1=((b-a:Nat):Int):=by omega
   rw[this]
   simp only[Int.toNat_natCast]
   refine List.map_congr_left fun k _=>?_
   omega
  ·rw[if_neg c]
   have:b-a=0:=by omega
   rw[this]
   rfl
 rw[e]
 by_cases c:a≤b
 ·exact ZsF vs a (b-a) (by omega)
 ·have:b-a=0:=by omega
  rw[this]
  simp
theorem ZrS{α:Type}(vs:List α){k:Int}{a:Nat}(e:k=(a:Int)): Zcs vs (some k) none=vs.drop a:=by
 by_cases h:a≤vs.length
 ·rw[Zod vs (some k) none (a:=a) (b:=vs.length) (by unfold sliceBounds;simp;omega) (by unfold sliceBounds;simp) (Zz10 _)]
  rw[List.take_of_length_le (by simp)]
 ·rw[Zod vs (some k) none (a:=vs.length) (b:=vs.length) (by unfold sliceBounds;simp;omega) (by unfold sliceBounds;simp) (Zz10 _)]
  simp
  omega
noncomputable def Zgt: Option V→Option (Option Int)
 | none=>some none
 | some (.int k)=>some (some k)
 | _=>none
noncomputable abbrev Pt:=Lc→Hp→Option (Option V×Hp)
noncomputable def Zgu: Pt:=fun _ H=>some (none,H)
noncomputable def Zk2(f:Ex): Pt:=fun ρ H=>(f ρ H).map fun p=>(some p.1,p.2)
noncomputable def ZkJ(f:Ex)(lo hi:Pt): Ex:=fun ρ H=>(f ρ H).bind fun p=>(lo ρ p.2).bind fun q=>(hi ρ q.2).bind fun u=>(Zgt q.1).bind fun a=>(Zgt u.1).bind fun b=>match p.1 with
 | .ref i=>u.2[i]?.bind fun vs=>some (.ref u.2.length,u.2++[Zcs vs a b])
 | _=>none
inductive VP(W:Wd): Option V→Value→Prop where
 | none:VP W none .none
 | some {v:V} {x:Value}:VR W v x→VP W (some v) x
theorem VP.mono{W W':Wd}{v:Option V}{x:Value}(l:W.Le W')(h:VP W v x): VP W' v x:=by
 cases h with
 | none=>exact .none
 | some h=>exact .some (h.mono l)
theorem VP.part{W:Wd}{v:Option V}{x:Value}{k:Option Int}(h:VP W v x)(e:Zgt v=Option.some k): IsPart x k:=by
 cases h with
 | none=>cases e;exact .none
 | some h=>cases h <;> cases e;exact .int _ _
def JP(prog:Program)(w:World)(Γ:Cx)(e:Option Expr)(f:Pt): Prop:=∀(W:Wd) (ρ:Lc) (H:Hp) (fr:List (Addr×Obj)) (s:Shared) (Q E:Value→Shared→Prop) (v:Option V) (H':Hp),
 Rep Γ W ρ H fr s.heap→f ρ H=some (v,H')→(∀(W':Wd) (h':Heap) (tk':Nat) (x:Value),W.Le W'→Rep Γ W' ρ H' fr h'→VP W' v x→Q x { s with heap:=h',toks:=tk' })→wpAny (model prog w) Γ.A (evalPart e Γ.env) Q E s
section
variable {prog:Program} {w:World} {Γ:Cx}
theorem JP.none: JP prog w Γ none Zgu:=fun W ρ H fr s Q E v H' r hf post=>by
 cases hf
 exact wpAny_evalPart_none (post W s.heap s.toks _ (.refl W) r .none)
theorem JP.some{e:Expr}{f:Ex}(h:J prog w Γ e f): JP prog w Γ (some e) (Zk2 f):=fun W ρ H fr s Q E v H' r hf post=>by
 obtain⟨p,e1,e2⟩:=Zz1.mp hf
 cases e2
 exact wpAny_evalPart_some (h W ρ H fr s _ E _ _ r e1 fun W1 k1 t1 x l1 r1 x1=>post W1 k1 t1 x l1 r1 (.some x1))
theorem Ztq{e:Expr}{lo hi:Option Expr}{p pos:Pos}{f:Ex}{a b:Pt}(h:J prog w Γ e f)(hlo:JP prog w Γ lo a)(hhi:JP prog w Γ hi b)(ht:∀o r,letTemporaryGo e o r=pure ():=by intro _ _;rfl): J prog w Γ (.Subscript e (.Slice lo hi Option.none p) pos) (ZkJ f a b):=by
 intro W ρ H fr s Q E v H' r hf post
 obtain⟨p,e1,hf⟩:=Zz0.mp hf
 obtain⟨q,e2,hf⟩:=Zz0.mp hf
 obtain⟨u,e3,hf⟩:=Zz0.mp hf
 obtain⟨ka,e4,hf⟩:=Zz0.mp hf
 obtain⟨kb,e5,hf⟩:=Zz0.mp hf
 refine wpAny_Subscript_list_slice (h W ρ H fr s _ E _ _ r e1 fun W1 k1 t1 x l1 r1 x1=>?_) ht
 refine hlo W1 ρ _ fr _ _ E _ _ r1 e2 fun W2 k2 t2 y l2 r2 y2=>?_
 refine hhi W2 ρ _ fr _ _ E _ _ r2 e3 fun W3 k3 t3 z l3 r3 z3=>?_
 have x3:=x1.mono (l2.trans l3)
 obtain⟨v1,H1⟩:=p
 simp only at hf x3
 cases x3 with
 | none=>cases hf
 | bool _=>cases hf
 | int _ _=>cases hf
 | str _ _=>cases hf
 | tup _ _ _=>cases hf
 | @ref i a ea=>
  obtain⟨vs,hvs,e6⟩:=Zz0.mp hf
  cases e6
  obtain⟨hl,xs,kk,hg,hv⟩:=r3.at hvs ea
  have isl:k3.IsList a xs.toArray:=⟨_,hg,rfl,kk,rfl⟩
  refine⟨a,xs.toArray,ka,kb,rfl,isl,Zcx (by simp[hv.length];exact hl),(y2.mono l3).part e4,z3.part e5,?_⟩
  have hp:VRs W3 (Zcs vs ka kb) (Zcs xs ka kb):=by
   unfold Zcs
   rw[hv.length]
   exact hv.pick _
  have hx:slicePick xs.toArray ka kb Option.none=(Zcs xs ka kb).toArray:=by
   unfold slicePick Zcs
   simp
  obtain⟨W4,l4,r4,v4⟩:=(r3.push { cls:=.type "slice",data:=.fields #[y,z,.none] }).list (k:=0) hp (Nat.le_trans (ZsE vs ka kb) hl)
  rw[hx]
  have:=post W4 _ t3 _ (((l1.trans l2).trans l3).trans l4) r4 v4
  rw[Heap.size_push]at this
  exact this
end
end PM
end
section
namespace PM
open PySem PyProof.Rows PyProof
def Nm(prog:Program)(w:World)(Γ:Cx)(x:Str)(v:Value): Prop:=∀(pos:Pos) (m:Str→Option Value) (s:Shared) (Q E:Value→Shared→Prop),Fr Γ.h₀ Γ.L s.heap m→Q v s→wpAny (model prog w) Γ.A (eval (.Name x pos) Γ.env) Q E s
theorem Nm.use{prog:Program}{w:World}{Γ:Cx}{x:Str}{y:Value}(h:Nm prog w Γ x y){pos:Pos}{W:Wd}{ρ:Lc}{H:Hp}{fr:List (Addr×Obj)}{s:Shared}{Q E:Value→Shared→Prop}(r:Rep Γ W ρ H fr s.heap)(q:Q y s): wpAny (model prog w) Γ.A (eval (.Name x pos) Γ.env) Q E s:=by
 obtain⟨m,c,led,r⟩:=r
 exact h pos m s Q E r.F q
def OpN(prog:Program)(w:World)(m:List Value→Sem Value)(o:List V→Hp→Option (V×Hp)): Prop:=∀(Γ:Cx) (W:Wd) (ρ:Lc) (H:Hp) (fr:List (Addr×Obj)) (s:Shared) (Q E:Value→Shared→Prop) (as:List V) (xs:List Value) (v:V) (H':Hp),
 Rep Γ W ρ H fr s.heap→VRs W as xs→o as H=some (v,H')→ZgB Γ W ρ H' fr s Q v→wpAny (model prog w) Γ.A (m xs) Q E s
noncomputable def Z2(o:List V→Hp→Option (V×Hp))(g:Exs): Ex:=fun ρ H=>(g ρ H).bind fun p=>o p.1 p.2
section
variable {prog:Program} {w:World} {Γ:Cx}
theorem Zac{x:Str}{np pos:Pos}{id:String}{e:Expr}{es:List Expr}{g:Exs}{o:List V→Hp→Option (V×Hp)}(hn:Nm prog w Γ x (.builtin id))(h:Js prog w Γ (e::es) g)(ho:OpN prog w (fun xs=>call (.builtin id) xs) o)
  (he:starEach (e::es) Γ.env=(false,eval e Γ.env)::starEach es Γ.env:=by rfl) (hp:∀pos,(backTo pos (starEach es Γ.env)).any (·.1)=false:=by intro _;rfl):J prog w Γ (.Call (.Name x np) (e::es) [] pos) (Z2 o g):=by
 intro W ρ H fr s Q E v H' r hf post
 obtain⟨p,e1,hf⟩:=Zz0.mp hf
 refine wpAny_Call_ofName (hn.use r ?_)
 refine callWith_builtin1 (h pos W ρ H fr s _ E _ _ r e1 fun W1 k1 t1 xs l1 r1 x1=>?_) he (hp pos)
 exact ho Γ W1 ρ _ fr _ Q E _ xs v H' r1 x1 hf fun W2 k2 t2 y l2 r2 y2=>post W2 k2 t2 y (l1.trans l2) r2 y2
theorem Zco{x:Str}{np pos:Pos}{T:String}{e:Expr}{es:List Expr}{g:Exs}{o:List V→Hp→Option (V×Hp)}(hn:Nm prog w Γ x (.type T))(h:Js prog w Γ (e::es) g)(ho:OpN prog w (fun xs=>call (.type T) xs) o)
  (he:starEach (e::es) Γ.env=(false,eval e Γ.env)::starEach es Γ.env:=by rfl) (hp:∀pos,(backTo pos (starEach es Γ.env)).any (·.1)=false:=by intro _;rfl):J prog w Γ (.Call (.Name x np) (e::es) [] pos) (Z2 o g):=by
 intro W ρ H fr s Q E v H' r hf post
 obtain⟨p,e1,hf⟩:=Zz0.mp hf
 refine wpAny_Call_ofName (hn.use r ?_)
 refine PySem.Pv.callWith_type1 (h pos W ρ H fr s _ E _ _ r e1 fun W1 k1 t1 xs l1 r1 x1=>?_) he (hp pos)
 exact ho Γ W1 ρ _ fr _ Q E _ xs v H' r1 x1 hf fun W2 k2 t2 y l2 r2 y2=>post W2 k2 t2 y (l1.trans l2) r2 y2
end
noncomputable def Zko: V→String
 | .none=>"NoneType"
 | .bool _=>"bool"
 | .int _=>"int"
 | .str _=>"str"
 | .tup _=>"tuple"
 | .ref _=>"list"
noncomputable def ZkK(T:String)(v:V): Bool:=Zko v == T || (T == "int" && Zko v == "bool")
noncomputable def eIs(T:String)(f:Ex): Ex:=fun ρ H=>(f ρ H).map fun p=>(.bool (ZkK T p.1),p.2)
section
variable {prog:Program} {w:World} {Γ:Cx}
theorem isinst{T:String}(hT:T="int"∨T="bool"∨T="list"∨T="tuple"){W:Wd}{ρ:Lc}{H:Hp}{fr:List (Addr×Obj)}{s:Shared}{Q E:Value→Shared→Prop}{a:V}{x:Value}(r:Rep Γ W ρ H fr s.heap)(hx:VR W a x)(hin:∀i,a=.ref i→i<H.length)
  (post:∀tk,Q (.bool (ZkK T a)) { s with toks:=tk }):wpAny (model prog w) Γ.A (call (.builtin "isinstance") [x,.type T]) Q E s:=by
 cases hx with
 | none=>
      rcases hT with e | e | e | e <;> subst e
      ·exact call_isinstance (isinstance_false_none (by decide +kernel) F.isi_meta_int (by rw[isSubtype_type];kernel_rfl)) (post _)
      ·exact call_isinstance (isinstance_false_none (by decide +kernel) F.isi_meta_bool (by rw[isSubtype_type];kernel_rfl)) (post _)
      ·exact call_isinstance (isinstance_false_none (by decide +kernel) F.isi_meta_list (by rw[isSubtype_type];kernel_rfl)) (post _)
      ·exact call_isinstance (isinstance_false_none (by decide +kernel) F.isi_meta_tuple (by rw[isSubtype_type];kernel_rfl)) (post _)
 | bool b=>
       rcases hT with e | e | e | e <;> subst e
       ·exact IsiPair.bool_int (post s.toks)
       ·exact IsiPair.bool_bool (post s.toks)
       ·exact IsiPair.bool_list (post _)
       ·exact IsiPair.bool_tuple (post _)
 | int i t=>
       rcases hT with e | e | e | e <;> subst e
       ·exact IsiPair.int_int (post s.toks)
       ·exact IsiPair.int_bool (post _)
       ·exact IsiPair.int_list (post _)
       ·exact IsiPair.int_tuple (post _)
 | str y t=>
       rcases hT with e | e | e | e <;> subst e
       ·exact IsiPair.str_int (post _)
       ·exact IsiPair.str_bool (post _)
       ·exact IsiPair.str_list (post _)
       ·exact IsiPair.str_tuple (post _)
 | tup hm hl hs=>
  have hg:=r.tupAt hm
  rcases hT with e | e | e | e <;> subst e
  ·exact IsiPair.tuple_int hg rfl (post _)
  ·exact IsiPair.tuple_bool hg rfl (post _)
  ·exact IsiPair.tuple_list hg rfl (post _)
  ·exact IsiPair.tuple_tuple hg rfl (post s.toks)
 | @ref i a ea=>
  obtain⟨hl,xs,k,hg,hv⟩:=r.at (List.getElem?_eq_getElem (hin i rfl)) ea
  rcases hT with e | e | e | e <;> subst e
  ·exact IsiPair.list_int hg rfl (post _)
  ·exact IsiPair.list_bool hg rfl (post _)
  ·exact IsiPair.list_list hg rfl (post s.toks)
  ·exact IsiPair.list_tuple hg rfl (post _)
end
theorem Rep.refIn{Γ:Cx}{W:Wd}{ρ:Lc}{H:Hp}{fr:List (Addr×Obj)}{h:Heap}{i:Nat}{x:Value}(r:Rep Γ W ρ H fr h)(hx:VR W (.ref i) x): i<H.length:=by
 obtain⟨m,c,led,r⟩:=r
 cases hx with
 | ref e=>rw[←r.R.len];exact(Zz6.mp e).1
section
variable {prog:Program} {w:World} {Γ:Cx}
theorem Zc2{np tp pos:Pos}{x y:Str}{T:String}{e:Expr}{f:Ex}(hn:Nm prog w Γ x (.builtin "isinstance"))(hy:Nm prog w Γ y (.type T))(hT:T="int"∨T="bool"∨T="list"∨T="tuple")(h:J prog w Γ e f)
  (he:starEach [e,.Name y tp] Γ.env=(false,eval e Γ.env)::starEach [.Name y tp] Γ.env:=by rfl) (hp:∀pos,(backTo pos (starEach [.Name y tp] Γ.env)).any (·.1)=false:=by intro _;rfl):J prog w Γ (.Call (.Name x np) [e,.Name y tp] [] pos) (eIs T f):=by
 intro W ρ H fr s Q E v H' r hf post
 obtain⟨p,e1,e2⟩:=Zz1.mp hf
 cases e2
 refine wpAny_Call_ofName (hn.use r ?_)
 refine callWith_builtin1 (wpAny_items_cons (h W ρ H fr s _ E _ _ r e1 fun W1 k1 t1 z l1 r1 z1=>?_) he) he (hp pos)
 refine wpAny_items_cons (hy.use (s:={ s with heap:=k1,toks:=t1 }) r1 ?_)
 refine wpAny_items_nil ?_
 exact PM.isinst hT r1 z1 (fun i e=>by rw[e]at z1;exact r1.refIn z1) fun tk=>post W1 k1 tk _ l1 r1 (.bool _)
end
noncomputable def Zca: List V→Hp→Option (V×Hp)
 | [.ref a],H=>H[a]?.map fun vs=>(.int vs.length,H)
 | [.tup vs],H=>some (.int vs.length,H)
 | _,_=>none
noncomputable def Zlk: List V→Hp→Option (V×Hp)
 | [.int a],H=>some (.int (if a<0 then -a else a),H)
 | _,_=>none
noncomputable def Zv0: List V→Hp→Option (V×Hp)
 | [.int a,.int b],H=>some (.int (if b>a then b else a),H)
 | _,_=>none
noncomputable def Zk3: List V→Hp→Option (V×Hp)
 | [.int a,.int b],H=>some (.int (if b<a then b else a),H)
 | _,_=>none
noncomputable def ZcQ: List V→Option (List Int)
 | []=>some []
 | .int k::vs=>(ZcQ vs).map fun ks=>k::ks
 | _::_=>none
noncomputable def Zih: List V→Hp→Option (V×Hp)
 | [.ref a],H=>H[a]?.bind fun vs=>(ZcQ vs).map fun ks=>(.int ks.sum,H)
 | _,_=>none
theorem VRs.one{W:Wd}{v:V}{xs:List Value}(h:VRs W [v] xs): ∃x,xs=[x]∧VR W v x:=by
 cases h with
 | cons a b=>cases b;exact⟨_,rfl,a⟩
theorem VRs.two{W:Wd}{v u:V}{xs:List Value}(h:VRs W [v,u] xs): ∃x y,xs=[x,y]∧VR W v x∧VR W u y:=by
 cases h with
 | cons a b=>obtain⟨y,e,r⟩:=b.one;subst e;exact⟨_,_,rfl,a,r⟩
theorem ZqA{W:Wd}: ∀{vs:List V} {xs:List Value} {ks:List Int},VRs W vs xs→ZcQ vs=some ks→∃ts:Array (Int×Tok),xs.toArray=intItems ts∧preSum (numAt ts) ts.size=ks.sum:=by
 have key:∀{vs:List V} {xs:List Value} {ks:List Int},VRs W vs xs→ZcQ vs=some ks→∃ts:List (Int×Tok),xs=ts.map (fun p=>Value.int p.1 p.2)∧ts.map (·.1)=ks:=by
  intro vs
  induction vs with
  | nil=>intro xs ks h e;cases h;cases e;exact⟨[],rfl,rfl⟩
  | cons v vs ih=>
   intro xs ks h e
   cases h with
   | cons a b=>
    cases v with
    | int i=>
     obtain⟨js,e1,e2⟩:=Zz1.mp e
     subst e2
     cases a with
     | int _ t=>
      obtain⟨ts,h1,h2⟩:=ih b e1
      exact⟨(i,t)::ts,by rw[h1];rfl,by rw[List.map_cons,h2]⟩
    | none=>cases e
    | bool _=>cases e
    | str _=>cases e
    | tup _=>cases e
    | ref _=>cases e
 intro vs xs ks h e
 obtain⟨ts,h1,h2⟩:=key h e
 refine⟨ts.toArray,by rw[h1];simp[intItems],?_⟩
 rw[preSum_eq,List.take_of_length_le (by simp),←h2]
noncomputable def Za6: V→V→Hp→Option (V×Hp)
 | .int a,.int b,H=>some (.int (a+b),H)
 | .ref a,.ref b,H=>H[a]?.bind fun vs=>H[b]?.bind fun us=>if(vs++us).length≤LEN then some (.ref H.length,H++[vs++us])else none
 | .tup vs,.tup us,H=>if(vs++us).length≤LEN then some (.tup (vs++us),H)else none
 | _,_,_=>none
noncomputable def Zd2(vs:List V): Nat→List V
 | 0=>[]
 | n+1=>Zd2 vs n++vs
noncomputable def Zdv: V→V→Hp→Option (V×Hp)
 | .int a,.int b,H=>if mulOk a b=true then some (.int (a*b),H)else none
 | .ref a,.int k,H=>H[a]?.bind fun vs=>if vs.length*k.toNat≤LEN∧-(2 ^ 63:Int)≤k∧k<2 ^ 63 then some (.ref H.length,H++[Zd2 vs k.toNat])else none
 | _,_,_=>none
section
variable {prog:Program} {w:World}
theorem ZaA: OpN prog w (fun xs=>call (.builtin "len") xs) Zca:=by
 intro Γ W ρ H fr s Q E as xs v H' r hx ho post
 unfold Zca at ho
 split at ho
 ·rename_i a
  obtain⟨vs,e1,e2⟩:=Zz1.mp ho
  cases e2
  obtain⟨x,ex,rx⟩:=hx.one
  subst ex
  cases rx with
  | ref ea=>
   obtain⟨hl,ys,k,hg,hv⟩:=r.at e1 ea
   have isl:s.heap.IsList _ ys.toArray:=⟨_,hg,rfl,k,rfl⟩
   have e3:(ys.toArray.size:Int)=vs.length:=by simp[hv.length]
   rw[ZaP]at hl
   refine Calls.call_len_list isl (by rw[e3];omega) ?_
   rw[e3]
   exact post W s.heap _ _ (.refl W) r (.int _ _)
 ·rename_i vs
  cases ho
  obtain⟨x,ex,rx⟩:=hx.one
  subst ex
  cases rx with
  | @tup _ a ys k hm hl hs=>
   have it:IsTup s.heap a ys.toArray:=⟨_,r.tupAt hm,rfl,k,rfl⟩
   have e3:(ys.toArray.size:Int)=vs.length:=by simp[hs.length]
   rw[ZaP]at hl
   refine len_tuple it (by rw[e3];omega) ?_
   rw[e3]
   exact post W s.heap _ _ (.refl W) r (.int _ _)
 ·cases ho
theorem Zc7: OpN prog w (fun xs=>call (.builtin "abs") xs) Zlk:=by
 intro Γ W ρ H fr s Q E as xs v H' r hx ho post
 unfold Zlk at ho
 split at ho
 ·cases ho
  obtain⟨x,ex,rx⟩:=hx.one
  subst ex
  cases rx with
  | int i t=>exact call_abs_int fun u tk=>post W s.heap tk _ (.refl W) r (.int _ _)
 ·cases ho
theorem Ztr: OpN prog w (fun xs=>call (.builtin "min") xs) Zk3:=by
 intro Γ W ρ H fr s Q E as xs v H' r hx ho post
 unfold Zk3 at ho
 split at ho
 ·cases ho
  obtain⟨x,y,ex,rx,ry⟩:=hx.two
  subst ex
  cases rx with
  | int i t=>
   cases ry with
   | int j u=>
    refine min_two_ints Γ.hh fun h' tk up=>?_
    split
    ·rename_i c
     rw[if_pos c]at post
     exact post W h' tk _ (.refl W) (r.grown up) (.int _ _)
    ·rename_i c
     rw[if_neg c]at post
     exact post W h' tk _ (.refl W) (r.grown up) (.int _ _)
 ·cases ho
theorem Zux: OpN prog w (fun xs=>call (.builtin "sum") xs) Zih:=by
 intro Γ W ρ H fr s Q E as xs v H' r hx ho post
 unfold Zih at ho
 split at ho
 ·obtain⟨vs,e1,e2⟩:=Zz0.mp ho
  obtain⟨ks,e3,e4⟩:=Zz1.mp e2
  cases e4
  obtain⟨x,ex,rx⟩:=hx.one
  subst ex
  cases rx with
  | ref ea=>
   obtain⟨hl,ys,k,hg,hv⟩:=r.at e1 ea
   obtain⟨ts,h1,h2⟩:=ZqA hv e3
   have isl:s.heap.IsList _ (intItems ts):=⟨_,hg,rfl,k,by rw[←h1]⟩
   refine sum_intListG Γ.hh isl fun h' tk t' up=>?_
   rw[h2]
   exact post W h' tk _ (.refl W) (r.grown up) (.int _ _)
 ·cases ho
theorem Z4: Op2 prog w (binaryOp .Add) Za6:=by
 intro Γ W ρ H fr s Q E a b x y v H' r hx hy ho post
 unfold Za6 at ho
 split at ho
 ·cases ho
  cases hx;cases hy
  exact PySem.P.add_int (post W s.heap _ _ (.refl W) r (.int _ _))
 ·obtain⟨vs,e1,ho⟩:=Zz0.mp ho
  obtain⟨us,e2,ho⟩:=Zz0.mp ho
  by_cases hl:(vs++us).length≤LEN
  ·rw[if_pos hl]at ho
   cases ho
   cases hx with
   | ref ea=>
   cases hy with
   | ref eb=>
   obtain⟨l1,ys,k,hg,hv⟩:=r.at e1 ea
   obtain⟨l2,zs,k2,hg2,hv2⟩:=r.at e2 eb
   obtain⟨m,c,led,r'⟩:=r
   have i1:s.heap.IsList _ ys.toArray:=⟨_,hg,rfl,k,rfl⟩
   have i2:s.heap.IsList _ zs.toArray:=⟨_,hg2,rfl,k2,rfl⟩
   refine add_lists (hsz:=Zcx (by rw[hv.length,hv2.length,←List.length_append];exact hl)) r'.F r'.N i1 i2 fun h' F' N'=>?_
   obtain⟨W2,le2,r2,v2⟩:=r'.newList F' N' r'.off (hv.append hv2) hl
   exact post W2 h' s.toks _ le2 r2 v2
  ·rw[if_neg hl]at ho
   cases ho
 ·rename_i vs us
  by_cases hl:(vs++us).length≤LEN
  ·rw[if_pos hl]at ho
   cases ho
   cases hx with
   | @tup _ a ys k hm h1 hv=>
   cases hy with
   | @tup _ b zs k2 hm2 h2 hv2=>
   have t1:IsTup s.heap a ys.toArray:=⟨_,r.tupAt hm,rfl,k,rfl⟩
   have t2:IsTup s.heap b zs.toArray:=⟨_,r.tupAt hm2,rfl,k2,rfl⟩
   have r0:=r
   obtain⟨m,c,led,r'⟩:=r
   refine add_tuples (hsz:=Zcx (by rw[hv.length,hv2.length,←List.length_append];exact hl)) r'.F r'.N t1 t2 (fun e=>?_) (fun _ e=>?_) fun _ _ h' F' N'=>?_
   ·have:vs=[]:=List.length_eq_zero_iff.mp (by rw[←hv.length,e];rfl)
    subst this
    exact post W s.heap s.toks _ (.refl W) r0 (.tup hm2 h2 hv2)
   ·have:us=[]:=List.length_eq_zero_iff.mp (by rw[←hv2.length,e];rfl)
    subst this
    rw[List.append_nil]at post
    exact post W s.heap s.toks _ (.refl W) r0 (.tup hm h1 hv)
   ·obtain⟨W2,le2,r2,v2⟩:=r'.newTup F' N' r'.off (hv.append hv2) hl
    exact post W2 h' s.toks _ le2 r2 v2
  ·rw[if_neg hl]at ho
   cases ho
 ·cases ho
theorem ZnE(vs:List V): ∀n,(Zd2 vs n).length=vs.length*n
 | 0=>rfl
 | n+1=>by rw[Zd2,List.length_append,ZnE vs n,Nat.mul_succ]
theorem ZrT(xs:List Value)(n:Nat): ∀acc:Array Value,(List.foldl (fun x1 x2=>x1++x2) acc (List.replicate n xs.toArray))=acc++(List.replicate n xs).flatten.toArray:=by
 induction n with
 | zero=>intro acc;simp
 | succ n ih=>
  intro acc
  rw[List.replicate_succ,List.foldl_cons,ih,List.replicate_succ,List.flatten_cons]
  simp[Array.append_assoc]
theorem Zoe{W:Wd}{vs:List V}{xs:List Value}(h:VRs W vs xs): ∀n,VRs W (Zd2 vs n) (List.replicate n xs).flatten
 | 0=>.nil
 | n+1=>by
  rw[Zd2,List.replicate_succ',List.flatten_append]
  simp only[List.flatten_cons,List.flatten_nil,List.append_nil]
  exact(Zoe h n).append h
theorem ZaQ: Op2 prog w (binaryOp .Mult) Zdv:=by
 intro Γ W ρ H fr s Q E a b x y v H' r hx hy ho post
 unfold Zdv at ho
 split at ho
 ·rename_i i j
  by_cases hm:mulOk i j=true
  ·rw[if_pos hm]at ho
   cases ho
   cases hx;cases hy
   exact PySem.P.mul_int (post W s.heap _ _ (.refl W) r (.int _ _)) (ZsD hm)
  ·rw[if_neg hm]at ho
   cases ho
 ·rename_i i k
  obtain⟨vs,e1,ho⟩:=Zz0.mp ho
  by_cases hc:vs.length*k.toNat≤LEN∧-(2 ^ 63:Int)≤k∧k<2 ^ 63
  ·rw[if_pos hc]at ho
   cases ho
   cases hx with
   | ref ea=>
   cases hy with
   | int _ u=>
   obtain⟨l1,ys,kk,hg,hv⟩:=r.at e1 ea
   obtain⟨m,c,led,r'⟩:=r
   have hl:=hc.1
   rw[ZaP]at hl
   refine mul_list r'.F r'.N hg hc.2.1 hc.2.2 (by rw[List.size_toArray,hv.length];omega) fun h' F' N'=>?_
   have e2:(List.foldl (fun x1 x2=>x1++x2) #[] (List.replicate (if ys.toArray.isEmpty=true then 0 else k.toNat) ys.toArray))=(List.replicate k.toNat ys).flatten.toArray:=by
    cases ys with
    | nil=>
     simp
    | cons y0 ys0=>
     have:((y0::ys0).toArray.isEmpty=true)=False:=by simp
     simp only[this,if_false]
     rw[ZrT]
     simp
   rw[e2]at N'
   obtain⟨W2,le2,r2,v2⟩:=r'.newList F' N' r'.off (Zoe hv k.toNat) (by rw[ZnE];exact hc.1)
   exact post W2 h' s.toks _ le2 r2 v2
  ·rw[if_neg hc]at ho
   cases ho
 ·cases ho
end
end PM
end
section
namespace PM
open PySem PyProof.Rows PyProof
noncomputable def upd(ρ:Lc)(i:Nat)(v:V): Lc:=fun j=>if j=i then some v else ρ j
noncomputable abbrev Sm:=Lc→Hp→Option (Option V×Lc×Hp)
noncomputable def ZaL: Sm:=fun ρ H=>some (none,ρ,H)
noncomputable def Z6(a b:Sm): Sm:=fun ρ H=>(a ρ H).bind fun p=>match p.1 with
 | some _=>some p
 | none=>b p.2.1 p.2.2
noncomputable def Zat(f:Ex): Sm:=fun ρ H=>(f ρ H).map fun p=>(some p.1,ρ,p.2)
noncomputable def Zaw(i:Nat)(f:Ex): Sm:=fun ρ H=>(f ρ H).map fun p=>(none,upd ρ i p.1,p.2)
noncomputable def sIf(t:Ts)(a b:Sm): Sm:=fun ρ H=>(t ρ H).bind fun p=>if p.1 then a ρ p.2 else b ρ p.2
noncomputable def Zcj(f:Ex): Sm:=fun ρ H=>(f ρ H).map fun p=>(none,ρ,p.2)
noncomputable def Zll: V→V→V→Hp→Option Hp
 | .ref a,.int k,v,H=>H[a]?.bind fun vs=>if a≠0∧0≤k∧k<vs.length then some (H.set a (vs.set k.toNat v))else none
 | _,_,_,_=>none
noncomputable def ZcL(f o i:Ex): Sm:=fun ρ H=>(f ρ H).bind fun p=>(o ρ p.2).bind fun q=>(i ρ q.2).bind fun u=>(Zll q.1 u.1 p.1 u.2).map fun K=>(none,ρ,K)
noncomputable def ZdM(t:Ts)(b:Sm): Nat→Sm
 | 0=>fun _ _=>none
 | n+1=>fun ρ H=>(t ρ H).bind fun p=>if p.1 then(b ρ p.2).bind fun q=>(match q.1 with
   | some _=>some q
   | none=>ZdM t b n q.2.1 q.2.2)else some (none,ρ,p.2)
noncomputable def PostS(Γ:Cx)(W:Wd)(fr:List (Addr×Obj))(s:Shared)(Q:Flow→Shared→Prop): Option V×Lc×Hp→Prop
 | (none,ρ',H')=>∀(W':Wd) (h':Heap) (tk':Nat),W.Le W'→Rep Γ W' ρ' H' fr h'→Q .next { s with heap:=h',toks:=tk' }
 | (some v,ρ',H')=>∀(W':Wd) (h':Heap) (tk':Nat) (x:Value),W.Le W'→Rep Γ W' ρ' H' fr h'→VR W' v x→Q (.ret x) { s with heap:=h',toks:=tk' }
theorem PostS.le{Γ:Cx}{W W':Wd}{fr:List (Addr×Obj)}{s:Shared}{h:Heap}{tk:Nat}{Q:Flow→Shared→Prop}{r:Option V×Lc×Hp}(l:W.Le W')(p:PostS Γ W fr s Q r): PostS Γ W' fr { s with heap:=h,toks:=tk } Q r:=by
 obtain⟨o,ρ',H'⟩:=r
 cases o with
 | none=>exact fun W2 h2 t2 l2 r2=>p W2 h2 t2 (l.trans l2) r2
 | some v=>exact fun W2 h2 t2 x l2 r2 x2=>p W2 h2 t2 x (l.trans l2) r2 x2
section
variable (prog:Program) (w:World)
def S1(Γ:Cx)(st:Stmt)(g:Sm): Prop:=∀(W:Wd) (ρ:Lc) (H:Hp) (fr:List (Addr×Obj)) (s:Shared) (Q:Flow→Shared→Prop) (E:Value→Shared→Prop) (r:Option V×Lc×Hp),
 Rep Γ W ρ H fr s.heap→g ρ H=some r→PostS Γ W fr s Q r→wpAny (model prog w) Γ.A (exec st Γ.env) Q E s
def Ss(Γ:Cx)(ss:List Stmt)(g:Sm): Prop:=∀(W:Wd) (ρ:Lc) (H:Hp) (fr:List (Addr×Obj)) (s:Shared) (Q:Flow→Shared→Prop) (E:Value→Shared→Prop) (r:Option V×Lc×Hp),
 Rep Γ W ρ H fr s.heap→g ρ H=some r→PostS Γ W fr s Q r→wpAny (model prog w) Γ.A (execs ss Γ.env) Q E s
def Sto(Γ:Cx)(x:Str)(i:Nat): Prop:=∀(W:Wd) (ρ:Lc) (H:Hp) (fr:List (Addr×Obj)) (s:Shared) (Q:Unit→Shared→Prop) (E:Value→Shared→Prop) (v:V) (y:Value),
 Rep Γ W ρ H fr s.heap→VR W v y→(∀(h':Heap) (tk':Nat),Rep Γ W (upd ρ i v) H fr h'→Q () { s with heap:=h',toks:=tk' })→wpAny (model prog w) Γ.A (storeName Γ.env x y) Q E s
def Rd(Γ:Cx)(x:Str)(i:Nat): Prop:=∀(W:Wd) (ρ:Lc) (H:Hp) (fr:List (Addr×Obj)) (s:Shared) (Q E:Value→Shared→Prop) (v:V) (pos:Pos),
 Rep Γ W ρ H fr s.heap→ρ i=some v→(∀y,VR W v y→Q y s)→wpAny (model prog w) Γ.A (eval (.Name x pos) Γ.env) Q E s
end
section
variable {prog:Program} {w:World} {Γ:Cx}
theorem Zib{x:Str}{i:Nat}{pos:Pos}(h:Rd prog w Γ x i): J prog w Γ (.Name x pos) (Zo i):=by
 intro W ρ H fr s Q E v H' r hf post
 obtain⟨u,e1,e2⟩:=Zz1.mp hf
 cases e2
 exact h W ρ H fr s Q E v pos r e1 fun y hy=>post W s.heap s.toks y (.refl W) r hy
theorem ZI: Ss prog w Γ [] ZaL:=fun W ρ H fr s Q E r rp hf post=>by
 cases hf
 exact wpAny_execs_nil (post W s.heap s.toks (.refl W) rp)
theorem Zh{st:Stmt}{ss:List Stmt}{a b:Sm}(h1:S1 prog w Γ st a)(h2:Ss prog w Γ ss b): Ss prog w Γ (st::ss) (Z6 a b):=by
 intro W ρ H fr s Q E r rp hf post
 obtain⟨p,e1,hf⟩:=Zz0.mp hf
 refine wpAny_execs_cons (h1 W ρ H fr s _ E p rp e1 ?_)
 obtain⟨o,ρ1,H1⟩:=p
 cases o with
 | some v=>
  cases hf
  exact fun W1 k1 t1 x l1 r1 x1=>post W1 k1 t1 x l1 r1 x1
 | none=>exact fun W1 k1 t1 l1 r1=>h2 W1 ρ1 H1 fr _ Q E r r1 hf (post.le l1)
theorem Zm{st:Stmt}{a:Sm}(h1:S1 prog w Γ st a): Ss prog w Γ [st] a:=by
 intro W ρ H fr s Q E r rp hf post
 refine wpAny_execs_cons (h1 W ρ H fr s _ E r rp hf ?_)
 obtain⟨o,ρ1,H1⟩:=r
 cases o with
 | some v=>exact fun W1 k1 t1 x l1 r1 x1=>post W1 k1 t1 x l1 r1 x1
 | none=>exact fun W1 k1 t1 l1 r1=>wpAny_execs_nil (post W1 k1 t1 l1 r1)
theorem Zr{e:Expr}{pos:Pos}{f:Ex}(h:J prog w Γ e f): S1 prog w Γ (.Return (some e) pos) (Zat f):=by
 intro W ρ H fr s Q E r rp hf post
 obtain⟨p,e1,e2⟩:=Zz1.mp hf
 cases e2
 exact wpAny_Return_some (h W ρ H fr s _ E _ _ rp e1 post)
theorem ZG{t:Expr}{a b:List Stmt}{pos:Pos}{u:Ts}{f g:Sm}(ht:JT prog w Γ t u)(h1:Ss prog w Γ a f)(h2:Ss prog w Γ b g): S1 prog w Γ (.If t a b pos) (sIf u f g):=by
 intro W ρ H fr s Q E r rp hf post
 obtain⟨p,e1,hf⟩:=Zz0.mp hf
 refine wpAny_If (ht W ρ H fr s _ E _ _ rp e1 fun W1 k1 t1 l1 r1=>?_)
 obtain⟨c,H1⟩:=p
 cases c with
 | true=>exact h1 W1 ρ H1 fr _ Q E r r1 hf (post.le l1)
 | false=>exact h2 W1 ρ H1 fr _ Q E r r1 hf (post.le l1)
theorem ZcD{e:Expr}{pos:Pos}{f:Ex}(h:J prog w Γ e f)(hi:interactive Γ.env=false:=by rfl)(hs:swapsWith e none pos.line Γ.env=pure false:=by rfl): S1 prog w Γ (.Expr e pos) (Zcj f):=by
 intro W ρ H fr s Q E r rp hf post
 obtain⟨p,e1,e2⟩:=Zz1.mp hf
 cases e2
 exact wpAny_Expr_any (h W ρ H fr s _ E _ _ rp e1 fun W1 k1 t1 x l1 r1 x1=>post W1 k1 t1 l1 r1) hi hs
theorem ZC{x:Str}{i:Nat}{e:Expr}{pos' pos:Pos}{f:Ex}(hx:Sto prog w Γ x i)(h:J prog w Γ e f)(hs:swapsWith e (some (.Name x pos')) pos.line Γ.env=pure false:=by rfl): S1 prog w Γ (.Assign [.Name x pos'] e pos) (Zaw i f):=by
 intro W ρ H fr s Q E r rp hf post
 obtain⟨p,e1,e2⟩:=Zz1.mp hf
 cases e2
 refine wpAny_Assign_Name (h W ρ H fr s _ E _ _ rp e1 fun W1 k1 t1 y l1 r1 y1=>?_) hs
 exact hx W1 ρ _ fr _ _ E _ y r1 y1 fun h' tk' r2=>post W1 h' tk' l1 r2
theorem Zf4{t:Expr}{a:List Stmt}{pos:Pos}{u:Ts}{f:Sm}(n:Nat)(ht:JT prog w Γ t u)(h1:Ss prog w Γ a f): S1 prog w Γ (.While t a [] pos) (ZdM u f n):=by
 intro W ρ H fr s Q E r rp hf post
 refine wpAny_While ?_
 refine codeAny_whileLoop (fun k s'=>∃W' ρ' H' h' tk',s' = { s with heap:=h',toks:=tk' }∧W.Le W'∧Rep Γ W' ρ' H' fr h'∧ZdM u f k ρ' H'=some r) ?_ n ⟨W,ρ,H,s.heap,s.toks,rfl,.refl W,rp,hf⟩
 rintro k s' ⟨W1,ρ1,H1,k1,t1,rfl,l1,r1,e⟩
 cases k with
 | zero=>cases e
 | succ k=>
  obtain⟨p,e1,e⟩:=Zz0.mp e
  refine ht W1 ρ1 H1 fr _ _ _ _ _ r1 e1 fun W2 k2 t2 l2 r2=>?_
  obtain⟨c,H2⟩:=p
  cases c with
  | false=>
   cases e
   exact wpAny_execs_nil (post W2 k2 t2 (l1.trans l2) r2)
  | true=>
   obtain⟨q,e2,e⟩:=Zz0.mp e
   refine h1 W2 ρ1 H2 fr _ _ _ q r2 e2 ?_
   obtain⟨o,ρ3,H3⟩:=q
   cases o with
   | some v=>
    cases e
    exact fun W3 k3 t3 x l3 r3 x3=>post W3 k3 t3 x ((l1.trans l2).trans l3) r3 x3
   | none=>exact fun W3 k3 t3 l3 r3=>⟨k,Nat.lt_succ_self k,W3,ρ3,H3,k3,t3,rfl,(l1.trans l2).trans l3,r3,e⟩
end
noncomputable def Zgb: List V→Hp→Option (V×Hp)
 | [.ref a,v],H=>H[a]?.bind fun vs=>if a≠0∧vs.length<LEN then some (.none,H.set a (vs++[v]))else none
 | _,_=>none
section
variable {prog:Program} {w:World} {Γ:Cx}
theorem ZrU: OpN prog w (fun xs=>call (.builtin "list.append") xs) Zgb:=by
 intro Γ W ρ H fr s Q E as xs v H' r hx ho post
 unfold Zgb at ho
 split at ho
 ·obtain⟨vs,e1,e2⟩:=Zz0.mp ho
  obtain⟨x,y,ex,rx,ry⟩:=hx.two
  subst ex
  split at e2
  ·rename_i hl
   cases e2
   cases rx with
   | @ref _ a0 ea=>
    obtain⟨_,ys,k,hg,hv⟩:=r.at e1 ea
    refine append_at (hsz:=Zcx (by rw[List.size_toArray,hv.length];omega)) hg fun h' sb hg'=>?_
    have hg2:h'.get? a0=some (Zbz (ys++[y]) (k+1)):=by rw[hg'];simp
    exact post W h' s.toks _ (.refl W) (r.change hl.1 e1 ea sb hg2 (hv.snoc ry) (by simp;omega)) .none
  ·cases e2
 ·cases ho
end
end PM
end
section
namespace PM
open PySem PySem.W PyProof.Rows PyProof
theorem Zof: ∀{l:List Value} {k:Nat} {v:Value},k<l.length→ki_setL l k v=some (l.set k v)
 | [],_,_,h=>by simp at h
 | x::r,0,v,_=>by simp[ki_setL]
 | x::r,k+1,v,h=>by
  have:=Zof (l:=r) (k:=k) (v:=v) (by simpa using h)
  simp[ki_setL,this]
theorem ZrV{a k v:V}{H K:Hp}(h:Zll a k v H=some K): ∃i j vs,a=.ref i∧k=.int j∧H[i]?=some vs∧(i≠0∧0≤j∧j<vs.length)∧K=H.set i (vs.set j.toNat v):=by
 cases a <;> first | (cases h;done) | skip
 cases k <;> first | (cases h;done) | skip
 obtain⟨vs,e1,e2⟩:=Zz0.mp h
 split at e2
 ·rename_i c
  cases e2
  exact⟨_,_,vs,rfl,rfl,e1,c,rfl⟩
 ·cases e2
theorem ZqB{a v x:V}{H K:Hp}(h:Zgb [a,v] H=some (x,K)): ∃i,a=.ref i:=by
 cases a <;> first | (cases h;done) | skip
 exact⟨_,rfl⟩
noncomputable def Zev(o f:Ex): Ex:=fun ρ H=>(o ρ H).bind fun p=>(f ρ p.2).bind fun q=>Zgb [p.1,q.1] q.2
section
variable {prog:Program} {w:World} {Γ:Cx}
theorem S1.put{o i value:Expr}{pos' pos:Pos}{f g k:Ex}(hf:J prog w Γ value f)(ho:J prog w Γ o g)(hi:J prog w Γ i k)(hs:swapsWith value (some (.Subscript o i pos')) pos.line Γ.env=pure false:=by rfl): S1 prog w Γ (.Assign [.Subscript o i pos'] value pos) (ZcL f g k):=by
 intro W ρ H fr s Q E r rp hx post
 obtain⟨p,e1,hx⟩:=Zz0.mp hx
 obtain⟨q,e2,hx⟩:=Zz0.mp hx
 obtain⟨u,e3,hx⟩:=Zz0.mp hx
 obtain⟨K,e4,e5⟩:=Zz1.mp hx
 cases e5
 refine wpAny_Assign_Subscript (hf W ρ H fr s _ E _ _ rp e1 fun W1 k1 t1 x l1 r1 x1=>?_) hs
 refine ho W1 ρ _ fr _ _ E _ _ r1 e2 fun W2 k2 t2 y l2 r2 y2=>?_
 refine hi W2 ρ _ fr _ _ E _ _ r2 e3 fun W3 k3 t3 z l3 r3 z3=>?_
 have x3:=x1.mono (l2.trans l3)
 have y3:=y2.mono l3
 obtain⟨b,kk,vs,eb,ek,hvs,hc,e6⟩:=ZrV e4
 subst e6
 rw[eb]at y3
 rw[ek]at z3
 cases y3 with
 | @ref _ a ea=>
 cases z3 with
 | int _ tz=>
 obtain⟨hl,xs,n,hg,hv⟩:=r3.at hvs ea
 obtain⟨m,c,led,r'⟩:=r3
 have hll:=hl
 rw[ZaP]at hll
 have hk:kk.toNat<xs.length:=by rw[hv.length];omega
 obtain⟨_,a',xs',n',h1,h2,h3⟩:=r'.R.lists b vs hvs
 rw[ea]at h1
 cases h1
 have h2:=r'.inLed hc.1 ea h2
 have N2:News Γ.h₀ Γ.L k3 ((a,Zbz xs n)::led.filter (fun q=>decide (q.1≠a))):=by
  intro q hq
  rcases Zz7.mp hq with e | hq
  ·subst e
   exact⟨hg,(r'.N _ h2).2⟩
  ·exact r'.N q (List.mem_filter.mp hq).1
 refine ki_set (its:=xs.toArray) (n:=n) (q:=xs.set kk.toNat x) r'.F N2 hc.2.1 (by omega) (by simpa using Zof hk) (Upd.head fun q hq=>by simpa using (List.mem_filter.mp hq).2) fun h' F' N'=>?_
 exact post W3 h' t3 ((l1.trans l2).trans l3) (r'.changed hc.1 hvs ea F' N' (hv.set _ x3) (by simpa using hl))
theorem J.append{o e:Expr}{apos pos:Pos}{f g:Ex}(ho:J prog w Γ o f)(he:J prog w Γ e g)(hbase:attributeBase o "append" Γ.env (eval o Γ.env)=eval o Γ.env:=by rfl)
  (hfew:((backTo pos (starEach [e] Γ.env)).all (fun x=>!x.1) && (backToKw pos (keywordEach [] Γ.env)).all (fun x=>x.1.isSome) && decide (([e]:List Expr).length+([]:List Keyword).length+(if([]:List Keyword).isEmpty then 0 else 1)<30))=true:=by rfl)
  (hline:(apos.endLine == pos.line)=true:=by rfl) (htrees:backTo pos (starEach [e] Γ.env)=[(false,eval e Γ.env)]:=by rfl):J prog w Γ (.Call (.Attribute o "append" apos) [e] [] pos) (Zev f g):=by
 intro W ρ H fr s Q E v H' r hx post
 obtain⟨p,e1,hx⟩:=Zz0.mp hx
 obtain⟨q,e2,e3⟩:=Zz0.mp hx
 refine wpAny_Call_append hbase hfew hline htrees (ho W ρ H fr s _ E _ _ r e1 fun W1 k1 t1 x l1 r1 x1=>?_)
 obtain⟨v1,H1⟩:=p
 obtain⟨b,hb⟩:=ZqB e3
 subst hb
 have hb:=r1.refIn x1
 cases x1 with
 | @ref _ a ea=>
 obtain⟨_,xs,n,hg,hv⟩:=r1.at (List.getElem?_eq_getElem hb) ea
 refine⟨a,xs.toArray,rfl,⟨_,n,hg,rfl,rfl,rfl⟩,?_⟩
 refine he W1 ρ _ fr _ _ E _ _ r1 e2 fun W2 k2 t2 y l2 r2 y2=>?_
 exact ZrU Γ W2 ρ _ fr _ Q E _ [.ref a,y] v H' r2 (.cons (.ref (l2.at ea)) (.cons y2 .nil)) e3 fun W3 k3 t3 z l3 r3 z3=>post W3 k3 t3 z ((l1.trans l2).trans l3) r3 z3
end
end PM
end
section
namespace PM
open PySem PySem.W PyProof.Rows PyProof
noncomputable abbrev Nx:=Nat→Hp→Option (Option V)
noncomputable def Zvn(Γ:Cx)(W:Wd)(ρ:Lc)(H:Hp)(fr:List (Addr×Obj))(s:Shared)(It:Nat→List (Addr×Obj)→Prop)(i:Nat)(Q:Option Value→Shared→Prop): Option V→Prop
 | none=>∀(h':Heap) (tk':Nat),Rep Γ W ρ H fr h'→Q none { s with heap:=h',toks:=tk' }
 | some v=>∀(fs':List (Addr×Obj)) (h':Heap) (tk':Nat) (x:Value),It (i+1) fs'→Rep Γ W ρ H (fs'++fr) h'→VR W v x→Q (some x) { s with heap:=h',toks:=tk' }
structure Itr(prog:Program)(w:World)(Γ:Cx)(W0:Wd)(it:Value)(as:List Addr)(It:Nat→List (Addr×Obj)→Prop)(nx:Nx): Prop where
 adr:∀i fs,It i fs→fs.map (·.1)=as
 next:∀(i:Nat) (W:Wd) (ρ:Lc) (H:Hp) (fr fs:List (Addr×Obj)) (s:Shared) (Q:Option Value→Shared→Prop) (E:Value→Shared→Prop) (o:Option V),W0.Le W→Rep Γ W ρ H (fs++fr) s.heap→(∀a∈as,∀t∈fr,a≠t.1)→It i fs→nx i H=some o →
  Zvn Γ W ρ H fr s It i Q o→wpAny (model prog w) Γ.A (pyNext it) Q E s
 self:∀(i:Nat) (W:Wd) (ρ:Lc) (H:Hp) (fr fs:List (Addr×Obj)) (s:Shared) (Q E:Value→Shared→Prop),W0.Le W→Rep Γ W ρ H (fs++fr) s.heap→It i fs→Q it s→wpAny (model prog w) Γ.A (pyIter it) Q E s
noncomputable abbrev Src:=Lc→Hp→Option (Nx×Nat×Hp)
def JI(prog:Program)(w:World)(Γ:Cx)(e:Expr)(g:Src): Prop:=∀(W:Wd) (ρ:Lc) (H:Hp) (fr:List (Addr×Obj)) (s:Shared) (Q E:Value→Shared→Prop) (nx:Nx) (n:Nat) (H':Hp),
 Rep Γ W ρ H fr s.heap→g ρ H=some (nx,n,H') →
 (∀(W':Wd) (h':Heap) (tk':Nat) (it:Value) (as:List Addr) (It:Nat→List (Addr×Obj)→Prop) (fs:List (Addr×Obj)),W.Le W'→It 0 fs→Rep Γ W' ρ H' (fs++fr) h'→(∀a∈as,∀t∈fr,a≠t.1)→Itr prog w Γ W' it as It nx→Q it { s with heap:=h',toks:=tk' }) →
 wpAny (model prog w) Γ.A (eval e Γ.env) (fun xv s₁=>wpAny (model prog w) Γ.A (pyIter xv) Q E s₁) E s
noncomputable def ZkL(a:Nat): Nx:=fun i H=>H[a]?.map fun vs=>vs[i]?
noncomputable def ZoT(vs:List V): Nx:=fun i _=>some vs[i]?
noncomputable def Zew(a c:Int)(n:Nat): Nx:=fun i _=>some (if i<n then some (.int (a+i*c))else none)
noncomputable def ZcM(f:Ex): Src:=fun ρ H=>(f ρ H).bind fun p=>match p.1 with
 | .ref a=>p.2[a]?.map fun vs=>(ZkL a,vs.length+1,p.2)
 | .tup vs=>some (ZoT vs,vs.length+1,p.2)
 | _=>none
noncomputable def rngN(a b c:Int): Nat:=(Builtin.Range.rangeSize a b c).toNat
noncomputable def Zb0(a b c:Int)(H:Hp): Option (Nx×Nat×Hp):=if c≠0∧Builtin.Range.small a b c=true∧0≤Builtin.Range.rangeSize a b c∧rngN a b c≤LEN∧Builtin.divisionGoesByPylong (b-a) c=false then some (Zew a c (rngN a b c),rngN a b c+1,H)else none
noncomputable def Zb3(g:Exs): Src:=fun ρ H=>(g ρ H).bind fun p=>match p.1 with
 | [.int b]=>Zb0 0 b 1 p.2
 | [.int a,.int b]=>Zb0 a b 1 p.2
 | [.int a,.int b,.int c]=>Zb0 a b c p.2
 | _=>none
section
variable {prog:Program} {w:World} {Γ:Cx}
theorem ZkM{W0:Wd}{I:Addr}{nx:Nx}(P:Nat→Obj→Prop)
  (next:∀(i:Nat) (W:Wd) (ρ:Lc) (H:Hp) (fr:List (Addr×Obj)) (ob:Obj) (s:Shared) (Q:Option Value→Shared→Prop) (E:Value→Shared→Prop) (o:Option V),W0.Le W→Rep Γ W ρ H ((I,ob)::fr) s.heap→P i ob→nx i H=some o →
   (match o with
    | none=>∀(h':Heap) (tk':Nat),(∀b o,b≠I→s.heap.get? b=some o→h'.get? b=some o)→Q none { s with heap:=h',toks:=tk' }
    | some v=>∀(ob':Obj) (h':Heap) (tk':Nat) (x:Value),P (i+1) ob'→h'.get? I=some ob'→(∀b o,b≠I→s.heap.get? b=some o→h'.get? b=some o)→VR W v x→Q (some x) { s with heap:=h',toks:=tk' })→wpAny (model prog w) Γ.A (pyNext (.ref I)) Q E s)
  (self:∀(i:Nat) (W:Wd) (ρ:Lc) (H:Hp) (fr:List (Addr×Obj)) (ob:Obj) (s:Shared) (Q E:Value→Shared→Prop),W0.Le W→Rep Γ W ρ H ((I,ob)::fr) s.heap→P i ob→Q (.ref I) s→wpAny (model prog w) Γ.A (pyIter (.ref I)) Q E s):
  Itr prog w Γ W0 (.ref I) [I] (fun i fs=>∃ob,fs=[(I,ob)]∧P i ob) nx:=by
 refine⟨?_,?_,?_⟩
 ·rintro i fs ⟨ob,e,_⟩
  rw[e]
  rfl
 ·rintro i W ρ H fr fs s Q E o le r ap ⟨ob,e,hp⟩ hn post
  subst e
  refine next i W ρ H fr ob s Q E o le r hp hn ?_
  have ap':∀q∈[(I,ob)],∀t∈fr,q.1≠t.1:=fun q hq t ht=>by rw[List.mem_singleton.mp hq];exact ap I Zz5 t ht
  cases o with
  | none=>
   intro h' tk' keep
   have:=Rep.swap (fs:=[(I,ob)]) (fs':=[]) r ap' (fun b o hb e=>keep b o (fun q=>hb (by simp[q])) e) (fun q hq=>nomatch hq)
   exact post h' tk' this
  | some v=>
   intro ob' h' tk' x hp' hg keep hx
   have:=Rep.swap (fs:=[(I,ob)]) (fs':=[(I,ob')]) r ap' (fun b o hb e=>keep b o (fun q=>hb (by simp[q])) e) (fun q hq=>by rw[List.mem_singleton.mp hq];exact⟨hg,by simp⟩)
   exact post [(I,ob')] h' tk' x ⟨ob',rfl,hp'⟩ this hx
 ·rintro i W ρ H fr fs s Q E le r ⟨ob,e,hp⟩ q
  subst e
  exact self i W ρ H fr ob s Q E le r hp q
theorem JI.seq{e:Expr}{f:Ex}(h:J prog w Γ e f): JI prog w Γ e (ZcM f):=by
 intro W ρ H fr s Q E nx n H' r hf post
 obtain⟨p,e1,hf⟩:=Zz0.mp hf
 refine h W ρ H fr s _ E _ _ r e1 fun W1 k1 t1 x l1 r1 x1=>?_
 obtain⟨v,H1⟩:=p
 cases x1 with
 | none=>cases hf
 | bool _=>cases hf
 | int _ _=>cases hf
 | str _ _=>cases hf
 | @tup vs a xs k hm hl hs=>
  cases hf
  have it:k1.IsTuple a xs.toArray:=⟨_,r1.tupAt hm,rfl,k,rfl⟩
  refine wpAny_pyIter_tuple it ?_
  obtain⟨r2,ap⟩:=r1.more (fs:=[(k1.objs.size,{ cls:=.type "tuple_iterator",data:=.fields #[.ref a,.int 0 0] })]) (fun b o e=>Heap.get?_push_of_some { cls:=.type "tuple_iterator",data:=.fields #[.ref a,.int 0 0] } e) (fun q hq=>by rw[List.mem_singleton.mp hq];exact⟨Heap.get?_push_size _ rfl,Nat.le_refl _⟩)
  refine post W1 _ t1 _ [k1.objs.size] _ _ l1 ⟨_,rfl,?_⟩ r2 (fun b hb t ht=>by rw[List.mem_singleton.mp hb];exact ap _ Zz5 t ht)
   (ZkM (fun i ob=>ob.cls=.type "tuple_iterator"∧ob.data=.fields #[.ref a,.int i 0]) ?_ ?_)
  ·intro i W ρ H fr ob s Q E o le r hp hn post
   have g1:s.heap.IsTupleIter k1.objs.size a i:=⟨ob,r.frAt Zz5,hp.1,hp.2⟩
   have g2:s.heap.IsTuple a xs.toArray:=⟨_,r.tupAt (le.tups _ hm),rfl,k,rfl⟩
   have ne:a≠k1.objs.size:=Nat.ne_of_lt (Heap.lt_size (r1.tupAt hm))
   have Wk:=Walks.tuple (prog:=prog) (w:=w) Γ.hh k1.objs.size a ne xs.toArray
   cases hn
   cases ev:vs[i]? with
   | none=>
    rw[ev]at post
    have hi:xs.toArray[i]?=none:=by have:=List.getElem?_eq_none_iff.mp ev;rw[←hs.length]at this;simpa using this
    exact wpAny_pyNext_tuple_end Γ.hh g1 g2 hi fun h' he'=>post h' s.toks fun b o hb e=>he' b o hb e
   | some v=>
    rw[ev]at post
    obtain⟨y,hy,ry⟩:=hs.at ev
    refine wpAny_pyNext_tuple_item g1 g2 (x:=y) (by simpa using hy) fun h' hit' hs'=>?_
    obtain⟨ob',h1,h2,h3⟩:=hit'
    exact post ob' h' s.toks y ⟨h2,h3⟩ h1 (fun b o hb e=>hs'.extBut b o hb e) (ry.mono le)
  ·intro i W ρ H fr ob s Q E le r hp q
   exact wpAny_pyIter_tupleiter (⟨ob,r.frAt Zz5,hp.1,hp.2⟩:s.heap.IsTupleIter k1.objs.size a i) q
  ·exact⟨rfl,rfl⟩
 | @ref i0 a ea=>
  obtain⟨vs,e2,e3⟩:=Zz1.mp hf
  cases e3
  obtain⟨hl,xs,k,hg,hv⟩:=r1.at e2 ea
  have isl:k1.IsList a xs.toArray:=⟨_,hg,rfl,k,rfl⟩
  refine wpAny_pyIter_list isl ?_
  obtain⟨r2,ap⟩:=r1.more (fs:=[(k1.objs.size,{ cls:=.type "list_iterator",data:=.fields #[.ref a,.int 0 0] })]) (fun b o e=>Heap.get?_push_of_some { cls:=.type "list_iterator",data:=.fields #[.ref a,.int 0 0] } e) (fun q hq=>by rw[List.mem_singleton.mp hq];exact⟨Heap.get?_push_size _ rfl,Nat.le_refl _⟩)
  refine post W1 _ t1 _ [k1.objs.size] _ _ l1 ⟨_,rfl,?_⟩ r2 (fun b hb t ht=>by rw[List.mem_singleton.mp hb];exact ap _ Zz5 t ht)
   (ZkM (fun i ob=>ob.cls=.type "list_iterator"∧ob.data=.fields #[.ref a,.int i 0]) ?_ ?_)
  ·intro i W ρ H fr ob s Q E o le r hp hn post
   obtain⟨us,eu,e4⟩:=Zz1.mp hn
   subst e4
   obtain⟨hl2,ys,k2,hg2,hv2⟩:=r.at eu (le.at ea)
   have g1:s.heap.IsListIter k1.objs.size a i:=⟨ob,r.frAt Zz5,hp.1,hp.2⟩
   have g2:s.heap.IsList a ys.toArray:=⟨_,hg2,rfl,k2,rfl⟩
   cases ev:us[i]? with
   | none=>
    rw[ev]at post
    have hi:ys.toArray[i]?=none:=by have:=List.getElem?_eq_none_iff.mp ev;rw[←hv2.length]at this;simpa using this
    exact wpAny_pyNext_list_end Γ.hh g1 g2 hi fun h' he'=>post h' s.toks fun b o hb e=>he' b o hb e
   | some v=>
    rw[ev]at post
    obtain⟨y,hy,ry⟩:=hv2.at ev
    refine wpAny_pyNext_list_item g1 g2 (x:=y) (by simpa using hy) fun h' hit' hs'=>?_
    obtain⟨ob',h1,h2,h3⟩:=hit'
    exact post ob' h' s.toks y ⟨h2,h3⟩ h1 (fun b o hb e=>hs'.extBut b o hb e) ry
  ·intro i W ρ H fr ob s Q E le r hp q
   exact wpAny_pyIter_listiter (⟨ob,r.frAt Zz5,hp.1,hp.2⟩:s.heap.IsListIter k1.objs.size a i) q
  ·exact⟨rfl,rfl⟩
theorem ZqC{a b c:Int}{H:Hp}{z:Nx×Nat×Hp}(h:Zb0 a b c H=some z): c≠0∧Builtin.divisionGoesByPylong (b-a) c=false:=by
 unfold Zb0 at h
 split at h
 ·rename_i hc
  exact⟨hc.1,hc.2.2.2.2⟩
 ·cases h
theorem ZsG{W0:Wd}{I:Addr}{a c:Int}{n:Nat}: Itr prog w Γ W0 (.ref I) [I] (fun i fs=>∃ob,fs=[(I,ob)]∧(i≤n∧ob = { cls:=.type "range_iterator",dict:=none,data:=.fields #[rawInt (a+(i:Nat)*c),rawInt ((n:Int)-(i:Nat)),rawInt c],slots:=#[] })) (Zew a c n):=by
 have Wk:=Walks.range (prog:=prog) (w:=w) Γ.hh I a c n
 refine ZkM (fun i ob=>i≤n∧ob = { cls:=.type "range_iterator",dict:=none,data:=.fields #[rawInt (a+(i:Nat)*c),rawInt ((n:Int)-(i:Nat)),rawInt c],slots:=#[] }) ?_ ?_
 ·intro i W ρ H fr ob s Q E o le r hp hn post
  have g:IsRangeIter s.heap I (a+(i:Nat)*c) ((n:Int)-(i:Nat)) c:=(r.frAt Zz5).trans (congrArg some hp.2)
  cases hn
  by_cases hi:i<n
  ·rw[if_pos hi]at post
   refine Wk.item i s Q E hi g fun v h' tk hv st keep=>?_
   obtain⟨t,e⟩:=hv
   subst e
   exact post _ h' tk _ ⟨hi,rfl⟩ st (fun b o hb e=>keep b o (by simpa using hb) e) (.int _ _)
  ·rw[if_neg hi]at post
   have e:i=n:=by have:=hp.1;omega
   subst e
   exact Wk.done s Q E g fun h' tk keep=>post h' tk fun b o hb e=>keep b o (by simpa using hb) e
 ·intro i W ρ H fr ob s Q E le r hp q
  have g:IsRangeIter s.heap I (a+(i:Nat)*c) ((n:Int)-(i:Nat)) c:=(r.frAt Zz5).trans (congrArg some hp.2)
  exact Wk.self i s Q E g q
theorem Zjo{a b c:Int}{t u v:Tok}{W:Wd}{ρ:Lc}{H:Hp}{fr:List (Addr×Obj)}{s:Shared}{k:Heap}{tk:Nat}{Q E:Value→Shared→Prop}{nx:Nx}{n:Nat}{H':Hp}(r:Rep Γ W ρ H fr k)(hm:Zb0 a b c H=some (nx,n,H'))
  (post:∀(W':Wd) (h':Heap) (tk':Nat) (it:Value) (as:List Addr) (It:Nat→List (Addr×Obj)→Prop) (fs:List (Addr×Obj)),W.Le W'→It 0 fs→Rep Γ W' ρ H' (fs++fr) h'→(∀a∈as,∀t∈fr,a≠t.1)→Itr prog w Γ W' it as It nx→Q it { s with heap:=h',toks:=tk' }):
  wpAny (model prog w) Γ.A (pyIter (.ref k.objs.size)) Q E { s with heap:=k.push { cls:=.type "range",data:=.fields #[.int a t,.int b u,.int c v] },toks:=tk }:=by
 unfold Zb0 at hm
 split at hm
 ·rename_i hc
  cases hm
  have hr:IsRange (k.push { cls:=.type "range",data:=.fields #[.int a t,.int b u,.int c v] }) k.objs.size a b c t u v:=IsRange.new ..
  refine wpAny_pyIter_range hr hc.2.1 ?_
  have rp:=r.push { cls:=.type "range",data:=.fields #[.int a t,.int b u,.int c v] }
  have en:Builtin.Range.rangeSize a b c=((rngN a b c:Nat):Int):=(Int.toNat_of_nonneg hc.2.2.1).symm
  dsimp only
  generalize hk:k.push { cls:=.type "range",data:=.fields #[.int a t,.int b u,.int c v] } = k2 at rp ⊢
  obtain⟨r2,ap⟩:=rp.more (fs:=[(k2.objs.size,{ cls:=.type "range_iterator",data:=.fields #[rawInt a,rawInt (Builtin.Range.rangeSize a b c),rawInt c] })]) (fun b' o e=>Heap.get?_push_of_some { cls:=.type "range_iterator",data:=.fields #[rawInt a,rawInt (Builtin.Range.rangeSize a b c),rawInt c] } e) (fun q hq=>by rw[List.mem_singleton.mp hq];exact⟨Heap.get?_push_size _ rfl,Nat.le_refl _⟩)
  refine post W _ tk _ [k2.objs.size] _ _ (.refl W) ⟨_,rfl,Nat.zero_le _,?_⟩ r2 (fun b hb t ht=>by rw[List.mem_singleton.mp hb];exact ap _ Zz5 t ht) (ZsG (a:=a) (c:=c) (n:=rngN a b c))
  rw[en]
  simp
 ·cases hm
theorem JI.range{x:Str}{np pos:Pos}{e:Expr}{es:List Expr}{g:Exs}(hn:Nm prog w Γ x (.type "range"))(h:Js prog w Γ (e::es) g)
  (he:starEach (e::es) Γ.env=(false,eval e Γ.env)::starEach es Γ.env:=by rfl) (hp:∀pos,(backTo pos (starEach es Γ.env)).any (·.1)=false:=by intro _;rfl):JI prog w Γ (.Call (.Name x np) (e::es) [] pos) (Zb3 g):=by
 intro W ρ H fr s Q E nx n H' r hf post
 obtain⟨p,e1,hf⟩:=Zz0.mp hf
 refine wpAny_Call_ofName (hn.use r ?_)
 refine PySem.Pv.callWith_type1 (h pos W ρ H fr s _ E _ _ r e1 fun W1 k1 t1 xs l1 r1 x1=>?_) he (hp pos)
 obtain⟨vs,H1⟩:=p
 dsimp only at hf x1 r1
 have post1:=fun W' h' tk' it as It fs (l:W1.Le W')=>post W' h' tk' it as It fs (l1.trans l)
 split at hf
 ·obtain⟨y,ex,ry⟩:=x1.one
  subst ex
  cases ry
  exact call_range_1 (Zjo r1 hf post1)
 ·obtain⟨y,z,ex,ry,rz⟩:=x1.two
  subst ex
  cases ry
  cases rz
  exact call_range_2 (Zjo r1 hf post1)
 ·cases x1 with
  | cons ry x1=>
  obtain⟨y,z,ex,rz,ru⟩:=x1.two
  subst ex
  cases ry
  cases rz
  cases ru
  have hc:=ZqC hf
  exact call_range_3 hc.1 (Zjo r1 hf post1) (.inl hc.2)
 ·cases hf
end
noncomputable def ZcH(nx:Nx)(put:V→Lc→Option Lc)(b:Sm): Nat→Nat→Sm
 | 0,_=>fun _ _=>none
 | n+1,i=>fun ρ H=>(nx i H).bind fun o=>match o with
  | none=>some (none,ρ,H)
  | some v=>(put v ρ).bind fun ρ1=>(b ρ1 H).bind fun q=>match q.1 with
   | some _=>some q
   | none=>ZcH nx put b n (i+1) q.2.1 q.2.2
noncomputable def ZbP(g:Src)(put:V→Lc→Option Lc)(b:Sm): Sm:=fun ρ H=>(g ρ H).bind fun z=>ZcH z.1 put b z.2.1 0 ρ z.2.2
noncomputable def put1(i:Nat): V→Lc→Option Lc:=fun v ρ=>some (upd ρ i v)
section
variable {prog:Program} {w:World} {Γ:Cx}
theorem Za3{x:Str}{i:Nat}{px pos:Pos}{it:Expr}{body:List Stmt}{g:Src}{b:Sm}(hx:Sto prog w Γ x i)(hg:JI prog w Γ it g)(hb:Ss prog w Γ body b)(hs:∀x,foldedSetIterable it Γ.env x=pure x:=by intro _;rfl): S1 prog w Γ (.For (.Name x px) it body [] pos) (ZbP g (put1 i) b):=by
 intro W ρ H fr s Q E r rp hf post
 obtain⟨z,e1,hf⟩:=Zz0.mp hf
 obtain⟨nx,n,H0⟩:=z
 refine wpAny_For (hg W ρ H fr s _ E nx n H0 rp e1 fun W1 k1 t1 itv as It fs l1 i1 r1 ap I1=>?_) hs
 refine codeAny_forLoop (fun k s'=>∃W' ρ' H' h' tk' j fs',s' = { s with heap:=h',toks:=tk' }∧W1.Le W'∧It j fs'∧Rep Γ W' ρ' H' (fs'++fr) h'∧ZcH nx (put1 i) b k j ρ' H'=some r) ?_ n ⟨W1,ρ,H0,k1,t1,0,fs,rfl,.refl _,i1,r1,hf⟩
 rintro k s' ⟨W2,ρ2,H2,k2,t2,j,fs2,rfl,l2,i2,r2,e⟩
 cases k with
 | zero=>cases e
 | succ k=>
  obtain⟨o,e2,e⟩:=Zz0.mp e
  refine I1.next j W2 ρ2 H2 fr fs2 _ _ _ o l2 r2 ap i2 e2 ?_
  cases o with
  | none=>
   cases e
   intro h' tk' r3
   exact wpAny_execs_nil (post W2 h' tk' (l1.trans l2) r3)
  | some v=>
   intro fs3 k3 t3 y i3 r3 y3
   obtain⟨ρ3,e3,e⟩:=Zz0.mp e
   cases e3
   obtain⟨q,e4,e⟩:=Zz0.mp e
   refine wpAny_assign_Name (hx W2 ρ2 H2 (fs3++fr) _ _ _ v y r3 y3 fun k4 t4 r4=>?_)
   refine hb W2 _ H2 (fs3++fr) _ _ _ q r4 e4 ?_
   obtain⟨u,ρ5,H5⟩:=q
   cases u with
   | some u=>
    cases e
    exact fun W5 k5 t5 x5 l5 r5 v5=>post W5 k5 t5 x5 ((l1.trans l2).trans l5) (r5.less fun q hq=>List.mem_append_right _ hq) v5
   | none=>exact fun W5 k5 t5 l5 r5=>⟨k,Nat.lt_succ_self k,W5,ρ5,H5,k5,t5,j+1,fs3,rfl,l2.trans l5,i3,r5,e⟩
end
end PM
end
section
namespace PM
open PySem PySem.W PySem.Calls PyProof.Rows PyProof
structure OwnF(names:List Str)(cs:Scope)(cl:List (Str×Addr))(W:Wd)(ρ:Lc)(m:Str→Option Value)(cells:List (Addr×Obj)): Prop where
 loc:∀(i:Nat) (x:Str) (v:V),names[i]?=some x→cs.names.lookup x=some .local→ρ i=some v→∃y,m x=some y∧VR W v y
 cel:∀(i:Nat) (x:Str) (v:V),names[i]?=some x→cs.names.lookup x=some .cell→ρ i=some v→∃c o y,cl.lookup x=some c∧(c,o)∈cells∧o.data=.cell (some y)∧VR W v y
 all:∀(x:Str) (c:Addr),cl.lookup x=some c→∃o v₀,(c,o)∈cells∧o.data=.cell v₀
 one:∀(x y:Str) (c:Addr),cl.lookup x=some c→cl.lookup y=some c→x=y
theorem OwnF.mono{names:List Str}{cs:Scope}{cl:List (Str×Addr)}{W W':Wd}{ρ:Lc}{m:Str→Option Value}{cells:List (Addr×Obj)}(l:W.Le W')(h:OwnF names cs cl W ρ m cells): OwnF names cs cl W' ρ m cells:=
 ⟨fun i x v a b c=>by
  obtain⟨y,h1,h2⟩:=h.loc i x v a b c
  exact⟨y,h1,h2.mono l⟩,fun i x v a b c=>by
  obtain⟨d,o,y,h1,h2,h3,h4⟩:=h.cel i x v a b c
  exact⟨d,o,y,h1,h2,h3,h4.mono l⟩,h.all,h.one⟩
noncomputable def Zbq(dp un:Nat)(gd:Option (List Code))(cn:Str)(cs:Scope)(L a:Addr)(ccd:Value)(cl:List (Str×Addr))(outer:List Env)(h₀:Heap)(hu:un+200<cLine)(names:List Str): Cx where
 A:=ktrTop dp un gd cn cs L a ccd cl outer
 env:=envX cn cs L a ccd cl
 h₀:=h₀
 L:=L
 hh:=rfl
 hu:=hu
 Own:=OwnF names cs cl
 mono:=OwnF.mono
section
variable {prog:Program} {w:World} {dp un:Nat} {gd:Option (List Code)} {cn:Str} {cs:Scope} {L a:Addr} {ccd:Value} {cl:List (Str×Addr)} {outer:List Env} {h₀:Heap} {hu:un+200<cLine} {names:List Str}
theorem Zuy{x:Str}{i:Nat}(hi:names[i]?=some x)(hx:cs.names.lookup x=some .local)(hk:cs.kind=.function)(hd:(x == ("__debug__":Str))=false): Rd prog w (Zbq dp un gd cn cs L a ccd cl outer h₀ hu names) x i:=by
 intro W ρ H fr s Q E v pos r e q
 obtain⟨m,c,led,r⟩:=r
 obtain⟨y,h1,h2⟩:=r.own.loc i x v hi hx e
 exact nameX_L r.F h1 (q y h2) hk hx hd
theorem Zuz{x:Str}{i:Nat}(hi:names[i]?=some x)(hx:cs.names.lookup x=some .cell)(hk:cs.kind=.function)(hd:(x == ("__debug__":Str))=false): Rd prog w (Zbq dp un gd cn cs L a ccd cl outer h₀ hu names) x i:=by
 intro W ρ H fr s Q E v pos r e q
 obtain⟨m,c,led,r⟩:=r
 obtain⟨d,o,y,h1,h2,h3,h4⟩:=r.own.cel i x v hi hx e
 exact nameX_C r.N h1 (r.clIn _ h2) h3 (q y h4) hk hx hd
theorem Zts{x:Str}{i:Nat}(nd:names.Nodup)(hi:names[i]?=some x)(hx:cs.names.lookup x=some .local)(hk:cs.kind=.function): Sto prog w (Zbq dp un gd cn cs L a ccd cl outer h₀ hu names) x i:=by
 intro W ρ H fr s Q E v y r vy q
 obtain⟨m,c,led,r⟩:=r
 have hi':i<names.length:=(Zz6.mp hi).1
 refine storeX_L r.F r.N (fun h' F' N'=>q h' _ ⟨_,c,led,⟨F',N',r.R,r.sc,r.sc0,r.frIn,r.frOff,r.clIn,r.clOff,r.apart,r.frTup,r.clTup,⟨fun j z u hj hz hu=>?_,fun j z u hj hz hu=>?_,r.own.all,r.own.one⟩⟩⟩) hk hx
 ·by_cases e:j=i
  ·subst e
   rw[hi]at hj
   cases hj
   simp only[upd,if_true]at hu
   cases hu
   exact⟨y,by simp,vy⟩
  ·have hzx:z≠x:=fun e'=>by
    subst e'
    exact e ((List.getElem?_inj (Zz6.mp hj).1 nd).mp (hj.trans hi.symm))
   simp only[upd,if_neg e]at hu
   obtain⟨y',h1,h2⟩:=r.own.loc j z u hj hz hu
   exact⟨y',by simp[hzx,h1],h2⟩
 ·by_cases e:j=i
  ·subst e
   rw[hi]at hj
   cases hj
   rw[hx]at hz
   cases hz
  ·simp only[upd,if_neg e]at hu
   exact r.own.cel j z u hj hz hu
theorem Ztt{x:Str}{i:Nat}(nd:names.Nodup)(hi:names[i]?=some x)(hx:cs.names.lookup x=some .cell)(hk:cs.kind=.function)(hcl:(cl.lookup x).isSome=true): Sto prog w (Zbq dp un gd cn cs L a ccd cl outer h₀ hu names) x i:=by
 intro W ρ H fr s Q E v y r vy q
 obtain⟨m,c,led,r⟩:=r
 obtain⟨d,hd⟩:=Option.isSome_iff_exists.mp hcl
 obtain⟨o,v₀,ho,hv₀⟩:=r.own.all x d hd
 have inl:=r.clIn _ ho
 have N2:News h₀ L s.heap ((d,o)::led.filter (fun q=>decide (q.1≠d))):=by
  intro q hq
  rcases Zz7.mp hq with e | hq
  ·subst e
   exact r.N _ inl
  ·exact r.N q (List.mem_filter.mp hq).1
 refine storeX_C r.F N2 hd (UpdF.head fun q hq=>by simpa using (List.mem_filter.mp hq).2) hv₀ (fun h' o' F' N' ho'=>?_) hk hx
 have keep:∀q∈led,q.1≠d→q∈(d,o')::led.filter (fun q=>decide (q.1≠d)):=fun q hq hn=>List.mem_cons_of_mem _ (List.mem_filter.mpr ⟨hq,by simpa using hn⟩)
 refine q h' s.toks ⟨m,(d,o')::c.filter (fun q=>decide (q.1≠d)),_,⟨F',N',⟨r.R.len,r.R.nd,fun j vs e=>?_,fun q hq=>Zdu (r.R.tups q hq) fun z=>keep q z (r.clTup _ ho q hq).symm,r.R.kind⟩,r.sc,r.sc0,fun q hq=>keep q (r.frIn q hq) (r.apart _ ho q hq).symm,r.frOff,fun q hq=>?_,fun q hq=>?_,fun q hq t ht=>?_,r.frTup,fun q hq t ht=>?_,⟨fun j z u hj hz hu=>?_,fun j z u hj hz hu=>?_,fun z e hz=>?_,r.own.one⟩⟩⟩
 ·obtain⟨l,b,xs,k,h1,h2,h3⟩:=r.R.lists j vs e
  exact⟨l,b,xs,k,h1,Zdu h2 fun z=>keep _ z fun e=>r.clOff _ ho (e▸List.mem_of_getElem? h1),h3⟩
 ·rcases Zz7.mp hq with e | hq
  ·exact e▸List.mem_cons_self
  ·obtain⟨h1,h2⟩:=List.mem_filter.mp hq
   exact keep q (r.clIn q h1) (by simpa using h2)
 ·rcases Zz7.mp hq with e | hq
  ·rw[e]
   exact(r.clOff _ ho:d∉W.pi)
  ·exact r.clOff q (List.mem_filter.mp hq).1
 ·rcases Zz7.mp hq with e | hq
  ·rw[e]
   exact(r.apart _ ho t ht:d≠t.1)
  ·exact r.apart q (List.mem_filter.mp hq).1 t ht
 ·rcases Zz7.mp hq with e | hq
  ·rw[e]
   exact(r.clTup _ ho t ht:d≠t.1)
  ·exact r.clTup q (List.mem_filter.mp hq).1 t ht
 ·by_cases e:j=i
  ·subst e
   rw[hi]at hj
   cases hj
   rw[hx]at hz
   cases hz
  ·simp only[upd,if_neg e]at hu
   exact r.own.loc j z u hj hz hu
 ·by_cases e:j=i
  ·subst e
   rw[hi]at hj
   cases hj
   simp only[upd,if_true]at hu
   cases hu
   exact⟨d,o',y,hd,List.mem_cons_self,ho',vy⟩
  ·have hzx:z≠x:=fun e'=>by
    subst e'
    exact e ((List.getElem?_inj (Zz6.mp hj).1 nd).mp (hj.trans hi.symm))
   simp only[upd,if_neg e]at hu
   obtain⟨b,ob,y',h1,h2,h3,h4⟩:=r.own.cel j z u hj hz hu
   have:b≠d:=fun e'=>by
    subst e'
    exact hzx (r.own.one z x b h1 hd)
   exact⟨b,ob,y',h1,List.mem_cons_of_mem _ (List.mem_filter.mpr ⟨h2,by simpa using this⟩),h3,h4⟩
 ·by_cases e':e=d
  ·subst e'
   exact⟨o',_,List.mem_cons_self,ho'⟩
  ·obtain⟨ob,v1,h1,h2⟩:=r.own.all z e hz
   exact⟨ob,v1,List.mem_cons_of_mem _ (List.mem_filter.mpr ⟨h1,by simpa using e'⟩),h2⟩
end
end PM
end
section
namespace PM
open PySem PySem.W PySem.Calls PyProof.Rows PyProof PyProof.Rows.LCg
theorem ZfS{Γ:Cx}{W:Wd}{ρ:Lc}{H:Hp}{fr:List (Addr×Obj)}{h:Heap}{D:Addr}{ys:List Value}{k:Nat}{vs:List V}(r:Rep Γ W ρ H ((D,Zbz ys k)::fr) h)(ap:∀t∈fr,D≠t.1)(hv:VRs W vs ys)(hl:vs.length≤LEN):
  ∃W',W.Le W'∧Rep Γ W' ρ (H++[vs]) fr h∧VR W' (.ref H.length) (.ref D):=by
 obtain⟨m,c,led,r⟩:=r
 have le:W.Le ⟨W.pi++[D],W.tups,W.sc⟩:=⟨List.prefix_append _ _,fun q hq=>hq,rfl⟩
 have h0:0<W.pi.length:=(Zz6.mp r.sc0).1
 have at_n:(W.pi++[D])[H.length]?=some D:=by rw[←r.R.len];simp
 have off:=r.frOff _ Zz5
 refine⟨⟨W.pi++[D],W.tups,W.sc⟩,le,⟨m,c,led,⟨r.F,r.N,⟨by simp[r.R.len],?_,fun i us e=>?_,r.R.tups,r.R.kind⟩,r.sc,(List.getElem?_append_left h0).trans r.sc0,fun q hq=>r.frIn q (Zz2 _ hq),fun q hq=>?_,r.clIn,fun q hq=>?_,fun q hq t ht=>r.apart q hq t (Zz2 _ ht),fun q hq=>r.frTup q (Zz2 _ hq),r.clTup,Γ.mono le r.own⟩⟩,.ref at_n⟩
 ·show(W.pi++[D]).Nodup
  rw[List.nodup_append]
  refine⟨r.R.nd,by simp,fun a ha b hb=>?_⟩
  rw[List.mem_singleton.mp hb]
  exact fun e=>off (e▸ha)
 ·by_cases hi:i<H.length
  ·rw[List.getElem?_append_left hi]at e
   obtain⟨l,a,zs,j,h1,h2,h3⟩:=r.R.lists i us e
   exact⟨l,a,zs,j,le.at h1,h2,h3.mono le⟩
  ·have:i=H.length:=by
    have:=(Zz6.mp e).1
    simp at this
    omega
   subst this
   simp at e
   subst e
   exact⟨hl,D,ys,k,at_n,List.mem_cons_of_mem _ (r.frIn _ Zz5),hv.mono le⟩
 ·intro hm
  rcases Zz8.mp hm with hm | hm
  ·exact r.frOff q (Zz2 _ hq) hm
  ·exact ap q hq (Zz9.mp hm).symm
 ·intro hm
  rcases Zz8.mp hm with hm | hm
  ·exact r.clOff q hq hm
  ·exact r.apart q hq _ Zz5 (Zz9.mp hm)
def ZvN(Γ:Cx)(C:Addr)(ts:List (Str×Nat))(ρ0:Lc)(W:Wd)(ρ:Lc)(m:Str→Option Value)(cells:List (Addr×Obj)): Prop:=
 ∃oC m₂ cs,cells=(C,oC)::cs∧(∀q∈cs,q.1≠C)∧NsObj oC m₂∧(∀p∈ts,∃v y,ρ p.2=some v∧m₂ p.1=some y∧VR W v y)∧(∀j,(∀p∈ts,p.2≠j)→ρ j=ρ0 j)∧Γ.Own W ρ0 m cs
noncomputable def ZaZ(Γ:Cx)(scope:Scope)(cl:List (Str×Addr))(C:Addr)(ts:List (Str×Nat))(ρ0:Lc): Cx where
 A:=Γ.A
 env:=compEnvC scope cl C Γ.env
 h₀:=Γ.h₀
 L:=Γ.L
 hh:=Γ.hh
 hu:=Γ.hu
 Own:=ZvN Γ C ts ρ0
 mono:=fun l h=>by
  obtain⟨oC,m₂,cs,e,h0,h1,h2,h3,h4⟩:=h
  exact⟨oC,m₂,cs,e,h0,h1,fun p hp=>by
   obtain⟨v,y,a,b,c⟩:=h2 p hp
   exact⟨v,y,a,b,c.mono l⟩,h3,Γ.mono l h4⟩
section
variable {Γ:Cx} {scope:Scope} {cl:List (Str×Addr)} {C:Addr} {ts:List (Str×Nat)} {ρ0:Lc} {W:Wd} {ρ:Lc} {H:Hp} {fr:List (Addr×Obj)} {h:Heap}
theorem Zog{oC:Obj}{m₂:Str→Option Value}(r:Rep Γ W ρ0 H ((C,oC)::fr) h)(ap:∀t∈fr,C≠t.1)(hC:NsObj oC m₂)(ht:∀p∈ts,∃v y,ρ p.2=some v∧m₂ p.1=some y∧VR W v y)(hj:∀j,(∀p∈ts,p.2≠j)→ρ j=ρ0 j): Rep (ZaZ Γ scope cl C ts ρ0) W ρ H fr h:=by
 obtain⟨m,c,led,r⟩:=r
 refine⟨m,(C,oC)::c,led,⟨r.F,r.N,r.R,r.sc,r.sc0,fun q hq=>r.frIn q (Zz2 _ hq),fun q hq=>r.frOff q (Zz2 _ hq),fun q hq=>?_,fun q hq=>?_,fun q hq t ht=>?_,fun q hq=>r.frTup q (Zz2 _ hq),fun q hq t ht=>?_,⟨oC,m₂,c,rfl,fun q hq=>r.apart q hq _ Zz5,hC,ht,hj,r.own⟩⟩⟩
 ·rcases Zz7.mp hq with e | hq
  ·exact e▸r.frIn _ Zz5
  ·exact r.clIn q hq
 ·rcases Zz7.mp hq with e | hq
  ·exact e▸r.frOff _ Zz5
  ·exact r.clOff q hq
 ·rcases Zz7.mp hq with e | hq
  ·exact e▸ap t ht
  ·exact r.apart q hq t (Zz2 _ ht)
 ·rcases Zz7.mp hq with e | hq
  ·exact e▸r.frTup _ Zz5 t ht
  ·exact r.clTup q hq t ht
theorem Rep.fromC(r:Rep (ZaZ Γ scope cl C ts ρ0) W ρ H fr h): ∃oC m₂,NsObj oC m₂∧Rep Γ W ρ0 H ((C,oC)::fr) h:=by
 obtain⟨m,c,led,r⟩:=r
 obtain⟨oC,m₂,cs,e,h0,h1,h2,h3,h4⟩:=r.own
 subst e
 refine⟨oC,m₂,h1,m,cs,led,⟨r.F,r.N,r.R,r.sc,r.sc0,fun q hq=>?_,fun q hq=>?_,fun q hq=>r.clIn q (Zz2 _ hq),fun q hq=>r.clOff q (Zz2 _ hq),fun q hq t ht=>?_,fun q hq t ht=>?_,fun q hq=>r.clTup q (Zz2 _ hq),h4⟩⟩
 ·rcases Zz7.mp hq with e | hq
  ·exact e▸r.clIn _ Zz5
  ·exact r.frIn q hq
 ·rcases Zz7.mp hq with e | hq
  ·exact e▸r.clOff _ Zz5
  ·exact r.frOff q hq
 ·rcases Zz7.mp ht with e | ht
  ·rw[e]
   exact h0 q hq
  ·exact r.apart q (Zz2 _ hq) t ht
 ·rcases Zz7.mp hq with e | hq
  ·exact e▸r.clTup _ Zz5 t ht
  ·exact r.frTup q hq t ht
end
def JF(prog:Program)(w:World)(Γ:Cx)(ifs:List Expr)(f:Ts): Prop:=∀(W:Wd) (ρ:Lc) (H:Hp) (fr:List (Addr×Obj)) (s:Shared) (Q:Bool→Shared→Prop) (E:Value→Shared→Prop) (b:Bool) (H':Hp),
 Rep Γ W ρ H fr s.heap→f ρ H=some (b,H')→Zh9 Γ W ρ H' fr s Q b →
 wpAny (model prog w) Γ.A (forIn ifs true fun c r=>if r=true then do let ok ←isTrue c Γ.env (eval c Γ.env);pure (ForInStep.yield ok)else pure (ForInStep.yield r)) Q E s
section
variable {prog:Program} {w:World} {Γ:Cx}
theorem JF.nil: JF prog w Γ [] Zby:=fun W ρ H fr s Q E b H' r hf post=>by
 cases hf
 exact wpAny_pure (post W s.heap s.toks (.refl W) r)
theorem JF.one{e:Expr}{t:Ts}(h:JT prog w Γ e t): JF prog w Γ [e] t:=fun W ρ H fr s Q E b H' r hf post=>by
 rw[List.forIn_cons]
 simp only[if_true,List.forIn_nil]
 refine wpAny_bind (wpAny_bind (h W ρ H fr s _ E b H' r hf fun W1 k1 t1 l1 r1=>wpAny_pure ?_))
 exact wpAny_pure (post W1 k1 t1 l1 r1)
end
end PM
end
section
namespace PM
open PySem PySem.W PySem.Calls PyProof.Rows PyProof PyProof.Rows.LCg
noncomputable def Zci(nx:Nx)(put:V→Lc→Option Lc)(c:Ts)(f:Ex)(ρ:Lc): Nat→Nat→List V→Hp→Option (List V×Hp)
 | 0,_,_,_=>none
 | n+1,i,acc,H=>(nx i H).bind fun o=>match o with
  | none=>some (acc,H)
  | some v=>(put v ρ).bind fun ρ1=>(c ρ1 H).bind fun b=>if b.1 then(f ρ1 b.2).bind fun p=>(if acc.length<LEN then Zci nx put c f ρ n (i+1) (acc++[p.1]) p.2 else none)else Zci nx put c f ρ n (i+1) acc b.2
noncomputable def Zbe(g:Src)(put:V→Lc→Option Lc)(c:Ts)(f:Ex): Ex:=fun ρ H=>(g ρ H).bind fun z=>(Zci z.1 put c f ρ z.2.1 0 [] z.2.2).map fun q=>(.ref q.2.length,q.2++[q.1])
def ZgE(Γ:Cx)(W0:Wd)(ρ:Lc)(fr:List (Addr×Obj))(C D:Addr)(It:Nat→List (Addr×Obj)→Prop)(nx:Nx)(put:V→Lc→Option Lc)(c:Ts)(f:Ex)(q:List V×Hp)(s:Shared)(k:Nat)(s':Shared): Prop:=
 ∃W' H' h' tk' j fs acc ys oC m₂,s' = { s with heap:=h',toks:=tk' }∧W0.Le W'∧It j fs∧NsObj oC m₂∧VRs W' acc ys∧acc.length≤LEN∧Rep Γ W' ρ H' ((C,oC)::(D,lst ys)::(fs++fr)) h'∧Zci nx put c f ρ k j acc H'=some q
section
variable {prog:Program} {w:World} {Γ:Cx}
theorem Zne{scope:Scope}{cl:List (Str×Addr)}{elt:Expr}{ts:List (Str×Nat)}{W0 W:Wd}{ρ ρ1:Lc}{H:Hp}{fr fs:List (Addr×Obj)}{C D:Addr}{It:Nat→List (Addr×Obj)→Prop}{nx:Nx}{put:V→Lc→Option Lc}{c:Ts}{f:Ex}{q:List V×Hp}{s:Shared}{h:Heap}{tk:Nat}{k j:Nat}{acc:List V}{ys:List Value}{E:Value→Shared→Prop}
  (hel:J prog w (ZaZ Γ scope cl C ts ρ) elt f) (aD:∀t∈fs++fr,D≠t.1) (cd:C≠D) (l0:W0.Le W) (hit:It (j+1) fs) (hv:VRs W acc ys) (r:Rep (ZaZ Γ scope cl C ts ρ) W ρ1 H ((D,lst ys)::(fs++fr)) h)
  (e:((f ρ1 H).bind fun p=>(if acc.length<LEN then Zci nx put c f ρ k (j+1) (acc++[p.1]) p.2 else none))=some q):
  wpAny (model prog w) Γ.A (eval elt (compEnvC scope cl C Γ.env)) (fun x s₄=>wpAny (model prog w) Γ.A (call (.builtin "list.append") [.ref D,x]) (fun _ s₅=>∃m,m<k+1∧ZgE Γ W0 ρ fr C D It nx put c f q s m s₅) E s₄) E { s with heap:=h,toks:=tk }:=by
 obtain⟨p,e2,e⟩:=Zz0.mp e
 by_cases hlt:acc.length<LEN
 ·rw[if_pos hlt]at e
  refine hel W ρ1 H _ _ _ E _ _ r e2 fun W2 k2 t2 x l2 r2 x2=>?_
  obtain⟨oC',m₃,hC',r3⟩:=r2.fromC
  have hD:k2.get? D=some (lst ys):=r3.frAt (q:=(D,lst ys)) (Zz2 _ Zz5)
  refine append_at (hsz:=Zcx (by rw[List.size_toArray,hv.length];omega)) hD fun h' sb hg=>?_
  have hg':h'.get? D=some (lst (ys++[x])):=hg.trans (congrArg some (lst_snoc ys x))
  have r4:Rep Γ W2 ρ p.2 ([(D,lst ys)]++((C,oC')::(fs++fr))) k2:=r3.less fun q hq=>by
   rcases Zz8.mp hq with hq | hq
   ·rw[List.mem_singleton.mp hq]
    exact Zz2 _ Zz5
   ·rcases Zz7.mp hq with e | hq
    ·exact e▸List.mem_cons_self
    ·exact Zz2 _ (Zz2 _ hq)
  have r5:Rep Γ W2 ρ p.2 ([(D,lst (ys++[x]))]++((C,oC')::(fs++fr))) h':=by
   refine r4.swap (fun q hq t ht=>?_) (fun b o hb e=>sb.extBut b o (fun z=>hb (by simp[z])) e) fun q hq=>?_
   ·rw[List.mem_singleton.mp hq]
    rcases Zz7.mp ht with e | ht
    ·rw[e]
     exact cd.symm
    ·exact aD t ht
   ·rw[List.mem_singleton.mp hq]
    exact⟨hg',by simp⟩
  have r6:Rep Γ W2 ρ p.2 ((C,oC')::(D,lst (ys++[x]))::(fs++fr)) h':=r5.less fun q hq=>by
   rcases Zz7.mp hq with e | hq
   ·exact e▸List.mem_append_right _ Zz5
   ·rcases Zz7.mp hq with e | hq
    ·exact e▸List.mem_append_left _ Zz5
    ·exact Zz3 _ (Zz2 _ hq)
  exact⟨k,Nat.lt_succ_self k,W2,p.2,h',t2,j+1,fs,acc++[p.1],ys++[x],oC',m₃,rfl,l0.trans l2,hit,hC',(hv.mono l2).snoc x2,by simp;omega,r6,e⟩
 ·rw[if_neg hlt]at e
  cases e
theorem ZsH{scope:Scope}{cl:List (Str×Addr)}{elt:Expr}{ifs:List Expr}{ts:List (Str×Nat)}{W0 W:Wd}{ρ ρ1:Lc}{H:Hp}{fr fs:List (Addr×Obj)}{C D:Addr}{It:Nat→List (Addr×Obj)→Prop}{nx:Nx}{put:V→Lc→Option Lc}{c:Ts}{f:Ex}{q:List V×Hp}{s s1:Shared}{k j:Nat}{acc:List V}{ys:List Value}{oC:Obj}{m₂:Str→Option Value}{E:Value→Shared→Prop}
  (hel:J prog w (ZaZ Γ scope cl C ts ρ) elt f) (hif:JF prog w (ZaZ Γ scope cl C ts ρ) ifs c) (hs:∃h tk,s1 = { s with heap:=h,toks:=tk })
  (aC:∀t∈(D,lst ys)::(fs++fr),C≠t.1) (aD:∀t∈fs++fr,D≠t.1) (l0:W0.Le W) (hit:It (j+1) fs) (hC:NsObj oC m₂) (hv:VRs W acc ys) (hl:acc.length≤LEN) (r:Rep Γ W ρ H ((C,oC)::(D,lst ys)::(fs++fr)) s1.heap)
  (ht:∀p∈ts,∃v y,ρ1 p.2=some v∧m₂ p.1=some y∧VR W v y) (hj:∀i,(∀p∈ts,p.2≠i)→ρ1 i=ρ i)
  (e:((c ρ1 H).bind fun b=>if b.1 then(f ρ1 b.2).bind fun p=>(if acc.length<LEN then Zci nx put c f ρ k (j+1) (acc++[p.1]) p.2 else none)else Zci nx put c f ρ k (j+1) acc b.2)=some q):
  wpAny (model prog w) Γ.A (forIn ifs true fun c r=>if r=true then do let ok ←isTrue c (compEnvC scope cl C Γ.env) (eval c (compEnvC scope cl C Γ.env));pure (ForInStep.yield ok)else pure (ForInStep.yield r)) (fun ok s₃=>
   if ok=true then wpAny (model prog w) Γ.A (eval elt (compEnvC scope cl C Γ.env)) (fun x s₄=>wpAny (model prog w) Γ.A (call (.builtin "list.append") [.ref D,x]) (fun _ s₅=>∃m,m<k+1∧ZgE Γ W0 ρ fr C D It nx put c f q s m s₅) E s₄) E s₃
   else ∃m,m<k+1∧ZgE Γ W0 ρ fr C D It nx put c f q s m s₃) E s1:=by
 obtain⟨h,tk,rfl⟩:=hs
 obtain⟨b,e1,e⟩:=Zz0.mp e
 obtain⟨b,H1⟩:=b
 have rc:=Zog (scope:=scope) (cl:=cl) r aC hC ht hj
 refine hif W ρ1 H _ _ _ E b H1 rc e1 fun W1 k1 t1 l1 r1=>?_
 cases b with
 | false=>
  obtain⟨oC',m₃,hC',r2⟩:=r1.fromC
  exact⟨k,Nat.lt_succ_self k,W1,H1,k1,t1,j+1,fs,acc,ys,oC',m₃,rfl,l0.trans l1,hit,hC',hv.mono l1,hl,r2,e⟩
 | true=>exact Zne hel aD (aC (D,lst ys) Zz5) (l0.trans l1) hit (hv.mono l1) r1 e
theorem comp_core{elt iter:Expr}{x:Str}{px:Pos}{ifs:List Expr}{scope:Scope}{pos:Pos}{cl:List (Str×Addr)}{t:Nat}{g:Src}{c:Ts}{f:Ex}(hg:JI prog w Γ iter g)(hel:∀C ρ,J prog w (ZaZ Γ scope cl C [(x,t)] ρ) elt f)(hif:∀C ρ,JF prog w (ZaZ Γ scope cl C [(x,t)] ρ) ifs c)
  (hcell:∀y∈scope.names,y.2≠.cell) (hkind:scope.kind=.function) (hx:scope.names.lookup x=some .local)
  {W:Wd} {ρ:Lc} {H:Hp} {fr:List (Addr×Obj)} {s:Shared} {E:Value→Shared→Prop} {q:List V×Hp} {RR:Value→Addr→Result→Shared→Prop} (r:Rep Γ W ρ H fr s.heap) (hf:((g ρ H).bind fun z=>Zci z.1 (put1 t) c f ρ z.2.1 0 [] z.2.2)=some q)
  (hR:∀(W':Wd) (h':Heap) (tk':Nat) (C D:Addr) (oC:Obj) (m₂:Str→Option Value) (ys:List Value),W.Le W'→NsObj oC m₂→VRs W' q.1 ys→q.1.length≤LEN→(∀t∈fr,D≠t.1)→(∀t∈fr,C≠t.1)→C≠D→Rep Γ W' ρ q.2 ((C,oC)::(D,lst ys)::fr) h'→RR (.ref D) C (.ok .next) { s with heap:=h',toks:=tk' }):
  wpAny (model prog w) Γ.A (eval iter Γ.env) (fun xv s₁=>wpAny (model prog w) Γ.A (pyIter xv) (fun it s₂=>wpAny (model prog w) Γ.A (newList []) (fun acc s₃=>wpAny (model prog w) Γ.A (newFunctionEnv scope Γ.env.globals cl [] Γ.env.qual none .none (some Γ.env)) (fun cenv s₄=>
   codeAny (model prog w) Γ.A (.compStart (.ListComp elt [⟨.Name x px,iter,ifs,0⟩] scope pos) 0 it acc { cenv with scope:=relabel scope Γ.env }) (RR acc cenv.locals) s₄) E s₃) E s₂) E s₁) E s:=by
 obtain⟨z,e1,e2⟩:=Zz0.mp hf
 obtain⟨nx,n,H0⟩:=z
 refine hg W ρ H fr s _ E nx n H0 r e1 fun W1 k1 t1 itv as It fs l1 i1 r1 ap I1=>?_
 refine wpAny_newObj_type (wpAny_newFunctionEnv hcell (fun y hy=>by simp at hy) (fun h₂ hns hsb=>?_) hkind)
 dsimp only at hns hsb ⊢
 obtain⟨rD,aD⟩:=r1.more (fs:=[(k1.objs.size,lst [])]) (fun b o e=>Heap.get?_push_of_some (lst []) e) (fun q hq=>by rw[List.mem_singleton.mp hq];exact⟨Heap.get?_push_size _ rfl,Nat.le_refl _⟩)
 generalize eH:k1.push { cls:=.type "list",dict:=none,data:=.seq ([]:List Value).toArray } = K at hns hsb ⊢
 have eK:k1.push (lst [])=K:=eH
 rw[eK]at rD
 obtain⟨oC,gC,nC⟩:=ns_obj hns
 have up:∀b o,K.get? b=some o→h₂.get? b=some o:=fun b o e=>hsb.extBut b o (Nat.ne_of_lt (Heap.lt_size e)) (Heap.get?_push_of_some _ e)
 obtain⟨rC,aC⟩:=rD.more (fs:=[(K.objs.size,oC)]) up (fun q hq=>by rw[List.mem_singleton.mp hq];exact⟨gC,Nat.le_refl _⟩)
 have adr0:=I1.adr 0 fs i1
 have offs:∀b∈as,b≠k1.objs.size∧b≠K.objs.size:=fun b hb=>by
  rw[←adr0]at hb
  obtain⟨q,hq,e⟩:=Zz11.mp hb
  exact⟨e▸(aD _ Zz5 q (Zz4 _ hq)).symm,e▸(aC _ Zz5 q (Zz3 _ (Zz4 _ hq))).symm⟩
 have cd:K.objs.size≠k1.objs.size:=aC _ Zz5 (k1.objs.size,lst []) (Zz4 _ Zz5)
 have cfr:∀t∈fr,K.objs.size≠t.1:=fun t ht=>aC _ Zz5 t (Zz3 _ (Zz3 _ ht))
 have dfr:∀t∈fr,k1.objs.size≠t.1:=fun t ht=>aD _ Zz5 t (Zz3 _ ht)
 generalize k1.objs.size=D at *
 generalize K.objs.size=C at *
 have loop:∀s₃:Shared,s₃ = { s with heap:=h₂,toks:=t1+([]:List (Str×Value)).length } →
   codeAny (model prog w) Γ.A (.compLoop (.ListComp elt [⟨.Name x px,iter,ifs,0⟩] scope pos) 0 itv (.ref D) (compEnvC scope cl C Γ.env)) (RR (.ref D) C) s₃:=by
  intro s₃ hs₃
  subst hs₃
  refine codeAny_compLoop_tests (ZgE Γ W1 ρ fr C D It nx (put1 t) c f q s) ?_ n ⟨W1,H0,h₂,_,0,fs,[],[],oC,_,rfl,.refl _,i1,nC,.nil,Nat.zero_le _,rC,e2⟩
  rintro k s' ⟨W2,H2,k2,t2,j,fs2,acc,ys,oC2,m₂,rfl,l2,i2,hC2,hv2,hl2,r2,e⟩
  cases k with
  | zero=>cases e
  | succ k=>
   obtain⟨o,e4,e⟩:=Zz0.mp e
   have r2':Rep Γ W2 ρ H2 (fs2++((C,oC2)::(D,lst ys)::fr)) k2:=r2.less fun q hq=>by
    rcases Zz8.mp hq with hq | hq
    ·exact Zz2 _ (Zz2 _ (Zz4 _ hq))
    ·rcases Zz7.mp hq with e | hq
     ·exact e▸List.mem_cons_self
     ·rcases Zz7.mp hq with e | hq
      ·exact e▸List.mem_cons_of_mem _ Zz5
      ·exact Zz2 _ (Zz2 _ (Zz3 _ hq))
   have ap2:∀b∈as,∀t∈(C,oC2)::(D,lst ys)::fr,b≠t.1:=fun b hb t ht=>by
    rcases Zz7.mp ht with e | ht
    ·rw[e]
     exact(offs b hb).2
    ·rcases Zz7.mp ht with e | ht
     ·rw[e]
      exact(offs b hb).1
     ·exact ap b hb t ht
   refine I1.next j W2 ρ H2 _ fs2 _ _ _ o l2 r2' ap2 i2 e4 ?_
   cases o with
   | none=>
    cases e
    intro h' tk' r3
    exact hR W2 h' tk' C D oC2 m₂ ys (l1.trans l2) hC2 hv2 hl2 dfr cfr cd r3
   | some v=>
    intro fs3 k3 t3 y i3 r3 y3
    obtain⟨ρ3,e5,e⟩:=Zz0.mp e
    cases e5
    have a3:∀t∈fs3,t.1∈as:=fun t ht=>by
     rw[←I1.adr _ _ i3]
     exact List.mem_map_of_mem ht
    have gC3:k3.get? C=some oC2:=r3.frAt (q:=(C,oC2)) (Zz3 _ Zz5)
    have nC3:k3.Ns C m₂:=hC2.ns gC3
    refine wpAny_assign_Name (wpAny_storeName_local (lookup_relabel_local hx) nC3 (fun h4 hn4 sb4=>?_) (by simp[compEnvC,relabel,hkind]))
    obtain⟨oC4,gC4,nC4⟩:=ns_obj hn4
    have r3':Rep Γ W2 ρ H2 ([(C,oC2)]++((D,lst ys)::(fs3++fr))) k3:=r3.less fun q hq=>by
     rcases Zz8.mp hq with hq | hq
     ·rw[List.mem_singleton.mp hq]
      exact Zz3 _ Zz5
     ·rcases Zz7.mp hq with e | hq
      ·exact e▸List.mem_append_right _ (Zz2 _ Zz5)
      ·rcases Zz8.mp hq with hq | hq
       ·exact Zz4 _ hq
       ·exact Zz3 _ (Zz2 _ (Zz2 _ hq))
    have aC3:∀t∈(D,lst ys)::(fs3++fr),C≠t.1:=fun t ht=>by
     rcases Zz7.mp ht with e | ht
     ·rw[e]
      exact cd
     ·rcases Zz8.mp ht with ht | ht
      ·exact(offs _ (a3 t ht)).2.symm
      ·exact cfr t ht
    have aD3:∀t∈fs3++fr,D≠t.1:=fun t ht=>by
     rcases Zz8.mp ht with ht | ht
     ·exact(offs _ (a3 t ht)).1.symm
     ·exact dfr t ht
    have r4:Rep Γ W2 ρ H2 ([(C,oC4)]++((D,lst ys)::(fs3++fr))) h4:=by
     refine r3'.swap (fun q hq t ht=>?_) (fun b o hb e=>sb4.extBut b o (fun z=>hb (by simp[z,compEnvC])) e) fun q hq=>?_
     ·rw[List.mem_singleton.mp hq]
      exact aC3 t ht
     ·rw[List.mem_singleton.mp hq]
      exact⟨gC4,by simp⟩
    refine ZsH (hel C ρ) (hif C ρ) ⟨h4,_,rfl⟩ aC3 aD3 l2 i3 nC4 hv2 hl2 r4 (fun p hp=>?_) (fun i hi=>?_) e
    ·rw[List.mem_singleton.mp hp]
     exact⟨v,y,by simp[upd],by simp,y3⟩
    ·have:i≠t:=fun e=>hi (x,t) Zz5 e.symm
     simp[upd,this]
 refine codeAny_compStart_list (loop _ rfl) ?_
 exact I1.self 0 W1 ρ H0 (([(C,oC)]++[(D,lst [])])++fr) fs _ _ _ (.refl _) (rC.less fun q hq=>by
  rcases Zz8.mp hq with hq | hq
  ·exact Zz3 _ (Zz3 _ (Zz4 _ hq))
  ·rcases Zz8.mp hq with hq | hq
   ·rcases Zz8.mp hq with hq | hq
    ·exact Zz4 _ hq
    ·exact Zz3 _ (Zz4 _ hq)
   ·exact Zz3 _ (Zz3 _ (Zz3 _ hq))) i1 (loop _ rfl)
theorem ZnF{W:Wd}{ρ:Lc}{q:List V×Hp}{fr:List (Addr×Obj)}{C D:Addr}{oC:Obj}{ys:List Value}{h' h'':Heap}(hv:VRs W q.1 ys)(hl:q.1.length≤LEN)(aD:∀t∈fr,D≠t.1)(aC:∀t∈fr,C≠t.1)(cd:C≠D)(r:Rep Γ W ρ q.2 ((C,oC)::(D,lst ys)::fr) h')(sb:Heap.SameBut C h' h''):
  ∃W',W.Le W'∧Rep Γ W' ρ (q.2++[q.1]) fr h''∧VR W' (.ref q.2.length) (.ref D):=by
 have r4:Rep Γ W ρ q.2 ([]++((D,lst ys)::fr)) h'':=by
  refine Rep.swap (fs:=[(C,oC)]) (fs':=[]) r (fun q hq t ht=>?_) (fun b o hb e=>sb.extBut b o (fun z=>hb (by simp[z])) e) fun q hq=>nomatch hq
  rw[List.mem_singleton.mp hq]
  rcases Zz7.mp ht with e | ht
  ·rw[e]
   exact cd
  ·exact aC t ht
 exact ZfS r4 aD hv hl
theorem ZuA{elt iter:Expr}{x:Str}{px:Pos}{ifs:List Expr}{scope:Scope}{pos:Pos}{cl:List (Str×Addr)}{t:Nat}{g:Src}{c:Ts}{f:Ex}(hg:JI prog w Γ iter g)(hel:∀C ρ,J prog w (ZaZ Γ scope cl C [(x,t)] ρ) elt f)(hif:∀C ρ,JF prog w (ZaZ Γ scope cl C [(x,t)] ρ) ifs c)
  (hclos:closureFor scope Γ.env=pure cl) (hcell:∀y∈scope.names,y.2≠.cell) (hkind:scope.kind=.function) (hnames:∀y∈scope.names,y.2=.local→scope.names.lookup y.1=some .local) (hx:scope.names.lookup x=some .local) (hs:∀x,foldedSetIterable iter Γ.env x=pure x:=by intro _;rfl):
  J prog w Γ (.ListComp elt [⟨.Name x px,iter,ifs,0⟩] scope pos) (Zbe g (put1 t) c f):=by
 intro W ρ H fr s Q E v H' r hf post
 obtain⟨z,e1,hf⟩:=Zz0.mp hf
 obtain⟨q,e2,e3⟩:=Zz1.mp hf
 cases e3
 rw[eval_ListComp]
 refine wpAny_comprehension_free (use:=Option.none) rfl hs hclos hkind hnames ?_
 refine comp_core (RR:=fun acc C=>compPost (model prog w) Γ.A E Option.none Q acc C) hg hel hif hcell hkind hx r (q:=q) (by rw[e1];exact e2) fun W2 h' tk' C D oC m₂ ys l2 hC hv hl aD aC cd r3=>?_
 refine⟨m₂,hC.ns (r3.frAt (q:=(C,oC)) Zz5),fun h'' sb=>?_⟩
 obtain⟨W5,l5,r5,v5⟩:=ZnF hv hl aD aC cd r3 sb
 exact post W5 h'' tk' _ (l2.trans l5) r5 v5
theorem Zri{elt iter:Expr}{x y:Str}{px py pos spos:Pos}{ifs:List Expr}{scope:Scope}{cl:List (Str×Addr)}{t i:Nat}{g:Src}{c:Ts}{f:Ex}(hy:Sto prog w Γ y i)(hg:JI prog w Γ iter g)(hel:∀C ρ,J prog w (ZaZ Γ scope cl C [(x,t)] ρ) elt f)(hif:∀C ρ,JF prog w (ZaZ Γ scope cl C [(x,t)] ρ) ifs c)
  (hsw:swapsWith (.ListComp elt [⟨.Name x px,iter,ifs,0⟩] scope pos) (some (.Name y py)) spos.line Γ.env=pure true)
  (hclos:closureFor scope Γ.env=pure cl) (hcell:∀y∈scope.names,y.2≠.cell) (hkind:scope.kind=.function) (hnames:∀y∈scope.names,y.2=.local→scope.names.lookup y.1=some .local) (hx:scope.names.lookup x=some .local) (hs:∀x,foldedSetIterable iter Γ.env x=pure x:=by intro _;rfl):
  S1 prog w Γ (.Assign [.Name y py] (.ListComp elt [⟨.Name x px,iter,ifs,0⟩] scope pos) spos) (Zaw i (Zbe g (put1 t) c f)):=by
 intro W ρ H fr s Q E r rp hf post
 obtain⟨p,e0,e9⟩:=Zz1.mp hf
 cases e9
 obtain⟨z,e1,hf⟩:=Zz0.mp e0
 obtain⟨q,e2,e3⟩:=Zz1.mp hf
 cases e3
 rw[exec_Assign_Name_used _ _ _ _ hsw]
 refine wpAny_bind (wpAny_standAt (wpAny_bind ?_))
 show wpAny _ Γ.A (do let _ ←comprehension (.ListComp elt [⟨.Name x px,iter,ifs,0⟩] scope pos) scope Γ.env _ (newList []) false (eval iter Γ.env) (some (assign (.Name y py) Γ.env))) _ _ s
 refine wpAny_bind (wpAny_mono (wpAny_comprehension_free (use:=some (assign (.Name y py) Γ.env)) (Q:=fun _ s'=>Q .next s') rfl hs hclos hkind hnames ?_) (fun _ s' h'=>wpAny_pure (wpAny_pure h')) fun _ _ e=>e)
 refine comp_core (RR:=fun acc C=>compPost (model prog w) Γ.A E (some (assign (.Name y py) Γ.env)) (fun _ s'=>Q .next s') acc C) hg hel hif hcell hkind hx rp (q:=q) (by rw[e1];exact e2) fun W2 h' tk' C D oC m₂ ys l2 hC hv hl aD aC cd r3=>?_
 have r4:Rep Γ W2 ρ q.2 ((D,lst ys)::(C,oC)::fr) h':=r3.less fun t ht=>by
  rcases Zz7.mp ht with e | ht
  ·exact e▸List.mem_cons_of_mem _ Zz5
  ·rcases Zz7.mp ht with e | ht
   ·exact e▸List.mem_cons_self
   ·exact Zz2 _ (Zz2 _ ht)
 obtain⟨W5,l5,r5,v5⟩:=ZfS r4 (fun t ht=>by
  rcases Zz7.mp ht with e | ht
  ·rw[e]
   exact cd.symm
  ·exact aD t ht) hv hl
 refine wpAny_assign_Name (hy W5 ρ _ _ _ _ _ _ _ r5 v5 fun h6 t6 r6=>?_)
 refine⟨m₂,hC.ns (r6.frAt (q:=(C,oC)) Zz5),fun h'' sb=>?_⟩
 have r7:Rep Γ W5 (upd ρ i (.ref q.2.length)) (q.2++[q.1]) ([]++fr) h'':=
  Rep.swap (fs:=[(C,oC)]) (fs':=[]) r6 (fun q hq t ht=>by rw[List.mem_singleton.mp hq];exact aC t ht) (fun b o hb e=>sb.extBut b o (fun z=>hb (by simp[z])) e) fun q hq=>nomatch hq
 exact post W5 h'' t6 (l2.trans l5) r7
end
end PM
end
section
namespace PM
open PySem PySem.W PySem.Calls PyProof.Rows PyProof PyProof.Rows.LCg PyProof.Rows.LCp
theorem Zlm(h:Heap): ∀as:List Addr,(∀a∈as,∃o,h.get? a=some o)→∃fs:List (Addr×Obj),fs.map (·.1)=as∧∀q∈fs,h.get? q.1=some q.2
 | [],_=>⟨[],rfl,fun q hq=>nomatch hq⟩
 | a::as,d=>by
  obtain⟨o,ho⟩:=d a Zz5
  obtain⟨fs,h1,h2⟩:=Zlm h as fun b hb=>d b (Zz2 _ hb)
  refine⟨(a,o)::fs,by rw[List.map_cons,h1],fun q hq=>?_⟩
  rcases Zz7.mp hq with e | hq
  ·rw[e]
   exact ho
  ·exact h2 q hq
structure Itr2(prog:Program)(w:World)(Γ:Cx)(W0:Wd)(it:Value)(as:List Addr)(It:Nat→List (Addr×Obj)→Prop)(nx:Nx): Prop where
 adr:∀i fs,It i fs→fs.map (·.1)=as
 pair:∀i H v,nx i H=some (some v)→∃a b,v=.tup [a,b]
 item:∀(i:Nat) (W:Wd) (ρ:Lc) (H:Hp) (fr fs:List (Addr×Obj)) (s:Shared) (Q:Option Value→Shared→Prop) (E:Value→Shared→Prop) (a b:V),W0.Le W→Rep Γ W ρ H (fs++fr) s.heap→(∀a∈as,∀t∈fr,a≠t.1)→It i fs→nx i H=some (some (.tup [a,b])) →
  (∀(T:Addr) (h1:Heap) (t1:Nat),(∀(elts:List Expr) (k:Nat) (pos:Pos) (s1:Shared) (Q1:Unit→Shared→Prop) (E1:Value→Shared→Prop),s1 = { s with heap:=h1,toks:=t1 } →
    (∀(fs':List (Addr×Obj)) (h':Heap) (x y:Value),It (i+1) fs'→Rep Γ W ρ H (fs'++fr) h'→IsTup h' T #[x,y]→VR W a x→VR W b y→Q1 () { s with heap:=h',toks:=t1 })→wpAny (model prog w) Γ.A (letOwnedTupleGo (.Tuple elts k pos) it (.ref T)) Q1 E1 s1)→Q (some (.ref T)) { s with heap:=h1,toks:=t1 })→wpAny (model prog w) Γ.A (pyNext it) Q E s
 done:∀(i:Nat) (W:Wd) (ρ:Lc) (H:Hp) (fr fs:List (Addr×Obj)) (s:Shared) (Q:Option Value→Shared→Prop) (E:Value→Shared→Prop),W0.Le W→Rep Γ W ρ H (fs++fr) s.heap→(∀a∈as,∀t∈fr,a≠t.1)→It i fs→nx i H=some none →
  (∀(h':Heap) (tk':Nat),Rep Γ W ρ H fr h'→Q none { s with heap:=h',toks:=tk' })→wpAny (model prog w) Γ.A (pyNext it) Q E s
 self:∀(i:Nat) (W:Wd) (ρ:Lc) (H:Hp) (fr fs:List (Addr×Obj)) (s:Shared) (Q E:Value→Shared→Prop) (o:Option V),W0.Le W→Rep Γ W ρ H (fs++fr) s.heap→It i fs→nx i H=some o→Q it s→wpAny (model prog w) Γ.A (pyIter it) Q E s
def JI2(prog:Program)(w:World)(Γ:Cx)(e:Expr)(g:Src): Prop:=∀(W:Wd) (ρ:Lc) (H:Hp) (fr:List (Addr×Obj)) (s:Shared) (Q E:Value→Shared→Prop) (nx:Nx) (n:Nat) (H':Hp),
 Rep Γ W ρ H fr s.heap→g ρ H=some (nx,n,H') →
 (∀(W':Wd) (h':Heap) (tk':Nat) (it:Value) (as:List Addr) (It:Nat→List (Addr×Obj)→Prop) (fs:List (Addr×Obj)),W.Le W'→It 0 fs→Rep Γ W' ρ H' (fs++fr) h'→(∀a∈as,∀t∈fr,a≠t.1)→Itr2 prog w Γ W' it as It nx→(∃o,nx 0 H'=some o)→Q it { s with heap:=h',toks:=tk' }) →
 wpAny (model prog w) Γ.A (eval e Γ.env) (fun xv s₁=>wpAny (model prog w) Γ.A (pyIter xv) Q E s₁) E s
noncomputable def Zgv(a b:Nat): Nx:=fun i H=>H[a]?.bind fun vs=>H[b]?.bind fun us=>match vs[i]?,us[i]? with
 | some x,some y=>some (some (.tup [x,y]))
 | _,_=>if i=min vs.length us.length then some none else none
noncomputable def Zii(f g:Ex): Src:=fun ρ H=>(f ρ H).bind fun p=>(g ρ p.2).bind fun q=>match p.1,q.1 with
 | .ref a,.ref b=>q.2[a]?.bind fun vs=>q.2[b]?.map fun us=>(Zgv a b,min vs.length us.length+1,q.2)
 | _,_=>none
noncomputable def ZcW(i j:Nat): V→Lc→Option Lc
 | .tup [a,b],ρ=>some (upd (upd ρ i a) j b)
 | _,_=>none
def ZS(z TI TO i1 i2 l1 l2:Addr)(i:Nat)(h:Heap): Prop:=IsZip h z TI TO .none∧PySem.IsPair h TI (.ref i1) (.ref i2)∧(∃a b,PySem.IsPair h TO a b)∧h.IsListIter i1 l1 i∧h.IsListIter i2 l2 i
theorem ZS.at{z TI TO i1 i2 l1 l2:Addr}{i:Nat}{h h':Heap}(x:ZS z TI TO i1 i2 l1 l2 i h)(e:∀a∈[z,TI,TO,i1,i2],∀o,h.get? a=some o→h'.get? a=some o): ZS z TI TO i1 i2 l1 l2 i h':=by
 obtain⟨h1,h2,⟨a,b,h3⟩,h4,h5⟩:=x
 exact⟨e z (by simp) _ h1,e TI (by simp) _ h2,⟨a,b,e TO (by simp) _ h3⟩,h4.at fun o x=>e i1 (by simp) o x,h5.at fun o x=>e i2 (by simp) o x⟩
theorem ZS.have{z TI TO i1 i2 l1 l2:Addr}{i:Nat}{h:Heap}(x:ZS z TI TO i1 i2 l1 l2 i h): ∀a∈[z,TI,TO,i1,i2],∃o,h.get? a=some o:=by
 obtain⟨h1,h2,⟨a,b,h3⟩,⟨o4,h4,_⟩,⟨o5,h5,_⟩⟩:=x
 intro c hc
 simp only[List.mem_cons,List.not_mem_nil,or_false]at hc
 rcases hc with e | e | e | e | e <;> subst e
 ·exact⟨_,h1⟩
 ·exact⟨_,h2⟩
 ·exact⟨_,h3⟩
 ·exact⟨_,h4⟩
 ·exact⟨_,h5⟩
def ZIt(z TI TO i1 i2 l1 l2:Addr)(i:Nat)(fs:List (Addr×Obj)): Prop:=fs.map (·.1)=[z,TI,TO,i1,i2]∧∀h:Heap,(∀q∈fs,h.get? q.1=some q.2)→ZS z TI TO i1 i2 l1 l2 i h
theorem Zoh{z TI TO i1 i2 l1 l2:Addr}{i:Nat}{h:Heap}(x:ZS z TI TO i1 i2 l1 l2 i h): ∃fs,ZIt z TI TO i1 i2 l1 l2 i fs∧∀q∈fs,h.get? q.1=some q.2:=by
 obtain⟨fs,h1,h2⟩:=Zlm h [z,TI,TO,i1,i2] x.have
 refine⟨fs,⟨h1,fun h' e=>x.at fun a ha o ho=>?_⟩,h2⟩
 rw[←h1]at ha
 obtain⟨q,hq,eq⟩:=Zz11.mp ha
 have:=h2 q hq
 rw[eq,ho]at this
 cases this
 exact eq▸e q hq
section
variable {prog:Program} {w:World} {Γ:Cx}
theorem ZuB{W0:Wd}{z TI TO i1 i2 l1 l2:Addr}{a b:Nat}(ea:W0.pi[a]?=some l1)(eb:W0.pi[b]?=some l2)(D:ZipApart z TI TO i1 i2 l1 l2):
  Itr2 prog w Γ W0 (.ref z) [z,TI,TO,i1,i2] (ZIt z TI TO i1 i2 l1 l2) (Zgv a b):=by
 refine⟨fun i fs h=>h.1,?_,?_,?_,?_⟩
 ·intro i H v e
  obtain⟨vs,e1,e⟩:=Zz0.mp e
  obtain⟨us,e2,e⟩:=Zz0.mp e
  split at e
  ·cases e
   exact⟨_,_,rfl⟩
  ·split at e <;> cases e
 ·intro i W ρ H fr fs s Q E va vb le r ap hit hn post
  obtain⟨vs,e1,e⟩:=Zz0.mp hn
  obtain⟨us,e2,e⟩:=Zz0.mp e
  have hvu:vs[i]?=some va∧us[i]?=some vb:=by
   split at e
   ·rename_i x y h1 h2
    cases e
    exact⟨h1,h2⟩
   ·split at e <;> cases e
  obtain⟨_,xs,k1,g1,v1⟩:=r.at e1 (le.at ea)
  obtain⟨_,ys,k2,g2,v2⟩:=r.at e2 (le.at eb)
  obtain⟨x,hx,rx⟩:=v1.at hvu.1
  obtain⟨y,hy,ry⟩:=v2.at hvu.2
  have st:ZS z TI TO i1 i2 l1 l2 i s.heap:=hit.2 _ fun q hq=>r.frAt (Zz4 _ hq)
  have Wk:=WalksT.zip2 (prog:=prog) (w:=w) (A:=Γ.A) Γ.hh z TI TO i1 i2 l1 l2 D xs.toArray ys.toArray
  have isl1:s.heap.IsList l1 xs.toArray:=⟨_,g1,rfl,k1,rfl⟩
  have isl2:s.heap.IsList l2 ys.toArray:=⟨_,g2,rfl,k2,rfl⟩
  have hi:i<min xs.toArray.size ys.toArray.size:=by
   have h1:=(Zz6.mp hx).1
   have h2:=(Zz6.mp hy).1
   simp
   omega
  refine Wk.item i s Q E hi ⟨st.1,st.2.1,st.2.2.1,st.2.2.2.1,st.2.2.2.2,isl1,isl2⟩ fun T vals h1 t1 hp hT hTup hmid keep1=>post T h1 t1 ?_
  intro elts k pos s1 Q1 E1 es1 q1
  subst es1
  have hTw:=Wk.apart i T _ hmid
  refine Wk.go elts k pos i T _ Q1 E1 hmid fun h2 st2 keep2=>?_
  obtain⟨x',y',hx',hy',ev⟩:=hp
  have ex:x'=x:=by
   have:xs[i]?=some x':=by simpa using hx'
   rw[hx]at this
   exact(Option.some.inj this).symm
  have ey:y'=y:=by
   have:ys[i]?=some y':=by simpa using hy'
   rw[hy]at this
   exact(Option.some.inj this).symm
  subst ex ey ev
  obtain⟨fs',hit',at'⟩:=Zoh (h:=h2) (⟨st2.1,st2.2.1,st2.2.2.1,st2.2.2.2.1,st2.2.2.2.2.1⟩:ZS z TI TO i1 i2 l1 l2 (i+1) h2)
  obtain⟨oT,gT,cT,nT,dT⟩:=hTup
  refine q1 fs' h2 x' y' hit' ?_ ⟨oT,keep2 T oT hTw gT,cT,nT,dT⟩ rx ry
  refine r.swap (fs':=fs') (fun q hq t ht=>?_) (fun c o hc e=>?_) fun q hq=>⟨at' q hq,?_⟩
  ·exact ap _ (hit.1▸List.mem_map_of_mem hq) t ht
  ·rw[hit.1]at hc
   have hcw:c∉[z,TO,i1,i2]:=fun h=>hc (by simp at h ⊢;rcases h with h | h | h | h <;> simp[h])
   exact keep2 c o hcw (keep1 c o hcw e)
  ·rw[hit.1,←hit'.1]
   exact List.mem_map_of_mem hq
 ·intro i W ρ H fr fs s Q E le r ap hit hn post
  obtain⟨vs,e1,e⟩:=Zz0.mp hn
  obtain⟨us,e2,e⟩:=Zz0.mp e
  obtain⟨_,xs,k1,g1,v1⟩:=r.at e1 (le.at ea)
  obtain⟨_,ys,k2,g2,v2⟩:=r.at e2 (le.at eb)
  have hi:i=min vs.length us.length:=by
   split at e
   ·cases e
   ·split at e
    ·assumption
    ·cases e
  have st:ZS z TI TO i1 i2 l1 l2 i s.heap:=hit.2 _ fun q hq=>r.frAt (Zz4 _ hq)
  have Wk:=WalksT.zip2 (prog:=prog) (w:=w) (A:=Γ.A) Γ.hh z TI TO i1 i2 l1 l2 D xs.toArray ys.toArray
  have hm:min xs.toArray.size ys.toArray.size=i:=by simp[v1.length,v2.length,hi]
  refine Wk.done s Q E (by rw[hm];exact⟨st.1,st.2.1,st.2.2.1,st.2.2.2.1,st.2.2.2.2,⟨_,g1,rfl,k1,rfl⟩,⟨_,g2,rfl,k2,rfl⟩⟩) fun h' tk keep=>post h' tk ?_
  have:=r.swap (fs':=[]) (fun q hq t ht=>ap _ (hit.1▸List.mem_map_of_mem hq) t ht) (fun c o hc e=>keep c o (fun h=>hc (by rw[hit.1];simp at h ⊢;rcases h with h | h | h | h <;> simp[h])) e) (fun q hq=>nomatch hq)
  exact this
 ·intro i W ρ H fr fs s Q E o le r hit hn q
  obtain⟨vs,e1,e⟩:=Zz0.mp hn
  obtain⟨us,e2,e⟩:=Zz0.mp e
  obtain⟨_,xs,k1,g1,v1⟩:=r.at e1 (le.at ea)
  obtain⟨_,ys,k2,g2,v2⟩:=r.at e2 (le.at eb)
  have st:ZS z TI TO i1 i2 l1 l2 i s.heap:=hit.2 _ fun q hq=>r.frAt (Zz4 _ hq)
  have Wk:=WalksT.zip2 (prog:=prog) (w:=w) (A:=Γ.A) Γ.hh z TI TO i1 i2 l1 l2 D xs.toArray ys.toArray
  exact Wk.self i s Q E ⟨st.1,st.2.1,st.2.2.1,st.2.2.2.1,st.2.2.2.2,⟨_,g1,rfl,k1,rfl⟩,⟨_,g2,rfl,k2,rfl⟩⟩ q
theorem JI2.zip{x:Str}{np pos:Pos}{e1 e2:Expr}{f g:Ex}(hn:Nm prog w Γ x (.type "zip"))(h1:J prog w Γ e1 f)(h2:J prog w Γ e2 g)
  (he:starEach [e1,e2] Γ.env=(false,eval e1 Γ.env)::starEach [e2] Γ.env:=by rfl) (he2:starEach [e2] Γ.env=(false,eval e2 Γ.env)::starEach [] Γ.env:=by rfl) (hp:∀pos,(backTo pos (starEach [e2] Γ.env)).any (·.1)=false:=by intro _;rfl):JI2 prog w Γ (.Call (.Name x np) [e1,e2] [] pos) (Zii f g):=by
 intro W ρ H fr s Q E nx n H' r hf post
 obtain⟨p,a1,hf⟩:=Zz0.mp hf
 obtain⟨q,a2,hf⟩:=Zz0.mp hf
 refine wpAny_Call_ofName (hn.use r ?_)
 refine PySem.Pv.callWith_type1 (wpAny_items_cons (h1 W ρ H fr s _ E _ _ r a1 fun W1 k1 t1 y1 l1 r1 v1=>?_) he) he (hp pos)
 refine wpAny_items_cons (h2 W1 ρ _ fr _ _ E _ _ r1 a2 fun W2 k2 t2 y2 l2 r2 v2=>wpAny_items_nil ?_) he2
 have v1':=v1.mono l2
 obtain⟨u1,H1⟩:=p
 obtain⟨u2,H2⟩:=q
 simp only at hf v1' v2 r2
 cases u1 <;> first | (cases hf;done) | skip
 rename_i b1
 cases u2 <;> first | (cases hf;done) | skip
 rename_i b2
 obtain⟨vs,c1,hf⟩:=Zz0.mp hf
 obtain⟨us,c2,c3⟩:=Zz1.mp hf
 cases c3
 cases v1' with
 | @ref _ m1 ea=>
 cases v2 with
 | @ref _ m2 eb=>
 obtain⟨_,xs,n1,g1,w1⟩:=r2.at c1 ea
 obtain⟨_,ys,n2,g2,w2⟩:=r2.at c2 eb
 have isl1:k2.IsList m1 xs.toArray:=⟨_,g1,rfl,n1,rfl⟩
 have isl2:k2.IsList m2 ys.toArray:=⟨_,g2,rfl,n2,rfl⟩
 refine call_zip_2 (s:={ s with heap:=k2,toks:=t2 }) isl1 isl2 fun h₁ hz hTI hTO hi1 hi2 hsz up=>?_
 have ap:=zipApart_new (n:=k2.objs.size) (Heap.lt_size g1) (Heap.lt_size g2)
 have Wk:=WalksT.zip2 (prog:=prog) (w:=w) (A:=Γ.A) Γ.hh _ _ _ _ _ m1 m2 ap xs.toArray ys.toArray
 have zs:ZS (k2.objs.size+4) (k2.objs.size+2) (k2.objs.size+3) k2.objs.size (k2.objs.size+1) m1 m2 0 h₁:=⟨hz,hTI,⟨_,_,hTO⟩,hi1,hi2⟩
 refine Wk.self 0 _ _ _ ⟨hz,hTI,⟨_,_,hTO⟩,hi1,hi2,isl1.at fun o e=>up _ o e,isl2.at fun o e=>up _ o e⟩ ?_
 obtain⟨fs,hit,at'⟩:=Zoh zs
 obtain⟨r3,ap3⟩:=r2.more (fs:=fs) (h':=h₁) (fun b o e=>up b o e) (fun q hq=>⟨at' q hq,by
  have:q.1∈fs.map (·.1):=List.mem_map_of_mem hq
  rw[hit.1]at this
  simp at this
  rcases this with e | e | e | e | e <;> rw[e] <;> omega⟩)
 refine post W2 h₁ t2 _ _ _ fs (l1.trans l2) hit r3 (fun b hb t ht=>?_) (ZuB ea eb ap) ?_
 ·rw[←hit.1]at hb
  obtain⟨q,hq,e⟩:=Zz11.mp hb
  exact e▸ap3 q hq t ht
 ·simp only[Zgv,c1,c2,Option.bind_some]
  split
  ·exact⟨_,rfl⟩
  ·rename_i hno
   have:0=min vs.length us.length:=by
    rcases Nat.eq_zero_or_pos vs.length with z | z
    ·rw[z];simp
    ·rcases Nat.eq_zero_or_pos us.length with z' | z'
     ·rw[z'];simp
     ·exact(hno vs[0] us[0] (by simp[z]) (by simp[z'])).elim
   rw[if_pos this]
   exact⟨_,rfl⟩
theorem Ztu{x1 x2:Str}{i1 i2 kt:Nat}{p1 p2 tp:Pos}(h1:Sto prog w Γ x1 i1)(h2:Sto prog w Γ x2 i2){W:Wd}{ρ:Lc}{H:Hp}{fr:List (Addr×Obj)}{s:Shared}{Q:Unit→Shared→Prop}{E:Value→Shared→Prop}{T:Addr}{y1 y2:Value}{a b:V}(r:Rep Γ W ρ H fr s.heap)(ht:IsTup s.heap T #[y1,y2])(v1:VR W a y1)(v2:VR W b y2)
  (post:∀(h':Heap) (tk':Nat),Rep Γ W (upd (upd ρ i1 a) i2 b) H fr h'→Q () { s with heap:=h',toks:=tk' }):wpAny (model prog w) Γ.A (assign (.Tuple [.Name x1 p1,.Name x2 p2] kt tp) Γ.env (.ref T)) Q E s:=by
 refine assign_Tuple_tuple Γ.hh ht rfl rfl fun g₄ he=>?_
 have r4:=r.grown (h':=g₄) fun b o e=>he b o (Nat.ne_of_lt (Heap.lt_size e)) e
 refine assignInOrder_cons (wpAny_assign_Name (h1 W ρ H fr _ _ _ a y1 r4 v1 fun k5 t5 r5=>?_))
 refine assignInOrder_cons (wpAny_assign_Name (h2 W _ H fr _ _ _ b y2 r5 v2 fun k6 t6 r6=>?_))
 exact assignInOrder_nil (post k6 t6 r6)
theorem Zhx{x1 x2:Str}{i1 i2 kt:Nat}{p1 p2 tp pos:Pos}{it:Expr}{body:List Stmt}{g:Src}{b:Sm}(h1:Sto prog w Γ x1 i1)(h2:Sto prog w Γ x2 i2)(hg:JI2 prog w Γ it g)(hb:Ss prog w Γ body b)(hs:∀x,foldedSetIterable it Γ.env x=pure x:=by intro _;rfl):
  S1 prog w Γ (.For (.Tuple [.Name x1 p1,.Name x2 p2] kt tp) it body [] pos) (ZbP g (ZcW i1 i2) b):=by
 intro W ρ H fr s Q E r rp hf post
 obtain⟨z,e1,hf⟩:=Zz0.mp hf
 obtain⟨nx,n,H0⟩:=z
 refine wpAny_For (hg W ρ H fr s _ E nx n H0 rp e1 fun W1 k1 t1 itv as It fs l1 j1 r1 ap I1 _=>?_) hs
 refine codeAny_forLoop_any (fun k s'=>∃W' ρ' H' h' tk' j fs',s' = { s with heap:=h',toks:=tk' }∧W1.Le W'∧It j fs'∧Rep Γ W' ρ' H' (fs'++fr) h'∧ZcH nx (ZcW i1 i2) b k j ρ' H'=some r) ?_ n ⟨W1,ρ,H0,k1,t1,0,fs,rfl,.refl _,j1,r1,hf⟩
 rintro k s' ⟨W2,ρ2,H2,k2,t2,j,fs2,rfl,l2,j2,r2,e⟩
 cases k with
 | zero=>cases e
 | succ k=>
  obtain⟨o,e2,e⟩:=Zz0.mp e
  cases o with
  | none=>
   cases e
   exact I1.done j W2 ρ2 H2 fr fs2 _ _ _ l2 r2 ap j2 e2 fun h' tk' r3=>wpAny_execs_nil (post W2 h' tk' (l1.trans l2) r3)
  | some v=>
   obtain⟨va,vb,ev⟩:=I1.pair j H2 v e2
   subst ev
   refine I1.item j W2 ρ2 H2 fr fs2 _ _ _ va vb l2 r2 ap j2 e2 fun T h3 t3 go=>?_
   obtain⟨ρ3,e3,e⟩:=Zz0.mp e
   cases e3
   obtain⟨q,e4,e⟩:=Zz0.mp e
   refine go _ _ _ _ _ _ rfl fun fs3 k3 y1 y2 j3 r3 ht w1 w2=>?_
   refine Ztu h1 h2 (s:={ s with heap:=k3,toks:=t3 }) r3 ht w1 w2 fun k4 t4 r4=>?_
   refine hb W2 _ H2 (fs3++fr) _ _ _ q r4 e4 ?_
   obtain⟨u,ρ5,H5⟩:=q
   cases u with
   | some u=>
    cases e
    exact fun W5 k5 t5 x5 l5 r5 v5=>post W5 k5 t5 x5 ((l1.trans l2).trans l5) (r5.less fun q hq=>List.mem_append_right _ hq) v5
   | none=>exact fun W5 k5 t5 l5 r5=>⟨k,Nat.lt_succ_self k,W5,ρ5,H5,k5,t5,j+1,fs3,rfl,l2.trans l5,j3,r5,e⟩
theorem ZmJ{elt iter:Expr}{x x₂:Str}{px px₂ tp:Pos}{kt:Nat}{scope:Scope}{pos:Pos}{cl:List (Str×Addr)}{t t₂:Nat}{g:Src}{f:Ex}(hg:JI2 prog w Γ iter g)(hel:∀C ρ,J prog w (ZaZ Γ scope cl C [(x,t),(x₂,t₂)] ρ) elt f)
  (hcell:∀y∈scope.names,y.2≠.cell) (hkind:scope.kind=.function) (hx:scope.names.lookup x=some .local) (hx₂:scope.names.lookup x₂=some .local) (hxx:x≠x₂) (htt:t≠t₂)
  {W:Wd} {ρ:Lc} {H:Hp} {fr:List (Addr×Obj)} {s:Shared} {E:Value→Shared→Prop} {q:List V×Hp} {RR:Value→Addr→Result→Shared→Prop} (r:Rep Γ W ρ H fr s.heap) (hf:((g ρ H).bind fun z=>Zci z.1 (ZcW t t₂) Zby f ρ z.2.1 0 [] z.2.2)=some q)
  (hR:∀(W':Wd) (h':Heap) (tk':Nat) (C D:Addr) (oC:Obj) (m₂:Str→Option Value) (ys:List Value),W.Le W'→NsObj oC m₂→VRs W' q.1 ys→q.1.length≤LEN→(∀t∈fr,D≠t.1)→(∀t∈fr,C≠t.1)→C≠D→Rep Γ W' ρ q.2 ((C,oC)::(D,lst ys)::fr) h'→RR (.ref D) C (.ok .next) { s with heap:=h',toks:=tk' }):
  wpAny (model prog w) Γ.A (eval iter Γ.env) (fun xv s₁=>wpAny (model prog w) Γ.A (pyIter xv) (fun it s₂=>wpAny (model prog w) Γ.A (newList []) (fun acc s₃=>wpAny (model prog w) Γ.A (newFunctionEnv scope Γ.env.globals cl [] Γ.env.qual none .none (some Γ.env)) (fun cenv s₄=>
   codeAny (model prog w) Γ.A (.compStart (.ListComp elt [⟨.Tuple [.Name x px,.Name x₂ px₂] kt tp,iter,[],0⟩] scope pos) 0 it acc { cenv with scope:=relabel scope Γ.env }) (RR acc cenv.locals) s₄) E s₃) E s₂) E s₁) E s:=by
 obtain⟨z,e1,e2⟩:=Zz0.mp hf
 obtain⟨nx,n,H0⟩:=z
 refine hg W ρ H fr s _ E nx n H0 r e1 fun W1 k1 t1 itv as It fs l1 i1 r1 ap I1 hstart=>?_
 refine wpAny_newObj_type (wpAny_newFunctionEnv hcell (fun y hy=>by simp at hy) (fun h₂ hns hsb=>?_) hkind)
 dsimp only at hns hsb ⊢
 obtain⟨rD,aD⟩:=r1.more (fs:=[(k1.objs.size,lst [])]) (fun b o e=>Heap.get?_push_of_some (lst []) e) (fun q hq=>by rw[List.mem_singleton.mp hq];exact⟨Heap.get?_push_size _ rfl,Nat.le_refl _⟩)
 generalize eH:k1.push { cls:=.type "list",dict:=none,data:=.seq ([]:List Value).toArray } = K at hns hsb ⊢
 have eK:k1.push (lst [])=K:=eH
 rw[eK]at rD
 obtain⟨oC,gC,nC⟩:=ns_obj hns
 have up:∀b o,K.get? b=some o→h₂.get? b=some o:=fun b o e=>hsb.extBut b o (Nat.ne_of_lt (Heap.lt_size e)) (Heap.get?_push_of_some _ e)
 obtain⟨rC,aC⟩:=rD.more (fs:=[(K.objs.size,oC)]) up (fun q hq=>by rw[List.mem_singleton.mp hq];exact⟨gC,Nat.le_refl _⟩)
 have adr0:=I1.adr 0 fs i1
 have offs:∀b∈as,b≠k1.objs.size∧b≠K.objs.size:=fun b hb=>by
  rw[←adr0]at hb
  obtain⟨q,hq,e⟩:=Zz11.mp hb
  exact⟨e▸(aD _ Zz5 q (Zz4 _ hq)).symm,e▸(aC _ Zz5 q (Zz3 _ (Zz4 _ hq))).symm⟩
 have cd:K.objs.size≠k1.objs.size:=aC _ Zz5 (k1.objs.size,lst []) (Zz4 _ Zz5)
 have cfr:∀t∈fr,K.objs.size≠t.1:=fun t ht=>aC _ Zz5 t (Zz3 _ (Zz3 _ ht))
 have dfr:∀t∈fr,k1.objs.size≠t.1:=fun t ht=>aD _ Zz5 t (Zz3 _ ht)
 generalize k1.objs.size=D at *
 generalize K.objs.size=C at *
 have loop:∀s₃:Shared,s₃ = { s with heap:=h₂,toks:=t1+([]:List (Str×Value)).length } →
   codeAny (model prog w) Γ.A (.compLoop (.ListComp elt [⟨.Tuple [.Name x px,.Name x₂ px₂] kt tp,iter,[],0⟩] scope pos) 0 itv (.ref D) (compEnvC scope cl C Γ.env)) (RR (.ref D) C) s₃:=by
  intro s₃ hs₃
  subst hs₃
  refine codeAny_compLoop_pair (ZgE Γ W1 ρ fr C D It nx (ZcW t t₂) Zby f q s) ?_ n ⟨W1,H0,h₂,_,0,fs,[],[],oC,_,rfl,.refl _,i1,nC,.nil,Nat.zero_le _,rC,e2⟩
  rintro k s' ⟨W2,H2,k2,t2,j,fs2,acc,ys,oC2,m₂,rfl,l2,i2,hC2,hv2,hl2,r2,e⟩
  cases k with
  | zero=>cases e
  | succ k=>
   obtain⟨o,e4,e⟩:=Zz0.mp e
   have r2':Rep Γ W2 ρ H2 (fs2++((C,oC2)::(D,lst ys)::fr)) k2:=r2.less fun q hq=>by
    rcases Zz8.mp hq with hq | hq
    ·exact Zz2 _ (Zz2 _ (Zz4 _ hq))
    ·rcases Zz7.mp hq with e | hq
     ·exact e▸List.mem_cons_self
     ·rcases Zz7.mp hq with e | hq
      ·exact e▸List.mem_cons_of_mem _ Zz5
      ·exact Zz2 _ (Zz2 _ (Zz3 _ hq))
   have ap2:∀b∈as,∀t∈(C,oC2)::(D,lst ys)::fr,b≠t.1:=fun b hb t ht=>by
    rcases Zz7.mp ht with e | ht
    ·rw[e]
     exact(offs b hb).2
    ·rcases Zz7.mp ht with e | ht
     ·rw[e]
      exact(offs b hb).1
     ·exact ap b hb t ht
   cases o with
   | none=>
    cases e
    exact I1.done j W2 ρ H2 _ fs2 _ _ _ l2 r2' ap2 i2 e4 fun h' tk' r3=>hR W2 h' tk' C D oC2 m₂ ys (l1.trans l2) hC2 hv2 hl2 dfr cfr cd r3
   | some v=>
    obtain⟨va,vb,ev⟩:=I1.pair j H2 v e4
    subst ev
    refine I1.item j W2 ρ H2 _ fs2 _ _ _ va vb l2 r2' ap2 i2 e4 fun T h3 t3 go=>?_
    obtain⟨ρ3,e5,e⟩:=Zz0.mp e
    cases e5
    refine go _ _ _ _ _ _ rfl fun fs3 k3 y1 y2 i3 r3 htup w1 w2=>?_
    have a3:∀t∈fs3,t.1∈as:=fun t ht=>by
     rw[←I1.adr _ _ i3]
     exact List.mem_map_of_mem ht
    refine assign_Tuple_tuple (s:={ s with heap:=k3,toks:=t3 }) Γ.hh htup rfl rfl fun g₄ he=>?_
    have r3g:=r3.grown (h':=g₄) fun b o e=>he b o (Nat.ne_of_lt (Heap.lt_size e)) e
    have gC3:g₄.get? C=some oC2:=r3g.frAt (q:=(C,oC2)) (Zz3 _ Zz5)
    have nC3:g₄.Ns C m₂:=hC2.ns gC3
    refine assignInOrder_cons (wpAny_assign_Name (wpAny_storeName_local (lookup_relabel_local hx) nC3 (fun h5 hn5 sb5=>?_) (by simp[compEnvC,relabel,hkind])))
    refine assignInOrder_cons (wpAny_assign_Name (wpAny_storeName_local (lookup_relabel_local hx₂) hn5 (fun h4 hn4 sb4=>?_) (by simp[compEnvC,relabel,hkind])))
    refine assignInOrder_nil ?_
    obtain⟨oC4,gC4,nC4⟩:=ns_obj hn4
    have r3':Rep Γ W2 ρ H2 ([(C,oC2)]++((D,lst ys)::(fs3++fr))) g₄:=r3g.less fun q hq=>by
     rcases Zz8.mp hq with hq | hq
     ·rw[List.mem_singleton.mp hq]
      exact Zz3 _ Zz5
     ·rcases Zz7.mp hq with e | hq
      ·exact e▸List.mem_append_right _ (Zz2 _ Zz5)
      ·rcases Zz8.mp hq with hq | hq
       ·exact Zz4 _ hq
       ·exact Zz3 _ (Zz2 _ (Zz2 _ hq))
    have aC3:∀t∈(D,lst ys)::(fs3++fr),C≠t.1:=fun t ht=>by
     rcases Zz7.mp ht with e | ht
     ·rw[e]
      exact cd
     ·rcases Zz8.mp ht with ht | ht
      ·exact(offs _ (a3 t ht)).2.symm
      ·exact cfr t ht
    have aD3:∀t∈fs3++fr,D≠t.1:=fun t ht=>by
     rcases Zz8.mp ht with ht | ht
     ·exact(offs _ (a3 t ht)).1.symm
     ·exact dfr t ht
    have r4:Rep Γ W2 ρ H2 ([(C,oC4)]++((D,lst ys)::(fs3++fr))) h4:=by
     refine r3'.swap (fun q hq t ht=>?_) (fun b o hb e=>sb4.extBut b o (fun z=>hb (by simp[z,compEnvC])) (sb5.extBut b o (fun z=>hb (by simp[z,compEnvC])) e)) fun q hq=>?_
     ·rw[List.mem_singleton.mp hq]
      exact aC3 t ht
     ·rw[List.mem_singleton.mp hq]
      exact⟨gC4,by simp⟩
    have rc:=Zog (scope:=scope) (cl:=cl) (ts:=[(x,t),(x₂,t₂)]) (ρ:=upd (upd ρ t va) t₂ vb) r4 aC3 nC4 (fun p hp=>by
     rcases Zz7.mp hp with e | hp
     ·rw[e]
      exact⟨va,y1,by simp[upd,htt],by simp[hxx],w1⟩
     ·rw[List.mem_singleton.mp hp]
      exact⟨vb,y2,by simp[upd],by simp,w2⟩) (fun i hi=>by
     have h1:i≠t:=fun e=>hi (x,t) Zz5 e.symm
     have h2:i≠t₂:=fun e=>hi (x₂,t₂) (Zz2 _ Zz5) e.symm
     simp[upd,h1,h2])
    exact Zne (hel C ρ) aD3 cd l2 i3 hv2 rc e
 refine codeAny_compStart_list (loop _ rfl) ?_
 obtain⟨o0,ho0⟩:=hstart
 exact I1.self 0 W1 ρ H0 (([(C,oC)]++[(D,lst [])])++fr) fs _ _ _ o0 (.refl _) (rC.less fun q hq=>by
  rcases Zz8.mp hq with hq | hq
  ·exact Zz3 _ (Zz3 _ (Zz4 _ hq))
  ·rcases Zz8.mp hq with hq | hq
   ·rcases Zz8.mp hq with hq | hq
    ·exact Zz4 _ hq
    ·exact Zz3 _ (Zz4 _ hq)
   ·exact Zz3 _ (Zz3 _ (Zz3 _ hq))) i1 ho0 (loop _ rfl)
theorem Ztv{elt iter:Expr}{x x₂:Str}{px px₂ tp:Pos}{kt:Nat}{scope:Scope}{pos:Pos}{cl:List (Str×Addr)}{t t₂:Nat}{g:Src}{f:Ex}(hg:JI2 prog w Γ iter g)(hel:∀C ρ,J prog w (ZaZ Γ scope cl C [(x,t),(x₂,t₂)] ρ) elt f)
  (hclos:closureFor scope Γ.env=pure cl) (hcell:∀y∈scope.names,y.2≠.cell) (hkind:scope.kind=.function) (hnames:∀y∈scope.names,y.2=.local→scope.names.lookup y.1=some .local) (hx:scope.names.lookup x=some .local) (hx₂:scope.names.lookup x₂=some .local) (hxx:x≠x₂) (htt:t≠t₂) (hs:∀x,foldedSetIterable iter Γ.env x=pure x:=by intro _;rfl):
  J prog w Γ (.ListComp elt [⟨.Tuple [.Name x px,.Name x₂ px₂] kt tp,iter,[],0⟩] scope pos) (Zbe g (ZcW t t₂) Zby f):=by
 intro W ρ H fr s Q E v H' r hf post
 obtain⟨z,e1,hf⟩:=Zz0.mp hf
 obtain⟨q,e2,e3⟩:=Zz1.mp hf
 cases e3
 rw[eval_ListComp]
 refine wpAny_comprehension_free (use:=Option.none) rfl hs hclos hkind hnames ?_
 refine ZmJ (RR:=fun acc C=>compPost (model prog w) Γ.A E Option.none Q acc C) hg hel hcell hkind hx hx₂ hxx htt r (q:=q) (by rw[e1];exact e2) fun W2 h' tk' C D oC m₂ ys l2 hC hv hl aD aC cd r3=>?_
 refine⟨m₂,hC.ns (r3.frAt (q:=(C,oC)) Zz5),fun h'' sb=>?_⟩
 obtain⟨W5,l5,r5,v5⟩:=ZnF hv hl aD aC cd r3 sb
 exact post W5 h'' tk' _ (l2.trans l5) r5 v5
end
end PM
end
section
namespace PM
open PySem PySem.W PySem.Calls PyProof.Rows PyProof PySem.Spec
theorem ZuC{prog:Program}{w:World}{A A₀:Around}{s:Shared}{base h₀:Heap}{L:Addr}{m:Str→Option Value}{lent:List (Addr×Obj)}{K:Frag}{p:Program}{loose:List Str}{mean:ExcName→Option Value}{mg mb:Str→Option Value}
  {env:Env} {outer:List Env} {R:Result→Shared→Prop} {name qual:Str} {params:Arguments} {body:List Stmt} {scope:Scope} {dV kV doc pm cdv ct oc:Value} {an od:Option Addr} {osl:Array (Option Value)} {f:Addr} {args:Args} {binds:List (Str×Value)}
  (B:Below A₀ base outer h₀) (F:Fr h₀ L s.heap m) (X₀:K.In h₀) (N:News h₀ L s.heap lent) (T:Top p loose mean mg mb h₀) (hA:A.frames=some (env::outer)) (hf:env.frame=some L) (hke:env.scope.kind=.function)
  (ho:K.lookup f=some ⟨oc,od,.func (fnOf name qual params body scope dV kV doc pm an cdv ct),osl⟩) (hcd:codeIn K cdv qual=true) (hroom:A.depth<recursionLimit)
  (hbind:BindsTo s (fnOf name qual params body scope dV kV doc pm an cdv ct) args binds) (hall:(binds.all fun y=>scope.names.lookup y.1 == some .local || scope.names.lookup y.1 == some .cell)=true) (hone:((cellsFrom 0 scope.names []).map (·.1)).Nodup)
  (h:∀g L' h₁ tk cells,(∀b o,s.heap.get? b=some o→b∉lent.map (·.1)→g.get? b=some o)→Fr g L' h₁ (bindL (envOfC qual scope L' f cdv).kindOf binds fun _=>none)→News g L' h₁ (cells++lent)→CellsAre (bindC (envOfC qual scope L' f cdv).kindOf binds fun _=>none) (cellsFrom (L'+1) scope.names []) cells →
   (cellsFrom (L'+1) scope.names []).Pairwise (fun x y=>x.2≠y.2)→(∀n c,(n,c)∈cellsFrom (L'+1) scope.names []→L'<c)→Below A base (env::outer) g→K.In g→Top p loose mean mg mb g→(∀q∈lent,q.1<L')→s.heap.objs.size≤L' →
   wpAny (model prog w) (A.deeper (envOfC qual scope L' f cdv)) (execs body (envOfC qual scope L' f cdv)) (fun fl s'=>LeaveK h₀ L m g R (match fl with | .ret v=>v | _=>.none) s')
    (fun e s'=>wpAny (model prog w) (A.deeper (envOfC qual scope L' f cdv)) (leaving (envOfC qual scope L' f cdv) e) (fun _ s''=>R (.error e) s'') (fun e' s''=>R (.error e') s'') s') { s with heap:=h₁,toks:=tk })
  (hco:scope.isCoroutine=false) (hgen:scope.isGenerator=false) (hk:scope.kind=.function):codeAny (model prog w) A (.call (.ref f) args) R s:=by
 obtain⟨FG,BG,st,lv⟩:=groundX (R:=R) B F N hA hf hke
 have X:=X₀.keeps F.keep
 refine codeAny_call_function (fd:=fnOf name qual params body scope dV kV doc pm an cdv ct) hroom (X _ _ ho) rfl hco hgen rfl (codeRec_of X hcd) (hbind _ _ _ _ ?_)
 refine wpAny_newFunctionEnv_cells hk (kindsX hall _) fun fresh hfr s' inC=>?_
 subst hfr
 have up:=inC.toInCall.keep
 refine⟨(T.nolimit.keeps F.keep).keeps up,codeAny_func ?_⟩
 obtain⟨h₁,tk,hs',_⟩:=inC.done
 subst hs'
 have nod:=cellsFrom_names scope.names 0 (s.heap.objs.size+1) [] [] rfl▸hone
 obtain⟨cells,NC,Y⟩:=Cl.news (h₀:=s.heap) (L:=s.heap.objs.size) (Zz10 _) fun n c hm=>⟨inC.cell n c (lookup_of_mem_nodup nod hm),inC.above n c hm⟩
 have old:∀q∈lent,q.1<s.heap.objs.size:=fun q hq=>Heap.lt_size (N q hq).1
 refine wpAny_mono (h _ s.heap.objs.size h₁ tk cells (fun b o e nb=>hideAll_get _ e nb) ⟨inC.toInCall.ns,fun b o e=>up b o (of_hideAll _ e),Nat.le_of_eq (hideAll_size _ _)⟩ (fun q hq=>?_) Y inC.apart inC.above BG (X₀.keeps st) (T.keeps st) old (Zz10 _)) (fun fl s' hl=>lv _ _ hl) fun _ _ y=>y
 rcases Zz8.mp hq with hq | hq
 ·obtain⟨c1,c2,c3⟩:=NC q hq
  refine⟨c1,c2,?_⟩
  cases e:(hideAll s.heap (lent.map (·.1))).get? q.1 with
  | none=>rfl
  | some o=>
   have z:=of_hideAll _ e
   rw[c3]at z
   cases z
 ·exact⟨up _ _ (N q hq).1,Nat.ne_of_lt (old q hq),hideAll_none _ (List.mem_map_of_mem hq)⟩
section
variable (prog:Program) (w:World) (K:Frag) (p:Program) (loose:List Str) (mean:ExcName→Option Value) (mg mb:Str→Option Value)
def Clr(Γ:Cx)(dp un:Nat): Prop:=∃(gd:Option (List Code)) (cn:Str) (cs:Scope) (a:Addr) (ccd:Value) (cl:List (Str×Addr)) (outer:List Env) (A₀:Around) (base:Heap),
 Γ.A=ktrTop dp un gd cn cs Γ.L a ccd cl outer∧Below A₀ base outer Γ.h₀∧K.In Γ.h₀∧Top p loose mean mg mb Γ.h₀∧cs.kind=.function
def Def(f:Addr)(room:Nat)(F:List V→Hp→Option (V×Hp)): Prop:=∀(Γ:Cx) (dp un:Nat),Clr K p loose mean mg mb Γ dp un→dp+room<recursionLimit→un+10*room+300<cLine →
 ∀(W:Wd) (ρ:Lc) (H:Hp) (fr:List (Addr×Obj)) (s:Shared) (Q E:Value→Shared→Prop) (as:List V) (xs:List Value) (v:V) (H':Hp),
  Rep Γ W ρ H fr s.heap→VRs W as xs→F as H=some (v,H')→ZgB Γ W ρ H' fr s Q v→wpAny (model prog w) Γ.A (call (.ref f) xs) Q E s
end
noncomputable def ZM(n:Nat)(g:Sm): List V→Hp→Option (V×Hp):=fun as H=>if as.length=n then(g (fun i=>as[i]?) H).map fun r=>((r.1.getD .none),r.2.2)else none
theorem ZrW{kindOf:Str→Option NameKind}: ∀{ps:List Str} {xs:List Value} {m:Str→Option Value} {x:Str} {i:Nat} {y:Value},ps.Nodup→ps[i]?=some x→xs[i]?=some y→kindOf x=some .local→bindL kindOf (ps.zip xs) m x=some y:=by
 have skip:∀{ps:List Str} {xs:List Value} {m:Str→Option Value} {x:Str},x∉ps→bindL kindOf (ps.zip xs) m x=m x:=by
  intro ps
  induction ps with
  | nil=>intro xs m x _;rfl
  | cons p ps ih=>
   intro xs m x hx
   cases xs with
   | nil=>rfl
   | cons z xs=>
    simp only[List.zip_cons_cons,bindL]
    rw[ih (fun h=>hx (Zz2 _ h))]
    have:x≠p:=fun e=>hx (e▸List.mem_cons_self)
    split <;> simp[this]
 intro ps
 induction ps with
 | nil=>intro xs m x i y _ h;simp at h
 | cons p ps ih=>
  intro xs m x i y nd hp hx hk
  cases xs with
  | nil=>simp at hx
  | cons z xs=>
   obtain⟨n1,n2⟩:=List.nodup_cons.mp nd
   cases i with
   | zero=>
    simp at hp hx
    subst hp hx
    simp only[List.zip_cons_cons,bindL]
    rw[skip n1,if_pos hk]
    simp
   | succ i=>
    simp at hp hx
    simp only[List.zip_cons_cons,bindL]
    exact ih n2 hp hx hk
theorem ZrX{kindOf:Str→Option NameKind}: ∀{ps:List Str} {xs:List Value} {m:Str→Option Value} {x:Str} {i:Nat} {y:Value},ps.Nodup→ps[i]?=some x→xs[i]?=some y→kindOf x=some .cell→bindC kindOf (ps.zip xs) m x=some y:=by
 have skip:∀{ps:List Str} {xs:List Value} {m:Str→Option Value} {x:Str},x∉ps→bindC kindOf (ps.zip xs) m x=m x:=by
  intro ps
  induction ps with
  | nil=>intro xs m x _;rfl
  | cons p ps ih=>
   intro xs m x hx
   cases xs with
   | nil=>rfl
   | cons z xs=>
    simp only[List.zip_cons_cons,bindC]
    rw[ih (fun h=>hx (Zz2 _ h))]
    have:x≠p:=fun e=>hx (e▸List.mem_cons_self)
    split <;> simp[this]
 intro ps
 induction ps with
 | nil=>intro xs m x i y _ h;simp at h
 | cons p ps ih=>
  intro xs m x i y nd hp hx hk
  cases xs with
  | nil=>simp at hx
  | cons z xs=>
   obtain⟨n1,n2⟩:=List.nodup_cons.mp nd
   cases i with
   | zero=>
    simp at hp hx
    subst hp hx
    simp only[List.zip_cons_cons,bindC]
    rw[skip n1,if_neg (by rw[hk];simp)]
    simp
   | succ i=>
    simp at hp hx
    simp only[List.zip_cons_cons,bindC]
    exact ih n2 hp hx hk
theorem Zgc{cm:Str→Option Value}: ∀{cs:List (Str×Addr)} {cells:List (Addr×Obj)} {x:Str} {c:Addr},CellsAre cm cs cells→(x,c)∈cs→∃o,(c,o)∈cells∧o.data=.cell (cm x)
 | _,_,_,_,.nil,h=>nomatch h
 | _,_,_,_,.cons hd r,h=>by
  rcases Zz7.mp h with e | h
  ·cases e
   exact⟨_,List.mem_cons_self,hd⟩
  ·obtain⟨o,h1,h2⟩:=Zgc r h
   exact⟨o,List.mem_cons_of_mem _ h1,h2⟩
theorem Zoi{cm:Str→Option Value}: ∀{cs:List (Str×Addr)} {cells:List (Addr×Obj)} {q:Addr×Obj},CellsAre cm cs cells→q∈cells→∃x,(x,q.1)∈cs
 | _,_,_,.nil,h=>nomatch h
 | _,_,_,.cons hd r,h=>by
  rcases Zz7.mp h with e | h
  ·cases e
   exact⟨_,List.mem_cons_self⟩
  ·obtain⟨x,h1⟩:=Zoi r h
   exact⟨x,List.mem_cons_of_mem _ h1⟩
theorem Zc0{α β:Type}[BEq α][LawfulBEq α]: ∀{l:List (α×β)} {x:α} {y:β},l.lookup x=some y→(x,y)∈l
 | [],_,_,h=>by simp at h
 | (a,b)::r,x,y,h=>by
  rw[List.lookup_cons]at h
  split at h
  ·rename_i e
   cases h
   have:=eq_of_beq e
   subst this
   exact Zz5
  ·exact Zz2 _ (Zc0 h)
end PM
end
section
namespace PM
open PySem PySem.W PySem.Calls PyProof.Rows PyProof PySem.Spec
section
variable {prog:Program} {w:World} {K:Frag} {p:Program} {loose:List Str} {mean:ExcName→Option Value} {mg mb:Str→Option Value}
theorem ZoU{name qual:Str}{params:Arguments}{body:List Stmt}{scope:Scope}{dV kV doc pm cdv ct oc:Value}{an od:Option Addr}{osl:Array (Option Value)}{f:Addr}{names:List Str}{n room:Nat}{g:Sm}
  (ho:K.lookup f=some ⟨oc,od,.func (fnOf name qual params body scope dV kV doc pm an cdv ct),osl⟩) (hcd:codeIn K cdv qual=true) (nd:names.Nodup) (hn:n≤names.length)
  (hbind:∀s xs,xs.length=n→BindsTo s (fnOf name qual params body scope dV kV doc pm an cdv ct) ⟨xs,[]⟩ ((names.take n).zip xs)) (hkinds:∀x∈names.take n,scope.names.lookup x=some .local∨scope.names.lookup x=some .cell) (hone:((cellsFrom 0 scope.names []).map (·.1)).Nodup)
  (hco:scope.isCoroutine=false) (hgen:scope.isGenerator=false) (hk:scope.kind=.function)
  (hbody:∀(dp un:Nat) (gd:Option (List Code)) (L:Addr) (outer:List Env) (h₀:Heap) (hu:un+200<cLine),Clr K p loose mean mg mb (Zbq dp un gd qual scope L f cdv (cellsFrom (L+1) scope.names []) outer h₀ hu names) dp un→dp+room<recursionLimit→un+10*room+300<cLine →
   Ss prog w (Zbq dp un gd qual scope L f cdv (cellsFrom (L+1) scope.names []) outer h₀ hu names) body g):
  Def prog w K p loose mean mg mb f (room+1) (ZM n g):=by
 intro Γ dp un clr hd hu W ρ H fr s Q E as xs v H' r hx hF post
 obtain⟨gd,cn,cs,a,ccd,cl,outer,A₀,base,eA,B,X,T,hke⟩:=clr
 unfold ZM at hF
 split at hF
 ·rename_i hlen
  obtain⟨res,e1,e2⟩:=Zz1.mp hF
  obtain⟨o,ρ',K'⟩:=res
  cases e2
  obtain⟨m,c,led,r⟩:=r
  have hxl:xs.length=n:=by rw[hx.length,hlen]
  have inn:∀q∈led,(q.1∈W.pi∨q.1∈W.tups.map (·.1))↔q∈led.filter (fun q=>decide (q.1∈W.pi∨q.1∈W.tups.map (·.1))):=fun q hq=>⟨fun h=>List.mem_filter.mpr ⟨hq,by simpa using h⟩,fun h=>by simpa using (List.mem_filter.mp h).2⟩
  have isub:∀q∈led.filter (fun q=>decide (q.1∈W.pi∨q.1∈W.tups.map (·.1))),q∈led:=fun q hq=>(List.mem_filter.mp hq).1
  generalize hlent:led.filter (fun q=>decide (q.1∈W.pi∨q.1∈W.tups.map (·.1)))=lent at inn isub
  have notin:∀q∈led,q.1∉W.pi→(∀t∈W.tups,q.1≠t.1)→q.1∉lent.map (·.1):=fun q hq h1 h2 h3=>by
   obtain⟨t,ht,e⟩:=Zz11.mp h3
   rcases(inn t (isub t ht)).mpr ht with z | z
   ·exact h1 (e▸z)
   ·obtain⟨u,hu,e'⟩:=Zz11.mp z
    exact h2 u hu (e▸e'.symm)
  rw[eA]
  refine wpAny_call ?_
  refine ZuC (env:=envX cn cs Γ.L a ccd cl) (lent:=lent) B r.F X (fun q hq=>r.N q (isub q hq)) T rfl rfl hke ho hcd (by show dp<recursionLimit;omega) (hbind s xs hxl) ?_ hone ?_ hco hgen hk
  ·refine List.all_eq_true.mpr fun y hy=>?_
   rcases hkinds y.1 (List.of_mem_zip hy).1 with h | h <;> simp[h]
  intro g0 L' h₁ tk cells stay F' N' Y ap ab B' X' T' old szL
  have hu':(un+3)+200<cLine:=by omega
  have clr':Clr K p loose mean mg mb (Zbq (dp+1) (un+3) gd qual scope L' f cdv (cellsFrom (L'+1) scope.names []) (envX cn cs Γ.L a ccd cl::outer) g0 hu' names) (dp+1) (un+3):=
   ⟨gd,qual,scope,f,cdv,cellsFrom (L'+1) scope.names [],envX cn cs Γ.L a ccd cl::outer,_,base,rfl,B',X',T',hk⟩
  have below:∀q∈cells,L'<q.1:=fun q hq=>by
   obtain⟨x,hx⟩:=Zoi Y hq
   exact ab x _ hx
  have piLt:∀b∈W.pi,b<L':=fun b hb=>by
   obtain⟨o,ho⟩:=r.piIn b hb
   exact Nat.lt_of_lt_of_le (Heap.lt_size (r.get ho)) szL
  have tuLt:∀t∈W.tups,t.1<L':=fun t ht=>Nat.lt_of_lt_of_le (Heap.lt_size (r.get (r.R.tups t ht))) szL
  have scN:W.sc.1∉lent.map (·.1):=fun z=>by
   obtain⟨t,ht,e⟩:=Zz11.mp z
   exact r.notSc t (isub t ht) e
  have tkn:∀{i:Nat} {x:Str} {u:V},names[i]?=some x→as[i]?=some u→(names.take n)[i]?=some x∧∃y,xs[i]?=some y∧VR W u y:=fun {i x u} h1 h2=>by
   have hi:i<n:=by rw[←hlen];exact(Zz6.mp h2).1
   exact⟨by rw[List.getElem?_take_of_lt hi];exact h1,hx.at h2⟩
  have ndt:(names.take n).Nodup:=nd.sublist (List.take_sublist _ _)
  have rep:Rep (Zbq (dp+1) (un+3) gd qual scope L' f cdv (cellsFrom (L'+1) scope.names []) (envX cn cs Γ.L a ccd cl::outer) g0 hu' names) W (fun i=>as[i]?) H [] h₁:=by
   refine⟨_,cells,cells++lent,⟨F',N',⟨r.R.len,r.R.nd,fun i vs e=>?_,fun q hq=>?_,r.R.kind⟩,stay _ _ (r.F.keep _ _ r.sc) scN,r.sc0,fun q hq=>(nomatch hq),fun q hq=>(nomatch hq),fun q hq=>List.mem_append_left _ hq,fun q hq z=>?_,fun q _ t ht=>(nomatch ht),fun q hq=>(nomatch hq),fun q hq t ht=>?_,⟨fun i x u hi hk1 hu1=>?_,fun i x u hi hk1 hu1=>?_,fun x c1 hc=>?_,fun x y c1 h1 h2=>?_⟩⟩⟩
   ·obtain⟨l,b,ys,k,h1,h2,h3⟩:=r.R.lists i vs e
    exact⟨l,b,ys,k,h1,Zdu h2 fun z=>List.mem_append_right _ ((inn _ z).mp (.inl (List.mem_of_getElem? h1))),h3⟩
   ·exact Zdu (r.R.tups q hq) fun z=>List.mem_append_right _ ((inn _ z).mp (.inr (List.mem_map_of_mem hq)))
   ·exact absurd (Nat.lt_trans (piLt _ z) (below q hq)) (Nat.lt_irrefl _)
   ·exact Nat.ne_of_gt (Nat.lt_trans (tuLt t ht) (below q hq))
   ·obtain⟨h1,y,h2,h3⟩:=tkn hi hu1
    exact⟨y,ZrW ndt h1 h2 hk1,h3⟩
   ·obtain⟨h1,y,h2,h3⟩:=tkn hi hu1
    have hs:=cellsFrom_some scope.names (L'+1) [] (.inl hk1)
    obtain⟨c1,hc1⟩:=Option.isSome_iff_exists.mp hs
    obtain⟨o1,ho1,hd1⟩:=Zgc Y (Zc0 hc1)
    refine⟨c1,o1,y,hc1,ho1,?_,h3⟩
    rw[hd1,ZrX ndt h1 h2 hk1]
   ·obtain⟨o1,ho1,hd1⟩:=Zgc Y (Zc0 hc)
    exact⟨o1,_,ho1,hd1⟩
   ·exact name_of_addr ap (Zc0 h1) (Zc0 h2)
  have hb:=hbody (dp+1) (un+3) gd L' (envX cn cs Γ.L a ccd cl::outer) g0 hu' clr' (by omega) (by omega)
  have back:∀(W':Wd) (h':Heap) (tk':Nat) (x:Value),W.Le W'→Rep (Zbq (dp+1) (un+3) gd qual scope L' f cdv (cellsFrom (L'+1) scope.names []) (envX cn cs Γ.L a ccd cl::outer) g0 hu' names) W' ρ' K' [] h'→VR W' (o.getD .none) x →
    LeaveK Γ.h₀ Γ.L m g0 (fun r s'=>match r with | .ok (.ret v)=>Q v s' | .ok _=>False | .error e=>E e s') x { s with heap:=h',toks:=tk' }:=by
   intro W' h' tk' x l' r' x'
   obtain⟨m',c',led',r'⟩:=r'
   refine⟨L',m',led',r'.F,r'.N,fun FG NG=>post W' h' tk' x l' ?_ x'⟩
   have g0at:∀q∈led,q.1∉lent.map (·.1)→g0.get? q.1=some q.2:=fun q hq hn=>stay _ _ (r.N q hq).1 hn
   have frN:∀q∈fr,q.1∉lent.map (·.1):=fun q hq=>notin q (r.frIn q hq) (r.frOff q hq) (r.frTup q hq)
   have clN:∀q∈c,q.1∉lent.map (·.1):=fun q hq=>notin q (r.clIn q hq) (r.clOff q hq) (r.clTup q hq)
   have newN:∀t∈led',g0.get? t.1=none:=fun t ht=>(r'.N t ht).2.2
   have far:∀q∈led,q.1∉lent.map (·.1)→∀t∈W'.sc::led',q.1≠t.1:=fun q hq hn t ht e=>by
    rcases Zz7.mp ht with e2 | ht
    ·rw[e2,l'.sc]at e
     exact r.notSc q hq e
    ·have:=g0at q hq hn
     rw[e,newN t ht]at this
     cases this
   have farPi:∀q∈led,q.1∉lent.map (·.1)→q.1∉W'.pi:=fun q hq hn z=>by
    obtain⟨o2,h2⟩:=r'.piIn _ z
    exact far q hq hn _ h2 rfl
   have keep:∀q∈led,q.1∉lent.map (·.1)→q∈led'++led.filter (fun q=>decide (q.1∉lent.map (·.1))):=fun q hq hn=>List.mem_append_right _ (List.mem_filter.mpr ⟨hq,by simpa using hn⟩)
   refine⟨m,c,led'++led.filter (fun q=>decide (q.1∉lent.map (·.1))),⟨FG,fun q hq=>?_,r'.R.mono fun q hq=>ZeK hq fun x hx=>List.mem_append_left _ hx,l'.sc▸r.sc,r'.sc0,fun q hq=>keep q (r.frIn q hq) (frN q hq),fun q hq=>farPi q (r.frIn q hq) (frN q hq),fun q hq=>keep q (r.clIn q hq) (clN q hq),fun q hq=>farPi q (r.clIn q hq) (clN q hq),r.apart,fun q hq t ht=>far q (r.frIn q hq) (frN q hq) t (r'.R.tups t ht),fun q hq t ht=>far q (r.clIn q hq) (clN q hq) t (r'.R.tups t ht),Γ.mono l' r.own⟩⟩
   rcases Zz8.mp hq with hq | hq
   ·exact NG q hq
   ·obtain⟨h1,h2⟩:=List.mem_filter.mp hq
    exact⟨r'.F.keep _ _ (g0at q h1 (by simpa using h2)),(r.N q h1).2⟩
  refine hb W _ H [] _ _ _ (o,ρ',K') rep e1 ?_
  cases o with
  | none=>exact fun W' h' tk' l' r'=>back W' h' tk' .none l' r' .none
  | some v0=>exact fun W' h' tk' x l' r' x'=>back W' h' tk' x l' r' x'
 ·cases hF
theorem Ztw{Γ:Cx}{dp un:Nat}{x:Str}{np pos:Pos}{f:Addr}{room:Nat}{e:Expr}{es:List Expr}{g:Exs}{o:List V→Hp→Option (V×Hp)}(clr:Clr K p loose mean mg mb Γ dp un)(hn:Nm prog w Γ x (.ref f))(hkeep:keepIn K (.ref f)=true)(D:Def prog w K p loose mean mg mb f room o)(hd:dp+room<recursionLimit)(hu:un+10*room+300<cLine)
  (h:Js prog w Γ (e::es) g) (he:starEach (e::es) Γ.env=(false,eval e Γ.env)::starEach es Γ.env:=by rfl) (hp:∀pos,(backTo pos (starEach es Γ.env)).any (·.1)=false:=by intro _;rfl):J prog w Γ (.Call (.Name x np) (e::es) [] pos) (Z2 o g):=by
 intro W ρ H fr s Q E v H' r hf post
 obtain⟨q,e1,hf⟩:=Zz0.mp hf
 have X:K.In Γ.h₀:=by
  obtain⟨_,_,_,_,_,_,_,_,_,_,_,X,_⟩:=clr
  exact X
 refine wpAny_Call_ofName (hn.use r ?_)
 refine callWith_K (first:=[]) X hkeep (h pos W ρ H fr s _ E _ _ r e1 fun W1 k1 t1 xs l1 r1 x1=>⟨?_,?_⟩) he (hp pos)
 ·obtain⟨m,c,led,r1⟩:=r1
  exact X.keeps r1.F.keep
 ·exact D Γ dp un clr hd hu W1 ρ _ fr _ Q E _ xs v H' r1 x1 hf fun W2 k2 t2 y l2 r2 y2=>post W2 k2 t2 y (l1.trans l2) r2 y2
theorem ZbK{Γ:Cx}{dp un:Nat}{scope:Scope}{cl:List (Str×Addr)}{C:Addr}{ts:List (Str×Nat)}{ρ0:Lc}(h:Clr K p loose mean mg mb Γ dp un): Clr K p loose mean mg mb (ZaZ Γ scope cl C ts ρ0) dp un:=h
end
end PM
end
section
namespace PM
open PySem PySem.W PySem.Calls PyProof.Rows PyProof PySem.Spec
theorem ZiE{lo:Nat}: ∀(names:List (Str×NameKind)) (n:Nat) (acc:List (Str×Addr)),acc.Pairwise (fun x y=>x.2≠y.2)→(∀q∈acc,lo<q.2∧q.2<n)→lo<n→(cellsFrom n names acc).Pairwise (fun x y=>x.2≠y.2)∧∀q∈cellsFrom n names acc,lo<q.2
 | [],n,acc,h1,h2,_=>⟨h1,fun q hq=>(h2 q hq).1⟩
 | (y,k)::r,n,acc,h1,h2,h3=>by
  unfold cellsFrom
  by_cases hk:(k == .cell)=true
  ·rw[if_pos hk]
   refine ZiE r (n+1) ((y,n)::acc) (List.pairwise_cons.mpr ⟨fun q hq=>Nat.ne_of_gt (h2 q hq).2,h1⟩) (fun q hq=>?_) (Nat.lt_succ_of_lt h3)
   rcases Zz7.mp hq with e | hq
   ·rw[e]
    exact⟨h3,Nat.lt_succ_self n⟩
   ·exact⟨(h2 q hq).1,Nat.lt_succ_of_lt (h2 q hq).2⟩
  ·rw[if_neg hk]
   exact ZiE r n acc h1 h2 h3
theorem ZrY{P:Params}{h:Heap}{a:Addr}{ns:List Int}(w1:Well P h (.ref a) (ofPy (.list (ns.map PyData.int))))(W:Wd): ∃vs,h.get? a=some (Zbz vs 0)∧VRs W (ns.map V.int) vs:=by
 have key:∀{ns:List Int} {vs:List Value} {xs:List WData},xs=(ns.map PyData.int).map ofPy→WellAll P h vs xs→VRs W (ns.map V.int) vs:=by
  intro ns
  induction ns with
  | nil=>intro vs xs e h;subst e;cases h;exact .nil
  | cons n ns ih=>
   intro vs xs e h
   subst e
   cases h with
   | cons h1 h2=>
    cases h1 with
    | int i t=>exact .cons (.int _ _) (ih rfl h2)
 have e:ofPy (.list (ns.map PyData.int))=.list ((ns.map PyData.int).map ofPy):=by rw[ofPy,ofPys_eq]
 rw[e]at w1
 cases w1 with
 | list hg ha=>exact⟨_,hg,key rfl ha⟩
section
variable {prog:Program} {w:World} {K:Frag} {p:Program} {loose:List Str} {mean:ExcName→Option Value} {mg mb:Str→Option Value}
theorem Ztx{P:Params}{h₀:Heap}{s:Shared}{sa fa:Addr}{cd:Value}{ns:List Int}{qual pname:Str}{scope:Scope}{body:List Stmt}{names:List Str}{g:Sm}{cells:List (Addr×Obj)}{Q:Flow→Shared→Prop}{E:Value→Shared→Prop}{room:Nat}{H':Hp}
  (hbody:∀(dp un:Nat) (gd:Option (List Code)) (L a:Addr) (ccd:Value) (outer:List Env) (h₀:Heap) (hu:un+200<cLine),Clr K p loose mean mg mb (Zbq dp un gd qual scope L a ccd (cellsFrom (L+1) scope.names []) outer h₀ hu names) dp un→dp+room<recursionLimit→un+10*room+300<cLine →
   Ss prog w (Zbq dp un gd qual scope L a ccd (cellsFrom (L+1) scope.names []) outer h₀ hu names) body g)
  (hd:callerA.depth+1+room<recursionLimit) (hun:callerA.units+3+10*room+300<cLine) (hk:scope.kind=.function) (h0:names[0]?=some pname)
  (KX:K.In h₀) (T:Top p loose mean mg mb h₀) (w1:Well P h₀ (.ref sa) (ofPy (.list (ns.map PyData.int)))) (hlen:ns.length≤LEN)
  (F:Fr h₀ h₀.objs.size s.heap (bindL (envOfC qual scope h₀.objs.size fa cd).kindOf [(pname,.ref sa)] fun _=>none)) (N:News h₀ h₀.objs.size s.heap cells) (X0:CellsAre (bindC (envOfC qual scope h₀.objs.size fa cd).kindOf [(pname,.ref sa)] fun _=>none) (cellsFrom (h₀.objs.size+1) scope.names []) cells)
  (hg:ZM 1 g [.ref 0] [ns.map V.int]=some (.bool true,H')) (post:∀h' tk' m',Fr h₀ h₀.objs.size h' m'→Q (.ret (.bool true)) { s with heap:=h',toks:=tk' }):
  wpAny (model prog w) (callerA.deeper (envOfC qual scope h₀.objs.size fa cd)) (execs body (envOfC qual scope h₀.objs.size fa cd)) Q E s:=by
 have hu':(callerA.units+3)+200<cLine:=by omega
 have clr:Clr K p loose mean mg mb (Zbq (callerA.depth+1) (callerA.units+3) callerA.guards qual scope h₀.objs.size fa cd (cellsFrom (h₀.objs.size+1) scope.names []) [] h₀ hu' names) (callerA.depth+1) (callerA.units+3):=
  ⟨callerA.guards,qual,scope,fa,cd,cellsFrom (h₀.objs.size+1) scope.names [],[],_,_,rfl,below_caller h₀,KX,T,hk⟩
 have hb:=hbody (callerA.depth+1) (callerA.units+3) callerA.guards h₀.objs.size fa cd [] h₀ hu' clr hd hun
 obtain⟨vs,hsc,hv⟩:=ZrY w1 ⟨[sa],[],(sa,Zbz [] 0)⟩
 have hv':VRs ⟨[sa],[],(sa,Zbz vs 0)⟩ (ns.map V.int) vs:=by
  clear hg post w1 hlen hsc
  generalize ns.map V.int=us at hv
  have key:∀{us:List V} {xs:List Value},VRs ⟨[sa],[],(sa,Zbz [] 0)⟩ us xs→VRs ⟨[sa],[],(sa,Zbz vs 0)⟩ us xs:=by
   intro us
   induction us with
   | nil=>intro xs h;cases h;exact .nil
   | cons u us ih=>
    intro xs h
    cases h with
    | cons a b=>
     refine .cons ?_ (ih b)
     cases a with
     | none=>exact .none
     | bool b=>exact .bool b
     | int i t=>exact .int i t
     | str s t=>exact .str s t
     | tup hm _ _=>exact nomatch hm
     | ref e=>exact .ref e
  exact key hv
 have far:=ZiE (lo:=h₀.objs.size) scope.names (h₀.objs.size+1) [] .nil (fun q hq=>nomatch hq) (Nat.lt_succ_self _)
 unfold ZM at hg
 rw[if_pos (show([V.ref 0]:List V).length=1 from rfl)]at hg
 obtain⟨res,e1,e2⟩:=Zz1.mp hg
 obtain⟨o,ρ',K'⟩:=res
 have eo:o=some (.bool true):=by
  cases o with
  | none=>simp at e2
  | some v=>simp at e2;rw[e2.1]
 subst eo
 have pick:∀{i:Nat} {x:Str} {u:V},names[i]?=some x→([V.ref 0]:List V)[i]?=some u→x=pname∧u=.ref 0:=fun {i x u} h1 h2=>by
  have hi:i<1:=(Zz6.mp h2).1
  have:i=0:=by omega
  subst this
  rw[h0]at h1
  simp at h1 h2
  exact⟨h1.symm,h2.symm⟩
 have rep:Rep (Zbq (callerA.depth+1) (callerA.units+3) callerA.guards qual scope h₀.objs.size fa cd (cellsFrom (h₀.objs.size+1) scope.names []) [] h₀ hu' names) ⟨[sa],[],(sa,Zbz vs 0)⟩ (fun i=>[V.ref 0][i]?) [ns.map V.int] [] s.heap:=by
  refine⟨_,cells,cells,⟨F,N,⟨rfl,by simp,fun i us e=>?_,fun q hq=>(nomatch hq),fun q hq=>(nomatch hq)⟩,hsc,rfl,fun q hq=>(nomatch hq),fun q hq=>(nomatch hq),fun q hq=>hq,fun q hq z=>?_,fun q _ t ht=>(nomatch ht),fun q hq=>(nomatch hq),fun q hq t ht=>(nomatch ht),⟨fun i x u hi hk1 hu1=>?_,fun i x u hi hk1 hu1=>?_,fun x c1 hc=>?_,fun x y c1 h1 h2=>?_⟩⟩⟩
  ·have hi:i<1:=(Zz6.mp e).1
   have:i=0:=by omega
   subst this
   simp at e
   subst e
   exact⟨by simpa using hlen,sa,vs,0,rfl,List.mem_cons_self,hv'⟩
  ·have:=(N q hq).2.2
   rw[List.mem_singleton.mp z,hsc]at this
   cases this
  ·obtain⟨e3,e4⟩:=pick hi hu1
   subst e3 e4
   refine⟨.ref sa,?_,.ref rfl⟩
   show bindL _ _ _ _=_
   unfold bindL bindL
   rw[if_pos (show(envOfC qual scope h₀.objs.size fa cd).kindOf x=some .local from hk1)]
   simp
  ·obtain⟨e3,e4⟩:=pick hi hu1
   subst e3 e4
   have hs:=cellsFrom_some scope.names (h₀.objs.size+1) [] (.inl hk1)
   obtain⟨c1,hc1⟩:=Option.isSome_iff_exists.mp hs
   obtain⟨o1,ho1,hd1⟩:=Zgc X0 (Zc0 hc1)
   refine⟨c1,o1,.ref sa,hc1,ho1,?_,.ref rfl⟩
   rw[hd1]
   unfold bindC bindC
   rw[if_neg (show ¬(envOfC qual scope h₀.objs.size fa cd).kindOf x=some .local by show ¬scope.names.lookup x=some .local;rw[hk1];simp)]
   simp
  ·obtain⟨o1,ho1,hd1⟩:=Zgc X0 (Zc0 hc)
   exact⟨o1,_,ho1,hd1⟩
  ·exact name_of_addr far.1 (Zc0 h1) (Zc0 h2)
 refine hb _ _ _ [] s Q E _ rep e1 ?_
 intro W' h' tk' x l' r' x'
 cases x' with
 | bool _=>
  obtain⟨m',c',led',r'⟩:=r'
  exact post h' tk' m' r'.F
end
end PM
end
section
namespace PM
open PySem PySem.W PySem.Calls PyProof.Rows PyProof PyProof.Rows.LCg PyProof.Rows.LSm
theorem Rep.listAt{Γ:Cx}{W:Wd}{ρ:Lc}{H:Hp}{fr:List (Addr×Obj)}{h h':Heap}{vs:List V}{xs:List Value}{k:Nat}(r:Rep Γ W ρ H fr h)(up:∀b o,h.get? b=some o→h'.get? b=some o)(hg:h'.get? h.objs.size=some (Zbz xs k))(hv:VRs W vs xs)(hl:vs.length≤LEN):
  ∃W',W.Le W'∧Rep Γ W' ρ (H++[vs]) fr h'∧VR W' (.ref H.length) (.ref h.objs.size):=by
 obtain⟨r2,ap⟩:=r.more (fs:=[(h.objs.size,Zbz xs k)]) up (fun q hq=>by rw[List.mem_singleton.mp hq];exact⟨hg,Nat.le_refl _⟩)
 exact ZfS r2 (fun t ht=>ap _ Zz5 t ht) hv hl
noncomputable def ZdN: List V→Hp→Option (V×Hp)
 | [.ref a],H=>H[a]?.map fun vs=>(.ref H.length,H++[vs])
 | [.tup vs],H=>some (.ref H.length,H++[vs])
 | _,_=>none
noncomputable def Zex: List V→Hp→Option (V×Hp)
 | [.ref a],H=>H[a]?.map fun vs=>(.tup vs,H)
 | [.tup vs],H=>some (.tup vs,H)
 | _,_=>none
noncomputable def Zey: List V→Option (List Bool)
 | []=>some []
 | .bool b::vs=>(Zey vs).map fun bs=>b::bs
 | _::_=>none
noncomputable def Zv3: List V→Hp→Option (V×Hp)
 | [.ref a],H=>H[a]?.bind fun vs=>(Zey vs).map fun bs=>(.bool (bs.all id),H)
 | _,_=>none
noncomputable def Zij: List V→Hp→Option (V×Hp)
 | [.ref a],H=>H[a]?.bind fun vs=>(Zey vs).map fun bs=>(.bool (bs.any id),H)
 | _,_=>none
theorem ZqU{W:Wd}: ∀{vs:List V} {xs:List Value} {bs:List Bool},VRs W vs xs→Zey vs=some bs→BoolsAre xs bs:=by
 intro vs
 induction vs with
 | nil=>intro xs bs h e;cases h;cases e;exact .nil
 | cons v vs ih=>
  intro xs bs h e
  cases h with
  | cons a b=>
   cases v with
   | bool c=>
    obtain⟨cs,e1,e2⟩:=Zz1.mp e
    subst e2
    cases a
    exact .cons _ (ih b e1)
   | none=>cases e
   | int _=>cases e
   | str _=>cases e
   | tup _=>cases e
   | ref _=>cases e
section
variable {prog:Program} {w:World}
theorem Zcy: OpN prog w (fun xs=>call (.type "list") xs) ZdN:=by
 intro Γ W ρ H fr s Q E as xs v H' r hx ho post
 unfold ZdN at ho
 split at ho
 ·obtain⟨vs,e1,e2⟩:=Zz1.mp ho
  cases e2
  obtain⟨x,ex,rx⟩:=hx.one
  subst ex
  cases rx with
  | @ref _ a ea=>
   obtain⟨hl,ys,k,hg,hv⟩:=r.at e1 ea
   refine call_list_seq (hsz:=Zcx (by rw[List.size_toArray,hv.length];exact hl)) a (.inl rfl) hg rfl rfl fun h' c' up hg'=>?_
   obtain⟨W2,l2,r2,v2⟩:=r.listAt up hg' hv hl
   exact post W2 h' s.toks _ l2 r2 v2
 ·cases ho
  obtain⟨x,ex,rx⟩:=hx.one
  subst ex
  cases rx with
  | @tup _ a ys k hm hl hv=>
   refine call_list_seq (hsz:=Zcx (by rw[List.size_toArray,hv.length];exact hl)) a (.inr rfl) (r.tupAt hm) rfl rfl fun h' c' up hg'=>?_
   obtain⟨W2,l2,r2,v2⟩:=r.listAt up hg' hv hl
   exact post W2 h' s.toks _ l2 r2 v2
 ·cases ho
theorem ZrZ: OpN prog w (fun xs=>call (.type "tuple") xs) Zex:=by
 intro Γ W ρ H fr s Q E as xs v H' r hx ho post
 unfold Zex at ho
 split at ho
 ·obtain⟨vs,e1,e2⟩:=Zz1.mp ho
  cases e2
  obtain⟨x,ex,rx⟩:=hx.one
  subst ex
  cases rx with
  | @ref _ a ea=>
   obtain⟨hl,ys,k,hg,hv⟩:=r.at e1 ea
   have isl:s.heap.IsList a ys.toArray:=⟨_,hg,rfl,k,rfl⟩
   refine call_tuple_list isl (fun h' up=>?_) (Zcx (by rw[List.size_toArray,hv.length];exact hl))
   obtain⟨W2,l2,r2,v2⟩:=(r.grown up).tuple (k:=0) hv hl
   exact post W2 _ s.toks _ l2 r2 v2
 ·cases ho
  obtain⟨x,ex,rx⟩:=hx.one
  subst ex
  cases rx with
  | @tup _ a ys k hm hl hv=>
   have it:IsTup s.heap a ys.toArray:=⟨_,r.tupAt hm,rfl,k,rfl⟩
   exact call_tuple_tup it (post W s.heap s.toks _ (.refl W) r (.tup hm hl hv))
 ·cases ho
theorem ZuD: OpN prog w (fun xs=>call (.builtin "any") xs) Zij:=by
 intro Γ W ρ H fr s Q E as xs v H' r hx ho post
 unfold Zij at ho
 split at ho
 ·obtain⟨vs,e1,e2⟩:=Zz0.mp ho
  obtain⟨bs,e3,e4⟩:=Zz1.mp e2
  cases e4
  obtain⟨x,ex,rx⟩:=hx.one
  subst ex
  cases rx with
  | @ref _ a ea=>
   obtain⟨hl,ys,k,hg,hv⟩:=r.at e1 ea
   have isl:s.heap.IsList a ys.toArray:=⟨_,hg,rfl,k,rfl⟩
   obtain⟨m,c,led,r'⟩:=r
   exact any_bools r'.F r'.N Γ.hh isl (ZqU hv e3) fun h' tk F' N'=>post W h' tk _ (.refl W) (r'.same F' N') (.bool _)
 ·cases ho
end
section
variable {prog:Program} {w:World} {K:Frag} {p:Program} {loose:List Str} {mean:ExcName→Option Value} {mg mb:Str→Option Value} {Γ:Cx} {dp un:Nat}
theorem ZuE{x:Str}{v:Value}(clr:Clr K p loose mean mg mb Γ dp un)(e:nsIn K mainGlobals x=some (some v))(hg:Γ.env.globals=mainGlobals)(hk:Γ.env.scope.kind=.function)(hx:Γ.env.kindOf x=some .globalImplicit)(hd:(x == ("__debug__":Str))=false): Nm prog w Γ x v:=by
 obtain⟨_,_,_,_,_,_,_,_,_,_,_,X,T,_⟩:=clr
 intro pos m s Q E F q
 exact Name_function_global hk hx (loadGlobal_global (env:=Γ.env) (by rw[hg];exact T.g.keeps F.keep) (mg_of X T.g e) q) hd
theorem ZsI{x:Str}{v:Value}(clr:Clr K p loose mean mg mb Γ dp un)(e:nsIn K mainGlobals x=some none)(hv:bootBuiltins x=some v)(hn:x≠"__name__")(hg:Γ.env.globals=mainGlobals)(hb:Γ.env.builtins=builtinsNs)(hk:Γ.env.scope.kind=.function)(hx:Γ.env.kindOf x=some .globalImplicit)(hd:(x == ("__debug__":Str))=false): Nm prog w Γ x v:=by
 obtain⟨_,_,_,_,_,_,_,_,_,_,_,X,T,_⟩:=clr
 intro pos m s Q E F q
 exact Name_function_global hk hx (loadGlobal_builtin (env:=Γ.env) (by rw[hg];exact T.g.keeps F.keep) (mg_none_of X T.g e) (by rw[hb];exact T.b.keeps F.keep) ((T.builtins x hn).trans hv) q) hd
end
section
variable {prog:Program} {w:World} {Γ:Cx} {scope:Scope} {cl:List (Str×Addr)} {C:Addr} {ts:List (Str×Nat)} {ρ0:Lc}
theorem Zty{x:Str}{t:Nat}(hm:(x,t)∈ts)(hk:scope.kind=.function)(hl:(compEnvC scope cl C Γ.env).kindOf x=some .local)(hd:(x == ("__debug__":Str))=false): Rd prog w (ZaZ Γ scope cl C ts ρ0) x t:=by
 intro W ρ H fr s Q E v pos r e q
 obtain⟨m,c,led,r⟩:=r
 obtain⟨oC,m₂,cs,ec,h0,h1,h2,h3,h4⟩:=r.own
 obtain⟨v',y,e1,e2,e3⟩:=h2 _ hm
 rw[e]at e1
 cases e1
 exact LCgL.ld_own r.N (r.clIn _ (by rw[ec];exact Zz5)) h1 e2 (q y e3) hk hl hd
end
section
variable {prog:Program} {w:World} {dp un:Nat} {gd:Option (List Code)} {cn:Str} {cs:Scope} {L a:Addr} {ccd:Value} {clf:List (Str×Addr)} {outer:List Env} {h₀:Heap} {hu:un+200<cLine} {names:List Str} {scope:Scope} {cl:List (Str×Addr)} {C:Addr} {ts:List (Str×Nat)} {ρ0:Lc}
theorem Ztz{x:Str}{i:Nat}(hi:names[i]?=some x)(hx:cs.names.lookup x=some .cell)(hne:∀p∈ts,p.2≠i)(hcl:cl.lookup x=clf.lookup x)(hk:scope.kind=.function)(hl:(compEnvC scope cl C (envX cn cs L a ccd clf)).kindOf x=some .cell)(hd:(x == ("__debug__":Str))=false):
  Rd prog w (ZaZ (Zbq dp un gd cn cs L a ccd clf outer h₀ hu names) scope cl C ts ρ0) x i:=by
 intro W ρ H fr s Q E v pos r e q
 obtain⟨m,c,led,r⟩:=r
 obtain⟨oC,m₂,cs',ec,h0,h1,h2,h3,h4⟩:=r.own
 rw[h3 i hne]at e
 obtain⟨d,o,y,g1,g2,g3,g4⟩:=h4.cel i x v hi hx e
 exact kcf_cell r.N (hcl.trans g1) (r.clIn _ (by rw[ec];exact Zz2 _ g2)) g3 (q y g4) hk hl hd
end
end PM
end
section
namespace My
open PySem PySem.W PySem.Calls PyProof.Rows PySem.Spec
structure Cell(v:Int): Prop where
 bits:Builtin.Int.intBits v≤2 ^ 20
theorem bits_zero: Builtin.Int.intBits 0≤2 ^ 20:=by unfold Builtin.Int.intBits;simp
theorem cell_at{ns:List Int}(h:PyData.layable0 (.list (ns.map .int))=true)(i:Int): Cell (cellAt ns i 0):=by
 refine⟨?_⟩
 rw[cellAt_def,List.getD_eq_getElem?_getD]
 cases e:ns[i.toNat]? with
 | none=>exact bits_zero
 | some v=>exact PyData.bits_item_of_ints h (List.mem_of_getElem? e)
section
variable {prog:Program} {w:World} {A:Around} {E:Value→Shared→Prop} {s:Shared} {x y:Int} {t u:Tok} {Q:Value→Shared→Prop}
@[irreducible] noncomputable def T9: Int:=10 ^ 9
theorem T9_eq: T9=1000000000:=by unfold T9;decide +kernel
end
end My
end
section
/-! Reckoning with the plain machine. -/
namespace PM
open PySem PySem.W PyProof.Rows
section
variable (ρ:Lc) (H:Hp)
@[simp] theorem ZsJ: Zgu ρ H=some (none,H):=rfl
@[simp] theorem ZsK(f:Ex): Zk2 f ρ H=(f ρ H).map fun p=>(some p.1,p.2):=rfl
end
section
variable (a b:Int) (H:Hp)
end
def Ext(H H':Hp): Prop:=∃X,H'=H++X
theorem Ext.trans{H H' H'':Hp}(a:Ext H H')(b:Ext H' H''): Ext H H'':=by
 obtain⟨X,rfl⟩:=a
 obtain⟨Y,rfl⟩:=b
 exact⟨X++Y,by simp⟩
theorem Ext.at{H H':Hp}(h:Ext H H'){i:Nat}{vs:List V}(e:H[i]?=some vs): H'[i]?=some vs:=by
 obtain⟨X,rfl⟩:=h
 rw[List.getElem?_append_left (Zz6.mp e).1]
 exact e
theorem Ext.one(H:Hp)(vs:List V): Ext H (H++[vs]):=⟨[vs],rfl⟩
theorem Zpr{b:Int}(hb:0≤b): Builtin.Range.rangeSize 0 b 1=b:=by
 unfold Builtin.Range.rangeSize
 rw[if_pos (by decide)]
 by_cases h:(0:Int)<b
 ·rw[if_pos h]
  omega
 ·rw[if_neg h]
  omega
theorem ZuF{b:Int}{H:Hp}(hb:0≤b)(hb9:b≤1000): Zb0 0 b 1 H=some (Zew 0 1 b.toNat,b.toNat+1,H):=by
 unfold Zb0 rngN
 rw[Zpr hb,if_pos]
 refine⟨by decide,?_,hb,by rw[ZaP];omega,?_⟩
 ·unfold Builtin.Range.small
  rw[Zpr hb]
  simp only[Builtin.Range.rangeFitsLong,Bool.and_eq_true,Bool.or_eq_true,decide_eq_true_eq,beq_iff_eq]
  rw[if_pos (by decide)]
  simp only[Bool.and_eq_true,decide_eq_true_eq]
  by_cases h:(0:Int)<b
  ·refine⟨⟨⟨⟨?_,?_⟩,?_⟩,?_⟩,Or.inr ?_⟩ <;> omega
  ·refine⟨⟨⟨⟨?_,?_⟩,?_⟩,?_⟩,?_⟩ <;> first | omega | (left;omega)
 ·exact PyProof.noPylong_small (by omega)
end PM
end
section
namespace PM
open PySem PySem.W PyProof.Rows My
theorem ZnG{a b:Int}(h:IntMulOk a b): mulOk a b=true:=by
 unfold IntMulOk at h
 unfold mulOk
 cases e:(decide (Builtin.Int.intBits a>shortFactorBits) && decide (Builtin.Int.intBits b>shortFactorBits) && Builtin.Int.intTooBig (Builtin.Int.intBits a+Builtin.Int.intBits b))with
 | true=>exact absurd e h
 | false=>rfl
theorem Zk4{a b:Int}{H:Hp}(h:0≤b∧(Builtin.Int.intBits a:Int)*b≤2 ^ 27): oPow (.int a) (.int b) H=some (.int (a ^ b.toNat),H):=by simp only[oPow];rw[if_pos h]
theorem Zvo(H:Hp): oPow (.int 10) (.int 9) H=some (.int T9,H):=by rw[Zk4 (by decide +kernel)];unfold T9;rfl
end PM
end
section
namespace PM
open PySem PySem.W PyProof.Rows My
section
variable {ρ ρ1 ρ2:Lc} {H H1 H2 H3:Hp}
theorem ZuG{k:Int}: ZL k ρ H=some (.int k,H):=rfl
theorem ZtA{f g:Ex}{a:Nat}{k:Int}{n:Nat}{vs:List V}(h1:f ρ H=some (.ref a,H1))(h2:g ρ H1=some (.int k,H2))(e:H2[a]?=some vs)(hk:k=(n:Int)): ZkJ f (Zk2 g) Zgu ρ H=some (.ref H2.length,H2++[vs.drop n]):=by
 simp only[ZkJ,h1,Option.bind_some,ZsK,h2,Option.map_some,ZsJ,Zgt,e]
 rw[ZrS vs hk]
end
end PM
end
section
/-! Forward reckoning: what comes, told by a claim. -/
namespace PM
open PySem PySem.W PyProof.Rows My
def Ok(c:Option (V×Hp))(Q:V→Hp→Prop): Prop:=∃v H,c=some (v,H)∧Q v H
def Okl(c:Option (List V×Hp))(Q:List V→Hp→Prop): Prop:=∃v H,c=some (v,H)∧Q v H
def Okt(c:Option (Bool×Hp))(Q:Bool→Hp→Prop): Prop:=∃v H,c=some (v,H)∧Q v H
def Oks(c:Option (Option V×Lc×Hp))(R:V→Hp→Prop)(N:Lc→Hp→Prop): Prop:=∃o ρ H,c=some (o,ρ,H)∧(∀v,o=some v→R v H)∧(o=none→N ρ H)
theorem Ok.mono{c:Option (V×Hp)}{Q Q':V→Hp→Prop}(h:Ok c Q)(k:∀v H,Q v H→Q' v H): Ok c Q':=by
 obtain⟨v,H,a,b⟩:=h;exact⟨v,H,a,k v H b⟩
theorem Okl.mono{c:Option (List V×Hp)}{Q Q':List V→Hp→Prop}(h:Okl c Q)(k:∀v H,Q v H→Q' v H): Okl c Q':=by
 obtain⟨v,H,a,b⟩:=h;exact⟨v,H,a,k v H b⟩
theorem Okt.mono{c:Option (Bool×Hp)}{Q Q':Bool→Hp→Prop}(h:Okt c Q)(k:∀v H,Q v H→Q' v H): Okt c Q':=by
 obtain⟨v,H,a,b⟩:=h;exact⟨v,H,a,k v H b⟩
theorem Oks.mono{c:Option (Option V×Lc×Hp)}{R R':V→Hp→Prop}{N N':Lc→Hp→Prop}(h:Oks c R N)(k:∀v H,R v H→R' v H)(l:∀ρ H,N ρ H→N' ρ H): Oks c R' N':=by
 obtain⟨o,ρ,H,a,b,d⟩:=h;exact⟨o,ρ,H,a,fun v e=>k v H (b v e),fun e=>l ρ H (d e)⟩
section
variable {ρ:Lc} {H:Hp} {Q:V→Hp→Prop} {L:List V→Hp→Prop} {T:Bool→Hp→Prop} {R:V→Hp→Prop} {N:Lc→Hp→Prop}
variable {a b:Int}
theorem ZoV{i:Nat}{X:Hp}{vs:List V}(e:H[i]?=some vs): (H++X)[i]?=some vs:=Ext.at ⟨X,rfl⟩ e
end
end PM
end
section
namespace PM
open PySem PySem.W PyProof.Rows PyProof
noncomputable def Zgw(f:Ex)(k:Nat): Ex:=fun ρ H=>(f ρ H).bind fun p=>match p.1 with
 | .ref i=>p.2[i]?.bind fun vs=>some (.ref p.2.length,p.2++[vs.drop k])
 | .tup vs=>if 1≤k∧k≤vs.length then some (.tup (vs.drop k),p.2)else none
 | _=>none
section
variable {prog:Program} {w:World} {Γ:Cx}
theorem ZeB{e lo:Expr}{p pos:Pos}{f:Ex}{k:Nat}(h:J prog w Γ e f)(hlo:J prog w Γ lo (ZL k))(ht:∀o r,letTemporaryGo e o r=pure ():=by intro _ _;rfl): J prog w Γ (.Subscript e (.Slice (Option.some lo) Option.none Option.none p) pos) (Zgw f k):=by
 intro W ρ H fr s Q E v H' r hf post
 obtain⟨⟨v1,H1⟩,e1,hf⟩:=Zz0.mp hf
 cases v1 with
 | none=>cases hf
 | bool _=>cases hf
 | int _=>cases hf
 | str _=>cases hf
 | ref i=>
  obtain⟨vs,e2,e3⟩:=Zz0.mp hf
  refine Ztq h (JP.some hlo) JP.none ht W ρ H fr s Q E v H' r ?_ post
  rw[ZtA (n:=k) e1 ZuG e2 rfl]
  exact e3
 | tup vs=>
  simp only at hf
  by_cases c:1≤k∧k≤vs.length
  ·rw[if_pos c]at hf
   cases hf
   refine wpAny_Subscript_Slice (T:="tuple") slot_tuple_getitem.lookup (h W ρ H fr s _ E _ _ r e1 fun W1 k1 t1 x l1 r1 x1=>?_) ht
   refine wpAny_Slice ?_
   refine wpAny_evalPart_some (hlo W1 ρ _ fr _ _ E _ _ r1 rfl fun W2 k2 t2 y l2 r2 y2=>?_)
   refine wpAny_evalPart_none ?_
   refine wpAny_evalPart_none ?_
   cases y2 with
   | int _ u=>
    have x2:=x1.mono l2
    cases x2 with
    | @tup _ a ys kk hm hl hs=>
     have it:IsTup k2 a ys.toArray:=⟨_,r2.tupAt hm,rfl,kk,rfl⟩
     have it':IsTup (k2.push { cls:=.type "slice",data:=.fields #[.int k u,.none,.none] }) a ys.toArray:=it.keeps fun _ _ e=>Heap.get?_push_of_some _ e
     have hlen:=hs.length
     rw[ZaP]at hl
     refine⟨it'.typeIs,getItem_tuple_from it' (Heap.IsSliceOf.new ..) c.1 (by simp[hlen];exact c.2) ?_ (Zcx (by simp[hlen];rw[ZaP];exact hl))⟩
     obtain⟨W4,l4,r4,v4⟩:=(r2.push { cls:=.type "slice",data:=.fields #[.int k u,.none,.none] }).tuple (k:=0) (hs.drop k) (by rw[ZaP];simp;omega)
     have:=post W4 _ t2 _ ((l1.trans l2).trans l4) r4 v4
     simpa using this
  ·rw[if_neg c]at hf
   cases hf
end
section
variable {ρ:Lc} {H:Hp} {Q:V→Hp→Prop}
theorem Zps{a b c:Int}(hc:0<c)(hb:a<b): Builtin.Range.rangeSize a b c=(b-a-1) / c+1:=by
 unfold Builtin.Range.rangeSize
 rw[if_pos hc,if_pos hb]
theorem ZuH{a b c:Int}{H:Hp}(ha:0≤a)(hb:a<b)(hb9:b≤1000)(hc:0<c)(hc9:c≤1000): Zb0 a b c H=some (Zew a c (rngN a b c),rngN a b c+1,H):=by
 have e:=Zps hc hb
 have h0:0≤(b-a-1) / c:=Int.ediv_nonneg (by omega) (by omega)
 have h2:(b-a-1) / c≤b-a-1:=Int.ediv_le_self _ (by omega)
 unfold Zb0
 rw[if_pos]
 refine⟨by omega,?_,by omega,by unfold rngN;rw[ZaP];omega,PyProof.noPylong_small (by omega)⟩
 unfold Builtin.Range.small
 rw[e]
 simp only[Builtin.Range.rangeFitsLong,Bool.and_eq_true,Bool.or_eq_true,decide_eq_true_eq,beq_iff_eq]
 rw[if_pos hc]
 simp only[Bool.and_eq_true,decide_eq_true_eq]
 refine⟨⟨⟨⟨?_,?_⟩,?_⟩,?_⟩,?_⟩ <;> first | omega | (left;omega) | (right;omega)
end
end PM
end
section
namespace PM
open PySem PySem.W PyProof.Rows PyProof My
section
variable {ρ:Lc} {H:Hp} {Q:V→Hp→Prop} {L:List V→Hp→Prop}
end
noncomputable def oi: Option Int→V
 | none=>.none
 | some k=>.int k
def Grid(H:Hp)(p:Nat)(as:List Nat)(B:List (List (Option Int))): Prop:=H[p]?=some (as.map V.ref)∧as.length=B.length∧∀(i a:Nat) (row:List (Option Int)),as[i]?=some a→B[i]?=some row→H[a]?=some (row.map oi)
theorem ZvT{H X:Hp}{p:Nat}{as:List Nat}{B:List (List (Option Int))}(g:Grid H p as B): Grid (H++X) p as B:=⟨ZoV g.1,g.2.1,fun i a row h1 h2=>ZoV (g.2.2 i a row h1 h2)⟩
noncomputable def od: Option Int→PyData
 | none=>.none
 | some k=>.int k
theorem Zmf{a:Int}{k:Nat}(h:Builtin.Int.intBits a≤k): a.natAbs<2 ^ k:=by
 unfold Builtin.Int.intBits at h
 by_cases z:a=0
 ·subst z
  exact Nat.two_pow_pos k
 ·rw[if_neg (by simpa using z)]at h
  exact Nat.lt_of_lt_of_le Nat.lt_log2_self (Nat.pow_le_pow_right (by decide) h)
theorem ZsL{a b:Int}{k:Nat}(ha:Builtin.Int.intBits a≤k)(hb:Builtin.Int.intBits b≤k): Builtin.Int.intBits (a+b)≤k+1:=by
 refine PyProof.Rows.intBits_le ?_
 have h1:=Zmf ha
 have h2:=Zmf hb
 rw[Nat.pow_succ]
 omega
theorem ZnH{a b:Int}(ha:Builtin.Int.intBits a≤2 ^ 21)(hb:Builtin.Int.intBits b≤2 ^ 21): mulOk a b=true:=by
 have e:(2:Nat) ^ 21=2097152:=by decide
 have h:Builtin.Int.intTooBig (Builtin.Int.intBits a+Builtin.Int.intBits b)=false:=by
  unfold Builtin.Int.intTooBig bitsLine
  exact decide_eq_false (by omega)
 unfold mulOk
 rw[h]
 simp
theorem Zr0{a b:Int}(h1:-(2 ^ 64)<b)(h2:b<2 ^ 64): mulOk a b=true:=ZnG (IntMulOk.of_right (intBits_le_64 h1 h2))
theorem Zrj{a b:Int}(h1:-(2 ^ 64)<a)(h2:a<2 ^ 64): mulOk a b=true:=ZnG (IntMulOk.of_left (intBits_le_64 h1 h2))
@[irreducible] noncomputable def M9: Int:=48271 ^ Int.toNat 9
@[irreducible] noncomputable def T40: Int:=10 ^ Int.toNat 40
theorem ZuI(H:Hp): oPow (.int 48271) (.int 9) H=some (.int M9,H):=by rw[Zk4 (by decide +kernel)];unfold M9;rfl
theorem ZuJ(H:Hp): oPow (.int 10) (.int 40) H=some (.int T40,H):=by rw[Zk4 (by decide +kernel)];unfold T40;rfl
theorem ZhT: T40=10000000000000000000000000000000000000000:=by unfold T40;decide +kernel
theorem ZtB: Builtin.Int.intBits M9≤2 ^ 21:=by
 unfold M9
 exact Nat.le_trans (PyProof.Rows.intBits_le (k:=256) (by decide +kernel)) (by decide)
section
variable {H:Hp} {Q:V→Hp→Prop} {a b:Int}
end
end PM
end
section
/-! The tree machine: values without places; lists that nobody else holds may be changed. -/
namespace TM
open PySem PM
inductive T where
 | none
 | bool (b:Bool)
 | int (i:Int)
 | str (s:Str)
 | tup (ts:List T)
 | lst (ts:List T)
mutual
inductive RF(H:Hp): V→T→List Nat→Prop where
 | none:RF H .none .none []
 | bool (b:Bool):RF H (.bool b) (.bool b) []
 | int (i:Int):RF H (.int i) (.int i) []
 | str (s:Str):RF H (.str s) (.str s) []
 | tup {vs:List V} {ts:List T} {F:List Nat}:RFs H vs ts F→RF H (.tup vs) (.tup ts) F
 | ref {a:Nat} {vs:List V} {ts:List T} {F:List Nat}:H[a]?=some vs→RFs H vs ts F→RF H (.ref a) (.lst ts) (a::F)
inductive RFs(H:Hp): List V→List T→List Nat→Prop where
 | nil:RFs H [] [] []
 | cons {v:V} {t:T} {F:List Nat} {vs:List V} {ts:List T} {G:List Nat}:RF H v t F→RFs H vs ts G→RFs H (v::vs) (t::ts) (F++G)
end
mutual
theorem RF.frame{H H':Hp}{v:V}{t:T}{F:List Nat}(r:RF H v t F)(h:∀a∈F,H'[a]?=H[a]?): RF H' v t F:=by
 cases r with
 | none=>exact .none
 | bool b=>exact .bool b
 | int i=>exact .int i
 | str s=>exact .str s
 | tup hs=>exact .tup (RFs.frame hs h)
 | ref e hs=>exact .ref ((h _ Zz5).trans e) (RFs.frame hs fun a m=>h a (Zz2 _ m))
theorem RFs.frame{H H':Hp}{vs:List V}{ts:List T}{F:List Nat}(r:RFs H vs ts F)(h:∀a∈F,H'[a]?=H[a]?): RFs H' vs ts F:=by
 cases r with
 | nil=>exact .nil
 | cons a b=>exact .cons (RF.frame a fun x m=>h x (Zz4 _ m)) (RFs.frame b fun x m=>h x (Zz3 _ m))
end
mutual
theorem RF.lt{H:Hp}{v:V}{t:T}{F:List Nat}(r:RF H v t F): ∀a∈F,a<H.length:=by
 cases r with
 | none=>intro a m;cases m
 | bool b=>intro a m;cases m
 | int i=>intro a m;cases m
 | str s=>intro a m;cases m
 | tup hs=>exact RFs.lt hs
 | ref e hs=>
  intro x m
  rcases Zz7.mp m with rfl | m
  ·exact(Zz6.mp e).1
  ·exact RFs.lt hs x m
theorem RFs.lt{H:Hp}{vs:List V}{ts:List T}{F:List Nat}(r:RFs H vs ts F): ∀a∈F,a<H.length:=by
 cases r with
 | nil=>intro a m;cases m
 | cons a b=>
  intro x m
  rcases Zz8.mp m with m | m
  ·exact RF.lt a x m
  ·exact RFs.lt b x m
end
theorem RF.ext{H:Hp}{v:V}{t:T}{F:List Nat}(r:RF H v t F)(X:Hp): RF (H++X) v t F:=r.frame fun a m=>List.getElem?_append_left (r.lt a m)
theorem RFs.ext{H:Hp}{vs:List V}{ts:List T}{F:List Nat}(r:RFs H vs ts F)(X:Hp): RFs (H++X) vs ts F:=r.frame fun a m=>List.getElem?_append_left (r.lt a m)
theorem RFs.length{H:Hp}: ∀{vs:List V} {ts:List T} {F:List Nat},RFs H vs ts F→vs.length=ts.length
 | _,_,_,.nil=>rfl
 | _,_,_,.cons _ r=>by rw[List.length_cons,List.length_cons,r.length]
theorem RFs.append{H:Hp}: ∀{vs us:List V} {ts ss:List T} {F G:List Nat},RFs H vs ts F→RFs H us ss G→RFs H (vs++us) (ts++ss) (F++G)
 | _,_,_,_,_,_,.nil,h=>h
 | _,_,_,_,_,_,.cons a r,h=>by rw[List.append_assoc];exact .cons a (r.append h)
theorem RFs.one{H:Hp}{v:V}{t:T}{F:List Nat}(r:RF H v t F): RFs H [v] [t] F:=by
 have:=RFs.cons r RFs.nil
 rwa [List.append_nil]at this
theorem RFs.snoc{H:Hp}{vs:List V}{ts:List T}{F G:List Nat}{v:V}{t:T}(r:RFs H vs ts F)(x:RF H v t G): RFs H (vs++[v]) (ts++[t]) (F++G):=r.append (.one x)
theorem RFs.at{H:Hp}: ∀{vs:List V} {ts:List T} {F:List Nat} {i:Nat} {t:T},RFs H vs ts F→ts[i]?=some t→∃v G,vs[i]?=some v∧RF H v t G∧G.Sublist F
 | _,_,_,_,_,.nil,e=>by simp at e
 | _,_,_,0,_,.cons a _,e=>by
  simp at e
  exact⟨_,_,by simp,e▸a,List.sublist_append_left _ _⟩
 | _,_,_,i+1,_,.cons _ r,e=>by
  simp at e
  obtain⟨x,G,hx,hr,hs⟩:=r.at e
  exact⟨x,G,by simpa using hx,hr,hs.trans (List.sublist_append_right _ _)⟩
theorem RFs.drop{H:Hp}: ∀{vs:List V} {ts:List T} {F:List Nat} (i:Nat),RFs H vs ts F→∃G,RFs H (vs.drop i) (ts.drop i) G∧G.Sublist F
 | _,_,_,0,h=>⟨_,h,List.Sublist.refl _⟩
 | _,_,_,_+1,.nil=>⟨_,.nil,List.Sublist.refl _⟩
 | _,_,_,i+1,.cons _ r=>by
  obtain⟨G,h1,h2⟩:=r.drop i
  exact⟨G,h1,h2.trans (List.sublist_append_right _ _)⟩
theorem RFs.split{H:Hp}: ∀{vs:List V} {ts:List T} {F:List Nat} {i:Nat} {t:T},RFs H vs ts F→ts[i]?=some t →
  ∃v G F1 F2,vs[i]?=some v∧RF H v t G∧F=F1++(G++F2)∧∀(H':Hp) (w:V) (t':T) (G':List Nat),RF H' w t' G'→(∀a∈F1,H'[a]?=H[a]?)→(∀a∈F2,H'[a]?=H[a]?)→RFs H' (vs.set i w) (ts.set i t') (F1++(G'++F2))
 | _,_,_,_,_,.nil,e=>by simp at e
 | _,_,_,0,_,.cons (G:=G1) a r,e=>by
  simp at e
  subst e
  exact⟨_,_,[],G1,by simp,a,by simp,fun H' w t' G' x _ h2=>by simpa using RFs.cons x (r.frame h2)⟩
 | _,_,_,i+1,_,.cons (F:=F0) a r,e=>by
  simp at e
  obtain⟨v,G,F1,F2,h1,h2,h3,h4⟩:=r.split e
  refine⟨v,G,F0++F1,F2,by simpa using h1,h2,by rw[h3];simp,fun H' w t' G' x k1 k2=>?_⟩
  have:=RFs.cons (a.frame fun b m=>k1 b (Zz4 _ m)) (h4 H' w t' G' x (fun b m=>k1 b (Zz3 _ m)) k2)
  simpa using this
theorem ZnI{α:Type}{xs:List α}{i:Nat}{x:α}(h:xs[i]?=some x): xs.set i x=xs:=by
 obtain⟨hi,e⟩:=Zz6.mp h
 rw[←e]
 exact List.set_getElem_self hi
theorem nd3{F1 G F2 G' Gn:List Nat}(nd:(F1++(G++F2)).Nodup)(n':G'.Nodup)(sub:∀a∈G',a∈G∨a∈Gn)(ds:∀a∈Gn,a∉F1++(G++F2)): (F1++(G'++F2)).Nodup:=by
 rw[List.nodup_append,List.nodup_append]at nd ⊢
 obtain⟨a1,⟨a2,a3,a4⟩,a5⟩:=nd
 refine⟨a1,⟨n',a3,fun x hx y hy e=>?_⟩,fun x hx y hy e=>?_⟩
 ·rcases sub x hx with m | m
  ·exact a4 x m y hy e
  ·exact ds x m (Zz3 _ (Zz3 _ (e▸hy)))
 ·rcases Zz8.mp hy with m | m
  ·rcases sub y m with q | q
   ·exact a5 x hx y (Zz4 _ q) e
   ·exact ds y q (Zz4 _ (e▸hx))
  ·exact a5 x hx y (Zz3 _ m) e
theorem in3{F1 G F2 G' Gn:List Nat}(sub:∀a∈G',a∈G∨a∈Gn): ∀a∈F1++(G'++F2),a∈F1++(G++F2)∨a∈Gn:=by
 intro a m
 rcases Zz8.mp m with m | m
 ·exact .inl (Zz4 _ m)
 ·rcases Zz8.mp m with m | m
  ·exact(sub a m).imp (fun q=>List.mem_append_right _ (Zz4 _ q)) id
  ·exact .inl (Zz3 _ (Zz3 _ m))
mutual
noncomputable def T.flat: T→Bool
 | .lst _=>false
 | .tup ts=>T.flats ts
 | .none=>true
 | .bool _=>true
 | .int _=>true
 | .str _=>true
noncomputable def T.flats: List T→Bool
 | []=>true
 | t::ts=>t.flat && T.flats ts
end
mutual
theorem RF.flat{H:Hp}{v:V}{t:T}{F:List Nat}(r:RF H v t F)(h:t.flat=true): F=[]:=by
 cases r with
 | none=>rfl
 | bool b=>rfl
 | int i=>rfl
 | str s=>rfl
 | tup hs=>exact RFs.flats hs (by simpa [T.flat]using h)
 | ref e hs=>simp[T.flat]at h
theorem RFs.flats{H:Hp}{vs:List V}{ts:List T}{F:List Nat}(r:RFs H vs ts F)(h:T.flats ts=true): F=[]:=by
 cases r with
 | nil=>rfl
 | cons a b=>
  simp only[T.flats,Bool.and_eq_true]at h
  rw[RF.flat a h.1,RFs.flats b h.2]
  rfl
end
noncomputable def T.flatIn: T→Bool
 | .lst ts=>T.flats ts
 | t=>t.flat
noncomputable def Zb6(f:List T→Option (List T)): List Int→T→Option T
 | [],.lst ts=>(f ts).map .lst
 | k::ks,.lst ts=>(seqIndex? k ts.length).bind fun j=>ts[j]?.bind fun t=>(Zb6 f ks t).map fun u=>.lst (ts.set j u)
 | k::ks,.tup ts=>(seqIndex? k ts.length).bind fun j=>ts[j]?.bind fun t=>(Zb6 f ks t).map fun u=>.tup (ts.set j u)
 | _,_=>none
inductive Lead(H:Hp): List Int→V→Nat→Prop where
 | nil {a:Nat}:Lead H [] (.ref a) a
 | ref {k:Int} {ks:List Int} {b:Nat} {vs:List V} {j:Nat} {v:V} {a:Nat}:H[b]?=some vs→seqIndex? k vs.length=some j→vs[j]?=some v→Lead H ks v a→Lead H (k::ks) (.ref b) a
 | tup {k:Int} {ks:List Int} {vs:List V} {j:Nat} {v:V} {a:Nat}:seqIndex? k vs.length=some j→vs[j]?=some v→Lead H ks v a→Lead H (k::ks) (.tup vs) a
theorem ZeC{H:Hp}{Gn:List Nat}{f:List T→Option (List T)}: ∀(ks:List Int) {v:V} {t t':T} {F:List Nat},RF H v t F→F.Nodup→(∀a∈Gn,a∉F)→Zb6 f ks t=some t' →
  ∃a vs ts ts' G,Lead H ks v a∧a∈F∧H[a]?=some vs∧RFs H vs ts G∧f ts=some ts'∧G.Nodup∧a∉G∧(∀x∈G,x∈F) ∧
   ∀vs' G',RFs H vs' ts' G'→G'.Nodup→a∉G'→(∀x∈G',x∈G∨x∈Gn)→∃F',RF (H.set a vs') v t' F'∧F'.Nodup∧∀x∈F',x∈F∨x∈Gn
 | [],v,t,t',F,r,nd,ds,e=>by
  cases r with
  | @ref a vs ts G e1 hs=>
   obtain⟨ts',h1,h2⟩:=Zz1.mp e
   subst h2
   rw[List.nodup_cons]at nd
   refine⟨a,vs,ts,ts',G,.nil,List.mem_cons_self,e1,hs,h1,nd.2,nd.1,fun x m=>List.mem_cons_of_mem _ m,fun vs' G' r' n' na sub=>⟨a::G',?_,?_,?_⟩⟩
   ·have ha:=(Zz6.mp e1).1
    refine .ref (List.getElem?_set_self ha) (r'.frame fun b m=>List.getElem?_set_ne ?_)
    intro q
    subst q
    exact na m
   ·exact List.nodup_cons.mpr ⟨na,n'⟩
   ·intro x m
    rcases Zz7.mp m with rfl | m
    ·exact .inl Zz5
    ·exact(sub x m).imp (Zz2 _) id
  | none=>cases e
  | bool _=>cases e
  | int _=>cases e
  | str _=>cases e
  | tup _=>cases e
 | k::ks,v,t,t',F,r,nd,ds,e=>by
  cases r with
  | none=>cases e
  | bool _=>cases e
  | int _=>cases e
  | str _=>cases e
  | @tup vs ts _ hs=>
   obtain⟨j,e1,e⟩:=Zz0.mp e
   obtain⟨u,e2,e⟩:=Zz0.mp e
   obtain⟨u',e3,e⟩:=Zz1.mp e
   subst e
   obtain⟨w,G1,F1,F2,e4,g1,eF,rb⟩:=hs.split e2
   subst eF
   have nd1:G1.Nodup:=(List.nodup_append.mp (List.nodup_append.mp nd).2.1).1
   have hin:∀x∈G1,x∈F1++(G1++F2):=fun x m=>List.mem_append_right _ (Zz4 _ m)
   obtain⟨a,us,qs,qs',G,l,am,ea,hq,hf,gn,na,gs,go⟩:=ZeC ks g1 nd1 (fun b m q=>ds b m (hin b q)) e3
   refine⟨a,us,qs,qs',G,.tup (by rw[hs.length];exact e1) e4 l,hin a am,ea,hq,hf,gn,na,fun x m=>hin x (gs x m),fun vs' G' r' n' na' sub=>?_⟩
   obtain⟨G2,f1,f2,f3⟩:=go vs' G' r' n' na' sub
   obtain⟨a1,a2,a5⟩:=List.nodup_append.mp nd
   obtain⟨_,a3,a4⟩:=List.nodup_append.mp a2
   have:=rb (H.set a vs') w u' G2 f1 (fun b m=>List.getElem?_set_ne fun q=>a5 b m a (Zz4 _ am) q.symm) (fun b m=>List.getElem?_set_ne fun q=>a4 a am b m q)
   rw[ZnI e4]at this
   exact⟨_,.tup this,nd3 nd f2 f3 ds,in3 f3⟩
  | @ref b vs ts F' e0 hs=>
   obtain⟨j,e1,e⟩:=Zz0.mp e
   obtain⟨u,e2,e⟩:=Zz0.mp e
   obtain⟨u',e3,e⟩:=Zz1.mp e
   subst e
   obtain⟨w,G1,F1,F2,e4,g1,eF,rb⟩:=hs.split e2
   subst eF
   rw[List.nodup_cons]at nd
   obtain⟨nb,nd⟩:=nd
   have nd1:G1.Nodup:=(List.nodup_append.mp (List.nodup_append.mp nd).2.1).1
   have hin:∀x∈G1,x∈F1++(G1++F2):=fun x m=>List.mem_append_right _ (Zz4 _ m)
   have ds':∀a∈Gn,a∉F1++(G1++F2):=fun a m q=>ds a m (Zz2 _ q)
   obtain⟨a,us,qs,qs',G,l,am,ea,hq,hf,gn,na,gs,go⟩:=ZeC ks g1 nd1 (fun b m q=>ds' b m (hin b q)) e3
   refine⟨a,us,qs,qs',G,.ref e0 (by rw[hs.length];exact e1) e4 l,List.mem_cons_of_mem _ (hin a am),ea,hq,hf,gn,na,fun x m=>List.mem_cons_of_mem _ (hin x (gs x m)),fun vs' G' r' n' na' sub=>?_⟩
   obtain⟨G2,f1,f2,f3⟩:=go vs' G' r' n' na' sub
   obtain⟨a1,a2,a5⟩:=List.nodup_append.mp nd
   obtain⟨_,a3,a4⟩:=List.nodup_append.mp a2
   have:=rb (H.set a vs') w u' G2 f1 (fun b m=>List.getElem?_set_ne fun q=>a5 b m a (Zz4 _ am) q.symm) (fun b m=>List.getElem?_set_ne fun q=>a4 a am b m q)
   rw[ZnI e4]at this
   have hab:a≠b:=fun q=>nb (hin b (q▸am))
   refine⟨_,.ref ((List.getElem?_set_ne hab).trans e0) this,List.nodup_cons.mpr ⟨fun q=>?_,nd3 nd f2 f3 ds'⟩,fun x m=>?_⟩
   ·rcases in3 f3 b q with m | m
    ·exact nb m
    ·exact ds b m Zz5
   ·rcases Zz7.mp m with rfl | m
    ·exact .inl Zz5
    ·exact(in3 f3 x m).imp (Zz2 _) id
end TM
end
section
namespace TM
open PySem PM
noncomputable abbrev TL:=Nat→Option T
noncomputable abbrev PE:=TL→Option T
noncomputable abbrev PEs:=TL→Option (List T)
noncomputable abbrev PB:=TL→Option Bool
noncomputable abbrev PG:=TL→Option (List T)
noncomputable def ZN(σ:TL)(i:Nat)(t:T): TL:=fun j=>if j=i then some t else σ j
structure Ctx where
 H0:Hp
 F0:List Nat
 P:Nat→Prop
structure St(c:Ctx)(O:List Nat)(ρ:Lc)(σ:TL)(H:Hp)(Φ:Nat→List Nat): Prop where
 slot:∀i t,σ i=some t→∃v,ρ i=some v∧RF H v t (Φ i)
 src:∀i t,σ i=some t→∀a∈Φ i,c.H0.length≤a∨c.P a
 own:∀i∈O,∀t,σ i=some t→(Φ i).Nodup∧(∀a∈Φ i,c.H0.length≤a∨a∈c.F0)∧∀j u,j≠i→σ j=some u→∀a∈Φ i,a∉Φ j
 len:c.H0.length≤H.length
 keep:∀a,a<c.H0.length→a∉c.F0→H[a]?=c.H0[a]?
 pos:0<c.H0.length
 f0:0∉c.F0
theorem St.ext{c:Ctx}{O:List Nat}{ρ:Lc}{σ:TL}{H:Hp}{Φ:Nat→List Nat}(s:St c O ρ σ H Φ)(X:Hp): St c O ρ σ (H++X) Φ:=
 ⟨fun i t e=>by obtain⟨v,h1,h2⟩:=s.slot i t e;exact⟨v,h1,h2.ext X⟩,s.src,s.own,by have:=s.len;rw[List.length_append];omega,fun a ha hn=>by
  rw[List.getElem?_append_left (Nat.lt_of_lt_of_le ha s.len)];exact s.keep a ha hn,s.pos,s.f0⟩
theorem St.less{c:Ctx}{O O':List Nat}{ρ:Lc}{σ:TL}{H:Hp}{Φ:Nat→List Nat}(s:St c O ρ σ H Φ)(h:∀i∈O',i∈O): St c O' ρ σ H Φ:=⟨s.slot,s.src,fun i hi=>s.own i (h i hi),s.len,s.keep,s.pos,s.f0⟩
def From(H:Hp)(N:List Nat)(σ:TL)(Φ:Nat→List Nat)(a:Nat): Prop:=H.length≤a∨∃i∈N,(∃t,σ i=some t)∧a∈Φ i
theorem From.mono{H:Hp}{N N':List Nat}{σ:TL}{Φ:Nat→List Nat}{a:Nat}(f:From H N σ Φ a)(h:∀i∈N,i∈N'): From H N' σ Φ a:=f.imp id fun⟨i,hi,q⟩=>⟨i,h i hi,q⟩
theorem From.back{H X:Hp}{N:List Nat}{σ:TL}{Φ:Nat→List Nat}{a:Nat}(f:From (H++X) N σ Φ a): From H N σ Φ a:=f.imp (fun h=>by rw[List.length_append]at h;omega) id
theorem From.nil{H:Hp}{σ:TL}{Φ:Nat→List Nat}{a:Nat}(f:From H [] σ Φ a): H.length≤a:=f.elim id fun⟨_,hi,_⟩=>by cases hi
def E(O N:List Nat)(u:Bool)(e:Ex)(p:PE): Prop:=∀(c:Ctx) (ρ:Lc) (σ:TL) (H:Hp) (Φ:Nat→List Nat) (t:T),St c O ρ σ H Φ→p σ=some t →
 ∃v X F,e ρ H=some (v,H++X)∧RF (H++X) v t F∧(∀a∈F,From H N σ Φ a)∧(u=true→F.Nodup)
def Es(O N:List Nat)(u:Bool)(n:Nat)(e:Exs)(p:PEs): Prop:=∀(c:Ctx) (ρ:Lc) (σ:TL) (H:Hp) (Φ:Nat→List Nat) (ts:List T),St c O ρ σ H Φ→p σ=some ts →
 ts.length=n∧∃vs X F,e ρ H=some (vs,H++X)∧RFs (H++X) vs ts F∧(∀a∈F,From H N σ Φ a)∧(u=true→F.Nodup)
def Bt(O:List Nat)(e:Ts)(p:PB): Prop:=∀(c:Ctx) (ρ:Lc) (σ:TL) (H:Hp) (Φ:Nat→List Nat) (b:Bool),St c O ρ σ H Φ→p σ=some b→∃X,e ρ H=some (b,H++X)
section
variable {O N:List Nat} {u:Bool}
theorem ZaK{O':List Nat}{e:Ex}{p:PE}(x:E O' N u e p)(h:∀i∈O',i∈O:=by decide): E O N u e p:=fun c ρ σ H Φ t s=>x c ρ σ H Φ t (s.less h)
theorem ZvV{O':List Nat}{e:Ts}{p:PB}(x:Bt O' e p)(h:∀i∈O',i∈O): Bt O e p:=fun c ρ σ H Φ t s=>x c ρ σ H Φ t (s.less h)
theorem E.sh{e:Ex}{p:PE}(x:E O N u e p): E O N false e p:=fun c ρ σ H Φ t s q=>by
 obtain⟨v,X,F,a1,a2,a3,a4⟩:=x c ρ σ H Φ t s q
 exact⟨v,X,F,a1,a2,a3,by simp⟩
noncomputable def Zv(k:Int): PE:=fun _=>some (.int k)
noncomputable def Zau: PE:=fun _=>some .none
noncomputable def ZdT(b:Bool): PE:=fun _=>some (.bool b)
noncomputable def Zik(x:Str): PE:=fun _=>some (.str x)
noncomputable def Zf(i:Nat): PE:=fun σ=>σ i
theorem Zc(k:Int): E O [] true (ZL k) (Zv k):=fun c ρ σ H Φ t s q=>by
 cases q;exact⟨_,[],[],by simp[ZL],.int k,by simp,by simp⟩
theorem ZP: E O [] true Zas Zau:=fun c ρ σ H Φ t s q=>by
 cases q;exact⟨_,[],[],by simp[Zas],.none,by simp,by simp⟩
theorem E.bool(k:Bool): E O [] true (Zia k) (ZdT k):=fun c ρ σ H Φ t s q=>by
 cases q;exact⟨_,[],[],by simp[Zia],.bool k,by simp,by simp⟩
theorem E.str(k:Str): E O [] true (Zie k) (Zik k):=fun c ρ σ H Φ t s q=>by
 cases q;exact⟨_,[],[],by simp[Zie],.str k,by simp,by simp⟩
theorem Za(i:Nat): E O [i] false (Zo i) (Zf i):=fun c ρ σ H Φ t s q=>by
 obtain⟨v,h1,h2⟩:=s.slot i t q
 exact⟨v,[],Φ i,by simp[Zo,h1],by simpa using h2,fun a m=>.inr ⟨i,List.mem_cons_self,⟨t,q⟩,m⟩,by simp⟩
theorem E.own{i:Nat}(hi:i∈O): E O [i] true (Zo i) (Zf i):=fun c ρ σ H Φ t s q=>by
 obtain⟨v,h1,h2⟩:=s.slot i t q
 exact⟨v,[],Φ i,by simp[Zo,h1],by simpa using h2,fun a m=>.inr ⟨i,List.mem_cons_self,⟨t,q⟩,m⟩,fun _=>(s.own i hi t q).1⟩
noncomputable def ZcT(p:PE): PE:=fun σ=>(p σ).bind fun t=>if t.flat then some t else none
theorem E.flat{e:Ex}{p:PE}(x:E O N u e p): E O [] true e (ZcT p):=fun c ρ σ H Φ t s q=>by
 obtain⟨t',e1,e2⟩:=Zz0.mp q
 by_cases h:t'.flat=true
 ·rw[if_pos h]at e2
  cases e2
  obtain⟨v,X,F,a1,a2,a3,a4⟩:=x c ρ σ H Φ t s e1
  have:=a2.flat h
  subst this
  exact⟨v,X,[],a1,a2,by simp,by simp⟩
 ·rw[if_neg h]at e2;cases e2
noncomputable def ZF: PEs:=fun _=>some []
noncomputable def Zq(p:PE)(q:PEs): PEs:=fun σ=>(p σ).bind fun t=>(q σ).bind fun ts=>some (t::ts)
theorem Zd: Es O [] true 0 Z0 ZF:=fun c ρ σ H Φ ts s q=>by
 cases q;exact⟨rfl,[],[],[],by simp[Z0],.nil,by simp,by simp⟩
theorem Zb{M:List Nat}{u':Bool}{n:Nat}{e:Ex}{p:PE}{es:Exs}{ps:PEs}(x:E O N u e p)(y:Es O M u' n es ps): Es O (N++M) false (n+1) (Zw e es) (Zq p ps):=fun c ρ σ H Φ ts s q=>by
 obtain⟨t,e1,q⟩:=Zz0.mp q
 obtain⟨rs,e2,q⟩:=Zz0.mp q
 cases q
 obtain⟨v,X,F,a1,a2,a3,a4⟩:=x c ρ σ H Φ t s e1
 obtain⟨hl,vs,Y,G,b1,b2,b3,b4⟩:=y c ρ σ (H++X) Φ rs (s.ext X) e2
 refine⟨by simp[hl],v::vs,X++Y,F++G,by simp[Zw,a1,b1],?_,fun a m=>?_,by simp⟩
 ·rw[←List.append_assoc];exact .cons (a2.ext Y) b2
 ·rcases Zz8.mp m with m | m
  ·exact(a3 a m).mono fun i hi=>List.mem_append_left _ hi
  ·exact(b3 a m).back.mono fun i hi=>List.mem_append_right _ hi
theorem Zeq{M:List Nat}{n:Nat}{e:Ex}{p:PE}{es:Exs}{ps:PEs}(x:E O N true e p)(y:Es O M true n es ps)(hN:∀i∈N,i∈O)(hM:∀i∈N,i∉M): Es O (N++M) true (n+1) (Zw e es) (Zq p ps):=fun c ρ σ H Φ ts s q=>by
 obtain⟨t,e1,q⟩:=Zz0.mp q
 obtain⟨rs,e2,q⟩:=Zz0.mp q
 cases q
 obtain⟨v,X,F,a1,a2,a3,a4⟩:=x c ρ σ H Φ t s e1
 obtain⟨hl,vs,Y,G,b1,b2,b3,b4⟩:=y c ρ σ (H++X) Φ rs (s.ext X) e2
 refine⟨by simp[hl],v::vs,X++Y,F++G,by simp[Zw,a1,b1],?_,fun a m=>?_,fun _=>?_⟩
 ·rw[←List.append_assoc];exact .cons (a2.ext Y) b2
 ·rcases Zz8.mp m with m | m
  ·exact(a3 a m).mono fun i hi=>List.mem_append_left _ hi
  ·exact(b3 a m).back.mono fun i hi=>List.mem_append_right _ hi
 ·rw[List.nodup_append]
  refine⟨a4 rfl,b4 rfl,fun a ha b hb e=>?_⟩
  subst e
  have hlt:=a2.lt a ha
  rcases b3 a hb with h | ⟨j,hj,⟨tj,ej⟩,mj⟩
  ·omega
  ·obtain⟨vj,_,rj⟩:=s.slot j tj ej
   have:=rj.lt a mj
   rcases a3 a ha with h | ⟨i,hi,⟨ti,ei⟩,mi⟩
   ·omega
   ·exact(s.own i (hN i hi) ti ei).2.2 j tj (fun q=>hM i hi (q▸hj)) ej a mi mj
theorem ZvW{O':List Nat}{n:Nat}{e:Exs}{p:PEs}(x:Es O' N u n e p)(h:∀i∈O',i∈O): Es O N u n e p:=fun c ρ σ H Φ t s=>x c ρ σ H Φ t (s.less h)
noncomputable def ZcX(p:PEs): PE:=fun σ=>(p σ).map .tup
noncomputable def ZcU(p:PEs): PE:=fun σ=>(p σ).map .lst
theorem E.tup{n:Nat}{e:Exs}{p:PEs}(x:Es O N u n e p)(hn:n≤LEN:=by decide): E O N u (ZcK e) (ZcX p):=fun c ρ σ H Φ t s q=>by
 obtain⟨ts,e1,e2⟩:=Zz1.mp q
 subst e2
 obtain⟨hl,vs,Y,G,b1,b2,b3,b4⟩:=x c ρ σ H Φ ts s e1
 have:=b2.length
 refine⟨.tup vs,Y,G,?_,.tup b2,b3,b4⟩
 simp only[ZcK,b1,Option.bind_some]
 rw[if_pos (by omega)]
theorem E.list{n:Nat}{e:Exs}{p:PEs}(x:Es O N u n e p)(hn:n≤LEN:=by decide): E O N u (ZdR e) (ZcU p):=fun c ρ σ H Φ t s q=>by
 obtain⟨ts,e1,e2⟩:=Zz1.mp q
 subst e2
 obtain⟨hl,vs,Y,G,b1,b2,b3,b4⟩:=x c ρ σ H Φ ts s e1
 have:=b2.length
 refine⟨.ref (H++Y).length,Y++[vs],(H++Y).length::G,?_,?_,fun a m=>?_,fun hu=>?_⟩
 ·simp only[ZdR,b1,Option.bind_some]
  rw[if_pos (by omega),List.append_assoc]
 ·rw[←List.append_assoc];exact .ref (by simp) (b2.ext _)
 ·rcases Zz7.mp m with rfl | m
  ·exact .inl (by simp)
  ·exact b3 a m
 ·rw[List.nodup_cons]
  exact⟨fun m=>Nat.lt_irrefl _ (b2.lt _ m),b4 hu⟩
def OA2(o:V→V→Hp→Option (V×Hp))(q:T→T→Option T): Prop:=∀(H:Hp) (v1 v2:V) (t1 t2 t:T) (F1 F2:List Nat),RF H v1 t1 F1→RF H v2 t2 F2→q t1 t2=some t→∃v,o v1 v2 H=some (v,H)∧RF H v t []
def OI2(o:V→V→Hp→Option (V×Hp))(q:T→T→Option T): Prop:=∀(H:Hp) (v1 v2:V) (t1 t2 t:T) (F1 F2:List Nat),RF H v1 t1 F1→RF H v2 t2 F2→q t1 t2=some t→∃v F,o v1 v2 H=some (v,H)∧RF H v t F∧F.Sublist F1
def OC2(o:V→V→Hp→Option (V×Hp))(q:T→T→Option T): Prop:=∀(H:Hp) (v1 v2:V) (t1 t2 t:T) (F1 F2:List Nat),RF H v1 t1 F1→RF H v2 t2 F2→q t1 t2=some t→∃v X F,o v1 v2 H=some (v,H++X)∧RF (H++X) v t F∧(∀a∈F,H.length≤a∨a∈F1∨a∈F2)∧(t.flatIn=true→F.Nodup∧∀a∈F,H.length≤a)
def OA1(o:V→Hp→Option (V×Hp))(q:T→Option T): Prop:=∀(H:Hp) (v1:V) (t1 t:T) (F1:List Nat),RF H v1 t1 F1→q t1=some t→∃v,o v1 H=some (v,H)∧RF H v t []
def OAn(o:List V→Hp→Option (V×Hp))(q:List T→Option T): Prop:=∀(H:Hp) (vs:List V) (ts:List T) (t:T) (F:List Nat),RFs H vs ts F→q ts=some t→∃v,o vs H=some (v,H)∧RF H v t []
def OCn(o:List V→Hp→Option (V×Hp))(q:List T→Option T): Prop:=∀(H:Hp) (vs:List V) (ts:List T) (t:T) (F1:List Nat),0<H.length→RFs H vs ts F1→q ts=some t→∃v X F,o vs H=some (v,H++X)∧RF (H++X) v t F∧(∀a∈F,H.length≤a∨a∈F1)∧(t.flatIn=true→F.Nodup∧∀a∈F,H.length≤a)
noncomputable def Zp(q:T→T→Option T)(p1 p2:PE): PE:=fun σ=>(p1 σ).bind fun x=>(p2 σ).bind fun y=>q x y
noncomputable def pUn(q:T→Option T)(p1:PE): PE:=fun σ=>(p1 σ).bind fun x=>q x
noncomputable def ZW(q:List T→Option T)(ps:PEs): PE:=fun σ=>(ps σ).bind fun xs=>q xs
noncomputable def pFl(p:PE): PE:=fun σ=>(p σ).bind fun t=>if t.flatIn then some t else none
theorem Zhi{M:List Nat}{u':Bool}{e1 e2:Ex}{p1 p2:PE}{q:T→T→Option T}{o:V→V→Hp→Option (V×Hp)}{c:Ctx}{ρ:Lc}{σ:TL}{H:Hp}{Φ:Nat→List Nat}{t:T}(x:E O N u e1 p1)(y:E O M u' e2 p2)(s:St c O ρ σ H Φ)(h:Zp q p1 p2 σ=some t):
  ∃t1 t2 v1 v2 X F1 F2,q t1 t2=some t∧RF (H++X) v1 t1 F1∧RF (H++X) v2 t2 F2∧(∀a∈F1,From H N σ Φ a)∧(∀a∈F2,From H M σ Φ a)∧(u=true→F1.Nodup)∧Zx o e1 e2 ρ H=o v1 v2 (H++X):=by
 obtain⟨t1,h1,h⟩:=Zz0.mp h
 obtain⟨t2,h2,h⟩:=Zz0.mp h
 obtain⟨v,X,F,a1,a2,a3,a4⟩:=x c ρ σ H Φ t1 s h1
 obtain⟨w,Y,G,b1,b2,b3,b4⟩:=y c ρ σ (H++X) Φ t2 (s.ext X) h2
 rw[List.append_assoc]at b1 b2
 refine⟨t1,t2,v,w,X++Y,F,G,h,?_,b2,a3,fun a m=>(b3 a m).back,a4,by simp only[Zx,a1,b1,Option.bind_some]⟩
 rw[←List.append_assoc];exact a2.ext Y
theorem Zn{M:List Nat}{u':Bool}{e1 e2:Ex}{p1 p2:PE}{q:T→T→Option T}{o:V→V→Hp→Option (V×Hp)}(k:OA2 o q)(x:E O N u e1 p1)(y:E O M u' e2 p2): E O [] true (Zx o e1 e2) (Zp q p1 p2):=fun c ρ σ H Φ t s h=>by
 obtain⟨t1,t2,v1,v2,X,F1,F2,hq,r1,r2,_,_,_,e⟩:=Zhi (o:=o) x y s h
 obtain⟨v,h1,h2⟩:=k _ v1 v2 t1 t2 t F1 F2 r1 r2 hq
 exact⟨v,X,[],e.trans h1,h2,by simp,by simp⟩
theorem Zl{M:List Nat}{u':Bool}{e1 e2:Ex}{p1 p2:PE}{q:T→T→Option T}{o:V→V→Hp→Option (V×Hp)}(k:OI2 o q)(x:E O N u e1 p1)(y:E O M u' e2 p2): E O N u (Zx o e1 e2) (Zp q p1 p2):=fun c ρ σ H Φ t s h=>by
 obtain⟨t1,t2,v1,v2,X,F1,F2,hq,r1,r2,h1,_,hu,e⟩:=Zhi (o:=o) x y s h
 obtain⟨v,F,k1,k2,k3⟩:=k _ v1 v2 t1 t2 t F1 F2 r1 r2 hq
 exact⟨v,X,F,e.trans k1,k2,fun a m=>h1 a (k3.subset m),fun h=>(hu h).sublist k3⟩
theorem ZR{M:List Nat}{u':Bool}{e1 e2:Ex}{p1 p2:PE}{q:T→T→Option T}{o:V→V→Hp→Option (V×Hp)}(k:OC2 o q)(x:E O N u e1 p1)(y:E O M u' e2 p2): E O (N++M) false (Zx o e1 e2) (Zp q p1 p2):=fun c ρ σ H Φ t s h=>by
 obtain⟨t1,t2,v1,v2,X,F1,F2,hq,r1,r2,h1,h2,hu,e⟩:=Zhi (o:=o) x y s h
 obtain⟨v,Y,F,k1,k2,k3,k4⟩:=k _ v1 v2 t1 t2 t F1 F2 r1 r2 hq
 rw[List.append_assoc]at k1 k2
 refine⟨v,X++Y,F,e.trans k1,k2,fun a m=>?_,by simp⟩
 rcases k3 a m with h | h | h
 ·exact .inl (by rw[List.length_append]at h;omega)
 ·exact(h1 a h).mono fun i hi=>List.mem_append_left _ hi
 ·exact(h2 a h).mono fun i hi=>List.mem_append_right _ hi
theorem ZkN{M:List Nat}{u':Bool}{e1 e2:Ex}{p1 p2:PE}{q:T→T→Option T}{o:V→V→Hp→Option (V×Hp)}(k:OC2 o q)(x:E O N u e1 p1)(y:E O M u' e2 p2): E O [] true (Zx o e1 e2) (pFl (Zp q p1 p2)):=fun c ρ σ H Φ t s h=>by
 obtain⟨t',h,hf⟩:=Zz0.mp h
 by_cases fl:t'.flatIn=true
 ·rw[if_pos fl]at hf
  cases hf
  obtain⟨t1,t2,v1,v2,X,F1,F2,hq,r1,r2,h1,h2,hu,e⟩:=Zhi (o:=o) x y s h
  obtain⟨v,Y,F,k1,k2,k3,k4⟩:=k _ v1 v2 t1 t2 t F1 F2 r1 r2 hq
  rw[List.append_assoc]at k1 k2
  exact⟨v,X++Y,F,e.trans k1,k2,fun a m=>.inl (by have:=(k4 fl).2 a m;rw[List.length_append]at this;omega),fun _=>(k4 fl).1⟩
 ·rw[if_neg fl]at hf;cases hf
theorem Zbm{e1:Ex}{p1:PE}{q:T→Option T}{o:V→Hp→Option (V×Hp)}(k:OA1 o q)(x:E O N u e1 p1): E O [] true (eUn o e1) (pUn q p1):=fun c ρ σ H Φ t s h=>by
 obtain⟨t1,h1,h⟩:=Zz0.mp h
 obtain⟨v,X,F,a1,a2,a3,a4⟩:=x c ρ σ H Φ t1 s h1
 obtain⟨w,b1,b2⟩:=k _ v t1 t F a2 h
 exact⟨w,X,[],by simp only[eUn,a1,Option.bind_some,b1],b2,by simp,by simp⟩
theorem Zad{n:Nat}{es:Exs}{ps:PEs}{q:List T→Option T}{o:List V→Hp→Option (V×Hp)}(k:OAn o q)(x:Es O N u n es ps): E O [] true (Z2 o es) (ZW q ps):=fun c ρ σ H Φ t s h=>by
 obtain⟨ts,h1,h⟩:=Zz0.mp h
 obtain⟨_,vs,X,F,a1,a2,a3,a4⟩:=x c ρ σ H Φ ts s h1
 obtain⟨w,b1,b2⟩:=k _ vs ts t F a2 h
 exact⟨w,X,[],by simp only[Z2,a1,Option.bind_some,b1],b2,by simp,by simp⟩
theorem Zgd{n:Nat}{es:Exs}{ps:PEs}{q:List T→Option T}{o:List V→Hp→Option (V×Hp)}(k:OCn o q)(x:Es O N u n es ps): E O N false (Z2 o es) (ZW q ps):=fun c ρ σ H Φ t s h=>by
 obtain⟨ts,h1,h⟩:=Zz0.mp h
 obtain⟨_,vs,X,F,a1,a2,a3,a4⟩:=x c ρ σ H Φ ts s h1
 have hp:0<(H++X).length:=by have:=s.pos;have:=s.len;rw[List.length_append];omega
 obtain⟨w,Y,G,b1,b2,b3,b4⟩:=k _ vs ts t F hp a2 h
 rw[List.append_assoc]at b1 b2
 refine⟨w,X++Y,G,by simp only[Z2,a1,Option.bind_some,b1],b2,fun a m=>?_,by simp⟩
 rcases b3 a m with h | h
 ·exact .inl (by rw[List.length_append]at h;omega)
 ·exact a3 a h
theorem ZdI{n:Nat}{es:Exs}{ps:PEs}{q:List T→Option T}{o:List V→Hp→Option (V×Hp)}(k:OCn o q)(x:Es O N u n es ps): E O [] true (Z2 o es) (pFl (ZW q ps)):=fun c ρ σ H Φ t s h=>by
 obtain⟨t',h,hf⟩:=Zz0.mp h
 by_cases fl:t'.flatIn=true
 ·rw[if_pos fl]at hf
  cases hf
  obtain⟨ts,h1,h⟩:=Zz0.mp h
  obtain⟨_,vs,X,F,a1,a2,a3,a4⟩:=x c ρ σ H Φ ts s h1
  have hp:0<(H++X).length:=by have:=s.pos;have:=s.len;rw[List.length_append];omega
  obtain⟨w,Y,G,b1,b2,b3,b4⟩:=k _ vs ts t F hp a2 h
  rw[List.append_assoc]at b1 b2
  exact⟨w,X++Y,G,by simp only[Z2,a1,Option.bind_some,b1],b2,fun a m=>.inl (by have:=(b4 fl).2 a m;rw[List.length_append]at this;omega),fun _=>(b4 fl).1⟩
 ·rw[if_neg fl]at hf;cases hf
def SimF(fr:Bool)(f:List V→Hp→Option (V×Hp))(p:List T→Option T): Prop:=∀(H:Hp) (vs:List V) (ts:List T) (t:T) (F1:List Nat),0<H.length→RFs H vs ts F1→p ts=some t→∃v X F,f vs H=some (v,H++X)∧RF (H++X) v t F∧(∀a∈F,H.length≤a∨a∈F1)∧(fr=true→F.Nodup∧∀a∈F,H.length≤a)
theorem Zt{fr:Bool}{n:Nat}{es:Exs}{ps:PEs}{q:List T→Option T}{o:List V→Hp→Option (V×Hp)}(k:SimF fr o q)(x:Es O N u n es ps): E O N false (Z2 o es) (ZW q ps):=fun c ρ σ H Φ t s h=>by
 obtain⟨ts,h1,h⟩:=Zz0.mp h
 obtain⟨_,vs,X,F,a1,a2,a3,a4⟩:=x c ρ σ H Φ ts s h1
 have hp:0<(H++X).length:=by have:=s.pos;have:=s.len;rw[List.length_append];omega
 obtain⟨w,Y,G,b1,b2,b3,b4⟩:=k _ vs ts t F hp a2 h
 rw[List.append_assoc]at b1 b2
 refine⟨w,X++Y,G,by simp only[Z2,a1,Option.bind_some,b1],b2,fun a m=>?_,by simp⟩
 rcases b3 a m with h | h
 ·exact .inl (by rw[List.length_append]at h;omega)
 ·exact a3 a h
theorem Za9{n:Nat}{es:Exs}{ps:PEs}{q:List T→Option T}{o:List V→Hp→Option (V×Hp)}(k:SimF true o q)(x:Es O N u n es ps): E O [] true (Z2 o es) (ZW q ps):=fun c ρ σ H Φ t s h=>by
 obtain⟨ts,h1,h⟩:=Zz0.mp h
 obtain⟨_,vs,X,F,a1,a2,a3,a4⟩:=x c ρ σ H Φ ts s h1
 have hp:0<(H++X).length:=by have:=s.pos;have:=s.len;rw[List.length_append];omega
 obtain⟨w,Y,G,b1,b2,b3,b4⟩:=k _ vs ts t F hp a2 h
 rw[List.append_assoc]at b1 b2
 exact⟨w,X++Y,G,by simp only[Z2,a1,Option.bind_some,b1],b2,fun a m=>.inl (by have:=(b4 rfl).2 a m;rw[List.length_append]at this;omega),fun _=>(b4 rfl).1⟩
noncomputable def Zbv: T→Option Bool
 | .bool b=>some b
 | .none=>some false
 | .int i=>some (i != 0)
 | _=>none
theorem Zdm{H:Hp}{v:V}{t:T}{F:List Nat}{b:Bool}(r:RF H v t F)(h:Zbv t=some b): Zcg v H=some b:=by
 cases r <;> first | (cases h;rfl) | cases h
noncomputable def Z9(p:PE): PB:=fun σ=>(p σ).bind Zbv
noncomputable def ZeP(p:PB): PB:=fun σ=>(p σ).map fun b=>!b
noncomputable def Zan: PB:=fun _=>some true
noncomputable def Zgm: PB:=fun _=>some false
noncomputable def Zcb(p q:PB): PB:=fun σ=>(p σ).bind fun b=>if b then q σ else some false
noncomputable def bOr(p q:PB): PB:=fun σ=>(p σ).bind fun b=>if b then some true else q σ
noncomputable def bIf(p q r:PB): PB:=fun σ=>(p σ).bind fun b=>if b then q σ else r σ
theorem Zs{e:Ex}{p:PE}(x:E O N u e p): Bt O (Zai e) (Z9 p):=fun c ρ σ H Φ b s h=>by
 obtain⟨t,h1,h⟩:=Zz0.mp h
 obtain⟨v,X,F,a1,a2,a3,a4⟩:=x c ρ σ H Φ t s h1
 exact⟨X,by simp only[Zai,a1,Option.bind_some,Zdm a2 h,Option.map_some]⟩
theorem Zb4{e:Ts}{p:PB}(x:Bt O e p): Bt O (Zli e) (ZeP p):=fun c ρ σ H Φ b s h=>by
 obtain⟨t,h1,h⟩:=Zz1.mp h
 subst h
 obtain⟨X,a1⟩:=x c ρ σ H Φ t s h1
 exact⟨X,by simp only[Zli,a1,Option.map_some]⟩
theorem Zaf: Bt O Zby Zan:=fun c ρ σ H Φ b s h=>by
 cases h;exact⟨[],by simp[Zby]⟩
theorem Zce: Bt O Zgl Zgm:=fun c ρ σ H Φ b s h=>by
 cases h;exact⟨[],by simp[Zgl]⟩
theorem Zak{e f:Ts}{p q:PB}(x:Bt O e p)(y:Bt O f q): Bt O (ZcV e f) (Zcb p q):=fun c ρ σ H Φ b s h=>by
 obtain⟨t,h1,h⟩:=Zz0.mp h
 obtain⟨X,a1⟩:=x c ρ σ H Φ t s h1
 cases t with
 | true=>
  obtain⟨Y,b1⟩:=y c ρ σ (H++X) Φ b (s.ext X) (by simpa using h)
  exact⟨X++Y,by simp[ZcV,a1,b1]⟩
 | false=>cases h;exact⟨X,by simp[ZcV,a1]⟩
theorem ZaS{e f:Ts}{p q:PB}(x:Bt O e p)(y:Bt O f q): Bt O (tOr e f) (bOr p q):=fun c ρ σ H Φ b s h=>by
 obtain⟨t,h1,h⟩:=Zz0.mp h
 obtain⟨X,a1⟩:=x c ρ σ H Φ t s h1
 cases t with
 | false=>
  obtain⟨Y,b1⟩:=y c ρ σ (H++X) Φ b (s.ext X) (by simpa using h)
  exact⟨X++Y,by simp[tOr,a1,b1]⟩
 | true=>cases h;exact⟨X,by simp[tOr,a1]⟩
theorem ZvX{e f g:Ts}{p q r:PB}(x:Bt O e p)(y:Bt O f q)(z:Bt O g r): Bt O (tIf e f g) (bIf p q r):=fun c ρ σ H Φ b s h=>by
 obtain⟨t,h1,h⟩:=Zz0.mp h
 obtain⟨X,a1⟩:=x c ρ σ H Φ t s h1
 cases t with
 | true=>
  obtain⟨Y,b1⟩:=y c ρ σ (H++X) Φ b (s.ext X) (by simpa using h)
  exact⟨X++Y,by simp[tIf,a1,b1]⟩
 | false=>
  obtain⟨Y,b1⟩:=z c ρ σ (H++X) Φ b (s.ext X) (by simpa using h)
  exact⟨X++Y,by simp[tIf,a1,b1]⟩
noncomputable def pIf(b:PB)(p q:PE): PE:=fun σ=>(b σ).bind fun x=>if x then p σ else q σ
noncomputable def Zln(p:PE): PE:=fun σ=>(p σ).bind fun t=>(Zbv t).map fun b=>.bool !b
noncomputable def ZgF(p q:PE): PE:=fun σ=>(p σ).bind fun t=>(Zbv t).bind fun b=>if b then q σ else some t
noncomputable def pOr(p q:PE): PE:=fun σ=>(p σ).bind fun t=>(Zbv t).bind fun b=>if b then some t else q σ
theorem ZdU{M:List Nat}{b:Ts}{pb:PB}{e f:Ex}{p q:PE}(z:Bt O b pb)(x:E O N u e p)(y:E O M u f q): E O (N++M) u (eIf b e f) (pIf pb p q):=fun c ρ σ H Φ t s h=>by
 obtain⟨b',h1,h⟩:=Zz0.mp h
 obtain⟨X,a1⟩:=z c ρ σ H Φ b' s h1
 cases b' with
 | true=>
  obtain⟨v,Y,F,b1,b2,b3,b4⟩:=x c ρ σ (H++X) Φ t (s.ext X) (by simpa using h)
  exact⟨v,X++Y,F,by simp[eIf,a1,b1],by rw[←List.append_assoc];exact b2,fun a m=>(b3 a m).back.mono fun i hi=>List.mem_append_left _ hi,b4⟩
 | false=>
  obtain⟨v,Y,F,b1,b2,b3,b4⟩:=y c ρ σ (H++X) Φ t (s.ext X) (by simpa using h)
  exact⟨v,X++Y,F,by simp[eIf,a1,b1],by rw[←List.append_assoc];exact b2,fun a m=>(b3 a m).back.mono fun i hi=>List.mem_append_right _ hi,b4⟩
theorem Zvp{e:Ex}{p:PE}(x:E O N u e p): E O [] true (Zlj e) (Zln p):=fun c ρ σ H Φ t s h=>by
 obtain⟨t1,h1,h⟩:=Zz0.mp h
 obtain⟨b,h2,h⟩:=Zz1.mp h
 subst h
 obtain⟨v,X,F,a1,a2,a3,a4⟩:=x c ρ σ H Φ t1 s h1
 exact⟨.bool !b,X,[],by simp only[Zlj,a1,Option.bind_some,Zdm a2 h2,Option.map_some],.bool _,by simp,by simp⟩
theorem ZdV{M:List Nat}{e f:Ex}{p q:PE}(x:E O N u e p)(y:E O M u f q): E O (N++M) u (ZgC e f) (ZgF p q):=fun c ρ σ H Φ t s h=>by
 obtain⟨t1,h1,h⟩:=Zz0.mp h
 obtain⟨b,h2,h⟩:=Zz0.mp h
 obtain⟨v,X,F,a1,a2,a3,a4⟩:=x c ρ σ H Φ t1 s h1
 cases b with
 | true=>
  obtain⟨w,Y,F',b1,b2,b3,b4⟩:=y c ρ σ (H++X) Φ t (s.ext X) (by simpa using h)
  exact⟨w,X++Y,F',by simp[ZgC,a1,Zdm a2 h2,b1],by rw[←List.append_assoc];exact b2,fun a m=>(b3 a m).back.mono fun i hi=>List.mem_append_right _ hi,b4⟩
 | false=>
  cases h
  exact⟨v,X,F,by simp[ZgC,a1,Zdm a2 h2],a2,fun a m=>(a3 a m).mono fun i hi=>List.mem_append_left _ hi,a4⟩
theorem ZvO{M:List Nat}{e f:Ex}{p q:PE}(x:E O N u e p)(y:E O M u f q): E O (N++M) u (eOr e f) (pOr p q):=fun c ρ σ H Φ t s h=>by
 obtain⟨t1,h1,h⟩:=Zz0.mp h
 obtain⟨b,h2,h⟩:=Zz0.mp h
 obtain⟨v,X,F,a1,a2,a3,a4⟩:=x c ρ σ H Φ t1 s h1
 cases b with
 | false=>
  obtain⟨w,Y,F',b1,b2,b3,b4⟩:=y c ρ σ (H++X) Φ t (s.ext X) (by simpa using h)
  exact⟨w,X++Y,F',by simp[eOr,a1,Zdm a2 h2,b1],by rw[←List.append_assoc];exact b2,fun a m=>(b3 a m).back.mono fun i hi=>List.mem_append_right _ hi,b4⟩
 | true=>
  cases h
  exact⟨v,X,F,by simp[eOr,a1,Zdm a2 h2],a2,fun a m=>(a3 a m).mono fun i hi=>List.mem_append_left _ hi,a4⟩
noncomputable def Zkp: T→String
 | .none=>"NoneType"
 | .bool _=>"bool"
 | .int _=>"int"
 | .str _=>"str"
 | .tup _=>"tuple"
 | .lst _=>"list"
end
end TM
end
section
namespace TM
open PySem PM
section
variable {O N:List Nat} {u:Bool}
noncomputable def Zhy(K:String)(t:T): Bool:=Zkp t == K || (K == "int" && Zkp t == "bool")
noncomputable def pIs(K:String)(p:PE): PE:=fun σ=>(p σ).map fun t=>.bool (Zhy K t)
theorem ZtC{H:Hp}{v:V}{t:T}{F:List Nat}(r:RF H v t F): Zko v=Zkp t:=by cases r <;> rfl
theorem Zdf{K:String}{e:Ex}{p:PE}(x:E O N u e p): E O [] true (eIs K e) (pIs K p):=fun c ρ σ H Φ t s h=>by
 obtain⟨t1,h1,h⟩:=Zz1.mp h
 subst h
 obtain⟨v,X,F,a1,a2,a3,a4⟩:=x c ρ σ H Φ t1 s h1
 exact⟨.bool (Zhy K t1),X,[],by simp only[eIs,a1,Option.map_some,ZkK,Zhy,ZtC a2],.bool _,by simp,by simp⟩
noncomputable def Zck: T→T→Option T
 | .int a,.int b=>some (.int (a-b))
 | _,_=>none
noncomputable def Zil: T→T→Option T
 | .int a,.int b=>if b≠0∧Builtin.divisionGoesByPylong a b=false then some (.int (a.fdiv b))else none
 | _,_=>none
noncomputable def Zim: T→T→Option T
 | .int a,.int b=>if b≠0 then some (.int (a.fmod b))else none
 | _,_=>none
noncomputable def Zdw: T→T→Option T
 | .int a,.int b=>if 0≤b∧(Builtin.Int.intBits a:Int)*b≤2 ^ 27 then some (.int (a ^ b.toNat))else none
 | _,_=>none
noncomputable def Zdg: T→Option T
 | .int a=>some (.int (-a))
 | _=>none
noncomputable def Zin(p:Int→Int→Bool): T→T→Option T
 | .int a,.int b=>some (.bool (p a b))
 | _,_=>none
noncomputable def qLt:=Zin fun a b=>decide (a<b)
noncomputable def qLe:=Zin fun a b=>decide (a≤b)
noncomputable def qGt:=Zin fun a b=>decide (b<a)
theorem Za5: OA2 Zd1 Zck:=fun H v1 v2 t1 t2 t F1 F2 r1 r2 h=>by
 cases r1 <;> first | (cases h;done) | (cases r2 <;> first | (cases h;done) | (cases h;exact⟨_,rfl,.int _⟩))
theorem Zct: OA2 oDiv Zil:=fun H v1 v2 t1 t2 t F1 F2 r1 r2 h=>by
 cases r1 <;> first | (cases h;done) | skip
 cases r2 <;> first | (cases h;done) | skip
 simp only[Zil]at h
 split at h
 ·rename_i hc;cases h;exact⟨_,by simp only[oDiv];rw[if_pos hc],.int _⟩
 ·cases h
theorem ZaW: OA2 oMod Zim:=fun H v1 v2 t1 t2 t F1 F2 r1 r2 h=>by
 cases r1 <;> first | (cases h;done) | skip
 cases r2 <;> first | (cases h;done) | skip
 simp only[Zim]at h
 split at h
 ·rename_i hc;cases h;exact⟨_,by simp only[oMod];rw[if_pos hc],.int _⟩
 ·cases h
theorem Zk5: OA2 oPow Zdw:=fun H v1 v2 t1 t2 t F1 F2 r1 r2 h=>by
 cases r1 <;> first | (cases h;done) | skip
 cases r2 <;> first | (cases h;done) | skip
 simp only[Zdw]at h
 split at h
 ·rename_i hc;cases h;exact⟨_,by simp only[oPow];rw[if_pos hc],.int _⟩
 ·cases h
theorem Zbn: OA1 ZgD Zdg:=fun H v1 t1 t F1 r1 h=>by
 cases r1 <;> first | (cases h;done) | (cases h;exact⟨_,rfl,.int _⟩)
theorem Zk6(p:Int→Int→Bool): OA2 (Zif p) (Zin p):=fun H v1 v2 t1 t2 t F1 F2 r1 r2 h=>by
 cases r1 <;> first | (cases h;done) | (cases r2 <;> first | (cases h;done) | (cases h;exact⟨_,rfl,.bool _⟩))
theorem ZbQ: OA2 oLt qLt:=Zk6 _
theorem Zlo: OA2 oLe qLe:=Zk6 _
theorem ZcN: OA2 oGt qGt:=Zk6 _
noncomputable def ZdW(f:T→Option PyData): List T→Option (List PyData)
 | []=>some []
 | v::vs=>(f v).bind fun d=>(ZdW f vs).bind fun ds=>some (d::ds)
noncomputable def Zcl: Nat→T→Option PyData
 | _,.none=>some .none
 | _,.bool b=>some (.bool b)
 | _,.int i=>some (.int i)
 | _,.str x=>some (.str x)
 | n+1,.tup vs=>(ZdW (Zcl n) vs).map .tuple
 | n+1,.lst vs=>(ZdW (Zcl n) vs).map .list
 | 0,.tup _=>none
 | 0,.lst _=>none
theorem Zkq{H:Hp}{f:V→Option PyData}{g:T→Option PyData}(h:∀v t F,RF H v t F→f v=g t): ∀{vs:List V} {ts:List T} {F:List Nat},RFs H vs ts F→ZeO f vs=ZdW g ts
 | _,_,_,.nil=>rfl
 | _,_,_,.cons a b=>by simp only[ZeO,ZdW,h _ _ _ a,Zkq h b]
theorem ZhU{H:Hp}: ∀(n:Nat) (v:V) (t:T) (F:List Nat),RF H v t F→toD H n v=Zcl n t:=by
 intro n
 induction n with
 | zero=>intro v t F r;cases r <;> rfl
 | succ n ih=>
  intro v t F r
  cases r with
  | none=>rfl
  | bool=>rfl
  | int=>rfl
  | str=>rfl
  | tup hs=>simp only[toD,Zcl,Zkq ih hs]
  | ref e hs=>simp only[toD,Zcl,e,Option.bind_some,Zkq ih hs]
noncomputable def Zdx(a b:T): Option Bool:=(Zcl ZbA a).bind fun d=>(Zcl ZbA b).bind fun e=>if SeqAt.shaped d=true∧SeqAt.shaped e=true then some (PyData.eqv d e)else none
noncomputable def qEq(a b:T): Option T:=(Zdx a b).map .bool
noncomputable def qNe(a b:T): Option T:=(Zdx a b).map fun c=>.bool !c
theorem ZoW{H:Hp}{v1 v2:V}{t1 t2:T}{F1 F2:List Nat}(r1:RF H v1 t1 F1)(r2:RF H v2 t2 F2): Zig v1 v2 H=Zdx t1 t2:=by
 simp only[Zig,Zdx,ZhU ZbA _ _ _ r1,ZhU ZbA _ _ _ r2]
theorem Zam: OA2 oEq qEq:=fun H v1 v2 t1 t2 t F1 F2 r1 r2 h=>by
 obtain⟨c,h1,h⟩:=Zz1.mp h
 subst h
 exact⟨_,by simp only[oEq,ZoW r1 r2,h1,Option.map_some],.bool _⟩
theorem Zbb: OA2 oNe qNe:=fun H v1 v2 t1 t2 t F1 F2 r1 r2 h=>by
 obtain⟨c,h1,h⟩:=Zz1.mp h
 subst h
 exact⟨_,by simp only[oNe,ZoW r1 r2,h1,Option.map_some],.bool _⟩
noncomputable def qIs: T→T→Option T
 | .none,.none=>some (.bool true)
 | _,.none=>some (.bool false)
 | _,_=>none
noncomputable def ZdO: T→T→Option T
 | .none,.none=>some (.bool false)
 | _,.none=>some (.bool true)
 | _,_=>none
theorem Za0: OA2 oIs qIs:=fun H v1 v2 t1 t2 t F1 F2 r1 r2 h=>by
 cases r1 <;> cases r2 <;> first | (cases h;done) | (cases h;exact⟨_,rfl,.bool _⟩)
theorem Zbu: OA2 ZhS ZdO:=fun H v1 v2 t1 t2 t F1 F2 r1 r2 h=>by
 cases r1 <;> cases r2 <;> first | (cases h;done) | (cases h;exact⟨_,rfl,.bool _⟩)
noncomputable def ZE: T→T→Option T
 | .lst ts,.int k=>(seqIndex? k ts.length).bind fun j=>ts[j]?
 | .tup ts,.int k=>(seqIndex? k ts.length).bind fun j=>ts[j]?
 | _,_=>none
theorem Zk: OI2 ZY ZE:=fun H v1 v2 t1 t2 t F1 F2 r1 r2 h=>by
 cases r1 with
 | none=>cases h
 | bool=>cases h
 | int=>cases h
 | str=>cases h
 | tup hs=>
  cases r2 <;> first | (cases h;done) | skip
  obtain⟨j,h1,h2⟩:=Zz0.mp h
  obtain⟨v,G,e1,e2,e3⟩:=hs.at h2
  exact⟨v,G,by simp only[ZY,hs.length,h1,Option.bind_some,e1,Option.map_some],e2,e3⟩
 | ref e hs=>
  cases r2 <;> first | (cases h;done) | skip
  obtain⟨j,h1,h2⟩:=Zz0.mp h
  obtain⟨v,G,e1,e2,e3⟩:=hs.at h2
  exact⟨v,G,by simp only[ZY,e,Option.bind_some,hs.length,h1,e1,Option.map_some],e2,e3.trans (List.sublist_cons_self _ _)⟩
noncomputable def Zbg: List T→Option T
 | [.lst ts]=>some (.int ts.length)
 | [.tup ts]=>some (.int ts.length)
 | _=>none
theorem RFs.one_inv{H:Hp}{vs:List V}{t:T}{F:List Nat}(r:RFs H vs [t] F): ∃v,vs=[v]∧RF H v t F:=by
 cases r with
 | cons a b=>cases b;rw[List.append_nil];exact⟨_,rfl,a⟩
theorem RFs.two_inv{H:Hp}{vs:List V}{t t':T}{F:List Nat}(r:RFs H vs [t,t'] F): ∃v v' F1 F2,vs=[v,v']∧RF H v t F1∧RF H v' t' F2∧F=F1++F2:=by
 cases r with
 | cons a b=>obtain⟨v',h1,h2⟩:=b.one_inv;subst h1;exact⟨_,_,_,_,rfl,a,h2,rfl⟩
theorem Zaz: OAn Zca Zbg:=fun H vs ts t F r h=>by
 unfold Zbg at h
 split at h
 ·obtain⟨v,rfl,r'⟩:=r.one_inv
  cases r' with
  | ref e hs=>cases h;exact⟨_,by simp only[Zca,e,Option.map_some,hs.length],.int _⟩
 ·obtain⟨v,rfl,r'⟩:=r.one_inv
  cases r' with
  | tup hs=>cases h;exact⟨_,by simp only[Zca,hs.length],.int _⟩
 ·cases h
noncomputable def Zlp: List T→Option T
 | [.int a]=>some (.int (if a<0 then -a else a))
 | _=>none
theorem Zdc: OAn Zlk Zlp:=fun H vs ts t F r h=>by
 unfold Zlp at h
 split at h
 ·obtain⟨v,rfl,r'⟩:=r.one_inv
  cases r';cases h;exact⟨_,rfl,.int _⟩
 ·cases h
noncomputable def Zv1: List T→Option T
 | [.int a,.int b]=>some (.int (if b>a then b else a))
 | _=>none
noncomputable def Zk7: List T→Option T
 | [.int a,.int b]=>some (.int (if b<a then b else a))
 | _=>none
theorem ZuK: OAn Zk3 Zk7:=fun H vs ts t F r h=>by
 unfold Zk7 at h
 split at h
 ·obtain⟨v,w,F1,F2,rfl,r1,r2,_⟩:=r.two_inv
  cases r1;cases r2;cases h;exact⟨_,rfl,.int _⟩
 ·cases h
noncomputable def ZcI: List T→Option (List Int)
 | []=>some []
 | .int k::vs=>(ZcI vs).map fun ks=>k::ks
 | _::_=>none
noncomputable def ZeD: List T→Option (List Bool)
 | []=>some []
 | .bool k::vs=>(ZeD vs).map fun ks=>k::ks
 | _::_=>none
theorem Zhz{H:Hp}: ∀{vs:List V} {ts:List T} {F:List Nat} {ks:List Int},RFs H vs ts F→ZcI ts=some ks→ZcQ vs=some ks
 | _,_,_,_,.nil,h=>h
 | _,_,_,_,.cons a b,h=>by
  cases a <;> first | (cases h;done) | skip
  obtain⟨js,h1,h2⟩:=Zz1.mp h
  subst h2
  simp only[ZcQ,Zhz b h1,Option.map_some]
theorem ZnJ{H:Hp}: ∀{vs:List V} {ts:List T} {F:List Nat} {ks:List Bool},RFs H vs ts F→ZeD ts=some ks→Zey vs=some ks
 | _,_,_,_,.nil,h=>h
 | _,_,_,_,.cons a b,h=>by
  cases a <;> first | (cases h;done) | skip
  obtain⟨js,h1,h2⟩:=Zz1.mp h
  subst h2
  simp only[Zey,ZnJ b h1,Option.map_some]
noncomputable def Zlq: List T→Option T
 | [.lst ts]=>(ZcI ts).map fun ks=>.int ks.sum
 | _=>none
noncomputable def Zio: List T→Option T
 | [.lst ts]=>(ZeD ts).map fun bs=>.bool (bs.any id)
 | _=>none
theorem Zvq: OAn Zih Zlq:=fun H vs ts t F r h=>by
 unfold Zlq at h
 split at h
 ·obtain⟨v,rfl,r'⟩:=r.one_inv
  cases r' with
  | ref e hs=>
   obtain⟨ks,h1,h2⟩:=Zz1.mp h
   subst h2
   exact⟨_,by simp only[Zih,e,Option.bind_some,Zhz hs h1,Option.map_some],.int _⟩
 ·cases h
theorem Zvr: OAn Zij Zio:=fun H vs ts t F r h=>by
 unfold Zio at h
 split at h
 ·obtain⟨v,rfl,r'⟩:=r.one_inv
  cases r' with
  | ref e hs=>
   obtain⟨ks,h1,h2⟩:=Zz1.mp h
   subst h2
   exact⟨_,by simp only[Zij,e,Option.bind_some,ZnJ hs h1,Option.map_some],.bool _⟩
 ·cases h
theorem Zd3{H:Hp}{vs:List V}{ts:List T}{F:List Nat}(r:RFs H vs ts F): RF (H++[vs]) (.ref H.length) (.lst ts) (H.length::F):=.ref (by simp) (r.ext _)
theorem ZfT{H:Hp}{vs:List V}{ts:List T}{F:List Nat}(r:RFs H vs ts F)(h:T.flatIn (.lst ts)=true): (H.length::F).Nodup∧∀a∈H.length::F,H.length≤a:=by
 rw[r.flats (by simpa [T.flatIn]using h)]
 simp
theorem ZsM{H:Hp}{v:V}{t:T}{F:List Nat}(r:RF H v t F)(h:F=[]): F.Nodup∧∀a∈F,H.length≤a:=by subst h;simp
noncomputable def ZgG(ts:List T): Nat→List T
 | 0=>[]
 | n+1=>ZgG ts n++ts
noncomputable def Zap: T→T→Option T
 | .int a,.int b=>some (.int (a+b))
 | .lst a,.lst b=>if(a++b).length≤LEN then some (.lst (a++b))else none
 | .tup a,.tup b=>if(a++b).length≤LEN then some (.tup (a++b))else none
 | _,_=>none
noncomputable def ZbV: T→T→Option T
 | .int a,.int b=>if mulOk a b=true then some (.int (a*b))else none
 | .lst a,.int k=>if a.length*k.toNat≤LEN∧-(2 ^ 63:Int)≤k∧k<2 ^ 63 then some (.lst (ZgG a k.toNat))else none
 | _,_=>none
theorem ZoX{H:Hp}{vs:List V}{ts:List T}{F:List Nat}(r:RFs H vs ts F): ∀n,∃G,RFs H (Zd2 vs n) (ZgG ts n) G∧∀a∈G,a∈F
 | 0=>⟨_,.nil,by simp⟩
 | n+1=>by
  obtain⟨G,h1,h2⟩:=ZoX r n
  exact⟨_,h1.append r,fun a m=>(Zz8.mp m).elim (h2 a) id⟩
theorem Z5: OC2 Za6 Zap:=fun H v1 v2 t1 t2 t F1 F2 r1 r2 h=>by
 cases r1 with
 | none=>cases h
 | bool=>cases h
 | str=>cases h
 | int a=>
  cases r2 <;> first | (cases h;done) | skip
  cases h;exact⟨_,[],[],by simp[Za6],.int _,by simp,by simp⟩
 | tup hs1=>
  cases r2 with
  | none=>cases h
  | bool=>cases h
  | str=>cases h
  | int=>cases h
  | ref=>cases h
  | tup hs2=>
   simp only[Zap]at h
   split at h
   ·rename_i hl
    cases h
    refine⟨_,[],_,?_,.tup (by simpa using hs1.append hs2),fun a m=>.inr (Zz8.mp m),fun hf=>ZsM (H:=H) (.tup (hs1.append hs2)) ((RF.tup (hs1.append hs2)).flat (by simpa [T.flatIn]using hf))⟩
    simp only[Za6,List.append_nil]
    rw[if_pos (by rw[List.length_append]at hl ⊢;rw[hs1.length,hs2.length];exact hl)]
   ·cases h
 | ref e1 hs1=>
  cases r2 with
  | none=>cases h
  | bool=>cases h
  | str=>cases h
  | int=>cases h
  | tup=>cases h
  | ref e2 hs2=>
   simp only[Zap]at h
   split at h
   ·rename_i hl
    cases h
    refine⟨_,_,_,?_,Zd3 (hs1.append hs2),fun a m=>?_,ZfT (hs1.append hs2)⟩
    ·simp only[Za6,e1,e2,Option.bind_some]
     rw[if_pos (by rw[List.length_append]at hl ⊢;rw[hs1.length,hs2.length];exact hl)]
    ·rcases Zz7.mp m with rfl | m
     ·exact .inl (Zz10 _)
     ·rcases Zz8.mp m with m | m
      ·exact .inr (.inl (Zz2 _ m))
      ·exact .inr (.inr (Zz2 _ m))
   ·cases h
theorem ZaT: OC2 Zdv ZbV:=fun H v1 v2 t1 t2 t F1 F2 r1 r2 h=>by
 cases r1 with
 | none=>cases h
 | bool=>cases h
 | str=>cases h
 | tup=>cases h
 | int a=>
  cases r2 <;> first | (cases h;done) | skip
  simp only[ZbV]at h
  split at h
  ·rename_i hm
   cases h;exact⟨_,[],[],by simp only[Zdv];rw[if_pos hm];simp,.int _,by simp,by simp⟩
  ·cases h
 | ref e1 hs1=>
  cases r2 with
  | none=>cases h
  | bool=>cases h
  | str=>cases h
  | tup=>cases h
  | ref=>cases h
  | int k=>
   simp only[ZbV]at h
   split at h
   ·rename_i hl
    cases h
    obtain⟨G,h1,h2⟩:=ZoX hs1 k.toNat
    refine⟨_,_,_,?_,Zd3 h1,fun a m=>?_,ZfT h1⟩
    ·simp only[Zdv,e1,Option.bind_some]
     rw[if_pos (by rw[hs1.length];exact hl)]
    ·rcases Zz7.mp m with rfl | m
     ·exact .inl (Zz10 _)
     ·exact .inr (.inl (Zz2 _ (h2 a m)))
   ·cases h
noncomputable def ZcE: List T→Option T
 | [.lst ts]=>some (.lst ts)
 | [.tup ts]=>some (.lst ts)
 | _=>none
noncomputable def ZhA: List T→Option T
 | [.lst ts]=>some (.tup ts)
 | [.tup ts]=>some (.tup ts)
 | _=>none
theorem ZcB: OCn ZdN ZcE:=fun H vs ts t F hp r h=>by
 unfold ZcE at h
 split at h
 ·obtain⟨v,rfl,r'⟩:=r.one_inv
  cases r' with
  | ref e hs=>cases h;exact⟨_,_,_,by simp only[ZdN,e,Option.map_some],Zd3 hs,fun a m=>(Zz7.mp m).imp (fun q=>Nat.le_of_eq q.symm) (Zz2 _),ZfT hs⟩
 ·obtain⟨v,rfl,r'⟩:=r.one_inv
  cases r' with
  | tup hs=>cases h;exact⟨_,_,_,by simp only[ZdN],Zd3 hs,fun a m=>(Zz7.mp m).imp (fun q=>Nat.le_of_eq q.symm) id,ZfT hs⟩
 ·cases h
end
end TM
end
section
namespace TM
open PySem PM
theorem St.from_src{c:Ctx}{O N:List Nat}{ρ:Lc}{σ:TL}{H:Hp}{Φ:Nat→List Nat}(s:St c O ρ σ H Φ){a:Nat}(f:From H N σ Φ a): c.H0.length≤a∨c.P a:=by
 rcases f with h | ⟨i,hi,⟨t,e⟩,m⟩
 ·exact .inl (Nat.le_trans s.len h)
 ·exact s.src i t e a m
theorem St.from_off{c:Ctx}{O N:List Nat}{ρ:Lc}{σ:TL}{H:Hp}{Φ:Nat→List Nat}(s:St c O ρ σ H Φ)(hN:∀i∈N,i∉O){a:Nat}(f:From H N σ Φ a){i:Nat}(hi:i∈O){t:T}(e:σ i=some t): a∉Φ i:=by
 intro m
 obtain⟨v,_,r⟩:=s.slot i t e
 have hl:=r.lt a m
 rcases f with h | ⟨j,hj,⟨t',e'⟩,m'⟩
 ·omega
 ·exact(s.own i hi t e).2.2 j t' (fun q=>hN j hj (q▸hi)) e' a m m'
noncomputable abbrev PPt:=TL→Option (Option Int)
noncomputable def ZuL: PPt:=fun _=>some none
noncomputable def ZvY(p:PE): PPt:=fun σ=>(p σ).bind fun t=>match t with
 | .int k=>some (some k)
 | _=>none
def Pe(O:List Nat)(f:Pt)(p:PPt): Prop:=∀(c:Ctx) (ρ:Lc) (σ:TL) (H:Hp) (Φ:Nat→List Nat) (k:Option Int),St c O ρ σ H Φ→p σ=some k→∃o X,f ρ H=some (o,H++X)∧Zgt o=some k
section
variable {O N:List Nat} {u:Bool}
theorem Pe.none: Pe O PM.Zgu ZuL:=fun c ρ σ H Φ k s h=>by
 cases h;exact⟨Option.none,[],by simp[PM.Zgu],rfl⟩
noncomputable def ZvZ(p:PE)(lo hi:PPt): PE:=fun σ=>(p σ).bind fun t=>(lo σ).bind fun a=>(hi σ).bind fun b=>match t with
 | .lst ts=>Option.some (.lst (Zcs ts a b))
 | _=>Option.none
noncomputable def Zdr(p:PE)(k:Nat): PE:=fun σ=>(p σ).bind fun t=>match t with
 | .lst ts=>Option.some (.lst (ts.drop k))
 | .tup ts=>if 1≤k∧k≤ts.length then Option.some (.tup (ts.drop k))else Option.none
 | _=>Option.none
theorem Zr1{c:Ctx}{ρ:Lc}{σ:TL}{H:Hp}{Φ:Nat→List Nat}{t:T}{e:Ex}{p:PE}{k:Nat}(x:E O N u e p)(s:St c O ρ σ H Φ)(h:Zdr p k σ=Option.some t):
  ∃v X F,Zgw e k ρ H=Option.some (v,H++X)∧RF (H++X) v t F∧(∀a∈F,From H N σ Φ a)∧(t.flatIn=true→F.Nodup∧∀a∈F,H.length≤a):=by
 obtain⟨t1,h1,h⟩:=Zz0.mp h
 obtain⟨v,X,F,a1,a2,a3,a4⟩:=x c ρ σ H Φ t1 s h1
 cases a2 with
 | none=>cases h
 | bool=>cases h
 | int=>cases h
 | str=>cases h
 | tup hs=>
  simp only at h
  split at h
  ·rename_i hc
   cases h
   obtain⟨G,g1,g2⟩:=hs.drop k
   refine⟨_,X,G,?_,.tup g1,fun a m=>a3 a (g2.subset m),fun hf=>?_⟩
   ·simp only[Zgw,a1,Option.bind_some]
    rw[if_pos (by rw[hs.length];exact hc)]
   ·rw[g1.flats (by simpa [T.flatIn,T.flat]using hf)]
    simp
  ·cases h
 | @ref b vs1 ts1 F1 e1 hs=>
  cases h
  obtain⟨G,g1,g2⟩:=hs.drop k
  refine⟨.ref (H++X).length,X++[vs1.drop k],(H++X).length::G,?_,?_,fun a m=>?_,fun hf=>?_⟩
  ·simp only[Zgw,a1,Option.bind_some,e1,List.append_assoc]
  ·rw[←List.append_assoc];exact Zd3 g1
  ·rcases Zz7.mp m with rfl | m
   ·exact .inl (by simp)
   ·exact a3 a (Zz2 _ (g2.subset m))
  ·have:=ZfT g1 hf
   exact⟨this.1,fun q m=>by have:=this.2 q m;simp at this;omega⟩
theorem ZeE{e:Ex}{p:PE}{k:Nat}(x:E O N u e p): E O N false (Zgw e k) (Zdr p k):=fun c ρ σ H Φ t s h=>by
 obtain⟨v,X,F,a1,a2,a3,a4⟩:=Zr1 x s h
 exact⟨v,X,F,a1,a2,a3,by simp⟩
end
def Gs(O N:List Nat)(g:Src)(q:PG): Prop:=∀(c:Ctx) (ρ:Lc) (σ:TL) (H:Hp) (Φ:Nat→List Nat) (ts:List T),St c O ρ σ H Φ→q σ=some ts →
 ∃(nx:Nx) (X:Hp) (vs:List V) (F G:List Nat),g ρ H=some (nx,ts.length+1,H++X)∧RFs (H++X) vs ts F∧(∀a∈F,a∈G)∧(∀a∈G,a<(H++X).length∧From H N σ Φ a)∧∀K:Hp,(∀a∈G,K[a]?=(H++X)[a]?)→∀i,i≤vs.length→nx i K=some vs[i]?
section
variable {O N M:List Nat} {u u':Bool}
noncomputable def ZaM(p:PE): PG:=fun σ=>(p σ).bind fun t=>match t with
 | .lst ts=>some ts
 | .tup ts=>some ts
 | _=>none
theorem Gs.seq{e:Ex}{p:PE}(x:E O N u e p): Gs O N (ZcM e) (ZaM p):=fun c ρ σ H Φ ts s h=>by
 obtain⟨t1,h1,h⟩:=Zz0.mp h
 obtain⟨v,X,F,a1,a2,a3,a4⟩:=x c ρ σ H Φ t1 s h1
 have hlt:=a2.lt
 cases a2 with
 | none=>cases h
 | bool=>cases h
 | int=>cases h
 | str=>cases h
 | @tup vs _ _ hs=>
  cases h
  exact⟨ZoT vs,X,vs,F,F,by simp only[ZcM,a1,Option.bind_some,hs.length],hs,fun _ m=>m,fun a m=>⟨hlt a m,a3 a m⟩,fun K _ i hi=>rfl⟩
 | @ref b vs _ F' e1 hs=>
  cases h
  refine⟨ZkL b,X,vs,F',b::F',by simp only[ZcM,a1,Option.bind_some,e1,Option.map_some,hs.length],hs,fun _ m=>List.mem_cons_of_mem _ m,fun a m=>⟨hlt a m,a3 a m⟩,fun K hK i hi=>?_⟩
  simp only[ZkL,hK b Zz5,e1,Option.map_some]
noncomputable def ZbW(a b c:Int): Option (List T):=if c≠0∧Builtin.Range.small a b c=true∧0≤Builtin.Range.rangeSize a b c∧rngN a b c≤LEN∧Builtin.divisionGoesByPylong (b-a) c=false then some ((List.range (rngN a b c)).map fun(i:Nat)=>.int (a+(i:Int)*c))else none
noncomputable def Zbw(p:PEs): PG:=fun σ=>(p σ).bind fun ts=>match ts with
 | [.int b]=>ZbW 0 b 1
 | [.int a,.int b]=>ZbW a b 1
 | [.int a,.int b,.int c]=>ZbW a b c
 | _=>none
theorem ZnK(H:Hp)(a c:Int): ∀(l:List Nat),RFs H (l.map fun(i:Nat)=>.int (a+(i:Int)*c)) (l.map fun(i:Nat)=>.int (a+(i:Int)*c)) []
 | []=>.nil
 | i::l=>by have:=RFs.cons (RF.int (H:=H) (a+i*c)) (ZnK H a c l);exact this
theorem Zke{a b c:Int}{H:Hp}{ts:List T}(h:ZbW a b c=some ts): ∃(nx:Nx) (vs:List V),Zb0 a b c H=some (nx,ts.length+1,H)∧RFs H vs ts []∧∀K:Hp,∀i,i≤vs.length→nx i K=some vs[i]?:=by
 unfold ZbW at h
 split at h
 ·rename_i hc
  cases h
  refine⟨Zew a c (rngN a b c),(List.range (rngN a b c)).map fun(i:Nat)=>.int (a+(i:Int)*c),?_,ZnK H a c _,fun K i hi=>?_⟩
  ·unfold Zb0
   rw[if_pos hc]
   simp
  ·simp only[Zew,List.getElem?_map]
   by_cases q:i<rngN a b c
   ·rw[if_pos q,List.getElem?_range q];rfl
   ·rw[if_neg q,List.getElem?_eq_none (by simpa using Nat.le_of_not_lt q)];rfl
 ·cases h
theorem RFs.three_inv{H:Hp}{vs:List V}{t t' t'':T}{F:List Nat}(r:RFs H vs [t,t',t''] F): ∃v v' v'' F1 F2 F3,vs=[v,v',v'']∧RF H v t F1∧RF H v' t' F2∧RF H v'' t'' F3:=by
 cases r with
 | cons a b=>obtain⟨v',v'',F2,F3,h1,h2,h3,_⟩:=b.two_inv;subst h1;exact⟨_,_,_,_,_,_,rfl,a,h2,h3⟩
theorem Gs.range{n:Nat}{e:Exs}{p:PEs}(x:Es O N u n e p): Gs O [] (Zb3 e) (Zbw p):=fun c ρ σ H Φ ts s h=>by
 obtain⟨t1,h1,h⟩:=Zz0.mp h
 obtain⟨_,vs,X,F,a1,a2,a3,a4⟩:=x c ρ σ H Φ t1 s h1
 split at h
 ·obtain⟨v,rfl,r⟩:=a2.one_inv
  cases r
  obtain⟨nx,us,q1,q2,q3⟩:=Zke (H:=H++X) h
  exact⟨nx,X,us,[],[],by simp only[Zb3,a1,Option.bind_some,q1],q2,by simp,by simp,fun K _=>q3 K⟩
 ·obtain⟨v,v',F1,F2,rfl,r,r',_⟩:=a2.two_inv
  cases r;cases r'
  obtain⟨nx,us,q1,q2,q3⟩:=Zke (H:=H++X) h
  exact⟨nx,X,us,[],[],by simp only[Zb3,a1,Option.bind_some,q1],q2,by simp,by simp,fun K _=>q3 K⟩
 ·obtain⟨v,v',v'',F1,F2,F3,rfl,r,r',r''⟩:=a2.three_inv
  cases r;cases r';cases r''
  obtain⟨nx,us,q1,q2,q3⟩:=Zke (H:=H++X) h
  exact⟨nx,X,us,[],[],by simp only[Zb3,a1,Option.bind_some,q1],q2,by simp,by simp,fun K _=>q3 K⟩
 ·cases h
noncomputable def Zip(p q:PE): PG:=fun σ=>(p σ).bind fun t=>(q σ).bind fun s=>match t,s with
 | .lst ts,.lst ss=>some (List.zipWith (fun x y=>.tup [x,y]) ts ss)
 | _,_=>none
theorem RFs.zip{H:Hp}: ∀{vs us:List V} {ts ss:List T} {F G:List Nat},RFs H vs ts F→RFs H us ss G→∃D,RFs H (List.zipWith (fun x y=>.tup [x,y]) vs us) (List.zipWith (fun x y=>.tup [x,y]) ts ss) D∧∀a∈D,a∈F∨a∈G
 | _,_,_,_,_,_,.nil,_=>⟨_,.nil,by simp⟩
 | _,_,_,_,_,_,.cons _ _,.nil=>⟨_,.nil,by simp⟩
 | _,_,_,_,_,_,.cons a b,.cons a' b'=>by
  obtain⟨D,h1,h2⟩:=b.zip b'
  refine⟨_,.cons (.tup (.cons a (.one a'))) h1,fun x m=>?_⟩
  rcases Zz8.mp m with m | m
  ·rcases Zz8.mp m with m | m
   ·exact .inl (Zz4 _ m)
   ·exact .inr (Zz4 _ m)
  ·exact(h2 x m).imp (Zz3 _) (Zz3 _)
theorem Gs.zip{e1 e2:Ex}{p1 p2:PE}(x:E O N u e1 p1)(y:E O M u' e2 p2): Gs O (N++M) (Zii e1 e2) (Zip p1 p2):=fun c ρ σ H Φ ts s h=>by
 obtain⟨t1,h1,h⟩:=Zz0.mp h
 obtain⟨t2,h2,h⟩:=Zz0.mp h
 obtain⟨v,X,F,a1,a2,a3,a4⟩:=x c ρ σ H Φ t1 s h1
 obtain⟨w,Y,G,b1,b2,b3,b4⟩:=y c ρ σ (H++X) Φ t2 (s.ext X) h2
 have a2:=a2.ext Y
 have l1:=a2.lt
 have l2:=b2.lt
 rw[List.append_assoc]at a2 b2 l1 l2 b1
 cases a2 with
 | none=>cases h
 | bool=>cases h
 | int=>cases h
 | str=>cases h
 | tup=>cases b2 <;> cases h
 | @ref a vs _ F' e1 hs=>
  cases b2 with
  | none=>cases h
  | bool=>cases h
  | int=>cases h
  | str=>cases h
  | tup=>cases h
  | @ref b us _ G' e2 hs2=>
   cases h
   obtain⟨D,d1,d2⟩:=hs.zip hs2
   refine⟨Zgv a b,X++Y,_,D,a::b::D,?_,d1,fun q m=>List.mem_cons_of_mem _ (Zz2 _ m),fun q m=>?_,fun K hK i hi=>?_⟩
   ·simp only[Zii,a1,Option.bind_some,b1,e1,e2,Option.map_some,List.length_zipWith,hs.length,hs2.length]
   ·rcases Zz7.mp m with rfl | m
    ·exact⟨l1 _ Zz5,(a3 _ Zz5).mono fun i hi=>List.mem_append_left _ hi⟩
    ·rcases Zz7.mp m with rfl | m
     ·exact⟨l2 _ Zz5,(b3 _ Zz5).back.mono fun i hi=>List.mem_append_right _ hi⟩
     ·rcases d2 q m with m | m
      ·exact⟨l1 _ (Zz2 _ m),(a3 _ (Zz2 _ m)).mono fun i hi=>List.mem_append_left _ hi⟩
      ·exact⟨l2 _ (Zz2 _ m),(b3 _ (Zz2 _ m)).back.mono fun i hi=>List.mem_append_right _ hi⟩
   ·simp only[Zgv,hK a Zz5,hK b (Zz2 _ Zz5),e1,e2,Option.bind_some,List.getElem?_zipWith]
    rw[List.length_zipWith]at hi
    by_cases q:i<min vs.length us.length
    ·rw[List.getElem?_eq_getElem (show i<vs.length by omega),List.getElem?_eq_getElem (show i<us.length by omega)]
    ·have q':i=min vs.length us.length:=by omega
     by_cases q2:i<vs.length
     ·rw[List.getElem?_eq_getElem q2,List.getElem?_eq_none (show us.length≤i by omega)]
      simp[q']
     ·rw[List.getElem?_eq_none (show vs.length≤i by omega)]
      simp[q']
end
def PutOk(O J:List Nat)(put:V→Lc→Option Lc)(q:T→TL→Option TL): Prop:=∀(c:Ctx) (ρ:Lc) (σ:TL) (H:Hp) (Φ:Nat→List Nat) (v:V) (t:T) (F:List Nat) (σ1:TL),St c O ρ σ H Φ→RF H v t F→(∀a∈F,c.H0.length≤a∨c.P a)→(∀i∈O,∀t',σ i=some t'→∀a∈Φ i,a∉F)→q t σ=some σ1 →
 ∃ρ1 Φ1,put v ρ=some ρ1∧St c O ρ1 σ1 H Φ1∧(∀i,i∉J→σ1 i=σ i∧Φ1 i=Φ i)∧∀i∈J,∀a∈Φ1 i,a∈F
noncomputable def Z7(Φ:Nat→List Nat)(j:Nat)(F:List Nat): Nat→List Nat:=fun i=>if i=j then F else Φ i
theorem St.put{c:Ctx}{O:List Nat}{ρ:Lc}{σ:TL}{H:Hp}{Φ:Nat→List Nat}{v:V}{t:T}{F:List Nat}{j:Nat}(s:St c O ρ σ H Φ)(hj:j∉O)(r:RF H v t F)(hs:∀a∈F,c.H0.length≤a∨c.P a)(ho:∀i∈O,∀t',σ i=some t'→∀a∈Φ i,a∉F): St c O (upd ρ j v) (ZN σ j t) H (Z7 Φ j F):=by
 refine⟨fun i u e=>?_,fun i u e=>?_,fun i hi u e=>?_,s.len,s.keep,s.pos,s.f0⟩
 ·by_cases q:i=j
  ·subst q
   simp[ZN]at e
   subst e
   exact⟨v,by simp[upd],by simpa [Z7]using r⟩
  ·simp[ZN,q]at e
   simpa [upd,Z7,q]using s.slot i u e
 ·by_cases q:i=j
  ·subst q;simpa [Z7]using hs
  ·simp[ZN,q]at e
   simpa [Z7,q]using s.src i u e
 ·have q:i≠j:=fun q=>hj (q▸hi)
  simp[ZN,q]at e
  obtain⟨h1,h2,h3⟩:=s.own i hi u e
  refine⟨by simpa [Z7,q]using h1,by simpa [Z7,q]using h2,fun k w hk ek=>?_⟩
  by_cases q2:k=j
  ·subst q2
   simpa [Z7,q]using ho i hi u e
  ·simp[ZN,q2]at ek
   simpa [Z7,q,q2]using h3 k w hk ek
noncomputable def Zaa(j:Nat): T→TL→Option TL:=fun t σ=>some (ZN σ j t)
noncomputable def ZdX(i j:Nat): T→TL→Option TL
 | .tup [a,b],σ=>some (ZN (ZN σ i a) j b)
 | _,_=>none
theorem PutOk.one{O:List Nat}{j:Nat}(hj:j∉O:=by decide): PutOk O [j] (put1 j) (Zaa j):=fun c ρ σ H Φ v t F σ1 s r hs ho h=>by
 cases h
 refine⟨_,_,rfl,s.put hj r hs ho,fun i hi=>?_,fun i hi a m=>?_⟩
 ·have:i≠j:=fun q=>hi (by simp[q])
  simp[ZN,Z7,this]
 ·simp at hi;subst hi;simpa [Z7]using m
theorem PutOk.two{O:List Nat}{i j:Nat}(hi:i∉O:=by decide)(hj:j∉O:=by decide)(hij:i≠j:=by decide): PutOk O [i,j] (ZcW i j) (ZdX i j):=fun c ρ σ H Φ v t F σ1 s r hs ho h=>by
 unfold ZdX at h
 split at h
 ·cases h
  cases r with
  | tup hh=>
   obtain⟨v1,v2,F1,F2,rfl,r1,r2,rfl⟩:=hh.two_inv
   have s1:=s.put hi r1 (fun a m=>hs a (Zz4 _ m)) (fun k hk t' e a m q=>ho k hk t' e a m (Zz4 _ q))
   have s2:=s1.put hj r2 (fun a m=>hs a (Zz3 _ m)) (fun k hk t' e a m q=>by
    have:k≠i:=fun q=>hi (q▸hk)
    simp[ZN,Z7,this]at e m
    exact ho k hk t' e a m (Zz3 _ q))
   refine⟨_,_,rfl,s2,fun k hk=>?_,fun k hk a m=>?_⟩
   ·simp at hk
    simp[ZN,Z7,hk.1,hk.2]
   ·simp at hk
    rcases hk with rfl | rfl
    ·simp[Z7,hij]at m
     exact Zz4 _ m
    ·simp[Z7]at m
     exact Zz3 _ m
 ·cases h
noncomputable def ZbT(put:T→TL→Option TL)(c:PB)(f:PE)(σ:TL): List T→Option (List T)
 | []=>some []
 | t::ts=>(put t σ).bind fun σ1=>(c σ1).bind fun b=>if b then(f σ1).bind fun x=>(ZbT put c f σ ts).map fun xs=>x::xs else ZbT put c f σ ts
noncomputable def Zav(g:PG)(put:T→TL→Option TL)(c:PB)(f:PE): PE:=fun σ=>(g σ).bind fun ts=>if ts.length≤LEN then(ZbT put c f σ ts).map .lst else none
section
variable {O Ns Ne J:List Nat} {u:Bool}
theorem comp_core{put:V→Lc→Option Lc}{pput:T→TL→Option TL}{tc:Ts}{pc:PB}{f:Ex}{pf:PE}(hj:PutOk O J put pput)(hN:∀i∈Ns,i∉O)(hc:Bt O tc pc)(hf:E O Ne u f pf)(hu:u=true→Ne=[])
  {c:Ctx} {ρ:Lc} {σ:TL} {Φ:Nat→List Nat} {H0 H1:Hp} {nx:Nx} {vs:List V} {G:List Nat} (h0:H0.length≤H1.length)
  (hG:∀a∈G,a<H1.length∧From H0 Ns σ Φ a) (hoff:∀a∈G,∀i∈O,∀t,σ i=some t→a∉Φ i) (hsrc:∀a∈G,c.H0.length≤a∨c.P a) (hnx:∀K:Hp,(∀a∈G,K[a]?=H1[a]?)→∀i,i≤vs.length→nx i K=some vs[i]?):
  ∀(rs:List T) (ws:List V) (i:Nat) (acc:List V) (K:Hp) (Fr:List Nat) (out:List T),(∀j,vs[i+j]?=ws[j]?)→i+ws.length=vs.length→St c O ρ σ K Φ→H1.length≤K.length→(∀a∈G,K[a]?=H1[a]?)→RFs K ws rs Fr→(∀a∈Fr,a∈G)→acc.length+rs.length≤LEN→ZbT pput pc pf σ rs=some out →
   ∃xs X F,Zci nx put tc f ρ (rs.length+1) i acc K=some (acc++xs,K++X)∧RFs (K++X) xs out F∧(∀a∈F,(u=true→K.length≤a)∧From H0 (Ns++Ne) σ Φ a)∧(u=true→F.Nodup)
 | [],ws,i,acc,K,Fr,out,hat,hlen,s,hl,hk,r,hfr,hacc,h=>by
  cases r
  cases h
  have e:=hnx K hk i (by simp at hlen;omega)
  have e2:vs[i]?=none:=by have:=hat 0;simpa using this
  refine⟨[],[],[],?_,.nil,by simp,by simp⟩
  simp[Zci,e,e2]
 | t::rs,ws0,i,acc,K,Fr0,out,hat,hlen,s,hl,hk,r,hfr,hacc,h=>by
  cases r with
  | @cons v _ F1 ws _ F2 a b=>
  simp only[List.length_cons]at hlen hacc
  obtain⟨σ1,h1,h⟩:=Zz0.mp h
  obtain⟨bb,h2,h⟩:=Zz0.mp h
  have e:=hnx K hk i (by omega)
  have e2:vs[i]?=some v:=by have:=hat 0;simpa using this
  have hat':∀j,vs[i+1+j]?=ws[j]?:=fun j=>by have:=hat (j+1);rw[show i+1+j=i+(j+1)by omega,this];simp
  obtain⟨ρ1,Φ1,p1,s1,p3,p4⟩:=hj c ρ σ K Φ v t F1 σ1 s a (fun x m=>hsrc x (hfr x (Zz4 _ m))) (fun k hk t' e x m q=>hoff x (hfr x (Zz4 _ q)) k hk t' e m) h1
  obtain⟨X1,c1⟩:=hc c ρ1 σ1 K Φ1 bb s1 h2
  cases bb with
  | true=>
   obtain⟨y,h3,h⟩:=Zz0.mp h
   obtain⟨ys,h4,h⟩:=Zz1.mp h
   subst h
   obtain⟨w,X2,Fw,d1,d2,d3,d4⟩:=hf c ρ1 σ1 (K++X1) Φ1 y (s1.ext X1) h3
   have hext:∀a∈G,(K++X1++X2)[a]?=H1[a]?:=fun a m=>by
    have:=(hG a m).1
    rw[List.append_assoc,List.getElem?_append_left (by omega)];exact hk a m
   obtain⟨xs,X3,F3,f1,f2,f3,f4⟩:=comp_core hj hN hc hf hu h0 hG hoff hsrc hnx rs ws (i+1) (acc++[w]) (K++X1++X2) F2 ys hat' (by omega) ((s.ext X1).ext X2) (by simp;omega) hext (by rw[List.append_assoc];exact b.ext _) (fun x m=>hfr x (Zz3 _ m)) (by simp;omega) h4
   refine⟨w::xs,X1++X2++X3,Fw++F3,?_,?_,fun x m=>?_,fun hu'=>?_⟩
   ·rw[List.length_cons,Zci,e,e2]
    simp only[Option.bind_some,p1,c1,d1,if_true]
    rw[if_pos (by omega)]
    simpa using f1
   ·have:=RFs.cons (d2.ext X3) f2
    simpa using this
   ·rcases Zz8.mp m with m | m
    ·refine⟨fun hu'=>?_,?_⟩
     ·have hne:=hu hu'
      subst hne
      have:=(d3 x m).nil
      simp at this;omega
     ·rcases d3 x m with q | ⟨k,hk1,⟨tk,ek⟩,mk⟩
      ·exact .inl (by simp at q;omega)
      ·by_cases hkJ:k∈J
       ·exact(hG x (hfr x (Zz4 _ (p4 k hkJ x mk)))).2.mono fun i hi=>List.mem_append_left _ hi
       ·obtain⟨q1,q2⟩:=p3 k hkJ
        exact .inr ⟨k,List.mem_append_right _ hk1,⟨tk,q1▸ek⟩,q2▸mk⟩
    ·obtain⟨g1,g2⟩:=f3 x m
     exact⟨fun hu'=>by have:=g1 hu';simp at this;omega,g2⟩
   ·rw[List.nodup_append]
    refine⟨d4 hu',f4 hu',fun x hx y hy e=>?_⟩
    have l1:=d2.lt x hx
    have l2:=(f3 y hy).1 hu'
    omega
  | false=>
   have hext:∀a∈G,(K++X1)[a]?=H1[a]?:=fun a m=>by
    have:=(hG a m).1
    rw[List.getElem?_append_left (by omega)];exact hk a m
   obtain⟨xs,X3,F3,f1,f2,f3,f4⟩:=comp_core hj hN hc hf hu h0 hG hoff hsrc hnx rs ws (i+1) acc (K++X1) F2 out hat' (by omega) (s.ext X1) (by simp;omega) hext (b.ext _) (fun x m=>hfr x (Zz3 _ m)) (by omega) (by simpa using h)
   refine⟨xs,X1++X3,F3,?_,by simpa using f2,fun x m=>?_,f4⟩
   ·rw[List.length_cons,Zci,e,e2]
    simp only[Option.bind_some,p1,c1]
    simpa using f1
   ·obtain⟨g1,g2⟩:=f3 x m
    exact⟨fun hu'=>by have:=g1 hu';simp at this;omega,g2⟩
theorem ZoY{g:Src}{q:PG}{put:V→Lc→Option Lc}{pput:T→TL→Option TL}{tc:Ts}{pc:PB}{f:Ex}{pf:PE}(hg:Gs O Ns g q)(hj:PutOk O J put pput)(hN:∀i∈Ns,i∉O)(hc:Bt O tc pc)(hf:E O Ne u f pf)(hu:u=true→Ne=[]): E O (if u then []else Ns++Ne) u (Zbe g put tc f) (Zav q pput pc pf):=fun c ρ σ H Φ t s h=>by
 obtain⟨ts,h1,h⟩:=Zz0.mp h
 split at h
 ·rename_i hl
  obtain⟨out,h2,h⟩:=Zz1.mp h
  subst h
  obtain⟨nx,X,vs,F,G,g1,g2,g3,g4,g5⟩:=hg c ρ σ H Φ ts s h1
  obtain⟨xs,Y,F',d1,d2,d3,d4⟩:=comp_core hj hN hc hf hu (H0:=H) (H1:=H++X) (by simp) g4 (fun a m i hi t e=>s.from_off hN (g4 a m).2 hi e) (fun a m=>s.from_src (g4 a m).2) g5 ts vs 0 [] (H++X) F out (by simp) (by simp) (s.ext X) (Zz10 _) (fun _ _=>rfl) g2 g3 (by simpa using hl) h2
  refine⟨.ref (H++X++Y).length,X++Y++[xs],(H++X++Y).length::F',?_,?_,fun a m=>?_,fun hu'=>?_⟩
  ·simp only[Zbe,g1,Option.bind_some,d1,Option.map_some,List.nil_append,List.append_assoc]
  ·have:=Zd3 d2
   simpa using this
  ·rcases Zz7.mp m with rfl | m
   ·exact .inl (by simp)
   ·obtain⟨q1,q2⟩:=d3 a m
    cases u with
    | true=>exact .inl (by have:=q1 rfl;simp at this;omega)
    | false=>exact q2
  ·rw[List.nodup_cons]
   exact⟨fun m=>Nat.lt_irrefl _ (d2.lt _ m),d4 hu'⟩
 ·cases h
end
end TM
end
section
namespace TM
open PySem PM
noncomputable abbrev PS:=TL→Option (Option T×TL)
noncomputable def Zb9(σ:TL)(N:List Nat): TL:=fun j=>if j∈N then none else σ j
def Held(O:List Nat)(σ:TL)(Φ:Nat→List Nat)(a:Nat): Prop:=∃j∈O,(∃t,σ j=some t)∧a∈Φ j
def Aft(c:Ctx)(O O' R:List Nat)(fr:Bool)(σ:TL)(H:Hp)(Φ:Nat→List Nat)(g:Option (Option V×Lc×Hp))(r:Option T×TL): Prop:=
 ∃ρ' H' Φ',H.length≤H'.length∧(∀a,a<H.length→¬Held O σ Φ a→H'[a]?=H[a]?) ∧
  ((r.1=none∧g=some (none,ρ',H')∧St c O' ρ' r.2 H' Φ'∧∀a,Held O' r.2 Φ' a→H.length≤a∨Held O σ Φ a) ∨
  ∃t v F,r.1=some t∧g=some (some v,ρ',H')∧RF H' v t F∧St c R ρ' r.2 H' Φ'∧(∀a∈F,c.H0.length≤a∨c.P a)∧(fr=true→F.Nodup∧∀a∈F,c.H0.length≤a∨a∈c.F0))
def S(O O' R:List Nat)(fr:Bool)(g:Sm)(q:PS): Prop:=∀(c:Ctx) (ρ:Lc) (σ:TL) (H:Hp) (Φ:Nat→List Nat) (r:Option T×TL),St c O ρ σ H Φ→q σ=some r→Aft c O O' R fr σ H Φ (g ρ H) r
theorem Held.mono{O O':List Nat}{σ:TL}{Φ:Nat→List Nat}{a:Nat}(h:Held O σ Φ a)(s:∀i∈O,i∈O'): Held O' σ Φ a:=by
 obtain⟨j,hj,q⟩:=h;exact⟨j,s j hj,q⟩
section
variable {O O' R:List Nat} {fr:Bool}
theorem Zv2{O0:List Nat}{g:Sm}{q:PS}(x:S O0 O' R fr g q)(h:∀i∈O0,i∈O): S O O' R fr g q:=fun c ρ σ H Φ r s e=>by
 obtain⟨ρ',H',Φ',h1,h2,h3⟩:=x c ρ σ H Φ r (s.less h) e
 refine⟨ρ',H',Φ',h1,fun a ha hn=>h2 a ha fun q=>hn (q.mono h),?_⟩
 rcases h3 with⟨k1,k2,k3,k4⟩ | k
 ·exact .inl ⟨k1,k2,k3,fun a m=>(k4 a m).imp id fun q=>q.mono h⟩
 ·exact .inr k
noncomputable def ZaC: PS:=fun σ=>some (none,σ)
theorem ZJ: S O O R fr ZaL ZaC:=fun c ρ σ H Φ r s e=>by
 cases e
 exact⟨ρ,H,Φ,Nat.le_refl _,fun _ _ _=>rfl,.inl ⟨rfl,rfl,s,fun a m=>.inr m⟩⟩
noncomputable def Z1(a b:PS): PS:=fun σ=>(a σ).bind fun r=>match r.1 with
 | some _=>some r
 | none=>b r.2
theorem Zj{O1:List Nat}{a b:Sm}{p q:PS}(x:S O O1 R fr a p)(y:S O1 O' R fr b q): S O O' R fr (Z6 a b) (Z1 p q):=fun c ρ σ H Φ r s e=>by
 obtain⟨r1,e1,e⟩:=Zz0.mp e
 obtain⟨ρ1,H1,Φ1,h1,h2,h3⟩:=x c ρ σ H Φ r1 s e1
 rcases h3 with⟨k1,k2,k3,k4⟩ | ⟨t,v,F,k1,k2,k3⟩
 ·rw[k1]at e
  obtain⟨ρ2,H2,Φ2,g1,g2,g3⟩:=y c ρ1 r1.2 H1 Φ1 r k3 e
  refine⟨ρ2,H2,Φ2,Nat.le_trans h1 g1,fun a ha hn=>?_,?_⟩
  ·rw[g2 a (by omega) fun q=>(k4 a q).elim (fun q=>by omega) hn,h2 a ha hn]
  ·have eg:Z6 a b ρ H=b ρ1 H1:=by simp only[Z6,k2,Option.bind_some]
   rw[eg]
   rcases g3 with⟨l1,l2,l3,l4⟩ | l
   ·refine .inl ⟨l1,l2,l3,fun a m=>?_⟩
    rcases l4 a m with q | q
    ·exact .inl (by omega)
    ·exact k4 a q
   ·exact .inr l
 ·rw[k1]at e
  cases e
  exact⟨ρ1,H1,Φ1,h1,h2,.inr ⟨t,v,F,k1,by simp only[Z6,k2,Option.bind_some],k3⟩⟩
noncomputable def Zaq(p:PE): PS:=fun σ=>(p σ).map fun t=>(some t,σ)
theorem ZB{N:List Nat}{u:Bool}{e:Ex}{p:PE}(x:E O N u e p)(hR:∀i∈R,i∈O:=by decide): S O O' R false (Zat e) (Zaq p):=fun c ρ σ H Φ r s q=>by
 obtain⟨t,h1,h⟩:=Zz1.mp q
 subst h
 obtain⟨v,X,F,a1,a2,a3,a4⟩:=x c ρ σ H Φ t s h1
 refine⟨ρ,H++X,Φ,by simp,fun a ha _=>List.getElem?_append_left ha,.inr ⟨t,v,F,rfl,by simp only[Zat,a1,Option.map_some],a2,(s.ext X).less hR,fun a m=>s.from_src (a3 a m),by simp⟩⟩
theorem ZaG{N:List Nat}{e:Ex}{p:PE}(x:E O N true e p)(hN:∀i∈N,i∈O:=by decide)(hR:∀i∈R,i∈O:=by decide): S O O' R fr (Zat e) (Zaq p):=fun c ρ σ H Φ r s q=>by
 obtain⟨t,h1,h⟩:=Zz1.mp q
 subst h
 obtain⟨v,X,F,a1,a2,a3,a4⟩:=x c ρ σ H Φ t s h1
 refine⟨ρ,H++X,Φ,by simp,fun a ha _=>List.getElem?_append_left ha,.inr ⟨t,v,F,rfl,by simp only[Zat,a1,Option.map_some],a2,(s.ext X).less hR,fun a m=>s.from_src (a3 a m),fun _=>⟨a4 rfl,fun a m=>?_⟩⟩⟩
 rcases a3 a m with q | ⟨i,hi,⟨t',e'⟩,m'⟩
 ·exact .inl (Nat.le_trans s.len q)
 ·exact(s.own i (hN i hi) t' e').2.1 a m'
noncomputable def Zar(i:Nat)(p:PE): PS:=fun σ=>(p σ).map fun t=>(none,ZN σ i t)
theorem ZD{N:List Nat}{u:Bool}{i:Nat}{e:Ex}{p:PE}(x:E O N u e p)(hi:i∉O':=by decide)(hN:∀j∈N,j∉O':=by decide)(hO:∀j∈O',j∈O:=by decide): S O O' R fr (Zaw i e) (Zar i p):=fun c ρ σ H Φ r s q=>by
 obtain⟨t,h1,h⟩:=Zz1.mp q
 subst h
 obtain⟨v,X,F,a1,a2,a3,a4⟩:=x c ρ σ H Φ t s h1
 have s':=s.less hO
 refine⟨upd ρ i v,H++X,Z7 Φ i F,by simp,fun a ha _=>List.getElem?_append_left ha,.inl ⟨rfl,by simp only[Zaw,a1,Option.map_some],(s'.ext X).put hi a2 (fun a m=>s.from_src (a3 a m)) (fun k hk t' e' a m q=>?_),fun a m=>?_⟩⟩
 ·exact s'.from_off hN (a3 a q) hk e' m
 ·obtain⟨k,hk,⟨t',e'⟩,m⟩:=m
  have:k≠i:=fun q=>hi (q▸hk)
  simp[ZN,this]at e'
  simp[Z7,this]at m
  exact .inr ⟨k,hO k hk,⟨t',e'⟩,m⟩
theorem Zb5{i:Nat}{e:Ex}{p:PE}(x:E O [] true e p)(hO:∀j∈O',j∈O∨j=i:=by decide): S O O' R fr (Zaw i e) (Zar i p):=fun c ρ σ H Φ r s q=>by
 obtain⟨t,h1,h⟩:=Zz1.mp q
 subst h
 obtain⟨v,X,F,a1,a2,a3,a4⟩:=x c ρ σ H Φ t s h1
 have hnew:∀a∈F,H.length≤a:=fun a m=>(a3 a m).nil
 have hold:∀k t',σ k=some t'→∀a∈Φ k,a<H.length:=fun k t' e a m=>by
  obtain⟨_,_,r⟩:=s.slot k t' e
  exact r.lt a m
 refine⟨upd ρ i v,H++X,Z7 Φ i F,by simp,fun a ha _=>List.getElem?_append_left ha,.inl ⟨rfl,by simp only[Zaw,a1,Option.map_some],⟨fun k t' e'=>?_,fun k t' e'=>?_,fun k hk t' e'=>?_,(s.ext X).len,(s.ext X).keep,s.pos,s.f0⟩,fun a m=>?_⟩⟩
 ·by_cases q:k=i
  ·subst q
   simp[ZN]at e'
   subst e'
   exact⟨v,by simp[upd],by simpa [Z7]using a2⟩
  ·simp[ZN,q]at e'
   simpa [upd,Z7,q]using (s.ext X).slot k t' e'
 ·by_cases q:k=i
  ·subst q;simpa [Z7]using fun a m=>s.from_src (a3 a m)
  ·simp[ZN,q]at e'
   simpa [Z7,q]using s.src k t' e'
 ·by_cases q:k=i
  ·subst q
   simp only[Z7,if_true]
   refine⟨a4 rfl,fun a m=>.inl (Nat.le_trans s.len (hnew a m)),fun j w hj ej a m q=>?_⟩
   simp[ZN,hj]at ej
   rw[if_neg hj]at q
   have:=hold j w ej a q
   have:=hnew a m
   omega
  ·have hk':=(hO k hk).resolve_right q
   simp[ZN,q]at e'
   obtain⟨o1,o2,o3⟩:=s.own k hk' t' e'
   refine⟨by simpa [Z7,q]using o1,by simpa [Z7,q]using o2,fun j w hj ej a m=>?_⟩
   simp[Z7,q]at m
   by_cases q2:j=i
   ·subst q2
    simp only[Z7,if_true]
    intro m2
    have:=hold k t' e' a m
    have:=hnew a m2
    omega
   ·simp[ZN,q2]at ej
    simpa [Z7,q2]using o3 j w hj ej a m
 ·obtain⟨k,hk,⟨t',e'⟩,m⟩:=m
  by_cases q:k=i
  ·subst q
   simp[Z7]at m
   exact .inl (hnew a m)
  ·simp[ZN,q]at e'
   simp[Z7,q]at m
   exact .inr ⟨k,(hO k hk).resolve_right q,⟨t',e'⟩,m⟩
noncomputable def qIf(b:PB)(p q:PS): PS:=fun σ=>(b σ).bind fun x=>if x then p σ else q σ
theorem Aft.grow{c:Ctx}{σ:TL}{H X:Hp}{Φ:Nat→List Nat}{g:Option (Option V×Lc×Hp)}{r:Option T×TL}(h:Aft c O O' R fr σ (H++X) Φ g r): Aft c O O' R fr σ H Φ g r:=by
 obtain⟨ρ',H',Φ',h1,h2,h3⟩:=h
 rw[List.length_append]at h1
 refine⟨ρ',H',Φ',by omega,fun a ha hn=>?_,?_⟩
 ·rw[h2 a (by rw[List.length_append];omega) hn,List.getElem?_append_left ha]
 ·rcases h3 with⟨k1,k2,k3,k4⟩ | k
  ·exact .inl ⟨k1,k2,k3,fun a m=>(k4 a m).imp (fun q=>by rw[List.length_append]at q;omega) id⟩
  ·exact .inr k
theorem ZH{t:Ts}{pb:PB}{a b:Sm}{p q:PS}(z:Bt O t pb)(x:S O O' R fr a p)(y:S O O' R fr b q): S O O' R fr (sIf t a b) (qIf pb p q):=fun c ρ σ H Φ r s e=>by
 obtain⟨bb,e1,e⟩:=Zz0.mp e
 obtain⟨X,h1⟩:=z c ρ σ H Φ bb s e1
 cases bb with
 | true=>
  have:=x c ρ σ (H++X) Φ r (s.ext X) (by simpa using e)
  have eg:sIf t a b ρ H=a ρ (H++X):=by simp[sIf,h1]
  rw[eg]
  exact this.grow
 | false=>
  have:=y c ρ σ (H++X) Φ r (s.ext X) (by simpa using e)
  have eg:sIf t a b ρ H=b ρ (H++X):=by simp[sIf,h1]
  rw[eg]
  exact this.grow
noncomputable def qNo: PS:=fun _=>none
noncomputable def sNo: Sm:=fun _ _=>none
theorem ZvP{g:Sm}: S O O' R fr g qNo:=fun c ρ σ H Φ r s q=>by cases q
noncomputable def follow(H:Hp): List Int→V→Option V
 | [],v=>some v
 | k::ks,v=>(ZY v (.int k) H).bind fun q=>follow H ks q.1
theorem Lead.follow{H:Hp}{ks:List Int}{v:V}{a:Nat}(l:Lead H ks v a): follow H ks v=some (.ref a):=by
 induction l with
 | nil=>rfl
 | ref h1 h2 h3 _ ih=>simp only[TM.follow,ZY,h1,Option.bind_some,h2,h3,Option.map_some,ih]
 | tup h2 h3 _ ih=>simp only[TM.follow,ZY,Option.bind_some,h2,h3,Option.map_some,ih]
theorem ZjP{H:Hp}{v w z:V}{K:Hp}(h:ZY v z H=some (w,K))(X:Hp): K=H∧ZY v z (H++X)=some (w,H++X):=by
 unfold ZY at h
 split at h
 ·obtain⟨vs,e1,h⟩:=Zz0.mp h
  obtain⟨j,e2,h⟩:=Zz0.mp h
  obtain⟨x,e3,h⟩:=Zz1.mp h
  cases h
  exact⟨rfl,by simp only[ZY,List.getElem?_append_left (Zz6.mp e1).1,e1,Option.bind_some,e2,e3,Option.map_some]⟩
 ·obtain⟨j,e2,h⟩:=Zz0.mp h
  obtain⟨x,e3,h⟩:=Zz1.mp h
  cases h
  exact⟨rfl,by simp only[ZY,Option.bind_some,e2,e3,Option.map_some]⟩
 ·cases h
theorem Zmg{H:Hp}{k:Int}: ∀{ks:List Int} {v:V},follow H (ks++[k]) v=(follow H ks v).bind fun w=>(ZY w (.int k) H).map (·.1)
 | [],v=>by
  simp only[List.nil_append,follow,Option.bind_some]
  cases ZY v (.int k) H <;> rfl
 | j::ks,v=>by
  simp only[List.cons_append,follow]
  cases ZY v (.int j) H with
  | none=>rfl
  | some q=>simp only[Option.bind_some];exact Zmg
noncomputable abbrev PPa:=TL→Option (List Int)
noncomputable def Zba: PPa:=fun _=>some []
noncomputable def Zc8(p:PPa)(i:PE): PPa:=fun σ=>(p σ).bind fun ks=>(i σ).bind fun t=>match t with
 | .int k=>some (ks++[k])
 | _=>none
def Pa(O:List Nat)(x:Nat)(e:Ex)(p:PPa): Prop:=∀(c:Ctx) (ρ:Lc) (σ:TL) (H:Hp) (Φ:Nat→List Nat) (ks:List Int) (v w:V),St c O ρ σ H Φ→p σ=some ks→ρ x=some v→follow H ks v=some w→∃X,e ρ H=some (w,H++X)
theorem Za4{x:Nat}: Pa O x (Zo x) Zba:=fun c ρ σ H Φ ks v w s h e f=>by
 cases h;cases f
 exact⟨[],by simp[Zo,e]⟩
theorem Zch{x:Nat}{N:List Nat}{u:Bool}{e i:Ex}{p:PPa}{pi:PE}(y:Pa O x e p)(z:E O N u i pi): Pa O x (Zx ZY e i) (Zc8 p pi):=fun c ρ σ H Φ ks v w s h ev f=>by
 obtain⟨ks0,h1,h⟩:=Zz0.mp h
 obtain⟨t,h2,h⟩:=Zz0.mp h
 cases t <;> first | (cases h;done) | skip
 rename_i k
 cases h
 rw[Zmg]at f
 obtain⟨w0,f1,f⟩:=Zz0.mp f
 obtain⟨⟨w1,K⟩,f2,f⟩:=Zz1.mp f
 cases f
 obtain⟨X,a1⟩:=y c ρ σ H Φ ks0 v w0 s h1 ev f1
 obtain⟨vi,Y,F,b1,b2,b3,b4⟩:=z c ρ σ (H++X) Φ _ (s.ext X) h2
 cases b2
 refine⟨X++Y,?_⟩
 simp only[Zx,a1,Option.bind_some,b1]
 have:=(ZjP f2 (X++Y)).2
 rw[List.append_assoc]
 exact this
theorem ZoZ{c:Ctx}{ρ:Lc}{σ:TL}{H:Hp}{Φ:Nat→List Nat}{N:List Nat}{x a b:Nat}{t t':T}{v:V}{Fw F':List Nat}{vs':List V}(s:St c O ρ σ H Φ)(hx:x∈O)(ex:σ x=some t)(ev:ρ x=some v)(hb:c.H0.length≤b)(hlow:∀k t,σ k=some t→∀a∈Φ k,a<b)
  (hFw:∀a∈Fw,b≤a∨∃j∈N,(∃t,σ j=some t)∧a∈Φ j) (hN:∀j∈N,j∈O∧j≠x) (ha:a∈Φ x) (r:RF (H.set a vs') v t' F') (nd:F'.Nodup) (sub:∀y∈F',y∈Φ x∨y∈Fw) (hO:∀j∈O',j∈O∧j∉N):
  St c O' ρ (Zb9 (ZN σ x t') N) (H.set a vs') (Z7 Φ x F')∧(∀y,Held O' (Zb9 (ZN σ x t') N) (Z7 Φ x F') y→b≤y∨Held O σ Φ y):=by
 obtain⟨o1,o2,o3⟩:=s.own x hx t ex
 have old:∀k u,k≠x→Zb9 (ZN σ x t') N k=some u→σ k=some u∧k∉N:=fun k u hk e=>by
  unfold Zb9 at e
  split at e
  ·cases e
  ·rename_i hn
   simp[ZN,hk]at e
   exact⟨e,hn⟩
 have self:∀u,Zb9 (ZN σ x t') N x=some u→u=t':=fun u e=>by
  unfold Zb9 at e
  split at e
  ·cases e
  ·simp[ZN]at e;exact e.symm
 have foff:∀y∈F',∀k u,k≠x→σ k=some u→k∉N→y∉Φ k:=fun y hy k u hk e hkn m=>by
  rcases sub y hy with q | q
  ·exact o3 k u hk e y q m
  ·rcases hFw y q with q | ⟨j,hj,⟨tj,ej⟩,mj⟩
   ·have:=hlow k u e y m;omega
   ·exact(s.own j (hN j hj).1 tj ej).2.2 k u (fun q=>hkn (q▸hj)) e y mj m
 refine⟨⟨fun k u e=>?_,fun k u e=>?_,fun k hk u e=>?_,by simpa using s.len,fun y hy hn=>?_,s.pos,s.f0⟩,fun y hy=>?_⟩
 ·by_cases q:k=x
  ·subst q
   have:=self u e
   subst this
   exact⟨v,ev,by simpa [Z7]using r⟩
  ·obtain⟨e1,e2⟩:=old k u q e
   obtain⟨w,h1,h2⟩:=s.slot k u e1
   refine⟨w,h1,?_⟩
   simp only[Z7,q,if_false]
   refine h2.frame fun y hy=>List.getElem?_set_ne fun q'=>?_
   exact o3 k u q e1 a ha (q'▸hy)
 ·by_cases q:k=x
  ·subst q
   simp only[Z7,if_true]
   intro y hy
   rcases sub y hy with q | q
   ·exact s.src k t ex y q
   ·rcases hFw y q with q | ⟨j,hj,⟨tj,ej⟩,mj⟩
    ·exact .inl (by omega)
    ·exact s.src j tj ej y mj
  ·obtain⟨e1,e2⟩:=old k u q e
   simpa [Z7,q]using s.src k u e1
 ·by_cases q:k=x
  ·subst q
   simp only[Z7,if_true]
   refine⟨nd,fun y hy=>?_,fun j w hj ej y hy=>?_⟩
   ·rcases sub y hy with q | q
    ·exact o2 y q
    ·rcases hFw y q with q | ⟨j,hj,⟨tj,ej⟩,mj⟩
     ·exact .inl (by omega)
     ·exact(s.own j (hN j hj).1 tj ej).2.1 y mj
   ·obtain⟨e1,e2⟩:=old j w hj ej
    simpa [hj]using foff y hy j w hj e1 e2
  ·obtain⟨e1,e2⟩:=old k u q e
   obtain⟨p1,p2,p3⟩:=s.own k (hO k hk).1 u e1
   simp only[Z7,q,if_false]
   refine⟨p1,p2,fun j w hj ej y hy=>?_⟩
   by_cases q2:j=x
   ·subst q2
    simp only[if_true]
    exact fun m=>foff y m k u q e1 e2 hy
   ·obtain⟨f1,f2⟩:=old j w q2 ej
    simpa [q2]using p3 j w hj f1 y hy
 ·have:a≠y:=fun q=>by
   subst q
   rcases o2 a ha with q | q
   ·omega
   ·exact hn q
  rw[List.getElem?_set_ne this]
  exact s.keep y hy hn
 ·obtain⟨k,hk,⟨u,e⟩,m⟩:=hy
  by_cases q:k=x
  ·subst q
   simp only[Z7,if_true]at m
   rcases sub y m with q | q
   ·exact .inr ⟨k,hx,⟨t,ex⟩,q⟩
   ·rcases hFw y q with q | ⟨j,hj,q⟩
    ·exact .inl q
    ·exact .inr ⟨j,(hN j hj).1,q⟩
  ·obtain⟨e1,e2⟩:=old k u q e
   simp only[Z7,q,if_false]at m
   exact .inr ⟨k,(hO k hk).1,⟨u,e1⟩,m⟩
theorem Zkr{c:Ctx}{ρ:Lc}{σ:TL}{H:Hp}{Φ:Nat→List Nat}{x a:Nat}{t:T}(s:St c O ρ σ H Φ)(hx:x∈O)(ex:σ x=some t)(ha:a∈Φ x): a≠0:=by
 have:=s.pos
 rcases(s.own x hx t ex).2.1 a ha with q | q
 ·omega
 ·exact fun e=>s.f0 (e▸q)
noncomputable def Zdy(w:T)(ts:List T): Option (List T):=if ts.length<LEN then some (ts++[w])else none
noncomputable def ZeQ(k:Int)(w:T)(ts:List T): Option (List T):=if 0≤k∧k<ts.length then some (ts.set k.toNat w)else none
noncomputable def Zdh(x:Nat)(N:List Nat)(po:PPa)(p:PE): PS:=fun σ=>(po σ).bind fun ks=>(p σ).bind fun w=>(σ x).bind fun t=>(Zb6 (Zdy w) ks t).map fun t'=>(none,Zb9 (ZN σ x t') N)
noncomputable def ZbX(x:Nat)(N:List Nat)(p:PE)(po:PPa)(pi:PE): PS:=fun σ=>(p σ).bind fun w=>(po σ).bind fun ks=>(pi σ).bind fun k=>match k with
 | .int k=>(σ x).bind fun t=>(Zb6 (ZeQ k w) ks t).map fun t'=>(none,Zb9 (ZN σ x t') N)
 | _=>none
theorem ZfA{H:Hp}(X:Hp): ∀{ks:List Int} {v w:V},follow H ks v=some w→follow (H++X) ks v=some w
 | [],_,_,h=>h
 | k::ks,v,w,h=>by
  obtain⟨⟨w1,K⟩,h1,h2⟩:=Zz0.mp h
  simp only[follow,(ZjP h1 X).2,Option.bind_some]
  exact ZfA X h2
theorem Zgx{x:Nat}{N:List Nat}{o e:Ex}{po:PPa}{p:PE}(hx:x∈O)(y:Pa O x o po)(z:E O N true e p)(hN:∀j∈N,j∈O∧j≠x)(hO:∀j∈O',j∈O∧j∉N): S O O' R fr (Zcj (Zev o e)) (Zdh x N po p):=fun c ρ σ H Φ r s q=>by
 obtain⟨ks,h1,q⟩:=Zz0.mp q
 obtain⟨w,h2,q⟩:=Zz0.mp q
 obtain⟨t,h3,q⟩:=Zz0.mp q
 obtain⟨t',h4,q⟩:=Zz1.mp q
 subst q
 obtain⟨v,ev,rv⟩:=s.slot x t h3
 have hlow:∀k t,σ k=some t→∀a∈Φ k,a<H.length:=fun k t e a m=>by
  obtain⟨_,_,r⟩:=s.slot k t e
  exact r.lt a m
 obtain⟨o1,o2,o3⟩:=s.own x hx t h3
 obtain⟨a,vs0,ts0,ts0',G0,l0,_⟩:=ZeC (Gn:=[]) ks rv o1 (by simp) h4
 obtain⟨X,a1⟩:=y c ρ σ H Φ ks v (.ref a) s h1 ev l0.follow
 obtain⟨vw,Y,Fw,b1,b2,b3,b4⟩:=z c ρ σ (H++X) Φ w (s.ext X) h2
 have s2:=(s.ext X).ext Y
 have rv2:RF (H++X++Y) v t (Φ x):=(rv.ext X).ext Y
 have hFw:∀a∈Fw,H.length≤a∨∃j∈N,(∃t,σ j=some t)∧a∈Φ j:=fun a m=>(b3 a m).back
 have dsj:∀a∈Fw,a∉Φ x:=fun a m q=>by
  rcases hFw a m with h | ⟨j,hj,⟨tj,ej⟩,mj⟩
  ·have:=hlow x t h3 a q;omega
  ·exact o3 j tj (hN j hj).2 ej a q mj
 obtain⟨a',vs,ts,ts',G,l,am,ea,hs,hf,gn,na,gs,go⟩:=ZeC (Gn:=Fw) ks rv2 o1 dsj h4
 have haa:a'=a:=by
  have f2:=ZfA Y (ZfA X l0.follow)
  rw[l.follow]at f2
  cases f2
  rfl
 subst haa
 unfold Zdy at hf
 split at hf
 ·rename_i hl
  cases hf
  obtain⟨F',r',n',sub'⟩:=go (vs++[vw]) (G++Fw) (hs.snoc b2) (by
   rw[List.nodup_append]
   exact⟨gn,b4 rfl,fun y hy z hz e=>dsj z hz (e▸gs y hy)⟩) (fun m=>(Zz8.mp m).elim na fun m=>dsj _ m am) (fun y m=>List.mem_append.mp m)
  obtain⟨st,com⟩:=ZoZ (O':=O') (b:=H.length) s2 hx h3 ev s.len hlow hFw hN am r' n' sub' hO
  refine⟨ρ,(H++X++Y).set a' (vs++[vw]),Z7 Φ x F',by simp,fun y hy hn=>?_,.inl ⟨rfl,?_,st,com⟩⟩
  ·have:a'≠y:=fun q=>hn ⟨x,hx,⟨t,h3⟩,q▸am⟩
   rw[List.getElem?_set_ne this,List.append_assoc,List.getElem?_append_left hy]
  ·simp only[Zcj,Zev,a1,Option.bind_some,b1,Zgb,ea]
   rw[if_pos ⟨Zkr s hx h3 am,by rw[hs.length];exact hl⟩]
   rfl
 ·cases hf
theorem S.put{x:Nat}{N M:List Nat}{u:Bool}{o e i:Ex}{po:PPa}{p pi:PE}(hx:x∈O)(z:E O N true e p)(y:Pa O x o po)(zi:E O M u i pi)(hN:∀j∈N,j∈O∧j≠x)(hO:∀j∈O',j∈O∧j∉N): S O O' R fr (ZcL e o i) (ZbX x N p po pi):=fun c ρ σ H Φ r s q=>by
 obtain⟨w,h2,q⟩:=Zz0.mp q
 obtain⟨ks,h1,q⟩:=Zz0.mp q
 obtain⟨tk,h5,q⟩:=Zz0.mp q
 cases tk <;> first | (cases q;done) | skip
 rename_i k
 obtain⟨t,h3,q⟩:=Zz0.mp q
 obtain⟨t',h4,q⟩:=Zz1.mp q
 subst q
 obtain⟨v,ev,rv⟩:=s.slot x t h3
 have hlow:∀k t,σ k=some t→∀a∈Φ k,a<H.length:=fun k t e a m=>by
  obtain⟨_,_,r⟩:=s.slot k t e
  exact r.lt a m
 obtain⟨o1,o2,o3⟩:=s.own x hx t h3
 obtain⟨vw,X,Fw,b1,b2,b3,b4⟩:=z c ρ σ H Φ w s h2
 obtain⟨a,vs0,ts0,ts0',G0,l0,_⟩:=ZeC (Gn:=[]) ks (rv.ext X) o1 (by simp) h4
 obtain⟨Y,a1⟩:=y c ρ σ (H++X) Φ ks v (.ref a) (s.ext X) h1 ev l0.follow
 obtain⟨vk,Z,Fk,d1,d2,d3,d4⟩:=zi c ρ σ (H++X++Y) Φ _ ((s.ext X).ext Y) h5
 cases d2
 have s2:=((s.ext X).ext Y).ext Z
 have rv2:RF (H++X++Y++Z) v t (Φ x):=((rv.ext X).ext Y).ext Z
 have hFw:∀a∈Fw,H.length≤a∨∃j∈N,(∃t,σ j=some t)∧a∈Φ j:=b3
 have dsj:∀a∈Fw,a∉Φ x:=fun a m q=>by
  rcases hFw a m with h | ⟨j,hj,⟨tj,ej⟩,mj⟩
  ·have:=hlow x t h3 a q;omega
  ·exact o3 j tj (hN j hj).2 ej a q mj
 obtain⟨a',vs,ts,ts',G,l,am,ea,hs,hf,gn,na,gs,go⟩:=ZeC (Gn:=Fw) ks rv2 o1 dsj h4
 have haa:a'=a:=by
  have f2:=ZfA Z (ZfA Y l0.follow)
  rw[l.follow]at f2
  cases f2
  rfl
 subst haa
 unfold ZeQ at hf
 split at hf
 ·rename_i hl
  cases hf
  have hk:k.toNat<ts.length:=by omega
  obtain⟨v0,Gk,F1,F2,e0,r0,eG,rb⟩:=hs.split (List.getElem?_eq_getElem hk)
  have b2':RF (H++X++Y++Z) vw w Fw:=(b2.ext Y).ext Z
  have rs:=rb (H++X++Y++Z) vw w Fw b2' (fun _ _=>rfl) (fun _ _=>rfl)
  have sub0:∀a∈Fw,a∈Gk∨a∈Fw:=fun a m=>.inr m
  subst eG
  obtain⟨F',r',n',sub'⟩:=go _ _ rs (nd3 gn (b4 rfl) sub0 fun a m q=>dsj a m (gs a q)) (fun m=>by
   rcases in3 (G:=Gk) sub0 _ m with m | m
   ·exact na m
   ·exact dsj _ m am) (in3 sub0)
  obtain⟨st,com⟩:=ZoZ (O':=O') (b:=H.length) s2 hx h3 ev s.len hlow hFw hN am r' n' sub' hO
  refine⟨ρ,(H++X++Y++Z).set a' (vs.set k.toNat vw),Z7 Φ x F',by simp,fun y hy hn=>?_,.inl ⟨rfl,?_,st,com⟩⟩
  ·have:a'≠y:=fun q=>hn ⟨x,hx,⟨t,h3⟩,q▸am⟩
   rw[List.getElem?_set_ne this,List.append_assoc,List.append_assoc,List.getElem?_append_left hy]
  ·simp only[ZcL,b1,Option.bind_some,a1,d1,Zll,ea]
   rw[if_pos ⟨Zkr s hx h3 am,by rw[hs.length];exact hl⟩]
   rfl
 ·cases hf
noncomputable def Zd4(put:T→TL→Option TL)(b:PS): TL→List T→Option (Option T×TL)
 | σ,[]=>some (none,σ)
 | σ,t::ts=>(put t σ).bind fun σ1=>(b σ1).bind fun r=>match r.1 with
  | some _=>some r
  | none=>Zd4 put b r.2 ts
noncomputable def Zbh(g:PG)(put:T→TL→Option TL)(b:PS): PS:=fun σ=>(g σ).bind fun ts=>Zd4 put b σ ts
theorem Zkf{J:List Nat}{put:V→Lc→Option Lc}{pput:T→TL→Option TL}{b:Sm}{qb:PS}(hj:PutOk O J put pput)(hJ:∀i∈J,i∉O)(hb:S O O R fr b qb){c:Ctx}{nx:Nx}{vs:List V}{G:List Nat}{H1:Hp}(hG:∀a∈G,a<H1.length)(hsrc:∀a∈G,c.H0.length≤a∨c.P a)(hnx:∀K:Hp,(∀a∈G,K[a]?=H1[a]?)→∀i,i≤vs.length→nx i K=some vs[i]?):
  ∀(rs:List T) (ws:List V) (i:Nat) (ρ:Lc) (σ:TL) (K:Hp) (Φ:Nat→List Nat) (Fr:List Nat) (r:Option T×TL),(∀j,vs[i+j]?=ws[j]?)→i+ws.length=vs.length→St c O ρ σ K Φ→H1.length≤K.length→(∀a∈G,K[a]?=H1[a]?)→(∀a∈G,¬Held O σ Φ a)→RFs K ws rs Fr→(∀a∈Fr,a∈G)→Zd4 pput qb σ rs=some r →
   Aft c O O R fr σ K Φ (ZcH nx put b (rs.length+1) i ρ K) r
 | [],ws,i,ρ,σ,K,Φ,Fr,r,hat,hlen,s,hl,hk,hoff,rr,hfr,h=>by
  cases rr
  cases h
  have e:=hnx K hk i (by simp at hlen;omega)
  have e2:vs[i]?=none:=by have:=hat 0;simpa using this
  exact⟨ρ,K,Φ,Nat.le_refl _,fun _ _ _=>rfl,.inl ⟨rfl,by simp[ZcH,e,e2],s,fun a m=>.inr m⟩⟩
 | t::rs,ws0,i,ρ,σ,K,Φ,Fr0,r,hat,hlen,s,hl,hk,hoff,rr,hfr,h=>by
  cases rr with
  | @cons v _ F1 ws _ F2 a b'=>
  simp only[List.length_cons]at hlen
  obtain⟨σ1,h1,h⟩:=Zz0.mp h
  obtain⟨r1,h2,h⟩:=Zz0.mp h
  have e:=hnx K hk i (by omega)
  have e2:vs[i]?=some v:=by have:=hat 0;simpa using this
  have hat':∀j,vs[i+1+j]?=ws[j]?:=fun j=>by have:=hat (j+1);rw[show i+1+j=i+(j+1)by omega,this];simp
  obtain⟨ρ1,Φ1,p1,s1,p3,p4⟩:=hj c ρ σ K Φ v t F1 σ1 s a (fun x m=>hsrc x (hfr x (Zz4 _ m))) (fun k hk t' e x m q=>hoff x (hfr x (Zz4 _ q)) ⟨k,hk,⟨t',e⟩,m⟩) h1
  have hh:∀x,Held O σ1 Φ1 x→Held O σ Φ x:=fun x ⟨k,hk,⟨t',e⟩,m⟩=>by
   obtain⟨q1,q2⟩:=p3 k fun q=>hJ k q hk
   exact⟨k,hk,⟨t',q1▸e⟩,q2▸m⟩
  obtain⟨ρ2,K2,Φ2,g1,g2,g3⟩:=hb c ρ1 σ1 K Φ1 r1 s1 h2
  have estep:ZcH nx put b ((t::rs).length+1) i ρ K=(b ρ1 K).bind fun q=>match q.1 with
    | some _=>some q
    | none=>ZcH nx put b (rs.length+1) (i+1) q.2.1 q.2.2:=by
   rw[List.length_cons]
   show(nx i K).bind _=_
   rw[e,e2]
   first | (simp only[Option.bind_some,p1];done) | (simp only[Option.bind_some,p1];rfl)
  rcases g3 with⟨k1,k2,k3,k4⟩ | ⟨t',v',F',k1,k2,k3⟩
  ·rw[k1]at h
   have hG2:∀a∈G,K2[a]?=K[a]?:=fun x m=>g2 x (by have:=hG x m;omega) fun q=>hoff x m (hh x q)
   have hoff2:∀a∈G,¬Held O r1.2 Φ2 a:=fun x m q=>by
    rcases k4 x q with q | q
    ·have:=hG x m;omega
    ·exact hoff x m (hh x q)
   have ih:=Zkf hj hJ hb hG hsrc hnx rs ws (i+1) ρ2 r1.2 K2 Φ2 F2 r hat' (by omega) k3 (by omega) (fun x m=>(hG2 x m).trans (hk x m)) hoff2 (b'.frame fun x m=>hG2 x (hfr x (Zz3 _ m))) (fun x m=>hfr x (Zz3 _ m)) h
   rw[estep,k2]
   simp only[Option.bind_some]
   obtain⟨ρ3,K3,Φ3,l1,l2,l3⟩:=ih
   refine⟨ρ3,K3,Φ3,by omega,fun x hx hn=>?_,?_⟩
   ·rw[l2 x (by omega) fun q=>(k4 x q).elim (fun q=>by omega) fun q=>hn (hh x q),g2 x hx fun q=>hn (hh x q)]
   ·rcases l3 with⟨m1,m2,m3,m4⟩ | l
    ·refine .inl ⟨m1,m2,m3,fun x q=>?_⟩
     rcases m4 x q with q | q
     ·exact .inl (by omega)
     ·exact(k4 x q).imp id (hh x)
    ·exact .inr l
  ·rw[k1]at h
   cases h
   refine⟨ρ2,K2,Φ2,g1,fun x hx hn=>g2 x hx fun q=>hn (hh x q),.inr ⟨t',v',F',k1,?_,k3⟩⟩
   rw[estep,k2]
   rfl
theorem ZaX{J Ns:List Nat}{g:Src}{q:PG}{put:V→Lc→Option Lc}{pput:T→TL→Option TL}{b:Sm}{qb:PS}(hg:Gs O Ns g q)(hj:PutOk O J put pput)(hJ:∀i∈J,i∉O)(hN:∀i∈Ns,i∉O)(hb:S O O R fr b qb): S O O R fr (ZbP g put b) (Zbh q pput qb):=fun c ρ σ H Φ r s h=>by
 obtain⟨ts,h1,h⟩:=Zz0.mp h
 obtain⟨nx,X,vs,F,G,g1,g2,g3,g4,g5⟩:=hg c ρ σ H Φ ts s h1
 have:=Zkf hj hJ hb (H1:=H++X) (fun a m=>(g4 a m).1) (fun a m=>s.from_src (g4 a m).2) g5 ts vs 0 ρ σ (H++X) Φ F r (by simp) (by simp) (s.ext X) (Zz10 _) (fun _ _=>rfl) (fun a m ⟨k,hk,⟨t,e⟩,q⟩=>s.from_off hN (g4 a m).2 hk e q) g2 g3 h
 have eg:ZbP g put b ρ H=ZcH nx put b (ts.length+1) 0 ρ (H++X):=by simp only[ZbP,g1,Option.bind_some]
 rw[eg]
 exact this.grow
noncomputable def ZeF(t:PB)(b:PS): Nat→PS
 | 0=>fun _=>none
 | n+1=>fun σ=>(t σ).bind fun p=>if p then(b σ).bind fun q=>(match q.1 with
   | some _=>some q
   | none=>ZeF t b n q.2)else some (none,σ)
theorem Zez{t:Ts}{pt:PB}{b:Sm}{qb:PS}(z:Bt O t pt)(y:S O O R fr b qb): ∀n,S O O R fr (ZdM t b n) (ZeF pt qb n)
 | 0=>fun c ρ σ H Φ r s h=>by cases h
 | n+1=>fun c ρ σ H Φ r s h=>by
  obtain⟨p,h1,h⟩:=Zz0.mp h
  obtain⟨X,a1⟩:=z c ρ σ H Φ p s h1
  cases p with
  | false=>
   cases h
   exact⟨ρ,H++X,Φ,by simp,fun a ha _=>List.getElem?_append_left ha,.inl ⟨rfl,by simp[ZdM,a1],s.ext X,fun a m=>.inr m⟩⟩
  | true=>
   simp only[if_true]at h
   obtain⟨r1,h2,h⟩:=Zz0.mp h
   have b1:=(y c ρ σ (H++X) Φ r1 (s.ext X) h2).grow
   have eg:ZdM t b (n+1) ρ H=(b ρ (H++X)).bind fun q=>(match q.1 with
    | some _=>some q
    | none=>ZdM t b n q.2.1 q.2.2):=by
    show(t ρ H).bind _=_
    rw[a1]
    rfl
   rw[eg]
   obtain⟨ρ1,H1,Φ1,g1,g2,g3⟩:=b1
   rcases g3 with⟨k1,k2,k3,k4⟩ | ⟨t',v',F',k1,k2,k3⟩
   ·rw[k1]at h
    obtain⟨ρ3,K3,Φ3,l1,l2,l3⟩:=Zez z y n c ρ1 r1.2 H1 Φ1 r k3 h
    rw[k2]
    simp only[Option.bind_some]
    refine⟨ρ3,K3,Φ3,by omega,fun x hx hn=>?_,?_⟩
    ·rw[l2 x (by omega) fun q=>(k4 x q).elim (fun q=>by omega) hn,g2 x hx hn]
    ·rcases l3 with⟨m1,m2,m3,m4⟩ | l
     ·refine .inl ⟨m1,m2,m3,fun x q=>?_⟩
      rcases m4 x q with q | q
      ·exact .inl (by omega)
      ·exact k4 x q
     ·exact .inr l
   ·rw[k1]at h
    cases h
    exact⟨ρ1,H1,Φ1,g1,g2,.inr ⟨t',v',F',k1,by rw[k2];rfl,k3⟩⟩
end
noncomputable def ZQ(n:Nat)(q:PS): List T→Option T:=fun ts=>if ts.length=n then(q fun i=>ts[i]?).map fun r=>r.1.getD .none else none
theorem RFs.slots{H:Hp}: ∀{vs:List V} {ts:List T} {F:List Nat},RFs H vs ts F→∃Φ:Nat→List Nat,∀i t,ts[i]?=some t→∃v,vs[i]?=some v∧RF H v t (Φ i)∧∀a∈Φ i,a∈F
 | _,_,_,.nil=>⟨fun _=>[],fun i t e=>by simp at e⟩
 | _,_,_,.cons (F:=F1) a b=>by
  obtain⟨Φ,h⟩:=b.slots
  refine⟨fun i=>match i with | 0=>F1 | i+1=>Φ i,fun i t e=>?_⟩
  cases i with
  | zero=>simp at e;subst e;exact⟨_,by simp,a,fun x m=>List.mem_append_left _ m⟩
  | succ i=>
   simp at e
   obtain⟨v,h1,h2,h3⟩:=h i t e
   exact⟨v,by simpa using h1,h2,fun x m=>List.mem_append_right _ (h3 x m)⟩
theorem ZmK{H H':Hp}(hl:H.length≤H'.length)(h:∀a,a<H.length→H'[a]?=H[a]?): H'=H++H'.drop H.length:=by
 conv=>lhs;rw[←List.take_append_drop H.length H']
 congr 1
 refine List.ext_getElem? fun i=>?_
 by_cases q:i<H.length
 ·rw[List.getElem?_take_of_lt q,h i q]
 ·rw[List.getElem?_eq_none (by simp;omega),List.getElem?_eq_none (by omega)]
theorem ZZ{O':List Nat}{fr:Bool}{n:Nat}{g:Sm}{q:PS}(h:S [] O' [] fr g q): SimF fr (ZM n g) (ZQ n q):=fun H vs ts t F1 hp r e=>by
 unfold ZQ at e
 split at e
 ·rename_i hl
  obtain⟨r1,e1,e2⟩:=Zz1.mp e
  obtain⟨Φ,hΦ⟩:=r.slots
  have st:St ⟨H,[],fun a=>a∈F1⟩ [] (fun i=>vs[i]?) (fun i=>ts[i]?) H Φ:=
   ⟨(fun i t e=>by obtain⟨v,h1,h2,_⟩:=hΦ i t e;exact⟨v,h1,h2⟩),fun i t e a m=>(by obtain⟨v,h1,h2,h3⟩:=hΦ i t e;exact .inr (h3 a m)),(fun i hi=>nomatch hi),Nat.le_refl _,fun a _ _=>rfl,hp,by simp⟩
  obtain⟨ρ',H',Φ',h1,h2,h3⟩:=h _ _ _ _ _ _ st e1
  rcases h3 with⟨k1,k2,k3,k4⟩ | ⟨t',v',F',k1,k2,k3,k4,k5,k6⟩
  ·have eh:=ZmK k3.len fun a ha=>k3.keep a ha (by simp)
   refine⟨.none,H'.drop H.length,[],?_,?_,by simp,by simp⟩
   ·have hv:vs.length=n:=r.length.trans hl
    simp only[ZM,hv,if_true,k2,Option.map_some,Option.getD_none]
    rw[←eh]
   ·rw[k1]at e2
    subst e2
    exact .none
  ·have eh:=ZmK k4.len fun a ha=>k4.keep a ha (by simp)
   refine⟨v',H'.drop H.length,F',?_,?_,k5,fun hf=>⟨(k6 hf).1,fun a m=>((k6 hf).2 a m).elim id fun q=>by cases q⟩⟩
   ·have hv:vs.length=n:=r.length.trans hl
    simp only[ZM,hv,if_true,k2,Option.map_some,Option.getD_some]
    rw[←eh]
   ·rw[k1]at e2
    subst e2
    rw[←eh]
    exact k3
 ·cases e
theorem Zr2{f:List V→Hp→Option (V×Hp)}{p:List T→Option T}{fr:Bool}(h:SimF fr f p)(ns:List Int)(e:p [.lst (ns.map T.int)]=some (.bool true)): ∃H',f [.ref 0] [ns.map V.int]=some (.bool true,H'):=by
 have intsAre:∀l:List Int,RFs [ns.map V.int] (l.map V.int) (l.map T.int) []:=fun l=>by
  induction l with
  | nil=>exact .nil
  | cons a l ih=>exact .cons (.int a) ih
 obtain⟨v,X,F,h1,h2,_⟩:=h [ns.map V.int] [.ref 0] [.lst (ns.map T.int)] _ _ (by simp) (.one (.ref rfl (intsAre ns))) e
 cases h2
 exact⟨_,h1⟩
end TM
end
section
namespace TM
open PySem PM
structure XS(O O' R:List Nat)(fr:Bool) where
 g:Sm
 q:PS
 h:S O O' R fr g q
end TM
end
section
namespace TM
open PySem PM
section
variable {O Ns Ne J:List Nat}
theorem ZbH{u:Bool}{g:Src}{q:PG}{put:V→Lc→Option Lc}{pput:T→TL→Option TL}{tc:Ts}{pc:PB}{f:Ex}{pf:PE}(hg:Gs O Ns g q)(hj:PutOk O J put pput)(hN:∀i∈Ns,i∉O)(hc:Bt O tc pc)(hf:E O Ne u f pf): E O (Ns++Ne) false (Zbe g put tc f) (Zav q pput pc pf):=
 ZoY hg hj hN hc hf.sh (by simp)
theorem ZcC{g:Src}{q:PG}{put:V→Lc→Option Lc}{pput:T→TL→Option TL}{tc:Ts}{pc:PB}{f:Ex}{pf:PE}(hg:Gs O Ns g q)(hj:PutOk O J put pput)(hN:∀i∈Ns,i∉O)(hc:Bt O tc pc)(hf:E O [] true f pf): E O [] true (Zbe g put tc f) (Zav q pput pc pf):=
 ZoY hg hj hN hc hf (by simp)
end
end TM
end
section
/-! Forward reckoning over trees. -/
namespace TM
open PySem PM
noncomputable def dec(P:Prop): Bool:=@decide P (Classical.propDecidable P)
theorem dec_iff{P:Prop}: dec P=true↔P:=by unfold dec;exact @decide_eq_true_iff P (Classical.propDecidable P)
theorem ZaH{P:Prop}(h:P): dec P=true:=dec_iff.mpr h
theorem Zbo{P:Prop}(h:¬P): dec P=false:=by
 cases e:dec P with
 | true=>exact absurd (dec_iff.mp e) h
 | false=>rfl
theorem ZjQ{P Q:Prop}(h:P↔Q): dec P=dec Q:=by
 by_cases p:P
 ·rw[ZaH p,ZaH (h.mp p)]
 ·rw[Zbo p,Zbo fun q=>p (h.mpr q)]
theorem ZkO{P:Prop}{b:Bool}(h:b=true↔P): dec P=b:=by
 cases b with
 | true=>exact ZaH (h.mp rfl)
 | false=>exact Zbo fun p=>by simpa using h.mpr p
theorem Zg9{P:Prop}[i:Decidable P]: decide P=dec P:=by
 unfold dec;congr
noncomputable def tab{α:Type}(n:Nat)(f:Nat→α): List α:=(List.range n).map f
theorem Zae{α:Type}{n:Nat}{f:Nat→α}: (tab n f).length=n:=by simp[tab]
theorem Zbd{α:Type}{n:Nat}{f:Nat→α}{i:Nat}(h:i<n): (tab n f)[i]?=some (f i):=by simp[tab,h]
theorem ZuM{α:Type}{n:Nat}{f:Nat→α}{i:Nat}(h:n≤i): (tab n f)[i]?=none:=by simp[tab,h]
theorem Zc3{α:Type}{n:Nat}{f:Nat→α}: tab n f++[f n]=tab (n+1) f:=by simp[tab,List.range_succ]
theorem ZhB{α:Type}{n:Nat}{xs:List α}{f:Nat→α}(hl:xs.length=n)(h:∀i,i<n→xs[i]?=some (f i)): xs=tab n f:=by
 refine List.ext_getElem? fun i=>?_
 by_cases q:i<n
 ·rw[h i q,Zbd q]
 ·rw[List.getElem?_eq_none (by omega),ZuM (by omega)]
theorem Zbj{α:Type}{n:Nat}{f g:Nat→α}(h:∀i,i<n→f i=g i): tab n f=tab n g:=by
 refine ZhB Zae fun i hi=>?_
 rw[Zbd hi,h i hi]
theorem ZhC{α:Type}{n k:Nat}{f:Nat→α}{v:α}: (tab n f).set k v=tab n fun i=>if i=k then v else f i:=by
 refine ZhB (by rw[List.length_set,Zae]) fun i hi=>?_
 by_cases q:i=k
 ·subst q
  rw[List.getElem?_set_self (by rw[Zae];exact hi),if_pos rfl]
 ·rw[List.getElem?_set_ne (Ne.symm q),Zbd hi,if_neg q]
theorem tab_map{α β:Type}{n:Nat}{f:Nat→α}{g:α→β}: (tab n f).map g=tab n fun i=>g (f i):=by simp[tab]
noncomputable def cn{α:Type}(a:α)(f:Nat→α): Nat→α
 | 0=>a
 | i+1=>f i
theorem ZsN{α:Type}{n:Nat}{a:α}{f:Nat→α}: a::tab n f=tab (n+1) (cn a f):=by
 refine ZhB (by rw[List.length_cons,Zae]) fun i hi=>?_
 cases i with
 | zero=>rfl
 | succ i=>rw[List.getElem?_cons_succ,Zbd (by omega)];rfl
theorem Zoj{α β γ:Type}{n m:Nat}{f:Nat→α}{g:Nat→β}{h:α→β→γ}: List.zipWith h (tab n f) (tab m g)=tab (min n m) fun i=>h (f i) (g i):=by
 refine ZhB (by rw[List.length_zipWith,Zae,Zae]) fun i hi=>?_
 rw[List.getElem?_zipWith,Zbd (show i<n by omega),Zbd (show i<m by omega)]
def Pk(c:Option T)(Q:T→Prop): Prop:=∃t,c=some t∧Q t
def Pl(c:Option (List T))(Q:List T→Prop): Prop:=∃t,c=some t∧Q t
def Pb(c:Option Bool)(Q:Bool→Prop): Prop:=∃t,c=some t∧Q t
def Psk(c:Option (Option T×TL))(R:T→Prop)(N:TL→Prop): Prop:=∃o σ,c=some (o,σ)∧(∀t,o=some t→R t)∧(o=none→N σ)
theorem Zy{c:Option T}{Q:T→Prop}{t:T}(h:c=some t)(k:Q t): Pk c Q:=⟨t,h,k⟩
theorem Pk.eq{c:Option T}{t:T}(h:Pk c fun v=>v=t): c=some t:=by obtain⟨v,e,rfl⟩:=h;exact e
theorem Pk.mono{c:Option T}{Q Q':T→Prop}(h:Pk c Q)(k:∀t,Q t→Q' t): Pk c Q':=by obtain⟨v,e,q⟩:=h;exact⟨v,e,k v q⟩
theorem Psk.mono{c:Option (Option T×TL)}{R R':T→Prop}{N N':TL→Prop}(h:Psk c R N)(k:∀t,R t→R' t)(l:∀σ,N σ→N' σ): Psk c R' N':=by
 obtain⟨o,σ,a,b,d⟩:=h;exact⟨o,σ,a,fun v e=>k v (b v e),fun e=>l σ (d e)⟩
section
variable {σ:TL} {Q:T→Prop} {L:List T→Prop} {B:Bool→Prop} {R:T→Prop} {N:TL→Prop}
theorem ZuN{k:Int}(h:Q (.int k)): Pk (Zv k σ) Q:=⟨_,rfl,h⟩
theorem ZuO(h:Q .none): Pk (Zau σ) Q:=⟨_,rfl,h⟩
theorem ZtD{k:Bool}(h:Q (.bool k)): Pk (ZdT k σ) Q:=⟨_,rfl,h⟩
theorem ZuP{k:Str}(h:Q (.str k)): Pk (Zik k σ) Q:=⟨_,rfl,h⟩
theorem ZuQ{i:Nat}{t:T}(e:σ i=some t)(h:Q t): Pk (Zf i σ) Q:=⟨_,e,h⟩
theorem ZuR{q:T→T→Option T}{f g:PE}(h:Pk (f σ) fun x=>Pk (g σ) fun y=>Pk (q x y) Q): Pk (Zp q f g σ) Q:=by
 obtain⟨x,a,y,b,z,c,k⟩:=h
 exact⟨z,by simp only[Zp,a,b,Option.bind_some,c],k⟩
theorem Zvs{q:T→Option T}{f:PE}(h:Pk (f σ) fun x=>Pk (q x) Q): Pk (pUn q f σ) Q:=by
 obtain⟨x,a,z,c,k⟩:=h
 exact⟨z,by simp only[pUn,a,Option.bind_some,c],k⟩
theorem ZtE{q:List T→Option T}{f:PEs}(h:Pl (f σ) fun x=>Pk (q x) Q): Pk (ZW q f σ) Q:=by
 obtain⟨x,a,z,c,k⟩:=h
 exact⟨z,by simp only[ZW,a,Option.bind_some,c],k⟩
theorem ZuS(h:L []): Pl (ZF σ) L:=⟨_,rfl,h⟩
theorem ZtF{f:PE}{g:PEs}(h:Pk (f σ) fun x=>Pl (g σ) fun xs=>L (x::xs)): Pl (Zq f g σ) L:=by
 obtain⟨x,a,y,b,k⟩:=h
 exact⟨_,by simp only[Zq,a,b,Option.bind_some],k⟩
theorem ZuT{g:PEs}(h:Pl (g σ) fun xs=>Q (.tup xs)): Pk (ZcX g σ) Q:=by
 obtain⟨x,a,k⟩:=h;exact⟨_,by simp only[ZcX,a,Option.map_some],k⟩
theorem ZtG{g:PEs}(h:Pl (g σ) fun xs=>Q (.lst xs)): Pk (ZcU g σ) Q:=by
 obtain⟨x,a,k⟩:=h;exact⟨_,by simp only[ZcU,a,Option.map_some],k⟩
theorem ZtH{f:PE}(h:Pk (f σ) fun t=>t.flat=true∧Q t): Pk (ZcT f σ) Q:=by
 obtain⟨x,a,b,k⟩:=h;exact⟨_,by simp only[ZcT,a,Option.bind_some,b,if_true],k⟩
theorem Zvt{f:PE}(h:Pk (f σ) fun t=>t.flatIn=true∧Q t): Pk (pFl f σ) Q:=by
 obtain⟨x,a,b,k⟩:=h;exact⟨_,by simp only[pFl,a,Option.bind_some,b,if_true],k⟩
theorem Zvu{b:PB}{f g:PE}(h:Pb (b σ) fun x=>(x=true→Pk (f σ) Q)∧(x=false→Pk (g σ) Q)): Pk (pIf b f g σ) Q:=by
 obtain⟨x,a,h1,h2⟩:=h
 cases x with
 | true=>obtain⟨t,c,q⟩:=h1 rfl;exact⟨t,by simp[pIf,a,c],q⟩
 | false=>obtain⟨t,c,q⟩:=h2 rfl;exact⟨t,by simp[pIf,a,c],q⟩
theorem ZuU{f:PE}(h:Pk (f σ) fun x=>Pb (Zbv x) fun b=>Q (.bool (!b))): Pk (Zln f σ) Q:=by
 obtain⟨x,a,b,e,q⟩:=h;exact⟨_,by simp only[Zln,a,Option.bind_some,e,Option.map_some],q⟩
theorem ZuV{f g:PE}(h:Pk (f σ) fun x=>Pb (Zbv x) fun b=>(b=true→Pk (g σ) Q)∧(b=false→Q x)): Pk (ZgF f g σ) Q:=by
 obtain⟨x,a,b,e,h1,h2⟩:=h
 cases b with
 | true=>obtain⟨t,c,q⟩:=h1 rfl;exact⟨t,by simp[ZgF,a,e,c],q⟩
 | false=>exact⟨x,by simp[ZgF,a,e],h2 rfl⟩
theorem Zvv{f g:PE}(h:Pk (f σ) fun x=>Pb (Zbv x) fun b=>(b=true→Q x)∧(b=false→Pk (g σ) Q)): Pk (pOr f g σ) Q:=by
 obtain⟨x,a,b,e,h1,h2⟩:=h
 cases b with
 | false=>obtain⟨t,c,q⟩:=h2 rfl;exact⟨t,by simp[pOr,a,e,c],q⟩
 | true=>exact⟨x,by simp[pOr,a,e],h1 rfl⟩
theorem Zvw{K:String}{f:PE}(h:Pk (f σ) fun x=>Q (.bool (Zhy K x))): Pk (pIs K f σ) Q:=by
 obtain⟨x,a,q⟩:=h;exact⟨_,by simp only[pIs,a,Option.map_some],q⟩
theorem ZuW{f:PE}(h:Pk (f σ) fun x=>Pb (Zbv x) B): Pb (Z9 f σ) B:=by
 obtain⟨x,a,b,e,q⟩:=h;exact⟨_,by simp only[Z9,a,Option.bind_some,e],q⟩
theorem ZtI{f:PB}(h:Pb (f σ) fun b=>B (!b)): Pb (ZeP f σ) B:=by
 obtain⟨x,a,q⟩:=h;exact⟨_,by simp only[ZeP,a,Option.map_some],q⟩
theorem ZtJ(h:B true): Pb (Zan σ) B:=⟨_,rfl,h⟩
theorem ZsO(h:B false): Pb (Zgm σ) B:=⟨_,rfl,h⟩
theorem ZtK{f g:PB}(h:Pb (f σ) fun b=>(b=true→Pb (g σ) B)∧(b=false→B false)): Pb (Zcb f g σ) B:=by
 obtain⟨x,a,h1,h2⟩:=h
 cases x with
 | true=>obtain⟨t,c,q⟩:=h1 rfl;exact⟨t,by simp[Zcb,a,c],q⟩
 | false=>exact⟨_,by simp[Zcb,a],h2 rfl⟩
theorem ZuX{f g:PB}(h:Pb (f σ) fun b=>(b=true→B true)∧(b=false→Pb (g σ) B)): Pb (bOr f g σ) B:=by
 obtain⟨x,a,h1,h2⟩:=h
 cases x with
 | false=>obtain⟨t,c,q⟩:=h2 rfl;exact⟨t,by simp[bOr,a,c],q⟩
 | true=>exact⟨_,by simp[bOr,a],h1 rfl⟩
theorem ZmL{b:Bool}(h:B b): Pb (Zbv (.bool b)) B:=⟨_,rfl,h⟩
theorem ZtL(h:N σ): Psk (ZaC σ) R N:=⟨_,_,rfl,by simp,fun _=>h⟩
theorem ZuY{f:PE}(h:Pk (f σ) R): Psk (Zaq f σ) R N:=by
 obtain⟨x,a,q⟩:=h;exact⟨some x,σ,by simp only[Zaq,a,Option.map_some],fun t e=>by cases e;exact q,by simp⟩
theorem ZhV{i:Nat}{f:PE}(h:Pk (f σ) fun t=>N (ZN σ i t)): Psk (Zar i f σ) R N:=by
 obtain⟨x,a,q⟩:=h;exact⟨none,ZN σ i x,by simp only[Zar,a,Option.map_some],by simp,fun _=>q⟩
theorem Zgn{a b:PS}(h:Psk (a σ) R fun σ1=>Psk (b σ1) R N): Psk (Z1 a b σ) R N:=by
 obtain⟨o,σ1,e,h1,h2⟩:=h
 cases o with
 | some t=>exact⟨some t,σ1,by simp only[Z1,e,Option.bind_some],h1,by simp⟩
 | none=>
  obtain⟨o2,σ2,e2,k1,k2⟩:=h2 rfl
  exact⟨o2,σ2,by simp only[Z1,e,Option.bind_some,e2],k1,k2⟩
theorem ZkP{b:PB}{f g:PS}(h:Pb (b σ) fun x=>(x=true→Psk (f σ) R N)∧(x=false→Psk (g σ) R N)): Psk (qIf b f g σ) R N:=by
 obtain⟨x,a,h1,h2⟩:=h
 cases x with
 | true=>obtain⟨o,s,c,q⟩:=h1 rfl;exact⟨o,s,by simp[qIf,a,c],q⟩
 | false=>obtain⟨o,s,c,q⟩:=h2 rfl;exact⟨o,s,by simp[qIf,a,c],q⟩
theorem ZkQ{n:Nat}{q:PS}{ts:List T}(hn:ts.length=n)(h:Psk (q fun i=>ts[i]?) Q fun _=>Q .none): Pk (ZQ n q ts) Q:=by
 obtain⟨o,s,e,h1,h2⟩:=h
 cases o with
 | some t=>exact⟨t,by simp only[ZQ,hn,if_true,e,Option.map_some,Option.getD_some],h1 t rfl⟩
 | none=>exact⟨.none,by simp only[ZQ,hn,if_true,e,Option.map_some,Option.getD_none],h2 rfl⟩
theorem Zo0{b:Bool}{A C:Prop}(h:b=true)(k:A): (b=true→A)∧(b=false→C):=⟨fun _=>k,fun e=>(by rw[h]at e;cases e)⟩
theorem ZuZ{b:Bool}{A C:Prop}(h:b=false)(k:C): (b=true→A)∧(b=false→C):=⟨fun e=>(by rw[h]at e;cases e),fun _=>k⟩
theorem Zo1{a b:Int}(h:Q (.int (a+b))): Pk (Zap (.int a) (.int b)) Q:=⟨_,rfl,h⟩
theorem Zu0{a b:Int}(h:Q (.int (a-b))): Pk (Zck (.int a) (.int b)) Q:=⟨_,rfl,h⟩
theorem Zu1{a:Int}(h:Q (.int (-a))): Pk (Zdg (.int a)) Q:=⟨_,rfl,h⟩
theorem Zvx{a b:Int}(h:Q (.bool (decide (a<b)))): Pk (qLt (.int a) (.int b)) Q:=⟨_,rfl,h⟩
theorem Zvy{a b:Int}(h:Q (.bool (decide (a≤b)))): Pk (qLe (.int a) (.int b)) Q:=⟨_,rfl,h⟩
theorem Zvz{a b:Int}(h:Q (.bool (decide (b<a)))): Pk (qGt (.int a) (.int b)) Q:=⟨_,rfl,h⟩
theorem Zu2{a b:Int}(hb:b≠0)(h:Q (.int (a.fmod b))): Pk (Zim (.int a) (.int b)) Q:=⟨_,by simp only[Zim];rw[if_pos hb],h⟩
theorem Zcq{a b:Int}(hb:b≠0)(hd:Builtin.divisionGoesByPylong a b=false)(h:Q (.int (a.fdiv b))): Pk (Zil (.int a) (.int b)) Q:=⟨_,by simp only[Zil];rw[if_pos ⟨hb,hd⟩],h⟩
theorem Zbx{a b:Int}(hm:mulOk a b=true)(h:Q (.int (a*b))): Pk (ZbV (.int a) (.int b)) Q:=⟨_,by simp only[ZbV];rw[if_pos hm],h⟩
theorem Zu3{a:Int}(h:Q (.int (if a<0 then -a else a))): Pk (Zlp [.int a]) Q:=⟨_,rfl,h⟩
theorem Zu4{a b:Int}(h:Q (.int (if b<a then b else a))): Pk (Zk7 [.int a,.int b]) Q:=⟨_,rfl,h⟩
theorem ZhD(a b:Int): Zdx (.int a) (.int b)=some (decide (a=b)):=by
 simp[Zdx,Zcl,SeqAt.shaped,PyData.canLay0,PyData.depth,PyData.eqv]
 by_cases h:a=b <;> simp[h]
theorem ZvA{a b:Int}(h:Q (.bool (decide (a=b)))): Pk (qEq (.int a) (.int b)) Q:=⟨_,by simp only[qEq,ZhD,Option.map_some],h⟩
theorem ZvB{a b:Int}(h:Q (.bool (decide (a≠b)))): Pk (qNe (.int a) (.int b)) Q:=⟨.bool (decide (a≠b)),by simp only[qNe,ZhD,Option.map_some];simp,h⟩
theorem Zu5(h:Q (.bool true)): Pk (qIs .none .none) Q:=⟨_,rfl,h⟩
theorem Zu6{a:Int}(h:Q (.bool false)): Pk (qIs (.int a) .none) Q:=⟨_,rfl,h⟩
theorem Zu7{a:List T}(h:Q (.bool false)): Pk (qIs (.lst a) .none) Q:=⟨_,rfl,h⟩
theorem Zu8{a:List T}(h:Q (.bool false)): Pk (qIs (.tup a) .none) Q:=⟨_,rfl,h⟩
theorem ZtM(h:Q (.bool false)): Pk (ZdO .none .none) Q:=⟨_,rfl,h⟩
theorem ZtN{a:Int}(h:Q (.bool true)): Pk (ZdO (.int a) .none) Q:=⟨_,rfl,h⟩
theorem ZtO{a:List T}(h:Q (.bool true)): Pk (ZdO (.tup a) .none) Q:=⟨_,rfl,h⟩
theorem ZtP{n:Nat}{f:Nat→T}(h:Q (.int n)): Pk (Zbg [.lst (tab n f)]) Q:=⟨_,by simp only[Zbg,Zae],h⟩
theorem Zu9{ts:List T}(h:Q (.int ts.length)): Pk (Zbg [.lst ts]) Q:=⟨_,rfl,h⟩
theorem ZtQ{ts:List T}(h:Q (.int ts.length)): Pk (Zbg [.tup ts]) Q:=⟨_,rfl,h⟩
theorem Zdd{k:Int}{n:Nat}(h0:0≤k)(h1:k<n): seqIndex? k n=some k.toNat:=by
 unfold seqIndex?
 have:¬k<0:=by omega
 simp[this]
 omega
theorem ZtR{n i:Nat}{f:Nat→T}(hi:i<n)(h:Q (f i)): Pk (ZE (.lst (tab n f)) (.int (i:Nat))) Q:=⟨_,by
 simp only[ZE,Zae,Zdd (show(0:Int)≤(i:Int)by omega) (show(i:Int)<(n:Int)by omega),Option.bind_some,Int.toNat_natCast]
 exact Zbd hi,h⟩
theorem ZtS{n:Nat}{k:Int}{f:Nat→T}(h0:0≤k)(h1:k<n)(h:Q (f k.toNat)): Pk (ZE (.lst (tab n f)) (.int k)) Q:=⟨_,by
 simp only[ZE,Zae,Zdd h0 h1,Option.bind_some]
 exact Zbd (by omega),h⟩
theorem ZhE{ts:List T}{k:Int}{t:T}(h0:0≤k)(e:ts[k.toNat]?=some t)(h:Q t): Pk (ZE (.lst ts) (.int k)) Q:=⟨_,by
 simp only[ZE]
 rw[Zdd h0 (by have:=(Zz6.mp e).1;omega)]
 exact e,h⟩
theorem ZtT{ts:List T}{k:Int}{t:T}(h0:0≤k)(e:ts[k.toNat]?=some t)(h:Q t): Pk (ZE (.tup ts) (.int k)) Q:=⟨_,by
 simp only[ZE]
 rw[Zdd h0 (by have:=(Zz6.mp e).1;omega)]
 exact e,h⟩
theorem Zok{n:Nat}{a:T}{f:Nat→T}(hn:n<10000)(h:Q (.lst (tab (n+1) (cn a f)))): Pk (Zap (.lst [a]) (.lst (tab n f))) Q:=⟨_,by
 simp only[Zap]
 rw[if_pos (by rw[ZaP,List.length_append,Zae];simp;omega),List.singleton_append,ZsN],h⟩
theorem ZsP{ts:List T}(h:Q (.lst ts)): Pk (ZcE [.lst ts]) Q:=⟨_,rfl,h⟩
theorem ZtU{ts:List T}(h:Q (.tup ts)): Pk (ZhA [.lst ts]) Q:=⟨_,rfl,h⟩
theorem Zr3{n:Nat}{f:Nat→Bool}: ZeD (tab n fun i=>.bool (f i))=some (tab n f):=by
 have:∀l:List Bool,ZeD (l.map T.bool)=some l:=fun l=>by
  induction l with
  | nil=>rfl
  | cons a l ih=>simp only[List.map_cons,ZeD,ih,Option.map_some]
 rw[show(tab n fun i=>T.bool (f i))=(tab n f).map T.bool from tab_map.symm]
 exact this _
theorem ZsQ{n:Nat}{f:Nat→Int}: ZcI (tab n fun i=>.int (f i))=some (tab n f):=by
 have:∀l:List Int,ZcI (l.map T.int)=some l:=fun l=>by
  induction l with
  | nil=>rfl
  | cons a l ih=>simp only[List.map_cons,ZcI,ih,Option.map_some]
 rw[show(tab n fun i=>T.int (f i))=(tab n f).map T.int from tab_map.symm]
 exact this _
theorem Zva{n:Nat}{P:Nat→Prop}(h:Q (.bool (dec (∃i,i<n∧P i)))): Pk (Zio [.lst (tab n fun i=>.bool (dec (P i)))]) Q:=⟨_,by
 simp only[Zio,Zr3,Option.map_some]
 congr 2
 symm
 apply ZkO
 rw[List.any_eq_true]
 constructor
 ·rintro⟨x,hx,h⟩
  obtain⟨i,hi,e⟩:=List.getElem_of_mem hx
  rw[Zae]at hi
  have:=Zbd (f:=fun i=>dec (P i)) hi
  rw[List.getElem?_eq_getElem (by rw[Zae];exact hi)]at this
  rw[←e,Option.some.inj this]at h
  exact⟨i,hi,dec_iff.mp h⟩
 ·rintro⟨i,hi,h⟩
  exact⟨_,List.mem_of_getElem? (Zbd hi),ZaH h⟩,h⟩
def SqP(x:T)(L:List T→Prop): Prop:=∃ts,(x=.lst ts∨x=.tup ts)∧L ts
theorem ZhF{f:PE}(h:Pk (f σ) fun t=>SqP t L): Pl (ZaM f σ) L:=by
 obtain⟨t,a,ts,rfl | rfl,q⟩:=h <;> exact⟨_,by simp only[ZaM,a,Option.bind_some],q⟩
theorem Sq.lst{ts:List T}(h:L ts): SqP (.lst ts) L:=⟨ts,.inl rfl,h⟩
theorem Sq.tup{ts:List T}(h:L ts): SqP (.tup ts) L:=⟨ts,.inr rfl,h⟩
theorem Zo2{a b c:Int}{H:Hp}{z:Nx×Nat×Hp}(h:Zb0 a b c H=some z): ZbW a b c=some ((List.range (rngN a b c)).map fun(i:Nat)=>.int (a+(i:Int)*c)):=by
 unfold Zb0 at h
 split at h
 ·rename_i hc
  unfold ZbW
  rw[if_pos hc]
 ·cases h
theorem ZsR{n:Nat}(hn:n≤1000): ZbW 0 n 1=some (tab n fun i=>.int i):=by
 rw[Zo2 (ZuF (H:=[]) (b:=n) (by omega) (by omega))]
 have e:rngN 0 n 1=n:=by
  unfold rngN Builtin.Range.rangeSize
  by_cases q:(0:Int)<n
  ·rw[if_pos (by decide),if_pos (by omega)];omega
  ·rw[if_pos (by decide),if_neg (by omega)];omega
 rw[e]
 simp[tab]
theorem Zol{a n:Nat}(ha:0<n)(hn:a+n≤1000): ZbW a (a+n) 1=some (tab n fun i=>.int (a+i)):=by
 rw[Zo2 (ZuH (H:=[]) (a:=a) (b:=a+n) (c:=1) (by omega) (by omega) (by omega) (by omega) (by omega))]
 have e:rngN a (a+n) 1=n:=by
  unfold rngN
  rw[Zps (by omega) (by omega)]
  omega
 rw[e]
 simp[tab]
theorem ZtV{g:PEs}{b:Int}{o:Option (List T)}(e:g σ=some [.int b])(h:ZbW 0 b 1=o): Zbw g σ=o:=by
 subst h;unfold Zbw;rw[e];rfl
theorem Zge{g:PEs}{a b:Int}{o:Option (List T)}(e:g σ=some [.int a,.int b])(h:ZbW a b 1=o): Zbw g σ=o:=by
 subst h;unfold Zbw;rw[e];rfl
def RnP(xs:List T)(L:List T→Prop): Prop:=(∃n:Nat,xs=[.int n]∧n≤1000∧L (tab n fun i=>.int i))∨∃(a:Nat) (n:Nat),xs=[.int a,.int (a+n)]∧0<n∧a+n≤1000∧L (tab n fun i=>.int (a+i))
theorem ZsS{g:PEs}(h:Pl (g σ) fun xs=>RnP xs L): Pl (Zbw g σ) L:=by
 obtain⟨xs,e,h⟩:=h
 rcases h with⟨n,h0,h1,q⟩ | ⟨a,n,h0,h1,h2,q⟩
 ·subst h0;exact⟨_,ZtV e (ZsR h1),q⟩
 ·subst h0;exact⟨_,Zge e (Zol h1 h2),q⟩
theorem Rn.one{n:Nat}(hn:n≤1000)(h:L (tab n fun i=>.int i)): RnP [.int n] L:=.inl ⟨n,rfl,hn,h⟩
theorem Zic{k:Int}(n:Nat)(e:k=n)(hn:n≤1000)(h:L (tab n fun i=>.int i)): RnP [.int k] L:=.inl ⟨n,by rw[e],hn,h⟩
theorem Rn.two{k l:Int}(a n:Nat)(e0:l=a)(e:k=a+n)(ha:0<n)(hn:a+n≤1000)(h:L (tab n fun i=>.int (a+i))): RnP [.int l,.int k] L:=.inr ⟨a,n,by rw[e,e0],ha,hn,h⟩
def ZiP(x y:T)(L:List T→Prop): Prop:=∃xs ys,x=.lst xs∧y=.lst ys∧L (List.zipWith (fun a b=>.tup [a,b]) xs ys)
theorem Zo3{f g:PE}(h:Pk (f σ) fun x=>Pk (g σ) fun y=>ZiP x y L): Pl (Zip f g σ) L:=by
 obtain⟨x,a,y,b,xs,ys,rfl,rfl,q⟩:=h;exact⟨_,by simp only[Zip,a,b,Option.bind_some],q⟩
theorem Zi.eq{n:Nat}{f g:Nat→T}(h:L (tab n fun i=>.tup [f i,g i])): ZiP (.lst (tab n f)) (.lst (tab n g)) L:=⟨_,_,rfl,rfl,by rw[Zoj,Nat.min_self];exact h⟩
theorem Znf{j:Nat}{f:PE}{h:T→T}: ∀{ts:List T},(∀t∈ts,f (ZN σ j t)=some (h t))→ZbT (Zaa j) Zan f σ ts=some (ts.map h)
 | [],_=>rfl
 | t::ts,k=>by
  simp only[ZbT,Zaa,Zan,Option.bind_some,if_true,k t Zz5,Znf fun t m=>k t (Zz2 _ m),Option.map_some,List.map_cons]
theorem Zks{put:T→TL→Option TL}{f:PE}: ∀{ts us:List T},us.length=ts.length→(∀(i:Nat) t u,ts[i]?=some t→us[i]?=some u→∃σ1,put t σ=some σ1∧f σ1=some u)→ZbT put Zan f σ ts=some us
 | [],us,hl,_=>by cases us with
  | nil=>rfl
  | cons _ _=>simp at hl
 | t::ts,us,hl,k=>by
  cases us with
  | nil=>simp at hl
  | cons u us=>
   obtain⟨σ1,h1,h2⟩:=k 0 t u (by simp) (by simp)
   have:=Zks (ts:=ts) (us:=us) (f:=f) (put:=put) (by simpa using hl) fun i t' u' h3 h4=>k (i+1) t' u' (by simpa using h3) (by simpa using h4)
   simp only[ZbT,h1,Zan,Option.bind_some,if_true,h2,this,Option.map_some]
theorem Zb1{g:PG}{j n:Nat}{a b:Nat→T}{f:PE}(hn:n<10000)(hg:Pl (g σ) fun ts=>ts=tab n a)(hf:∀i,i<n→Pk (f (ZN σ j (a i))) fun t=>t=b i)(h:Q (.lst (tab n b))): Pk (Zav g (Zaa j) Zan f σ) Q:=by
 obtain⟨ts,e,rfl⟩:=hg
 refine⟨_,?_,h⟩
 simp only[Zav,e,Option.bind_some,Zae]
 rw[if_pos (by rw[ZaP];omega),Zks (us:=tab n b) (by rw[Zae,Zae]) fun i t u h1 h2=>?_]
 ·rfl
 ·have hi:i<n:=by have:=(Zz6.mp h1).1;rwa [Zae]at this
  rw[Zbd hi]at h1 h2
  cases h1;cases h2
  exact⟨_,rfl,(hf i hi).eq⟩
theorem Zkg{g:PG}{j k n:Nat}{a b c:Nat→T}{f:PE}(hn:n<10000)(hg:Pl (g σ) fun ts=>ts=tab n fun i=>.tup [a i,b i])(hf:∀i,i<n→Pk (f (ZN (ZN σ j (a i)) k (b i))) fun t=>t=c i)(h:Q (.lst (tab n c))): Pk (Zav g (ZdX j k) Zan f σ) Q:=by
 obtain⟨ts,e,rfl⟩:=hg
 refine⟨_,?_,h⟩
 simp only[Zav,e,Option.bind_some,Zae]
 rw[if_pos (by rw[ZaP];omega),Zks (us:=tab n c) (by rw[Zae,Zae]) fun i t u h1 h2=>?_]
 ·rfl
 ·have hi:i<n:=by have:=(Zz6.mp h1).1;rwa [Zae]at this
  rw[Zbd hi]at h1 h2
  cases h1;cases h2
  exact⟨_,rfl,(hf i hi).eq⟩
theorem ZhW{put:T→TL→Option TL}{b:PS}: ∀{ts:List T} (P:Nat→TL→Prop) {σ:TL},P 0 σ→(∀(i:Nat) t σ,ts[i]?=some t→P i σ→∃σ1,put t σ=some σ1∧Psk (b σ1) R (P (i+1)))→(∀σ,P ts.length σ→N σ)→Psk (Zd4 put b σ ts) R N
 | [],P,σ,h0,_,h2=>⟨_,_,rfl,by simp,fun _=>h2 _ h0⟩
 | t::ts,P,σ,h0,h1,h2=>by
  obtain⟨σ1,e1,o,σ2,e2,k1,k2⟩:=h1 0 t σ (by simp) h0
  cases o with
  | some v=>exact⟨some v,σ2,by simp only[Zd4,e1,Option.bind_some,e2],k1,by simp⟩
  | none=>
   obtain⟨o3,σ3,e3,l1,l2⟩:=ZhW (ts:=ts) (fun i=>P (i+1)) (k2 rfl) (fun i t' σ' h3 h4=>h1 (i+1) t' σ' (by simpa using h3) h4) (fun σ' h=>h2 σ' (by simpa using h))
   exact⟨o3,σ3,by simp only[Zd4,e1,Option.bind_some,e2,e3],l1,l2⟩
theorem Zbl{g:PG}{j n:Nat}{a:Nat→T}{b:PS}(hg:Pl (g σ) fun ts=>ts=tab n a)(P:Nat→TL→Prop)(h0:P 0 σ)(h1:∀i σ,i<n→P i σ→Psk (b (ZN σ j (a i))) R (P (i+1)))(h2:∀σ,P n σ→N σ): Psk (Zbh g (Zaa j) b σ) R N:=by
 obtain⟨ts,e,rfl⟩:=hg
 have:=ZhW (R:=R) (N:=N) (put:=Zaa j) (b:=b) (ts:=tab n a) P h0 (fun i t σ' h3 h4=>by
  have hi:i<n:=by have:=(Zz6.mp h3).1;rwa [Zae]at this
  rw[Zbd hi]at h3
  cases h3
  exact⟨_,rfl,h1 i σ' hi h4⟩) (by rw[Zae];exact h2)
 obtain⟨o,s,e2,q⟩:=this
 exact⟨o,s,by simp only[Zbh,e,Option.bind_some,e2],q⟩
theorem Zkt{g:PG}{j k n:Nat}{a c:Nat→T}{b:PS}(hg:Pl (g σ) fun ts=>ts=tab n fun i=>.tup [a i,c i])(P:Nat→TL→Prop)(h0:P 0 σ)(h1:∀i σ,i<n→P i σ→Psk (b (ZN (ZN σ j (a i)) k (c i))) R (P (i+1)))(h2:∀σ,P n σ→N σ): Psk (Zbh g (ZdX j k) b σ) R N:=by
 obtain⟨ts,e,rfl⟩:=hg
 have:=ZhW (R:=R) (N:=N) (put:=ZdX j k) (b:=b) (ts:=tab n fun i=>.tup [a i,c i]) P h0 (fun i t σ' h3 h4=>by
  have hi:i<n:=by have:=(Zz6.mp h3).1;rwa [Zae]at this
  rw[Zbd hi]at h3
  cases h3
  exact⟨_,rfl,h1 i σ' hi h4⟩) (by rw[Zae];exact h2)
 obtain⟨o,s,e2,q⟩:=this
 exact⟨o,s,by simp only[Zbh,e,Option.bind_some,e2],q⟩
theorem ZtW{g:PG}{j:Nat}{ts:List T}{b:PS}(hg:Pl (g σ) fun us=>us=ts)(P:Nat→TL→Prop)(h0:P 0 σ)(h1:∀(i:Nat) t σ,ts[i]?=some t→P i σ→Psk (b (ZN σ j t)) R (P (i+1)))(h2:∀σ,P ts.length σ→N σ): Psk (Zbh g (Zaa j) b σ) R N:=by
 obtain⟨us,e,rfl⟩:=hg
 obtain⟨o,s,e2,q⟩:=ZhW (R:=R) (N:=N) (put:=Zaa j) (b:=b) (ts:=us) P h0 (fun i t σ' h3 h4=>⟨_,rfl,h1 i t σ' h3 h4⟩) h2
 exact⟨o,s,by simp only[Zbh,e,Option.bind_some,e2],q⟩
theorem Zer{t:PB}{b:PS}(P:Nat→TL→Prop)(R:T→Prop)(N:TL→Prop)(h:∀m σ,P m σ→Pb (t σ) fun x=>(x=true→Psk (b σ) R fun σ1=>∃m',m'<m∧P m' σ1)∧(x=false→N σ)): ∀(n:Nat) {m:Nat} {σ:TL},P m σ→m<n→Psk (ZeF t b n σ) R N
 | 0,_,_,_,hm=>by omega
 | n+1,m,σ,hp,hm=>by
  obtain⟨x,e,h1,h2⟩:=h m σ hp
  cases x with
  | false=>exact⟨none,σ,by simp[ZeF,e],by simp,fun _=>h2 rfl⟩
  | true=>
   obtain⟨o,σ1,e1,k1,k2⟩:=h1 rfl
   cases o with
   | some v=>exact⟨some v,σ1,by simp[ZeF,e,e1],k1,by simp⟩
   | none=>
    obtain⟨m',hm',hp'⟩:=k2 rfl
    obtain⟨o2,σ2,e2,l1,l2⟩:=Zer P R N h n hp' (by omega)
    exact⟨o2,σ2,by simp[ZeF,e,e1,e2],l1,l2⟩
theorem Zhj: Zb9 σ []=σ:=by funext i;simp[Zb9]
def AppP(σ:TL)(x:Nat)(w:T)(N:TL→Prop): Prop:=∃ts,σ x=some (.lst ts)∧ts.length<10000∧N (ZN σ x (.lst (ts++[w])))
theorem ZtX{x:Nat}{w:T}{ts:List T}(e:σ x=some (.lst ts))(hl:ts.length<10000)(h:N (ZN σ x (.lst (ts++[w])))): AppP σ x w N:=⟨ts,e,hl,h⟩
theorem Zvb{x:Nat}{f:PE}(h:Pk (f σ) fun w=>AppP σ x w N): Psk (Zdh x [] Zba f σ) R N:=by
 obtain⟨w,e,ts,h1,h2,q⟩:=h
 refine⟨none,_,?_,by simp,fun _=>q⟩
 simp only[Zdh,Zba,Option.bind_some,e,h1,Zb6,Zdy]
 rw[if_pos (by rw[ZaP];omega)]
 simp only[Option.map_some,Zhj]
def AppQ(σ:TL)(x y:Nat)(w:T)(N:TL→Prop): Prop:=∃ts,σ x=some (.lst ts)∧ts.length<10000∧N (Zb9 (ZN σ x (.lst (ts++[w]))) [y])
theorem ZtY{x y:Nat}{w:T}{ts:List T}(e:σ x=some (.lst ts))(hl:ts.length<10000)(h:N (Zb9 (ZN σ x (.lst (ts++[w]))) [y])): AppQ σ x y w N:=⟨ts,e,hl,h⟩
theorem ZtZ{x y:Nat}{f:PE}(h:Pk (f σ) fun w=>AppQ σ x y w N): Psk (Zdh x [y] Zba f σ) R N:=by
 obtain⟨w,e,ts,h1,h2,q⟩:=h
 refine⟨none,_,?_,by simp,fun _=>q⟩
 simp only[Zdh,Zba,Option.bind_some,e,h1,Zb6,Zdy]
 rw[if_pos (by rw[ZaP];omega)]
 simp only[Option.map_some]
def PutP(σ:TL)(x:Nat)(w k:T)(N:TL→Prop): Prop:=∃ts m,k=.int m∧σ x=some (.lst ts)∧0≤m∧m<ts.length∧N (ZN σ x (.lst (ts.set m.toNat w)))
theorem ZsT{x n i:Nat}{w:T}{f:Nat→T}(e:σ x=some (.lst (TM.tab n f)))(hi:i<n)(h:N (ZN σ x (.lst (TM.tab n fun k=>if k=i then w else f k)))): PutP σ x w (.int i) N:=⟨_,_,rfl,e,by omega,by rw[Zae];omega,by rw[Int.toNat_natCast,ZhC];exact h⟩
theorem Zr4{x n:Nat}{k:Int}{w:T}{f:Nat→T}(e:σ x=some (.lst (TM.tab n f)))(h0:0≤k)(hi:k<n)(h:N (ZN σ x (.lst (TM.tab n fun i=>if i=k.toNat then w else f i)))): PutP σ x w (.int k) N:=⟨_,_,rfl,e,h0,by rw[Zae];omega,by rw[ZhC];exact h⟩
theorem Zvc{x:Nat}{f i:PE}(h:Pk (f σ) fun w=>Pk (i σ) fun k=>PutP σ x w k N): Psk (ZbX x [] f Zba i σ) R N:=by
 obtain⟨w,e,k,e2,ts,m,rfl,h1,h2,h3,q⟩:=h
 refine⟨none,_,?_,by simp,fun _=>q⟩
 simp only[ZbX,Zba,Option.bind_some,e,e2,h1,Zb6,ZeQ]
 rw[if_pos ⟨h2,h3⟩]
 simp only[Option.map_some,Zhj]
def Put2(σ:TL)(x:Nat)(w a k:T)(N:TL→Prop): Prop:=∃ts us l m,a=.int l∧k=.int m∧σ x=some (.lst ts)∧0≤l∧ts[l.toNat]?=some (.lst us)∧0≤m∧m<us.length∧N (ZN σ x (.lst (ts.set l.toNat (.lst (us.set m.toNat w)))))
theorem ZnL{x n m i j:Nat}{w:T}{f:Nat→Nat→T}(e:σ x=some (.lst (TM.tab n fun a=>.lst (TM.tab m (f a)))))(hi:i<n)(hj:j<m)(h:N (ZN σ x (.lst (TM.tab n fun a=>.lst (TM.tab m fun b=>if a=i∧b=j then w else f a b))))): Put2 σ x w (.int i) (.int j) N:=by
 refine⟨_,TM.tab m (f i),i,j,rfl,rfl,e,by omega,?_,by omega,by rw[Zae];omega,?_⟩
 ·rw[Int.toNat_natCast,Zbd hi]
 ·rw[Int.toNat_natCast,Int.toNat_natCast,ZhC,ZhC]
  have:(TM.tab n fun a=>if a=i then T.lst (TM.tab m fun b=>if b=j then w else f i b)else T.lst (TM.tab m (f a)))=TM.tab n fun a=>.lst (TM.tab m fun b=>if a=i∧b=j then w else f a b):=Zbj fun a _=>by
   by_cases q:a=i
   ·subst q;simp
   ·simp[q]
  rw[this];exact h
theorem Zt0{x:Nat}{f i j:PE}(h:Pk (f σ) fun w=>Pk (i σ) fun a=>Pk (j σ) fun k=>Put2 σ x w a k N): Psk (ZbX x [] f (Zc8 Zba i) j σ) R N:=by
 obtain⟨w,e,a,e1,k,e2,ts,us,l,m,rfl,rfl,h1,h0,h4,h2,h3,q⟩:=h
 refine⟨none,_,?_,by simp,fun _=>q⟩
 have hl:=(Zz6.mp h4).1
 simp only[ZbX,Zba,Zc8,Option.bind_some,e,e1,e2,h1,List.nil_append,Zb6,ZeQ,Zdd h0 (show l<ts.length by omega),h4]
 rw[if_pos ⟨h2,h3⟩]
 simp only[Option.map_some,Zhj]
theorem Zt1{i j:Nat}{t:T}{o:Option T}(h:j≠i)(e:σ j=o): ZN σ i t j=o:=by simp[ZN,h,e]
theorem ZsU{j:Nat}{J:List Nat}{o:Option T}(h:j∉J)(e:σ j=o): Zb9 σ J j=o:=by simp[Zb9,h,e]
end
end TM
end
section
namespace TM
open PySem PM
inductive Pln: Nat→T→Prop where
 | none {n:Nat}:Pln n .none
 | int {n:Nat} {i:Int}:Pln n (.int i)
 | str {n:Nat} {x:Str}:PyData.strOk x=true→Pln n (.str x)
 | tup {n:Nat} {ts:List T}:(∀t∈ts,Pln n t)→Pln (n+1) (.tup ts)
 | lst {n:Nat} {ts:List T}:(∀t∈ts,Pln n t)→Pln (n+1) (.lst ts)
mutual
noncomputable def dd: T→PyData
 | .none=>.none
 | .bool b=>.bool b
 | .int i=>.int i
 | .str x=>.str x
 | .tup ts=>.tuple (dds ts)
 | .lst ts=>.list (dds ts)
noncomputable def dds: List T→List PyData
 | []=>[]
 | t::ts=>dd t::dds ts
end
theorem Zkh{f:T→Option PyData}: ∀{ts:List T},(∀t∈ts,f t=some (dd t))→ZdW f ts=some (dds ts)
 | [],_=>rfl
 | t::ts,h=>by simp only[ZdW,h t Zz5,Zkh fun t m=>h t (Zz2 _ m),Option.bind_some,dds]
theorem Zku: ∀{ts:List T},(∀t∈ts,PyData.canLay0 (dd t)=true)→PyData.canLayAll0 (dds ts)=true
 | [],_=>rfl
 | t::ts,h=>by simp only[dds,PyData.canLayAll0,h t Zz5,Zku fun t m=>h t (Zz2 _ m),Bool.and_self]
theorem Zkv{n:Nat}: ∀{ts:List T},(∀t∈ts,PyData.depth (dd t)≤n)→PyData.depthAll (dds ts)≤n
 | [],_=>by simp[dds,PyData.depthAll]
 | t::ts,h=>by
  have h1:=h t Zz5
  have h2:=Zkv fun t m=>h t (Zz2 _ m)
  simp only[dds,PyData.depthAll]
  omega
theorem Pln.dat{n:Nat}{t:T}(h:Pln n t): Zcl n t=some (dd t)∧PyData.canLay0 (dd t)=true∧PyData.depth (dd t)≤n:=by
 induction h with
 | @none n=>cases n <;> exact⟨rfl,rfl,by simp[dd,PyData.depth]⟩
 | @int n i=>cases n <;> exact⟨rfl,rfl,by simp[dd,PyData.depth]⟩
 | @str n x h=>cases n <;> exact⟨rfl,by simpa [dd,PyData.canLay0]using h,by simp[dd,PyData.depth]⟩
 | @tup n ts _ ih=>
  refine⟨?_,?_,?_⟩
  ·simp only[Zcl,Zkh fun t m=>(ih t m).1,Option.map_some,dd]
  ·simp only[dd,PyData.canLay0];exact Zku fun t m=>(ih t m).2.1
  ·simp only[dd,PyData.depth]
   have:=Zkv fun t m=>(ih t m).2.2
   omega
 | @lst n ts _ ih=>
  refine⟨?_,?_,?_⟩
  ·simp only[Zcl,Zkh fun t m=>(ih t m).1,Option.map_some,dd]
  ·simp only[dd,PyData.canLay0];exact Zku fun t m=>(ih t m).2.1
  ·simp only[dd,PyData.depth]
   have:=Zkv fun t m=>(ih t m).2.2
   omega
theorem Zkw: ∀{ts us:List T},(∀t∈ts,∀u∈us,(PyData.eqv (dd t) (dd u)=true↔t=u))→(PyData.eqvAll (dds ts) (dds us)=true↔ts=us)
 | [],[],_=>by simp[dds,PyData.eqvAll]
 | [],_::_,_=>by simp[dds,PyData.eqvAll]
 | _::_,[],_=>by simp[dds,PyData.eqvAll]
 | t::ts,u::us,h=>by
  simp only[dds,PyData.eqvAll,Bool.and_eq_true,h t Zz5 u Zz5,Zkw fun t m u n=>h t (Zz2 _ m) u (Zz2 _ n),List.cons.injEq]
theorem Pln.eqv{n:Nat}{t:T}(h:Pln n t): ∀{m:Nat} {u:T},Pln m u→(PyData.eqv (dd t) (dd u)=true↔t=u):=by
 induction h with
 | none=>intro m u h;cases h <;> simp[dd,PyData.eqv]
 | int=>intro m u h;cases h <;> simp[dd,PyData.eqv]
 | str _=>intro m u h;cases h <;> simp[dd,PyData.eqv]
 | tup hs ih=>
  intro m u h
  cases h with
  | tup hu=>simp only[dd,PyData.eqv,T.tup.injEq];exact Zkw fun t a u b=>ih t a (hu u b)
  | none=>simp[dd,PyData.eqv]
  | int=>simp[dd,PyData.eqv]
  | str=>simp[dd,PyData.eqv]
  | lst=>simp[dd,PyData.eqv]
 | lst hs ih=>
  intro m u h
  cases h with
  | lst hu=>simp only[dd,PyData.eqv,T.lst.injEq];exact Zkw fun t a u b=>ih t a (hu u b)
  | none=>simp[dd,PyData.eqv]
  | int=>simp[dd,PyData.eqv]
  | str=>simp[dd,PyData.eqv]
  | tup=>simp[dd,PyData.eqv]
theorem Pln.mono{n:Nat}{t:T}(h:Pln n t): ∀{m:Nat},n≤m→Pln m t:=by
 induction h with
 | none=>intro m _;exact .none
 | int=>intro m _;exact .int
 | str h=>intro m _;exact .str h
 | tup hs ih=>
  intro m hm
  cases m with
  | zero=>omega
  | succ m=>exact .tup fun t a=>ih t a (by omega)
 | lst hs ih=>
  intro m hm
  cases m with
  | zero=>omega
  | succ m=>exact .lst fun t a=>ih t a (by omega)
theorem Zom{n m:Nat}{a b:T}(ha:Pln n a)(hb:Pln m b)(hn:n≤8:=by decide)(hm:m≤8:=by decide): Zdx a b=some (dec (a=b)):=by
 have ha:=ha.mono hn
 have hb:=hb.mono hm
 obtain⟨a1,a2,a3⟩:=ha.dat
 obtain⟨b1,b2,b3⟩:=hb.dat
 unfold Zdx ZbA
 rw[a1,b1]
 simp only[Option.bind_some]
 rw[if_pos ⟨by simp only[SeqAt.shaped,a2,Bool.true_and,decide_eq_true_eq];omega,by simp only[SeqAt.shaped,b2,Bool.true_and,decide_eq_true_eq];omega⟩,ZkO (ha.eqv hb)]
section
variable {Q:T→Prop}
theorem ZdP{n m:Nat}{a b:T}(ha:Pln n a)(hb:Pln m b)(h:Q (.bool (dec (a=b))))(hn:n≤8:=by decide)(hm:m≤8:=by decide): Pk (qEq a b) Q:=⟨_,by simp only[qEq,Zom ha hb hn hm,Option.map_some],h⟩
theorem Zo4{n m:Nat}{a b:T}(ha:Pln n a)(hb:Pln m b)(h:Q (.bool (!dec (a=b))))(hn:n≤8:=by decide)(hm:m≤8:=by decide): Pk (qNe a b) Q:=⟨_,by simp only[qNe,Zom ha hb hn hm,Option.map_some],h⟩
end
theorem Zc4{α:Type}{n:Nat}{f:Nat→α}{x:α}(h:x∈tab n f): ∃i,i<n∧x=f i:=by
 obtain⟨i,hi,e⟩:=Zz11.mp h
 exact⟨i,List.mem_range.mp hi,e.symm⟩
theorem Zng{n:Nat}{f:Nat→T}(h:∀i,i<n→(f i).flat=true): T.flats (tab n f)=true:=by
 have key:∀l:List T,(∀t∈l,t.flat=true)→T.flats l=true:=fun l=>by
  induction l with
  | nil=>intro _;rfl
  | cons t l ih=>intro h;simp only[T.flats,h t Zz5,ih fun t m=>h t (Zz2 _ m),Bool.and_self]
 exact key _ fun t m=>by obtain⟨i,hi,rfl⟩:=Zc4 m;exact h i hi
theorem ZmM{n:Nat}{f:Nat→T}(h:∀i,i<n→(f i).flat=true): T.flatIn (.lst (tab n f))=true:=Zng h
noncomputable def oT: Option Int→T
 | none=>.none
 | some x=>.int x
noncomputable def ZX(q:Int×Int): T:=.tup [.int q.1,.int q.2]
noncomputable def Ziq(n:Nat)(x:Nat→Int): T:=.lst (tab n fun i=>.int (x i))
noncomputable def Zab(n:Nat)(b:Nat→Option Int): T:=.lst (tab n fun j=>oT (b j))
noncomputable def ZO(n:Nat)(G:Nat→Nat→Option Int): T:=.lst (tab n fun i=>Zab n (G i))
noncomputable def ZaD(n:Nat)(R:Nat→Int×Int): T:=.lst (tab n fun i=>ZX (R i))
noncomputable def ZK(n:Nat)(G:Nat→Nat→Option Int)(R:Nat→Int×Int): T:=.tup [ZO (n+1) G,ZaD n R]
theorem ZaO: oT none=.none:=rfl
theorem Z8{c:Int}: oT (some c)=.int c:=rfl
theorem ZdJ{b:Option Int}: (oT b).flat=true:=by cases b <;> rfl
theorem Zhq{q:Int×Int}: (ZX q).flat=true:=rfl
theorem oT_inj{a b:Option Int}: oT a=oT b↔a=b:=by cases a <;> cases b <;> simp[oT]
theorem ZeG{n k:Nat}{f:Nat→T}(h:∀i,i<k→Pln n (f i)): Pln (n+1) (.lst (tab k f)):=.lst fun t m=>by obtain⟨i,hi,rfl⟩:=Zc4 m;exact h i hi
theorem Zgy{n:Nat}{b:Option Int}: Pln n (oT b):=by cases b;exact .none;exact .int
theorem Zo5{n:Nat}{q:Int×Int}: Pln (n+1) (ZX q):=.tup fun t m=>by
 simp at m;rcases m with rfl | rfl <;> exact .int
theorem Zon{n:Nat}{b:Nat→Option Int}: Pln 1 (Zab n b):=ZeG fun _ _=>Zgy
theorem ZsV{n:Nat}{G:Nat→Nat→Option Int}: Pln 2 (ZO n G):=ZeG fun _ _=>Zon
theorem ZsW{n:Nat}{R:Nat→Int×Int}: Pln 2 (ZaD n R):=ZeG fun _ _=>Zo5
theorem Zki{n:Nat}{G:Nat→Nat→Option Int}{R:Nat→Int×Int}: Pln 3 (ZK n G R):=.tup fun t m=>by
 simp at m;rcases m with rfl | rfl
 ·exact ZsV
 ·exact ZsW
theorem Za1{σ:TL}{i:Nat}{t:T}: ZN σ i t i=some t:=by simp[ZN]
end TM
end
section
namespace PM
open PySem PySem.W PySem.Calls PyProof.Rows PyProof PyProof.Rows.LCg PyProof.Rows.LCp
noncomputable def sNo: Sm:=fun _ _=>none
noncomputable def inD(d:PyData): PyData→Option Bool
 | .list xs=>if PyData.canLayAll0 xs=true∧d.canLay0=true∧d.depth≤64 then some (xs.any fun y=>PyData.eqv y d)else none
 | .tuple xs=>if PyData.canLayAll0 xs=true∧d.canLay0=true∧d.depth≤64 then some (xs.any fun y=>PyData.eqv y d)else none
 | _=>none
noncomputable def Zlr(a b:V)(H:Hp): Option Bool:=(toD H ZbA a).bind fun d=>(toD H ZbA b).bind fun e=>inD d e
noncomputable def oIn(a b:V)(H:Hp): Option (V×Hp):=(Zlr a b H).map fun c=>(.bool c,H)
noncomputable def Zgo(a:Nat): Nx:=fun i H=>H[a]?.bind fun vs=>match vs[i]? with
 | some x=>some (some (.tup [.int i,x]))
 | none=>if i=vs.length then some none else none
noncomputable def Zk8(f:Ex): Src:=fun ρ H=>(f ρ H).bind fun p=>match p.1 with
 | .ref a=>p.2[a]?.map fun vs=>(Zgo a,vs.length+1,p.2)
 | _=>none
section
variable {prog:Program} {w:World} {Γ:Cx}
theorem ZvC{st:Stmt}: S1 prog w Γ st sNo:=fun W ρ H fr s Q E r rp hf post=>by cases hf
theorem Zgz: Op2 prog w (compareOp .In) oIn:=by
 intro Γ W ρ H fr s Q E a b x y v H' r hx hy ho post
 obtain⟨c,e1,e2⟩:=Zz1.mp ho
 cases e2
 obtain⟨d,h1,e1⟩:=Zz0.mp e1
 obtain⟨e,h2,e1⟩:=Zz0.mp e1
 obtain⟨as,R1⟩:=Zei r ZbA a x d hx h1
 obtain⟨bs,R2⟩:=Zei r ZbA b y e hy h2
 have hu:=Γ.hu
 unfold inD at e1
 split at e1
 ·split at e1
  ·rename_i hs
   cases e1
   exact SeqAt.in_list_reads R2 R1 hs.1 hs.2.1 (by omega) (post W s.heap s.toks _ (.refl W) r (.bool _))
  ·cases e1
 ·split at e1
  ·rename_i hs
   cases e1
   exact SeqAt.in_tuple_reads R2 R1 hs.1 hs.2.1 (by omega) (post W s.heap s.toks _ (.refl W) r (.bool _))
  ·cases e1
 ·cases e1
def ES(e it l:Addr)(i:Nat)(h:Heap): Prop:=(∃old,IsEnum h e it i old)∧h.IsListIter it l i
theorem ES.at{e it l:Addr}{i:Nat}{h h':Heap}(x:ES e it l i h)(k:∀a∈[e,it],∀o,h.get? a=some o→h'.get? a=some o): ES e it l i h':=by
 obtain⟨⟨old,h1⟩,h2⟩:=x
 exact⟨⟨old,k e (by simp) _ h1⟩,h2.at fun o x=>k it (by simp) o x⟩
theorem ES.have{e it l:Addr}{i:Nat}{h:Heap}(x:ES e it l i h): ∀a∈[e,it],∃o,h.get? a=some o:=by
 obtain⟨⟨old,h1⟩,o,h2,_⟩:=x
 intro a ha
 simp at ha
 rcases ha with rfl | rfl
 ·exact⟨_,h1⟩
 ·exact⟨_,h2⟩
def EIt(e it l:Addr)(i:Nat)(fs:List (Addr×Obj)): Prop:=fs.map (·.1)=[e,it]∧∀h:Heap,(∀q∈fs,h.get? q.1=some q.2)→ES e it l i h
theorem Zoo{e it l:Addr}{i:Nat}{h:Heap}(x:ES e it l i h): ∃fs,EIt e it l i fs∧∀q∈fs,h.get? q.1=some q.2:=by
 obtain⟨fs,h1,h2⟩:=Zlm h [e,it] x.have
 refine⟨fs,⟨h1,fun h' k=>x.at fun a ha o ho=>?_⟩,h2⟩
 rw[←h1]at ha
 obtain⟨q,hq,eq⟩:=Zz11.mp ha
 have:=h2 q hq
 rw[eq,ho]at this
 cases this
 exact eq▸k q hq
theorem Zt2{W0:Wd}{e it l:Addr}{a:Nat}(ea:W0.pi[a]?=some l)(hei:e≠it)(hle:l≠e)(hli:l≠it):
  Itr2 prog w Γ W0 (.ref e) [e,it] (EIt e it l) (Zgo a):=by
 refine⟨fun i fs h=>h.1,?_,?_,?_,?_⟩
 ·intro i H v hh
  obtain⟨vs,e1,hh⟩:=Zz0.mp hh
  split at hh
  ·cases hh
   exact⟨_,_,rfl⟩
  ·split at hh <;> cases hh
 ·intro i W ρ H fr fs s Q E va vb le r ap hit hn post
  obtain⟨vs,e1,hh⟩:=Zz0.mp hn
  have hv:va=.int i∧vs[i]?=some vb:=by
   split at hh
   ·rename_i x h1
    cases hh
    exact⟨rfl,h1⟩
   ·split at hh <;> cases hh
  obtain⟨_,xs,k1,g1,v1⟩:=r.at e1 (le.at ea)
  obtain⟨x,hx,rx⟩:=v1.at hv.2
  have st:ES e it l i s.heap:=hit.2 _ fun q hq=>r.frAt (Zz4 _ hq)
  have Wk:=WalksT.enumerate (prog:=prog) (w:=w) (A:=Γ.A) Γ.hh e it l hei hle hli xs.toArray
  have isl1:s.heap.IsList l xs.toArray:=⟨_,g1,rfl,k1,rfl⟩
  have hi:i<xs.toArray.size:=by
   have h1:=(Zz6.mp hx).1
   simpa using h1
  refine Wk.item i s Q E hi ⟨st.1,st.2,isl1⟩ fun T vals h1 t1 hp hT hTup hmid keep1=>post T h1 t1 ?_
  intro elts k pos s1 Q1 E1 es1 q1
  subst es1
  have hTw:=Wk.apart i T _ hmid
  refine Wk.go elts k pos i T _ Q1 E1 hmid fun h2 st2 keep2=>?_
  obtain⟨tk,x',hx',ev⟩:=hp
  have ex:x'=x:=by
   have:xs[i]?=some x':=by simpa using hx'
   rw[hx]at this
   exact(Option.some.inj this).symm
  subst ex ev
  obtain⟨fs',hit',at'⟩:=Zoo (h:=h2) (⟨st2.1,st2.2.1⟩:ES e it l (i+1) h2)
  obtain⟨oT,gT,cT,nT,dT⟩:=hTup
  refine q1 fs' h2 (.int i tk) x' hit' ?_ ⟨oT,keep2 T oT hTw gT,cT,nT,dT⟩ (by rw[hv.1];exact .int _ _) rx
  refine r.swap (fs':=fs') (fun q hq t ht=>?_) (fun c o hc e=>?_) fun q hq=>⟨at' q hq,?_⟩
  ·exact ap _ (hit.1▸List.mem_map_of_mem hq) t ht
  ·rw[hit.1]at hc
   exact keep2 c o hc (keep1 c o hc e)
  ·rw[hit.1,←hit'.1]
   exact List.mem_map_of_mem hq
 ·intro i W ρ H fr fs s Q E le r ap hit hn post
  obtain⟨vs,e1,hh⟩:=Zz0.mp hn
  obtain⟨_,xs,k1,g1,v1⟩:=r.at e1 (le.at ea)
  have hi:i=vs.length:=by
   split at hh
   ·cases hh
   ·split at hh
    ·assumption
    ·cases hh
  have st:ES e it l i s.heap:=hit.2 _ fun q hq=>r.frAt (Zz4 _ hq)
  have Wk:=WalksT.enumerate (prog:=prog) (w:=w) (A:=Γ.A) Γ.hh e it l hei hle hli xs.toArray
  have hm:xs.toArray.size=i:=by simp[v1.length,hi]
  refine Wk.done s Q E (by rw[hm];exact⟨st.1,st.2,⟨_,g1,rfl,k1,rfl⟩⟩) fun h' tk keep=>post h' tk ?_
  have:=r.swap (fs':=[]) (fun q hq t ht=>ap _ (hit.1▸List.mem_map_of_mem hq) t ht) (fun c o hc e=>keep c o (by rw[hit.1]at hc;exact hc) e) (fun q hq=>nomatch hq)
  exact this
 ·intro i W ρ H fr fs s Q E o le r hit hn q
  obtain⟨vs,e1,hh⟩:=Zz0.mp hn
  obtain⟨_,xs,k1,g1,v1⟩:=r.at e1 (le.at ea)
  have st:ES e it l i s.heap:=hit.2 _ fun q hq=>r.frAt (Zz4 _ hq)
  have Wk:=WalksT.enumerate (prog:=prog) (w:=w) (A:=Γ.A) Γ.hh e it l hei hle hli xs.toArray
  exact Wk.self i s Q E ⟨st.1,st.2,⟨_,g1,rfl,k1,rfl⟩⟩ q
theorem ZsX{x:Str}{np pos:Pos}{e1:Expr}{f:Ex}(hn:Nm prog w Γ x (.type "enumerate"))(h1:J prog w Γ e1 f)
  (he:starEach [e1] Γ.env=(false,eval e1 Γ.env)::starEach [] Γ.env:=by rfl) (hp:∀pos,(backTo pos (starEach [] Γ.env)).any (·.1)=false:=by intro _;rfl):JI2 prog w Γ (.Call (.Name x np) [e1] [] pos) (Zk8 f):=by
 intro W ρ H fr s Q E nx n H' r hf post
 obtain⟨p,a1,hf⟩:=Zz0.mp hf
 refine wpAny_Call_ofName (hn.use r ?_)
 refine PySem.Pv.callWith_type1 (wpAny_items_cons (h1 W ρ H fr s _ E _ _ r a1 fun W1 k1 t1 y1 l1 r1 v1=>wpAny_items_nil ?_) he) he (hp pos)
 obtain⟨u1,H1⟩:=p
 simp only at hf v1 r1
 cases u1 <;> first | (cases hf;done) | skip
 rename_i b1
 obtain⟨vs,c1,c3⟩:=Zz1.mp hf
 cases c3
 cases v1 with
 | @ref _ m1 ea=>
 obtain⟨_,xs,n1,g1,w1⟩:=r1.at c1 ea
 have isl1:k1.IsList m1 xs.toArray:=⟨_,g1,rfl,n1,rfl⟩
 refine call_enumerate_list (s:={ s with heap:=k1,toks:=t1 }) isl1 fun h₁ hE hI hsz up=>?_
 have hlt:m1<k1.objs.size:=Heap.lt_size g1
 have Wk:=WalksT.enumerate (prog:=prog) (w:=w) (A:=Γ.A) Γ.hh (k1.objs.size+1) k1.objs.size m1 (Nat.succ_ne_self _) (Nat.ne_of_lt (Nat.lt_succ_of_lt hlt)) (Nat.ne_of_lt hlt) xs.toArray
 have zs:ES (k1.objs.size+1) k1.objs.size m1 0 h₁:=⟨⟨_,hE⟩,hI⟩
 refine Wk.self 0 _ _ _ ⟨⟨_,hE⟩,hI,isl1.at fun o e=>up _ o e⟩ ?_
 obtain⟨fs,hit,at'⟩:=Zoo zs
 obtain⟨r3,ap3⟩:=r1.more (fs:=fs) (h':=h₁) (fun b o e=>up b o e) (fun q hq=>⟨at' q hq,by
  have:q.1∈fs.map (·.1):=List.mem_map_of_mem hq
  rw[hit.1]at this
  simp at this
  rcases this with e | e <;> rw[e] <;> omega⟩)
 refine post W1 h₁ t1 _ _ _ fs l1 hit r3 (fun b hb t ht=>?_) (Zt2 ea (Nat.succ_ne_self _) (Nat.ne_of_lt (Nat.lt_succ_of_lt hlt)) (Nat.ne_of_lt hlt)) ?_
 ·rw[←hit.1]at hb
  obtain⟨q,hq,e⟩:=Zz11.mp hb
  exact e▸ap3 q hq t ht
 ·simp only[Zgo,c1,Option.bind_some]
  cases q:vs[0]? with
  | some x=>exact⟨_,rfl⟩
  | none=>
   have:vs.length=0:=by simpa using q
   simp[this]
theorem Zvd{e1 e2 e3:Expr}{es:List Expr}{pos:Pos}{f g:Ex}(h1:J prog w Γ e1 f)(h2:J prog w Γ (.BoolOp .And (e2::e3::es) pos) g) (he:eval (.BoolOp .And (e1::e2::e3::es) pos) Γ.env=(do
  let v ←eval e1 Γ.env
  standAt pos
  let t ←holding [v] (truthy v)
  match BoolOp.And,t with
  | .And,false | .Or,true=>pure v
  | _,_=>eval (.BoolOp .And (e2::e3::es) pos) Γ.env):=by rfl):J prog w Γ (.BoolOp .And (e1::e2::e3::es) pos) (ZgC f g):=by
 intro W ρ H fr s Q E v H' r hf post
 obtain⟨p,a1,hf⟩:=Zz0.mp hf
 obtain⟨b,a2,a3⟩:=Zz0.mp hf
 rw[he]
 refine wpAny_bind (wpAny_mono (h1 W ρ H fr s (fun x s₁=>wpAny (model prog w) Γ.A (truthy x) (fun t s₂=>if t then wpAny (model prog w) Γ.A (eval (.BoolOp .And (e2::e3::es) pos) Γ.env) Q E s₂ else Q x s₂) E s₁) E _ _ r a1 fun W1 k1 t1 x l1 r1 x1=>?_) (fun v s₁ h₁=>wpAny_bind (wpAny_standAt (wpAny_bind (wpAny_holding (wpAny_mono h₁ (fun t s₂ h₂=>?_) fun _ _ x=>x))))) fun _ _ x=>x)
 ·refine truth Γ W1 ρ _ fr _ _ E _ x b r1 x1 a2 fun W2 k2 t2 l2 r2=>?_
  cases b with
  | true=>exact h2 W2 ρ _ fr _ Q E _ H' r2 a3 fun W3 k3 t3 z l3 r3 z3=>post W3 k3 t3 z ((l1.trans l2).trans l3) r3 z3
  | false=>
   cases a3
   exact post W2 k2 t2 x (l1.trans l2) r2 (x1.mono l2)
 ·cases t with
  | false=>exact wpAny_pure h₂
  | true=>exact h₂
end
end PM
end
section
namespace TM
open PySem PM
noncomputable def ZgH(a b:T): Option Bool:=(Zcl ZbA a).bind fun d=>(Zcl ZbA b).bind fun e=>inD d e
noncomputable def qIn(a b:T): Option T:=(ZgH a b).map .bool
theorem Zve{H:Hp}{v1 v2:V}{t1 t2:T}{F1 F2:List Nat}(r1:RF H v1 t1 F1)(r2:RF H v2 t2 F2): Zlr v1 v2 H=ZgH t1 t2:=by
 simp only[Zlr,ZgH,ZhU ZbA _ _ _ r1,ZhU ZbA _ _ _ r2]
theorem ZeR: OA2 oIn qIn:=fun H v1 v2 t1 t2 t F1 F2 r1 r2 h=>by
 obtain⟨c,h1,h⟩:=Zz1.mp h
 subst h
 exact⟨_,by simp only[oIn,Zve r1 r2,h1,Option.map_some],.bool _⟩
theorem Zo6{d:T}: ∀{ts:List T},(∀t∈ts,(PyData.eqv (dd t) (dd d)=true↔t=d))→((dds ts).any fun y=>PyData.eqv y (dd d))=dec (d∈ts)
 | [],_=>by simp[dds,Zbo]
 | t::ts,h=>by
  have ih:=Zo6 (d:=d) (ts:=ts) fun t m=>h t (Zz2 _ m)
  simp only[dds,List.any_cons,ih]
  symm
  apply ZkO
  rw[Bool.or_eq_true,h t Zz5,dec_iff]
  simp[eq_comm]
theorem Zvf{n m:Nat}{a:T}{ts:List T}(ha:Pln n a)(hb:Pln m (.lst ts))(hn:n≤8:=by decide)(hm:m≤8:=by decide): ZgH a (.lst ts)=some (dec (a∈ts)):=by
 have ha:=ha.mono hn
 have hb:=hb.mono hm
 obtain⟨a1,a2,a3⟩:=ha.dat
 obtain⟨b1,b2,b3⟩:=hb.dat
 unfold ZgH ZbA
 rw[a1,b1]
 simp only[Option.bind_some,dd,inD]
 simp only[dd,PyData.canLay0]at b2
 rw[if_pos ⟨b2,a2,by omega⟩,Zo6]
 intro t m
 cases hb with
 | lst hs=>exact(hs t m).eqv ha
section
variable {Q:T→Prop}
theorem Zid{n m:Nat}{a:T}{ts:List T}(ha:Pln n a)(hb:Pln m (.lst ts))(h:Q (.bool (dec (a∈ts))))(hn:n≤8:=by decide)(hm:m≤8:=by decide): Pk (qIn a (.lst ts)) Q:=⟨_,by simp only[qIn,Zvf ha hb hn hm,Option.map_some],h⟩
end
noncomputable def ZdY(ts:List T): List T:=List.zipWith (fun i t=>.tup [.int (i:Nat),t]) (List.range ts.length) ts
noncomputable def Zk9(p:PE): PG:=fun σ=>(p σ).bind fun t=>match t with
 | .lst ts=>some (ZdY ts)
 | _=>none
theorem ZsY{ts:List T}: (ZdY ts).length=ts.length:=by simp[ZdY]
theorem ZnM{H:Hp}: ∀{vs:List V} {ts:List T} {F:List Nat} (k:Nat),RFs H vs ts F→RFs H (List.zipWith (fun i v=>V.tup [.int (i:Nat),v]) (List.range' k ts.length) vs) (List.zipWith (fun i t=>T.tup [.int (i:Nat),t]) (List.range' k ts.length) ts) F
 | _,_,_,_,.nil=>.nil
 | _,_,_,k,.cons a b=>by
  rw[List.length_cons,List.range'_succ]
  have h1:RF H (V.tup [.int (k:Nat),_]) (T.tup [.int (k:Nat),_]) _:=.tup (.cons (.int _) (.one a))
  simpa using RFs.cons h1 (ZnM (k+1) b)
theorem Zt3{O N:List Nat}{u:Bool}{e:Ex}{p:PE}(x:E O N u e p): Gs O N (Zk8 e) (Zk9 p):=fun c ρ σ H Φ ts s h=>by
 obtain⟨t1,h1,h⟩:=Zz0.mp h
 obtain⟨v,X,F,a1,a2,a3,a4⟩:=x c ρ σ H Φ t1 s h1
 have hlt:=a2.lt
 cases a2 with
 | none=>cases h
 | bool=>cases h
 | int=>cases h
 | str=>cases h
 | tup=>cases h
 | @ref b vs us F' e1 hs=>
  cases h
  have hl:=hs.length
  refine⟨Zgo b,X,List.zipWith (fun i v=>V.tup [.int (i:Nat),v]) (List.range us.length) vs,F',b::F',by simp only[Zk8,a1,Option.bind_some,e1,Option.map_some,ZsY,hl],?_,fun _ m=>List.mem_cons_of_mem _ m,fun a m=>⟨hlt a m,a3 a m⟩,fun K hK i hi=>?_⟩
  ·have:=ZnM 0 hs
   unfold ZdY
   rw[List.range_eq_range']
   exact this
  ·simp only[Zgo,hK b Zz5,e1,Option.bind_some,List.getElem?_zipWith]
   simp only[List.length_zipWith,List.length_range]at hi
   by_cases q:i<vs.length
   ·rw[List.getElem?_eq_getElem q,List.getElem?_range (by omega)]
   ·rw[List.getElem?_eq_none (by omega),List.getElem?_eq_none (by simp;omega)]
    simp
    omega
theorem ZsZ{n:Nat}{f:Nat→T}: ZdY (tab n f)=tab n fun i=>.tup [.int (i:Nat),f i]:=by
 unfold ZdY
 rw[Zae]
 have:List.range n=tab n fun i=>i:=by simp[tab]
 rw[this,Zoj,Nat.min_self]
section
variable {σ:TL} {L:List T→Prop}
def EnP(x:T)(L:List T→Prop): Prop:=∃ts,x=.lst ts∧L (ZdY ts)
theorem Zt4{f:PE}(h:Pk (f σ) fun t=>EnP t L): Pl (Zk9 f σ) L:=by
 obtain⟨t,a,ts,rfl,q⟩:=h;exact⟨_,by simp only[Zk9,a,Option.bind_some],q⟩
theorem Zt5{n:Nat}{f:Nat→T}(h:L (TM.tab n fun i=>.tup [.int (i:Nat),f i])): EnP (.lst (TM.tab n f)) L:=⟨_,rfl,by rw[ZsZ];exact h⟩
end
noncomputable def Zla(g:PG)(put:T→TL→Option TL)(b:PS): PS:=fun σ=>(g σ).bind fun ts=>if ts=[]then none else Zd4 put b σ ts
end TM
end
section
namespace PM
open PySem PySem.W PySem.Calls PyProof.Rows PyProof
noncomputable def ZhX(o1 o2:V→V→Hp→Option (V×Hp))(f g h:Ex): Ts:=fun ρ H=>(f ρ H).bind fun p=>(g ρ p.2).bind fun q=>(o1 p.1 q.1 q.2).bind fun u=>(Zcg u.1 u.2).bind fun b=>if b then(h ρ u.2).bind fun x=>(o2 q.1 x.1 x.2).bind fun y=>(Zcg y.1 y.2).map fun c=>(c,y.2)else some (false,u.2)
section
variable {prog:Program} {w:World} {Γ:Cx}
theorem Zs0{e1 e2 e3:Expr}{op1 op2:CmpOp}{pos:Pos}{f g h:Ex}{o1 o2:V→V→Hp→Option (V×Hp)}(h1:J prog w Γ e1 f)(h2:J prog w Γ e2 g)(h3:J prog w Γ e3 h)(k1:Op2 prog w (compareOp op1) o1)(k2:Op2 prog w (compareOp op2) o2)(hm:lastMarks [op1,op2] [e2,e3]=false:=by with_unfolding_all rfl): JT prog w Γ (.Compare e1 [op1,op2] [e2,e3] pos) (ZhX o1 o2 f g h):=by
 intro W ρ H fr s Q E b H' r hf post
 obtain⟨p,a1,hf⟩:=Zz0.mp hf
 obtain⟨q,a2,hf⟩:=Zz0.mp hf
 obtain⟨u,a3,hf⟩:=Zz0.mp hf
 obtain⟨c,a4,hf⟩:=Zz0.mp hf
 refine isTrue_chain (h1 W ρ H fr s _ E _ _ r a1 fun W1 n1 t1 x l1 r1 x1=>?_) hm
 refine test_link (h2 W1 ρ _ fr _ _ E _ _ r1 a2 fun W2 n2 t2 y l2 r2 y2=>?_)
 refine k1 Γ W2 ρ _ fr _ _ E _ _ x y _ _ r2 (x1.mono l2) y2 a3 fun W3 n3 t3 z l3 r3 z3=>?_
 refine truth Γ W3 ρ _ fr _ _ E _ z c r3 z3 a4 fun W4 n4 t4 l4 r4=>?_
 cases c with
 | false=>
  cases hf
  exact post W4 n4 t4 (((l1.trans l2).trans l3).trans l4) r4
 | true=>
  simp only[if_true]at hf
  obtain⟨v,a5,hf⟩:=Zz0.mp hf
  obtain⟨v2,a6,hf⟩:=Zz0.mp hf
  obtain⟨d,a7,a8⟩:=Zz1.mp hf
  cases a8
  refine test_last (h3 W4 ρ _ fr _ _ E _ _ r4 a5 fun W5 n5 t5 y5 l5 r5 x5=>?_)
  refine k2 Γ W5 ρ _ fr _ _ E _ _ y y5 _ _ r5 (((y2.mono l3).mono l4).mono l5) x5 a6 fun W6 n6 t6 z6 l6 r6 x6=>?_
  exact truth Γ W6 ρ _ fr _ _ E _ z6 b r6 x6 a7 fun W7 n7 t7 l7 r7=>post W7 n7 t7 ((((((l1.trans l2).trans l3).trans l4).trans l5).trans l6).trans l7) r7
end
end PM
end
section
namespace TM
open PySem PM
section
variable {O N M K:List Nat} {u u' u'':Bool}
noncomputable def ZhY(q1 q2:T→T→Option T)(p1 p2 p3:PE): PB:=fun σ=>(p1 σ).bind fun x=>(p2 σ).bind fun y=>(q1 x y).bind fun z=>(Zbv z).bind fun b=>if b then(p3 σ).bind fun v=>(q2 y v).bind Zbv else some false
theorem Zs1{e1 e2 e3:Ex}{p1 p2 p3:PE}{q1 q2:T→T→Option T}{o1 o2:V→V→Hp→Option (V×Hp)}(k1:OA2 o1 q1)(k2:OA2 o2 q2)(x:E O N u e1 p1)(y:E O M u' e2 p2)(z:E O K u'' e3 p3): Bt O (ZhX o1 o2 e1 e2 e3) (ZhY q1 q2 p1 p2 p3):=fun c ρ σ H Φ b s h=>by
 obtain⟨t1,h1,h⟩:=Zz0.mp h
 obtain⟨t2,h2,h⟩:=Zz0.mp h
 obtain⟨t3,h3,h⟩:=Zz0.mp h
 obtain⟨b0,h4,h⟩:=Zz0.mp h
 obtain⟨v1,X,F,a1,a2,_,_⟩:=x c ρ σ H Φ t1 s h1
 obtain⟨v2,Y,G,b1,b2,_,_⟩:=y c ρ σ (H++X) Φ t2 (s.ext X) h2
 obtain⟨v3,c1,c2⟩:=k1 _ v1 v2 t1 t2 t3 F G (a2.ext Y) b2 h3
 have d1:=Zdm c2 h4
 cases b0 with
 | false=>
  cases h
  exact⟨X++Y,by simp only[ZhX,a1,b1,Option.bind_some,c1,d1];simp⟩
 | true=>
  simp only[if_true]at h
  obtain⟨t5,h5,h⟩:=Zz0.mp h
  obtain⟨t6,h6,h⟩:=Zz0.mp h
  obtain⟨v5,Z,F5,e1,e2,_,_⟩:=z c ρ σ (H++X++Y) Φ t5 ((s.ext X).ext Y) h5
  obtain⟨v6,f1,f2⟩:=k2 _ v2 v5 t2 t5 t6 G F5 (b2.ext Z) e2 h6
  have g1:=Zdm f2 h
  exact⟨X++Y++Z,by simp only[ZhX,a1,b1,Option.bind_some,c1,d1,if_true,e1,f1,g1,Option.map_some];simp⟩
def OIn(o:List V→Hp→Option (V×Hp))(q:List T→Option T): Prop:=∀(H:Hp) (vs:List V) (ts:List T) (t:T) (F1:List Nat),RFs H vs ts F1→q ts=some t→∃v F,o vs H=some (v,H)∧RF H v t F∧F.Sublist F1
theorem Zt6{n:Nat}{es:Exs}{ps:PEs}{q:List T→Option T}{o:List V→Hp→Option (V×Hp)}(k:OIn o q)(x:Es O N u n es ps): E O N u (Z2 o es) (ZW q ps):=fun c ρ σ H Φ t s h=>by
 obtain⟨ts,h1,h⟩:=Zz0.mp h
 obtain⟨_,vs,X,F,a1,a2,a3,a4⟩:=x c ρ σ H Φ ts s h1
 obtain⟨w,G,b1,b2,b3⟩:=k _ vs ts t F a2 h
 exact⟨w,X,G,by simp only[Z2,a1,Option.bind_some,b1],b2,fun a m=>a3 a (b3.subset m),fun hu=>(a4 hu).sublist b3⟩
theorem Zs2: OIn Zex ZhA:=fun H vs ts t F r h=>by
 unfold ZhA at h
 split at h
 ·obtain⟨v,rfl,r'⟩:=r.one_inv
  cases r' with
  | @ref a vs1 _ F1 e hs=>cases h;exact⟨.tup vs1,F1,by simp only[Zex,e,Option.map_some],.tup hs,List.sublist_cons_self _ _⟩
 ·obtain⟨v,rfl,r'⟩:=r.one_inv
  cases r' with
  | @tup vs1 _ _ hs=>cases h;exact⟨.tup vs1,_,by simp only[Zex],.tup hs,List.Sublist.refl _⟩
 ·cases h
end
theorem Zvg{O O1 R J Ns:List Nat}{fr:Bool}{g:Src}{q:PG}{put:V→Lc→Option Lc}{pput:T→TL→Option TL}{b:Sm}{qb:PS}(hg:Gs O Ns g q)(hj:PutOk O J put pput)(hj1:PutOk O1 J put pput)(hJ:∀i∈J,i∉O)(hJ1:∀i∈J,i∉O1)(hN:∀i∈Ns,i∉O)(hb:S O O1 R fr b qb)(hb1:S O1 O1 R fr b qb): S O O1 R fr (ZbP g put b) (Zla q pput qb):=fun c ρ σ H Φ r s h=>by
 obtain⟨ts,h1,h⟩:=Zz0.mp h
 obtain⟨nx,X,vs,F,G,g1,g2,g3,g4,g5⟩:=hg c ρ σ H Φ ts s h1
 split at h
 ·cases h
 ·rename_i hne
  cases ts with
  | nil=>exact absurd rfl hne
  | cons t rs=>
   cases g2 with
   | @cons v _ F1 ws _ F2 a b'=>
   have sx:=s.ext X
   have hsrc:∀a∈G,c.H0.length≤a∨c.P a:=fun a m=>s.from_src (g4 a m).2
   have hoff:∀a∈G,¬Held O σ Φ a:=fun a m ⟨k,hk,⟨t,e⟩,q⟩=>s.from_off hN (g4 a m).2 hk e q
   obtain⟨σ1,p0,h⟩:=Zz0.mp h
   obtain⟨r1,h2,h⟩:=Zz0.mp h
   obtain⟨ρ1,Φ1,p1,s1,p3,p4⟩:=hj c ρ σ (H++X) Φ v t F1 σ1 sx a (fun x m=>hsrc x (g3 x (Zz4 _ m))) (fun k hk t' e x m q=>hoff x (g3 x (Zz4 _ q)) ⟨k,hk,⟨t',e⟩,m⟩) p0
   have hh:∀x,Held O σ1 Φ1 x→Held O σ Φ x:=fun x ⟨k,hk,⟨t',e⟩,m⟩=>by
    obtain⟨q1,q2⟩:=p3 k fun q=>hJ k q hk
    exact⟨k,hk,⟨t',q1▸e⟩,q2▸m⟩
   obtain⟨ρ2,K2,Φ2,w1,w2,w3⟩:=hb c ρ1 σ1 (H++X) Φ1 r1 s1 h2
   have e0:nx 0 (H++X)=some (some v):=by have:=g5 (H++X) (fun _ _=>rfl) 0 (Nat.zero_le _);simpa using this
   have estep:ZbP g put b ρ H=(b ρ1 (H++X)).bind fun q=>match q.1 with
     | some _=>some q
     | none=>ZcH nx put b (rs.length+1) 1 q.2.1 q.2.2:=by
    simp only[ZbP,g1,Option.bind_some,List.length_cons]
    show(nx 0 (H++X)).bind _=_
    rw[e0]
    first | (simp only[Option.bind_some,p1];done) | (simp only[Option.bind_some,p1];rfl)
   rw[estep]
   refine Aft.grow (X:=X) ?_
   rcases w3 with⟨k1,k2,k3,k4⟩ | ⟨t',v',F',k1,k2,k3⟩
   ·rw[k1]at h
    have hG2:∀a∈G,K2[a]?=(H++X)[a]?:=fun x m=>w2 x (g4 x m).1 fun q=>hoff x m (hh x q)
    have hoff2:∀a∈G,¬Held O1 r1.2 Φ2 a:=fun x m q=>by
     rcases k4 x q with q | q
     ·have:=(g4 x m).1;omega
     ·exact hoff x m (hh x q)
    have ih:=Zkf hj1 hJ1 hb1 (H1:=H++X) (fun a m=>(g4 a m).1) hsrc g5 rs ws 1 ρ2 r1.2 K2 Φ2 F2 r (fun j=>by rw[Nat.add_comm];simp) (by simp;omega) k3 w1 hG2 hoff2 (b'.frame fun x m=>hG2 x (g3 x (Zz3 _ m))) (fun x m=>g3 x (Zz3 _ m)) h
    rw[k2]
    simp only[Option.bind_some]
    obtain⟨ρ3,K3,Φ3,l1,l2,l3⟩:=ih
    refine⟨ρ3,K3,Φ3,by omega,fun x hx hn=>?_,?_⟩
    ·rw[l2 x (by omega) fun q=>(k4 x q).elim (fun q=>by omega) fun q=>hn (hh x q),w2 x hx fun q=>hn (hh x q)]
    ·rcases l3 with⟨m1,m2,m3,m4⟩ | l
     ·refine .inl ⟨m1,m2,m3,fun x q=>?_⟩
      rcases m4 x q with q | q
      ·exact .inl (by omega)
      ·exact(k4 x q).imp id (hh x)
     ·exact .inr l
   ·rw[k1]at h
    cases h
    refine⟨ρ2,K2,Φ2,w1,fun x hx hn=>w2 x hx fun q=>hn (hh x q),.inr ⟨t',v',F',k1,?_,k3⟩⟩
    rw[k2]
    rfl
section
variable {σ:TL} {Q:T→Prop} {B:Bool→Prop} {R:T→Prop} {N:TL→Prop}
theorem Zs3{q1 q2:T→T→Option T}{f g h:PE}(k:Pk (f σ) fun x=>Pk (g σ) fun y=>Pk (q1 x y) fun z=>Pb (Zbv z) fun b=>(b=true→Pk (h σ) fun v=>Pk (q2 y v) fun w=>Pb (Zbv w) B)∧(b=false→B false)): Pb (ZhY q1 q2 f g h σ) B:=by
 obtain⟨x,a1,y,a2,z,a3,b,a4,k1,k2⟩:=k
 cases b with
 | false=>exact⟨false,by simp[ZhY,a1,a2,a3,a4],k2 rfl⟩
 | true=>
  obtain⟨v,b1,w,b2,c,b3,q⟩:=k1 rfl
  exact⟨c,by simp[ZhY,a1,a2,a3,a4,b1,b2,b3],q⟩
theorem Zt7{g:PG}{j n:Nat}{a:Nat→T}{b:PS}(hn:0<n)(hg:Pl (g σ) fun ts=>ts=tab n a)(P:Nat→TL→Prop)(h0:P 0 σ)(h1:∀i σ,i<n→P i σ→Psk (b (ZN σ j (a i))) R (P (i+1)))(h2:∀σ,P n σ→N σ): Psk (Zla g (Zaa j) b σ) R N:=by
 obtain⟨o,s,e,q⟩:=Zbl (R:=R) (N:=N) (b:=b) (j:=j) hg P h0 h1 h2
 obtain⟨ts,e1,rfl⟩:=hg
 refine⟨o,s,?_,q⟩
 have hne:tab n a≠[]:=fun h=>by have:=congrArg List.length h;rw[Zae]at this;simp at this;omega
 simp only[Zla,e1,Option.bind_some,hne,if_false]
 simpa only[Zbh,e1,Option.bind_some]using e
end
end TM
end
section
namespace TM
open PySem PM
theorem Zr5{fr:Bool}: SimF fr (fun _ _=>none) (fun _=>none):=by
 intro H vs ts t F1 hp r h
 cases h
end TM
end
section
namespace TM
open PySem PM
def Keep0(g:Sm): Prop:=∀ρ H r,g ρ H=some r→r.2.1 0=ρ 0
theorem Keep0.next: Keep0 ZaL:=fun ρ H r h=>by cases h;rfl
theorem Zhk{e:Ex}: Keep0 (Zcj e):=fun ρ H r h=>by
 obtain⟨_,_,q⟩:=Zz1.mp h
 subst q;rfl
theorem Keep0.ret{e:Ex}: Keep0 (Zat e):=fun ρ H r h=>by
 obtain⟨_,_,q⟩:=Zz1.mp h
 subst q;rfl
theorem Keep0.put{f o i:Ex}: Keep0 (ZcL f o i):=fun ρ H r h=>by
 obtain⟨_,_,h⟩:=Zz0.mp h
 obtain⟨_,_,h⟩:=Zz0.mp h
 obtain⟨_,_,h⟩:=Zz0.mp h
 obtain⟨_,_,q⟩:=Zz1.mp h
 subst q;rfl
theorem Keep0.seq{a b:Sm}(x:Keep0 a)(y:Keep0 b): Keep0 (Z6 a b):=fun ρ H r h=>by
 obtain⟨r1,e1,h⟩:=Zz0.mp h
 have h1:=x ρ H r1 e1
 split at h
 ·cases h;exact h1
 ·exact(y _ _ _ h).trans h1
theorem Zhl{t:Ts}{a b:Sm}(x:Keep0 a)(y:Keep0 b): Keep0 (sIf t a b):=fun ρ H r h=>by
 obtain⟨p,_,h⟩:=Zz0.mp h
 split at h
 ·exact x _ _ _ h
 ·exact y _ _ _ h
theorem Keep0.set{i:Nat}{e:Ex}(hi:0≠i): Keep0 (Zaw i e):=fun ρ H r h=>by
 obtain⟨_,_,q⟩:=Zz1.mp h
 subst q
 simp[upd,hi]
def SimM(f:List V→Hp→Option (V×Hp))(p:List T→Option T): Prop:=∀(H:Hp) (v:V) (vs:List V) (t:T) (ts:List T) (t':T) (F0 F1:List Nat),0<H.length→RF H v t F0→F0.Nodup→0∉F0→RFs H vs ts F1→(∀a∈F0,a∉F1)→p (t::ts)=some t' →
 ∃w H' F',f (v::vs) H=some (w,H')∧H.length≤H'.length∧(∀a,a<H.length→a∉F0→H'[a]?=H[a]?)∧RF H' v t' F'∧F'.Nodup∧∀a∈F',H.length≤a∨a∈F0
noncomputable def Zdz(n:Nat)(q:PS): List T→Option T:=fun ts=>if ts.length=n then(q fun i=>ts[i]?).bind fun r=>r.2 0 else none
theorem ZhG{O':List Nat}{n:Nat}{g:Sm}{q:PS}(h:S [0] O' [0] false g q)(h0:0∈O')(hk:Keep0 g): SimM (ZM n g) (Zdz n q):=fun H v vs t ts t' F0 F1 hp r0 nd n0 rs dj e=>by
 unfold Zdz at e
 split at e
 ·rename_i hl
  obtain⟨r1,e1,e2⟩:=Zz0.mp e
  obtain⟨Φ,hΦ⟩:=rs.slots
  have st:St ⟨H,F0,fun a=>a∈F0∨a∈F1⟩ [0] (fun i=>(v::vs)[i]?) (fun i=>(t::ts)[i]?) H (fun i=>match i with | 0=>F0 | i+1=>Φ i):=by
   refine⟨fun i u e=>?_,fun i u e a m=>?_,fun i hi u e=>?_,Nat.le_refl _,fun a _ _=>rfl,hp,n0⟩
   ·cases i with
    | zero=>simp at e;subst e;exact⟨v,rfl,r0⟩
    | succ i=>
     simp at e
     obtain⟨w,h1,h2,_⟩:=hΦ i u e
     exact⟨w,by simpa using h1,h2⟩
   ·cases i with
    | zero=>exact .inr (.inl m)
    | succ i=>
     simp at e
     obtain⟨w,h1,h2,h3⟩:=hΦ i u e
     exact .inr (.inr (h3 a m))
   ·have:i=0:=by simpa using hi
    subst this
    refine⟨nd,fun a m=>.inr m,fun j u' hj ej a m=>?_⟩
    cases j with
    | zero=>exact absurd rfl hj
    | succ j=>
     simp at ej
     obtain⟨w,h1,h2,h3⟩:=hΦ j u' ej
     exact fun q=>dj a m (h3 a q)
  obtain⟨ρ',H',Φ',h1,h2,h3⟩:=h _ _ _ _ _ _ st e1
  have hv:(v::vs).length=n:=by rw[←hl];simp[rs.length]
  have go:∀(o:Option V) (O2:List Nat),0∈O2→g (fun i=>(v::vs)[i]?) H=some (o,ρ',H')→St ⟨H,F0,fun a=>a∈F0∨a∈F1⟩ O2 ρ' r1.2 H' Φ'→∃w H' F',ZM n g (v::vs) H=some (w,H')∧H.length≤H'.length∧(∀a,a<H.length→a∉F0→H'[a]?=H[a]?)∧RF H' v t' F'∧F'.Nodup∧∀a∈F',H.length≤a∨a∈F0:=by
   intro o O2 hO eg s2
   obtain⟨v',ev,rv⟩:=s2.slot 0 t' e2
   have kk:=hk _ _ _ eg
   have:v'=v:=by
    have k2:ρ' 0=some v:=kk
    rw[ev]at k2
    cases k2
    rfl
   subst this
   obtain⟨o1,o2,_⟩:=s2.own 0 hO t' e2
   exact⟨o.getD .none,H',Φ' 0,by simp only[ZM,hv,if_true,eg,Option.map_some],h1,s2.keep,rv,o1,o2⟩
  rcases h3 with⟨k1,k2,k3,k4⟩ | ⟨u,v',F',k1,k2,k3,k4,k5,k6⟩
  ·exact go none O' h0 k2 k3
  ·exact go (some v') [0] List.mem_cons_self k2 k4
 ·cases e
noncomputable def Zd5(x:Nat)(p:List T→Option T)(ps:PEs): PS:=fun σ=>(ps σ).bind fun ts=>(σ x).bind fun t=>(p (t::ts)).map fun t'=>(none,ZN σ x t')
section
variable {O O' R N:List Nat} {fr u:Bool}
theorem ZeH{x n:Nat}{f:List V→Hp→Option (V×Hp)}{p:List T→Option T}{es:Exs}{ps:PEs}(hx:x∈O)(k:SimM f p)(y:Es O N u n es ps)(hN:x∉N)(hO:∀j∈O',j∈O): S O O' R fr (Zcj (Z2 f (Zw (Zo x) es))) (Zd5 x p ps):=fun c ρ σ H Φ r s q=>by
 obtain⟨ts,h1,q⟩:=Zz0.mp q
 obtain⟨t,h2,q⟩:=Zz0.mp q
 obtain⟨t',h3,q⟩:=Zz1.mp q
 subst q
 obtain⟨v,ev,rv⟩:=s.slot x t h2
 obtain⟨o1,o2,o3⟩:=s.own x hx t h2
 have hlow:∀k t,σ k=some t→∀a∈Φ k,a<H.length:=fun k t e a m=>by
  obtain⟨_,_,r⟩:=s.slot k t e
  exact r.lt a m
 obtain⟨_,vs,X,F,a1,a2,a3,_⟩:=y c ρ σ H Φ ts s h1
 have hp:0<(H++X).length:=by have:=s.pos;have:=s.len;rw[List.length_append];omega
 have hlen:(H++X).length=H.length+X.length:=List.length_append
 have dj:∀a∈Φ x,a∉F:=fun a m q=>by
  rcases a3 a q with h | ⟨j,hj,⟨tj,ej⟩,mj⟩
  ·have:=hlow x t h2 a m;omega
  ·exact o3 j tj (fun e=>hN (e▸hj)) ej a m mj
 obtain⟨w,H',F',b1,b2,b3,b4,b5,b6⟩:=k (H++X) v vs t ts t' (Φ x) F hp (rv.ext X) o1 (fun m=>Zkr s hx h2 m rfl) a2 dj h3
 have same:∀a,a<H.length→a∉Φ x→H'[a]?=H[a]?:=fun a ha hn=>by
  rw[b3 a (by omega) hn,List.getElem?_append_left ha]
 have eg:Zcj (Z2 f (Zw (Zo x) es)) ρ H=some (none,ρ,H'):=by
  simp only[Zcj,Z2,Zw,Zo,ev,Option.map_some,Option.bind_some,a1,b1]
 refine⟨ρ,H',Z7 Φ x F',by omega,fun a ha hn=>same a ha fun m=>hn ⟨x,hx,⟨t,h2⟩,m⟩,.inl ⟨rfl,eg,⟨fun i u' e=>?_,fun i u' e a m=>?_,fun i hi u' e=>?_,by have:=s.len;omega,fun a ha hn=>?_,s.pos,s.f0⟩,fun a hh=>?_⟩⟩
 ·by_cases c1:i=x
  ·subst c1
   simp only[ZN,if_true,Option.some.injEq]at e
   subst e
   exact⟨v,ev,by simpa [Z7]using b4⟩
  ·simp only[ZN,c1,if_false]at e
   obtain⟨v2,e2,r2⟩:=s.slot i u' e
   refine⟨v2,e2,?_⟩
   simp only[Z7,c1,if_false]
   exact r2.frame fun a m=>same a (hlow i u' e a m) fun q=>o3 i u' c1 e a q m
 ·by_cases c1:i=x
  ·subst c1
   simp only[Z7,if_true]at m
   rcases b6 a m with h | h
   ·exact .inl (by have:=s.len;omega)
   ·exact s.src i t h2 a h
  ·simp only[ZN,c1,if_false]at e
   simp only[Z7,c1,if_false]at m
   exact s.src i u' e a m
 ·by_cases c1:i=x
  ·subst c1
   refine⟨by simpa [Z7]using b5,fun a m=>?_,fun j u2 hj ej a m=>?_⟩
   ·simp only[Z7,if_true]at m
    rcases b6 a m with h | h
    ·exact .inl (by have:=s.len;omega)
    ·exact o2 a h
   ·simp only[Z7,if_true]at m
    simp only[ZN,hj,if_false]at ej
    simp only[Z7,hj,if_false]
    intro q
    have hq:=hlow j u2 ej a q
    rcases b6 a m with h | h
    ·omega
    ·exact o3 j u2 hj ej a h q
  ·simp only[ZN,c1,if_false]at e
   obtain⟨q1,q2,q3⟩:=s.own i (hO i hi) u' e
   refine⟨by simpa [Z7,c1]using q1,fun a m=>?_,fun j u2 hj ej a m=>?_⟩
   ·simp only[Z7,c1,if_false]at m
    exact q2 a m
   ·simp only[Z7,c1,if_false]at m
    by_cases c2:j=x
    ·subst c2
     simp only[Z7,if_true]
     intro q
     have hm:=hlow i u' e a m
     rcases b6 a q with h | h
     ·omega
     ·exact q3 j t hj h2 a m h
    ·simp only[ZN,c2,if_false]at ej
     simp only[Z7,c2,if_false]
     exact q3 j u2 hj ej a m
 ·have hs:=s.keep a ha hn
  rw[same a (by have:=s.len;omega) fun m=>?_]
  ·exact hs
  ·rcases o2 a m with h | h
   ·omega
   ·exact hn h
 ·obtain⟨j,hj,⟨u',e⟩,m⟩:=hh
  by_cases c1:j=x
  ·subst c1
   simp only[Z7,if_true]at m
   rcases b6 a m with h | h
   ·exact .inl (by omega)
   ·exact .inr ⟨j,hx,⟨t,h2⟩,h⟩
  ·simp only[ZN,c1,if_false]at e
   simp only[Z7,c1,if_false]at m
   exact .inr ⟨j,hO j hj,⟨u',e⟩,m⟩
end
section
variable {σ:TL} {R:T→Prop} {N:TL→Prop}
theorem ZeI{x:Nat}{p:List T→Option T}{ps:PEs}{t:T}(e:σ x=some t)(h:Pl (ps σ) fun ts=>Pk (p (t::ts)) fun t'=>N (ZN σ x t')): Psk (Zd5 x p ps σ) R N:=by
 obtain⟨ts,e1,t',e2,q⟩:=h
 exact⟨none,ZN σ x t',by simp only[Zd5,e1,e,Option.bind_some,e2,Option.map_some],by simp,fun _=>q⟩
theorem ZhH{n:Nat}{q:PS}{ts:List T}{Q:T→Prop}(hn:ts.length=n)(h:Psk (q fun i=>ts[i]?) (fun _=>False) fun σ=>∃t,σ 0=some t∧Q t): Pk (Zdz n q ts) Q:=by
 obtain⟨o,s,e,h1,h2⟩:=h
 cases o with
 | none=>
  obtain⟨t,e2,q2⟩:=h2 rfl
  exact⟨t,by simp only[Zdz,hn,if_true,e,Option.bind_some,e2],q2⟩
 | some u=>exact absurd (h1 u rfl) (by simp)
end
end TM
end
section
namespace PM
open PySem PySem.W PySem.Calls PyProof.Rows PyProof PyProof.Rows.LCg PyProof.Rows.LCp
section
variable {prog:Program} {w:World} {Γ:Cx}
theorem ZqV{elt iter:Expr}{x x₂ y:Str}{px px₂ tp py pos spos:Pos}{kt:Nat}{scope:Scope}{cl:List (Str×Addr)}{t t₂ i:Nat}{g:Src}{f:Ex}(hy:Sto prog w Γ y i)(hg:JI2 prog w Γ iter g)(hel:∀C ρ,J prog w (ZaZ Γ scope cl C [(x,t),(x₂,t₂)] ρ) elt f)
  (hsw:swapsWith (.ListComp elt [⟨.Tuple [.Name x px,.Name x₂ px₂] kt tp,iter,[],0⟩] scope pos) (some (.Name y py)) spos.line Γ.env=pure true)
  (hclos:closureFor scope Γ.env=pure cl) (hcell:∀y∈scope.names,y.2≠.cell) (hkind:scope.kind=.function) (hnames:∀y∈scope.names,y.2=.local→scope.names.lookup y.1=some .local) (hx:scope.names.lookup x=some .local) (hx₂:scope.names.lookup x₂=some .local) (hxx:x≠x₂) (htt:t≠t₂) (hs:∀x,foldedSetIterable iter Γ.env x=pure x:=by intro _;rfl):
  S1 prog w Γ (.Assign [.Name y py] (.ListComp elt [⟨.Tuple [.Name x px,.Name x₂ px₂] kt tp,iter,[],0⟩] scope pos) spos) (Zaw i (Zbe g (ZcW t t₂) Zby f)):=by
 intro W ρ H fr s Q E r rp hf post
 obtain⟨p,e0,e9⟩:=Zz1.mp hf
 cases e9
 obtain⟨z,e1,hf⟩:=Zz0.mp e0
 obtain⟨q,e2,e3⟩:=Zz1.mp hf
 cases e3
 rw[exec_Assign_Name_used _ _ _ _ hsw]
 refine wpAny_bind (wpAny_standAt (wpAny_bind ?_))
 show wpAny _ Γ.A (do let _ ←comprehension (.ListComp elt [⟨.Tuple [.Name x px,.Name x₂ px₂] kt tp,iter,[],0⟩] scope pos) scope Γ.env _ (newList []) false (eval iter Γ.env) (some (assign (.Name y py) Γ.env))) _ _ s
 refine wpAny_bind (wpAny_mono (wpAny_comprehension_free (use:=some (assign (.Name y py) Γ.env)) (Q:=fun _ s'=>Q .next s') rfl hs hclos hkind hnames ?_) (fun _ s' h'=>wpAny_pure (wpAny_pure h')) fun _ _ e=>e)
 refine ZmJ (RR:=fun acc C=>compPost (model prog w) Γ.A E (some (assign (.Name y py) Γ.env)) (fun _ s'=>Q .next s') acc C) hg hel hcell hkind hx hx₂ hxx htt rp (q:=q) (by rw[e1];exact e2) fun W2 h' tk' C D oC m₂ ys l2 hC hv hl aD aC cd r3=>?_
 have r4:Rep Γ W2 ρ q.2 ((D,lst ys)::(C,oC)::fr) h':=r3.less fun t ht=>by
  rcases Zz7.mp ht with e | ht
  ·exact e▸List.mem_cons_of_mem _ Zz5
  ·rcases Zz7.mp ht with e | ht
   ·exact e▸List.mem_cons_self
   ·exact Zz2 _ (Zz2 _ ht)
 obtain⟨W5,l5,r5,v5⟩:=ZfS r4 (fun t ht=>by
  rcases Zz7.mp ht with e | ht
  ·rw[e]
   exact cd.symm
  ·exact aD t ht) hv hl
 refine wpAny_assign_Name (hy W5 ρ _ _ _ _ _ _ _ r5 v5 fun h6 t6 r6=>?_)
 refine⟨m₂,hC.ns (r6.frAt (q:=(C,oC)) Zz5),fun h'' sb=>?_⟩
 have r7:Rep Γ W5 (upd ρ i (.ref q.2.length)) (q.2++[q.1]) ([]++fr) h'':=
  Rep.swap (fs:=[(C,oC)]) (fs':=[]) r6 (fun q hq t ht=>by rw[List.mem_singleton.mp hq];exact aC t ht) (fun b o hb e=>sb.extBut b o (fun z=>hb (by simp[z])) e) fun q hq=>nomatch hq
 exact post W5 h'' t6 (l2.trans l5) r7
end
end PM
end
section
namespace PM
open PySem PySem.W PySem.Calls PyProof.Rows PyProof
noncomputable def ZcJ(ns:List Int): List Int:=ns.mergeSort fun a b=>decide (a≤b)
theorem ZnN{ns ms:List Int}(h1:ms.Perm ns)(h2:ms.Pairwise (·≤·)): ms=ZcJ ns:=by
 refine List.Perm.eq_of_pairwise (le:=fun a b:Int=>a≤b) (fun a b _ _ h h'=>Int.le_antisymm h h') h2 ?_ (h1.trans (List.mergeSort_perm ns _).symm)
 have:=List.pairwise_mergeSort (le:=fun a b:Int=>decide (a≤b)) (fun a b c h h'=>by simp at *;omega) (fun a b=>by simp;omega) ns
 unfold ZcJ
 simpa using this
theorem Zr6{ns:List Int}: (ZcJ ns).length=ns.length:=(List.mergeSort_perm ns _).length_eq
theorem Zkx{W:Wd}: ∀{vs:List V} {xs:List Value} {ks:List Int},VRs W vs xs→ZcQ vs=some ks→IntsAre xs ks:=by
 intro vs
 induction vs with
 | nil=>intro xs ks h e;cases h;cases e;exact .nil
 | cons v vs ih=>
  intro xs ks h e
  cases h with
  | cons a b=>
   cases v with
   | int i=>
    obtain⟨js,e1,e2⟩:=Zz1.mp e
    subst e2
    cases a with
    | int _ t=>exact .cons i t (ih b e1)
   | none=>cases e
   | bool=>cases e
   | str=>cases e
   | tup=>cases e
   | ref=>cases e
theorem Zop{W:Wd}: ∀{xs:List Value} {ks:List Int},IntsAre xs ks→VRs W (ks.map V.int) xs
 | _,_,.nil=>.nil
 | _,_,.cons n t r=>.cons (.int n t) (Zop r)
noncomputable def ZhI: List V→Hp→Option (V×Hp)
 | [.ref a],H=>H[a]?.bind fun vs=>(ZcQ vs).bind fun ns=>if vs.length<64 then some (.ref H.length,H++[(ZcJ ns).map V.int])else none
 | _,_=>none
section
variable {prog:Program} {w:World}
theorem Zr7: OpN prog w (fun xs=>call (.builtin "sorted") xs) ZhI:=by
 intro Γ W ρ H fr s Q E as xs v H' r hx ho post
 unfold ZhI at ho
 split at ho
 ·obtain⟨vs,e1,ho⟩:=Zz0.mp ho
  obtain⟨ks,e3,ho⟩:=Zz0.mp ho
  split at ho
  ·rename_i h64
   cases ho
   obtain⟨x,ex,rx⟩:=hx.one
   subst ex
   cases rx with
   | @ref _ a ea=>
    obtain⟨hl,ys,k,hg,hv⟩:=r.at e1 ea
    have isl:s.heap.IsList a ys.toArray:=⟨_,hg,rfl,k,rfl⟩
    refine sorted_ints isl (Zkx hv e3) (by rw[hv.length];exact h64) fun out ms a1 a2 a3=>?_
    have em:=ZnN a2 a3
    subst em
    obtain⟨q,hq⟩:=sortedAll_at s.heap ys out
    have hlen:ks.length=vs.length:=by rw[←hv.length];exact(Zkx hv e3).length.symm
    obtain⟨r2,ap⟩:=r.more (h':=sortedAll s.heap ys out) (fs:=[(s.heap.objs.size+1,Zbz out.toList q)]) (fun b o hb=>sortedAll_old hb) (fun u hu=>by
     rw[List.mem_singleton.mp hu]
     refine⟨?_,Nat.le_succ _⟩
     rw[hq])
    obtain⟨W2,l2,r3,v3⟩:=ZfS r2 (fun t ht=>ap _ Zz5 t ht) (Zop a1) (by rw[List.length_map,Zr6,hlen];exact hl)
    exact post W2 _ s.toks _ l2 r3 v3
  ·cases ho
 ·cases ho
end
end PM
namespace PM
open PySem PySem.W PySem.Calls PyProof.Rows PyProof PySem.SeqAt
open SeqRoads2 MeetsSeq3 MeetsSeq2 MeetsSeq AutoSeq1
theorem Zrk(l:Addr)(its:Array Value)(n:Nat)(dd:Option Addr)(sl:Array (Option Value))(x:Value)(tk:Tok)(e:Value→Bool)(j:Nat)(hj:j<its.size)(h1:1≤j)(small:(j:Int)<2 ^ 63-1)
  (hit:e its[j]=true) (no:∀m (hm:m<its.size),1≤m→m<j→e its[m]=false):
  Meets (Builtin.«list.index» ⟨[.ref l,x,.int 1 tk],[]⟩) fun A R s=>s.heap.get? l=some { cls:=.type "list",dict:=dd,data:=.seq its n,slots:=sl }∧(∀y,y∈its→EqAt A.in1 s y x (e y))∧R (.ok (.ret (.int j s.toks))) { s with toks:=s.toks+1 }:=by
 intro prog w A R s h
 obtain⟨hp,g,d,tk',os⟩:=s
 obtain⟨hq0,he,h⟩:=h
 wp_walk using wpAny_loadPart' hq0
 have b1:((fun i:Int=>if i<0 then max 0 (i+(its.size:Int))else i) ((some (1:Int)).getD 0))=((1:Nat):Int):=by simp
 have b2:((fun i:Int=>if i<0 then max 0 (i+(its.size:Int))else i) ((Option.none:Option Int).getD (2 ^ 63-1)))=2 ^ 63-1:=by simp
 rw[b1,b2]
 refine⟨plainId_quiet plain_index_loop _,codeAny_builtin entry_index_loop ?_⟩
 rw[Around.under_plainId plain_index_loop _];exact index_loopAt l its n dd sl x e (2 ^ 63-1) j hj small hit _ 1 rfl h1 no prog w A R _ ⟨hq0,he,h⟩
section
variable {prog:Program} {w:World} {A:Around} {E:Value→Shared→Prop} {s:Shared}
theorem ZqW{l:Addr}{vs:List Value}{ns:List Int}{k:Int}{t t':Tok}{Q:Value→Shared→Prop}(hl:s.heap.IsList l vs.toArray)(hi:IntsAre vs ns)(hn:ns.length≤100000)(hk:k∈ns.drop 1)
  (h:Q (.int ((1+(ns.drop 1).idxOf k:Nat)) s.toks) { s with toks:=s.toks+1 }):wpAny (model prog w) A (call (.builtin "list.index") [.ref l,.int k t,.int 1 t']) Q E s:=by
 obtain⟨⟨c0,dd,da,sl⟩,ho,ec,n,ed⟩:=id hl
 simp only at ec ed
 subst ec ed
 have hlen:=hi.length
 have hj:(ns.drop 1).idxOf k<(ns.drop 1).length:=List.idxOf_lt_length_iff.mpr hk
 have hj':1+(ns.drop 1).idxOf k<ns.length:=by rw[List.length_drop]at hj;omega
 refine call_meets PySem.F.slot_list_index ⟨_,ho,rfl⟩ PySem.F.entry_list_index (PySem.F.args_list_index_3 _ _ _) (Zrk l vs.toArray n dd sl (.int k t) t' (isInt k) (1+(ns.drop 1).idxOf k) (by simpa [hlen]using hj') (by omega) (by omega) ?_ ?_) ⟨ho,fun y hy=>(eq_isInt k t hi y (by simpa using hy)).at _ _,h⟩
 ·show isInt k vs[1+(ns.drop 1).idxOf k]=true
  rw[isInt_at k hi _ (by omega) hj']
  have:=List.getElem_idxOf hj
  rw[List.getElem_drop]at this
  simpa using this
 ·intro m hm h1 h2
  show isInt k vs[m]=false
  rw[isInt_at k hi m (by simpa using hm) (by have:=hm;simp[hlen]at this;omega)]
  have hm':m-1<(ns.drop 1).length:=by rw[List.length_drop];omega
  have:=ne_of_lt_idxOf (k:=k) (ns:=ns.drop 1) (j:=m-1) (by omega) hm'
  rw[List.getElem_drop]at this
  simpa [show 1+(m-1)=m by omega]using this
end
noncomputable def ZhZ: V→V→V→Hp→Option (V×Hp)
 | .ref a,.int k,.int b,H=>H[a]?.bind fun vs=>(ZcQ vs).bind fun ns=>if b=1∧k∈ns.drop 1 then some (.int ((1+(ns.drop 1).idxOf k:Nat):Int),H)else none
 | _,_,_,_=>none
noncomputable def ZkR(f g h:Ex): Ex:=fun ρ H=>(f ρ H).bind fun p=>(g ρ p.2).bind fun q=>(h ρ q.2).bind fun u=>ZhZ p.1 q.1 u.1 u.2
section
variable {prog:Program} {w:World} {Γ:Cx}
theorem ZqX{a b c:V}{H:Hp}{r:V×Hp}(h:ZhZ a b c H=some r): ∃i k vs ns,a=.ref i∧b=.int k∧c=.int 1∧H[i]?=some vs∧ZcQ vs=some ns∧k∈ns.drop 1∧r=(.int ((1+(ns.drop 1).idxOf k:Nat):Int),H):=by
 unfold ZhZ at h
 split at h
 ·obtain⟨vs,e1,h⟩:=Zz0.mp h
  obtain⟨ns,e2,h⟩:=Zz0.mp h
  split at h
  ·rename_i q
   cases h
   obtain⟨rfl,q⟩:=q
   exact⟨_,_,vs,ns,rfl,rfl,rfl,e1,e2,q,rfl⟩
  ·cases h
 ·cases h
theorem J.index{o e1 e2:Expr}{apos pos:Pos}{f g k:Ex}(ho:J prog w Γ o f)(h1:J prog w Γ e1 g)(h2:J prog w Γ e2 k)(hbase:attributeBase o "index" Γ.env (eval o Γ.env)=eval o Γ.env:=by rfl)
  (hline:(apos.endLine == pos.line)=true:=by rfl) (htrees:backTo pos (starEach [e1,e2] Γ.env)=[(false,eval e1 Γ.env),(false,eval e2 Γ.env)]:=by rfl) (hstay:∀ρ H p,f ρ H=some p→∀q,g ρ p.2=some q→p.2=q.2:=by intro _ _ _ _ _ h;cases h;rfl) (hstay2:∀ρ H p,g ρ H=some p→∀q,k ρ p.2=some q→p.2=q.2:=by intro _ _ _ _ _ h;cases h;rfl):J prog w Γ (.Call (.Attribute o "index" apos) [e1,e2] [] pos) (ZkR f g k):=by
 intro W ρ H fr s Q E v H' r hx post
 obtain⟨p,x1,hx⟩:=Zz0.mp hx
 obtain⟨q,x2,hx⟩:=Zz0.mp hx
 obtain⟨u,x3,x4⟩:=Zz0.mp hx
 obtain⟨i,kk,vs,ns,ea,eb,ec,hvs,hns,hmem,er⟩:=ZqX x4
 refine wpAny_Call_method2_late hbase hline htrees (ho W ρ H fr s _ E _ _ r x1 fun W1 k1 t1 x l1 r1 y1=>?_)
 rw[ea]at y1
 have s1:=hstay ρ H p x1 q x2
 have s2:=hstay2 ρ p.2 q x2 u x3
 cases y1 with
 | @ref _ a aa=>
 obtain⟨hl,xs,n,hg,hv⟩:=r1.at (by rw[s1,s2];exact hvs) aa
 refine⟨"list","list.index",PySem.F.plainAttrs_list,PySem.F.slot_list_index,PySem.F.type_list_index,(show k1.IsList a xs.toArray from⟨_,hg,rfl,n,rfl⟩).typeIs,fun b eb=>by cases eb;exact⟨_,hg,rfl⟩,?_⟩
 refine Calls.callWith_builtin rfl (Calls.evalArgs_plain (Calls.spliced_cons ?_))
 refine h1 W1 ρ _ fr _ _ E _ _ r1 x2 fun W2 k2 t2 y l2 r2 y2=>Calls.spliced_cons ?_
 refine h2 W2 ρ _ fr _ _ E _ _ r2 x3 fun W3 k3 t3 z l3 r3 z3=>Calls.spliced_nil ?_
 rw[eb]at y2
 rw[ec]at z3
 cases y2 with
 | int _ ty=>
 cases z3 with
 | int _ tz=>
 obtain⟨hl3,xs3,n3,hg3,hv3⟩:=r3.at hvs (l3.at (l2.at aa))
 rw[ZaP]at hl3
 have hI:=Zkx hv3 hns
 refine ZqW ⟨_,hg3,rfl,n3,rfl⟩ hI (by rw[←hI.length,hv3.length];omega) hmem ?_
 have:=post W3 k3 (t3+1) (.int ((1+(ns.drop 1).idxOf kk:Nat):Int) t3) ((l1.trans l2).trans l3)
 cases er
 exact this r3 (.int _ _)
end
end PM
end
section
namespace TM
open PySem PM
theorem ZnO{H:Hp}: ∀ks:List Int,RFs H (ks.map V.int) (ks.map T.int) []
 | []=>.nil
 | k::ks=>.cons (.int k) (ZnO ks)
noncomputable def Zky: List T→Option T
 | [.lst ts]=>(ZcI ts).bind fun ns=>if ts.length<64 then some (.lst ((ZcJ ns).map T.int))else none
 | _=>none
theorem Zs4: OCn ZhI Zky:=fun H vs ts t F hp r h=>by
 unfold Zky at h
 split at h
 ·obtain⟨v,rfl,r'⟩:=r.one_inv
  cases r' with
  | ref e hs=>
   obtain⟨ks,h1,h⟩:=Zz0.mp h
   split at h
   ·rename_i h64
    cases h
    refine⟨_,[(ZcJ ks).map V.int],_,?_,Zd3 (ZnO (ZcJ ks)),fun a m=>?_,fun _=>?_⟩
    ·simp only[ZhI,e,Option.bind_some,Zhz hs h1]
     rw[if_pos (by rw[hs.length];exact h64)]
    ·rcases Zz7.mp m with rfl | m
     ·exact .inl (Zz10 _)
     ·cases m
    ·simp
   ·cases h
 ·cases h
noncomputable def ZkS(p q r:PE): PE:=fun σ=>(p σ).bind fun t=>(q σ).bind fun k=>(r σ).bind fun b=>match t,k,b with
 | .lst ts,.int k,.int b=>(ZcI ts).bind fun ns=>if b=1∧k∈ns.drop 1 then some (.int ((1+(ns.drop 1).idxOf k:Nat):Int))else none
 | _,_,_=>none
section
variable {O N M K:List Nat} {u u' u'':Bool}
theorem E.index{e1 e2 e3:Ex}{p1 p2 p3:PE}(x:E O N u e1 p1)(y:E O M u' e2 p2)(z:E O K u'' e3 p3): E O [] true (ZkR e1 e2 e3) (ZkS p1 p2 p3):=fun c ρ σ H Φ t s h=>by
 obtain⟨t1,h1,h⟩:=Zz0.mp h
 obtain⟨t2,h2,h⟩:=Zz0.mp h
 obtain⟨t3,h3,h⟩:=Zz0.mp h
 obtain⟨v1,X,F1,a1,a2,_,_⟩:=x c ρ σ H Φ t1 s h1
 obtain⟨v2,Y,F2,b1,b2,_,_⟩:=y c ρ σ (H++X) Φ t2 (s.ext X) h2
 obtain⟨v3,Z,F3,c1,c2,_,_⟩:=z c ρ σ (H++X++Y) Φ t3 ((s.ext X).ext Y) h3
 have a3:=(a2.ext Y).ext Z
 split at h
 ·obtain⟨ns,e1,h⟩:=Zz0.mp h
  split at h
  ·rename_i hc
   cases h
   cases b2
   cases c2
   cases a3 with
   | ref e hs=>
    refine⟨_,X++Y++Z,[],?_,.int _,by simp,by simp⟩
    have e':=e
    simp only[ZkR,a1,b1,c1,Option.bind_some,ZhZ,e',Zhz hs e1]
    rw[if_pos hc]
    simp
  ·cases h
 ·cases h
end
section
variable {σ:TL} {Q:T→Prop}
end
end TM
end
section
namespace TM
open PySem PM
theorem ZmN{nx:Nx}{put:V→Lc→Option Lc}{b:Sm}(hp:∀v ρ ρ',put v ρ=some ρ'→ρ' 0=ρ 0)(hb:Keep0 b): ∀n i,Keep0 (ZcH nx put b n i)
 | 0,_=>fun _ _ _ h=>by cases h
 | n+1,i=>fun ρ H r h=>by
  obtain⟨o,_,h⟩:=Zz0.mp h
  split at h
  ·cases h;rfl
  ·obtain⟨ρ1,e1,h⟩:=Zz0.mp h
   obtain⟨q,e2,h⟩:=Zz0.mp h
   have k:=(hb _ _ _ e2).trans (hp _ _ _ e1)
   split at h
   ·cases h;exact k
   ·exact(ZmN hp hb n (i+1) _ _ _ h).trans k
theorem Znh{g:Src}{put:V→Lc→Option Lc}{b:Sm}(hp:∀v ρ ρ',put v ρ=some ρ'→ρ' 0=ρ 0)(hb:Keep0 b): Keep0 (ZbP g put b):=fun ρ H r h=>by
 obtain⟨z,_,h⟩:=Zz0.mp h
 exact ZmN hp hb _ _ _ _ _ h
theorem ZmO{i:Nat}(hi:0≠i): ∀v ρ ρ',PM.put1 i v ρ=some ρ'→ρ' 0=ρ 0:=fun v ρ ρ' h=>by
 cases h
 simp[upd,hi]
end TM
end
section
namespace PM
open PySem PySem.W PySem.Calls PyProof.Rows PyProof PySem.Spec
noncomputable def Zh0: Expr→Bool
 | .Starred _ _=>true
 | _=>false
theorem Zlb{e:Expr}{es:List Expr}{env:Env}(h:Zh0 e=false): starEach (e::es) env=(false,eval e env)::starEach es env:=by
 cases e <;> first | rfl | cases h
noncomputable def Zh1: List Expr→Bool
 | []=>true
 | e::es=>!Zh0 e && Zh1 es
theorem Zpt{env:Env}: ∀{es:List Expr} (pos:Pos),Zh1 es=true→(backTo pos (starEach es env)).any (·.1)=false
 | [],pos,_=>by rfl
 | e::es,pos,h=>by
  simp only[Zh1,Bool.and_eq_true,Bool.not_eq_true']at h
  have ih:=Zpt (env:=env) (es:=es) pos h.2
  rw[Zlb h.1]
  unfold backTo at ih ⊢
  simp only[List.map_cons,List.any_cons,Bool.false_or]
  exact ih
section
variable {prog:Program} {w:World} {Γ:Cx}
theorem jc{e:Expr}{es:List Expr}{f:Ex}{g:Exs}(h1:J prog w Γ e f)(h2:Js prog w Γ es g)(hs:Zh0 e=false:=by exact rfl): Js prog w Γ (e::es) (Zw f g):=Ztp h1 h2 (Zlb hs)
end
section
variable {prog:Program} {w:World} {K:Frag} {p:Program} {loose:List Str} {mean:ExcName→Option Value} {mg mb:Str→Option Value}
theorem Zs5{f:Addr}{room:Nat}: Def prog w K p loose mean mg mb f room (fun _ _=>none):=by
 intro Γ dp un clr hd hu W ρ H fr s Q E as xs v H' r hx hF post
 cases hF
end
end PM
end
section
namespace PM
open PySem PySem.W PySem.Calls PyProof.Rows PyProof PySem.Spec
section
variable {prog:Program} {w:World} {Γ:Cx}
theorem ln1{α:Type _}: ∀{xs:List α},xs.length=1→∃x0,xs=[x0]
 | [x0],_=>⟨x0,rfl⟩
theorem ln2{α:Type _}: ∀{xs:List α},xs.length=2→∃x0 x1,xs=[x0,x1]
 | [x0,x1],_=>⟨x0,x1,rfl⟩
theorem ln3{α:Type _}: ∀{xs:List α},xs.length=3→∃x0 x1 x2,xs=[x0,x1,x2]
 | [x0,x1,x2],_=>⟨x0,x1,x2,rfl⟩
theorem ln4{α:Type _}: ∀{xs:List α},xs.length=4→∃x0 x1 x2 x3,xs=[x0,x1,x2,x3]
 | [x0,x1,x2,x3],_=>⟨x0,x1,x2,x3,rfl⟩
theorem ln5{α:Type _}: ∀{xs:List α},xs.length=5→∃x0 x1 x2 x3 x4,xs=[x0,x1,x2,x3,x4]
 | [x0,x1,x2,x3,x4],_=>⟨x0,x1,x2,x3,x4,rfl⟩
theorem ln6{α:Type _}: ∀{xs:List α},xs.length=6→∃x0 x1 x2 x3 x4 x5,xs=[x0,x1,x2,x3,x4,x5]
 | [x0,x1,x2,x3,x4,x5],_=>⟨x0,x1,x2,x3,x4,x5,rfl⟩
theorem ln7{α:Type _}: ∀{xs:List α},xs.length=7→∃x0 x1 x2 x3 x4 x5 x6,xs=[x0,x1,x2,x3,x4,x5,x6]
 | [x0,x1,x2,x3,x4,x5,x6],_=>⟨x0,x1,x2,x3,x4,x5,x6,rfl⟩
theorem jI{k:Int}{n:Nat}{pos:Pos}: J prog w Γ (.Constant (.int k) n pos) (ZL k):=J.int _ _ _
theorem jN{n:Nat}{pos:Pos}: J prog w Γ (.Constant .none n pos) Zas:=J.none _ _
theorem jB{b:Bool}{n:Nat}{pos:Pos}: J prog w Γ (.Constant (.bool b) n pos) (Zia b):=J.bool _ _ _
theorem jS{x:Str}{n:Nat}{pos:Pos}: J prog w Γ (.Constant (.str x) n pos) (Zie x):=J.str _ _ _
theorem cO{elt iter:Expr}{x:Str}{px:Pos}{ifs:List Expr}{scope:Scope}{pos:Pos}{cl:List (Str×Addr)}{t:Nat}{g:Src}{c:Ts}{f:Ex}(hg:JI prog w Γ iter g)(hel:∀C ρ,J prog w (ZaZ Γ scope cl C [(x,t)] ρ) elt f)(hif:∀C ρ,JF prog w (ZaZ Γ scope cl C [(x,t)] ρ) ifs c)
  (hclos:closureFor scope Γ.env=pure cl:=by with_unfolding_all rfl) (hcell:∀y∈scope.names,y.2≠.cell:=by decide) (hkind:scope.kind=.function:=by exact rfl) (hnames:∀y∈scope.names,y.2=.local→scope.names.lookup y.1=some .local:=by decide) (hx:scope.names.lookup x=some .local:=by exact rfl) (hs:∀x,foldedSetIterable iter Γ.env x=pure x:=by intro _;rfl):
  J prog w Γ (.ListComp elt [⟨.Name x px,iter,ifs,0⟩] scope pos) (Zbe g (put1 t) c f):=ZuA hg hel hif hclos hcell hkind hnames hx hs
theorem cT{elt iter:Expr}{x x₂:Str}{px px₂ tp:Pos}{kt:Nat}{scope:Scope}{pos:Pos}{cl:List (Str×Addr)}{t t₂:Nat}{g:Src}{f:Ex}(hg:JI2 prog w Γ iter g)(hel:∀C ρ,J prog w (ZaZ Γ scope cl C [(x,t),(x₂,t₂)] ρ) elt f)
  (hclos:closureFor scope Γ.env=pure cl:=by with_unfolding_all rfl) (hcell:∀y∈scope.names,y.2≠.cell:=by decide) (hkind:scope.kind=.function:=by exact rfl) (hnames:∀y∈scope.names,y.2=.local→scope.names.lookup y.1=some .local:=by decide) (hx:scope.names.lookup x=some .local:=by exact rfl) (hx₂:scope.names.lookup x₂=some .local:=by exact rfl) (hxx:x≠x₂:=by decide) (htt:t≠t₂:=by decide) (hs:∀x,foldedSetIterable iter Γ.env x=pure x:=by intro _;rfl):
  J prog w Γ (.ListComp elt [⟨.Tuple [.Name x px,.Name x₂ px₂] kt tp,iter,[],0⟩] scope pos) (Zbe g (ZcW t t₂) Zby f):=Ztv hg hel hclos hcell hkind hnames hx hx₂ hxx htt hs
theorem sO{elt iter:Expr}{x y:Str}{px py pos spos:Pos}{ifs:List Expr}{scope:Scope}{cl:List (Str×Addr)}{t i:Nat}{g:Src}{c:Ts}{f:Ex}(hy:Sto prog w Γ y i)(hg:JI prog w Γ iter g)(hel:∀C ρ,J prog w (ZaZ Γ scope cl C [(x,t)] ρ) elt f)(hif:∀C ρ,JF prog w (ZaZ Γ scope cl C [(x,t)] ρ) ifs c)
  (hsw:swapsWith (.ListComp elt [⟨.Name x px,iter,ifs,0⟩] scope pos) (some (.Name y py)) spos.line Γ.env=pure true:=by rfl)
  (hclos:closureFor scope Γ.env=pure cl:=by with_unfolding_all rfl) (hcell:∀y∈scope.names,y.2≠.cell:=by decide) (hkind:scope.kind=.function:=by exact rfl) (hnames:∀y∈scope.names,y.2=.local→scope.names.lookup y.1=some .local:=by decide) (hx:scope.names.lookup x=some .local:=by exact rfl) (hs:∀x,foldedSetIterable iter Γ.env x=pure x:=by intro _;rfl):
  S1 prog w Γ (.Assign [.Name y py] (.ListComp elt [⟨.Name x px,iter,ifs,0⟩] scope pos) spos) (Zaw i (Zbe g (put1 t) c f)):=Zri hy hg hel hif hsw hclos hcell hkind hnames hx hs
theorem sT{elt iter:Expr}{x x₂ y:Str}{px px₂ tp py pos spos:Pos}{kt:Nat}{scope:Scope}{cl:List (Str×Addr)}{t t₂ i:Nat}{g:Src}{f:Ex}(hy:Sto prog w Γ y i)(hg:JI2 prog w Γ iter g)(hel:∀C ρ,J prog w (ZaZ Γ scope cl C [(x,t),(x₂,t₂)] ρ) elt f)
  (hsw:swapsWith (.ListComp elt [⟨.Tuple [.Name x px,.Name x₂ px₂] kt tp,iter,[],0⟩] scope pos) (some (.Name y py)) spos.line Γ.env=pure true:=by rfl)
  (hclos:closureFor scope Γ.env=pure cl:=by with_unfolding_all rfl) (hcell:∀y∈scope.names,y.2≠.cell:=by decide) (hkind:scope.kind=.function:=by exact rfl) (hnames:∀y∈scope.names,y.2=.local→scope.names.lookup y.1=some .local:=by decide) (hx:scope.names.lookup x=some .local:=by exact rfl) (hx₂:scope.names.lookup x₂=some .local:=by exact rfl) (hxx:x≠x₂:=by decide) (htt:t≠t₂:=by decide) (hs:∀x,foldedSetIterable iter Γ.env x=pure x:=by intro _;rfl):
  S1 prog w Γ (.Assign [.Name y py] (.ListComp elt [⟨.Tuple [.Name x px,.Name x₂ px₂] kt tp,iter,[],0⟩] scope pos) spos) (Zaw i (Zbe g (ZcW t t₂) Zby f)):=ZqV hy hg hel hsw hclos hcell hkind hnames hx hx₂ hxx htt hs
end
section
variable {prog:Program} {w:World} {dp un:Nat} {gd:Option (List Code)} {cn:Str} {cs:Scope} {L a:Addr} {ccd:Value} {cl:List (Str×Addr)} {outer:List Env} {h₀:Heap} {hu:un+200<cLine} {names:List Str}
theorem vL{x:Str}{i:Nat}{pos:Pos}(hi:names[i]?=some x:=by rfl)(hx:cs.names.lookup x=some .local:=by exact rfl)(hk:cs.kind=.function:=by exact rfl)(hd:(x == ("__debug__":Str))=false:=by exact rfl): J prog w (Zbq dp un gd cn cs L a ccd cl outer h₀ hu names) (.Name x pos) (Zo i):=Zib (Zuy hi hx hk hd)
theorem vC{x:Str}{i:Nat}{pos:Pos}(hi:names[i]?=some x:=by rfl)(hx:cs.names.lookup x=some .cell:=by exact rfl)(hk:cs.kind=.function:=by exact rfl)(hd:(x == ("__debug__":Str))=false:=by exact rfl): J prog w (Zbq dp un gd cn cs L a ccd cl outer h₀ hu names) (.Name x pos) (Zo i):=Zib (Zuz hi hx hk hd)
theorem sL{x:Str}{i:Nat}(nd:names.Nodup:=by decide)(hi:names[i]?=some x:=by rfl)(hx:cs.names.lookup x=some .local:=by exact rfl)(hk:cs.kind=.function:=by exact rfl): Sto prog w (Zbq dp un gd cn cs L a ccd cl outer h₀ hu names) x i:=Zts nd hi hx hk
theorem sC{x:Str}{i:Nat}(nd:names.Nodup:=by decide)(hi:names[i]?=some x:=by rfl)(hx:cs.names.lookup x=some .cell:=by exact rfl)(hk:cs.kind=.function:=by exact rfl)(hcl:(cl.lookup x).isSome=true:=by exact rfl): Sto prog w (Zbq dp un gd cn cs L a ccd cl outer h₀ hu names) x i:=Ztt nd hi hx hk hcl
end
section
variable {prog:Program} {w:World} {K:Frag} {p:Program} {loose:List Str} {mean:ExcName→Option Value} {mg mb:Str→Option Value} {Γ:Cx} {dp un:Nat}
theorem nB{x:Str}{v:Value}(clr:Clr K p loose mean mg mb Γ dp un)(e:nsIn K mainGlobals x=some Option.none:=by k_is)(hv:bootBuiltins x=some v:=by boot_by_name)(hn:x≠"__name__":=by decide)(hg:Γ.env.globals=mainGlobals:=by exact rfl)(hb:Γ.env.builtins=builtinsNs:=by exact rfl)(hk:Γ.env.scope.kind=.function:=by exact rfl)(hx:Γ.env.kindOf x=some .globalImplicit:=by exact rfl)(hd:(x == ("__debug__":Str))=false:=by exact rfl): Nm prog w Γ x v:=ZsI clr e hv hn hg hb hk hx hd
theorem cF{x:Str}{np pos:Pos}{f:Addr}{room:Nat}{e:Expr}{es:List Expr}{g:Exs}{o:List V→Hp→Option (V×Hp)}(clr:Clr K p loose mean mg mb Γ dp un)(D:Def prog w K p loose mean mg mb f room o)(h:Js prog w Γ (e::es) g)
  (en:nsIn K mainGlobals x=some (some (.ref f)):=by k_is) (hg:Γ.env.globals=mainGlobals:=by exact rfl) (hk:Γ.env.scope.kind=.function:=by exact rfl) (hx:Γ.env.kindOf x=some .globalImplicit:=by exact rfl) (hd0:(x == ("__debug__":Str))=false:=by exact rfl)
  (hkeep:keepIn K (.ref f)=true:=by k_is) (hd:dp+room<recursionLimit:=by omega) (hu:un+10*room+300<cLine:=by omega)
  (he:Zh0 e=false:=by exact rfl) (hp:Zh1 es=true:=by exact rfl):J prog w Γ (.Call (.Name x np) (e::es) [] pos) (Z2 o g):=Ztw clr (ZuE clr en hg hk hx hd0) hkeep D hd hu h (Zlb he) (fun pos=>Zpt pos hp)
theorem ZV{name qual:Str}{params:Arguments}{body:List Stmt}{scope:Scope}{dV kV doc pm cdv ct oc:Value}{an od:Option Addr}{osl:Array (Option Value)}{f:Addr}{names:List Str}{n room:Nat}{g:Sm}
  (hbody:∀(dp un:Nat) (gd:Option (List Code)) (L:Addr) (outer:List Env) (h₀:Heap) (hu:un+200<cLine),Clr K p loose mean mg mb (Zbq dp un gd qual scope L f cdv (cellsFrom (L+1) scope.names []) outer h₀ hu names) dp un→dp+room<recursionLimit→un+10*room+300<cLine →
   Ss prog w (Zbq dp un gd qual scope L f cdv (cellsFrom (L+1) scope.names []) outer h₀ hu names) body g)
  (ho:K.lookup f=some ⟨oc,od,.func (fnOf name qual params body scope dV kV doc pm an cdv ct),osl⟩:=by k_is) (hcd:codeIn K cdv qual=true:=by k_is) (nd:names.Nodup:=by decide) (hn:n≤names.length:=by decide)
  (hbind:∀s xs,xs.length=n→BindsTo s (fnOf name qual params body scope dV kV doc pm an cdv ct) ⟨xs,[]⟩ ((names.take n).zip xs):=by
   intro s xs hx
   first
   | (obtain⟨x0,rfl⟩:=ln1 hx;exact BindsTo.of_eq rfl)
   | (obtain⟨x0,x1,rfl⟩:=ln2 hx;exact BindsTo.of_eq rfl)
   | (obtain⟨x0,x1,x2,rfl⟩:=ln3 hx;exact BindsTo.of_eq rfl)
   | (obtain⟨x0,x1,x2,x3,rfl⟩:=ln4 hx;exact BindsTo.of_eq rfl)
   | (obtain⟨x0,x1,x2,x3,x4,rfl⟩:=ln5 hx;exact BindsTo.of_eq rfl)
   | (obtain⟨x0,x1,x2,x3,x4,x5,rfl⟩:=ln6 hx;exact BindsTo.of_eq rfl)
   | (obtain⟨x0,x1,x2,x3,x4,x5,x6,rfl⟩:=ln7 hx;exact BindsTo.of_eq rfl)) (hkinds:∀x∈names.take n,scope.names.lookup x=some .local∨scope.names.lookup x=some .cell:=by decide) (hone:((cellsFrom 0 scope.names []).map (·.1)).Nodup:=by decide +kernel)
  (hco:scope.isCoroutine=false:=by exact rfl) (hgen:scope.isGenerator=false:=by exact rfl) (hk:scope.kind=.function:=by exact rfl):
  Def prog w K p loose mean mg mb f (room+1) (ZM n g):=ZoU ho hcd nd hn hbind hkinds hone hco hgen hk hbody
end
section
variable {prog:Program} {w:World} {Γ:Cx} {scope:Scope} {cl:List (Str×Addr)} {C:Addr} {ts:List (Str×Nat)} {ρ0:Lc}
theorem vO{x:Str}{t:Nat}{pos:Pos}(hm:(x,t)∈ts:=by first | exact Zz5 | exact Zz2 _ Zz5)(hk:scope.kind=.function:=by exact rfl)(hl:(compEnvC scope cl C Γ.env).kindOf x=some .local:=by exact rfl)(hd:(x == ("__debug__":Str))=false:=by exact rfl): J prog w (ZaZ Γ scope cl C ts ρ0) (.Name x pos) (Zo t):=Zib (Zty hm hk hl hd)
end
section
variable {prog:Program} {w:World} {dp un:Nat} {gd:Option (List Code)} {cn:Str} {cs:Scope} {L a:Addr} {ccd:Value} {clf:List (Str×Addr)} {outer:List Env} {h₀:Heap} {hu:un+200<cLine} {names:List Str} {scope:Scope} {cl:List (Str×Addr)} {C:Addr} {ts:List (Str×Nat)} {ρ0:Lc}
theorem vD{x:Str}{i:Nat}{pos:Pos}(hi:names[i]?=some x:=by rfl)(hx:cs.names.lookup x=some .cell:=by exact rfl)(hne:∀p∈ts,p.2≠i:=by decide)(hcl:cl.lookup x=clf.lookup x:=by exact rfl)(hk:scope.kind=.function:=by exact rfl)(hl:(compEnvC scope cl C (envX cn cs L a ccd clf)).kindOf x=some .cell:=by exact rfl)(hd:(x == ("__debug__":Str))=false:=by exact rfl):
  J prog w (ZaZ (Zbq dp un gd cn cs L a ccd clf outer h₀ hu names) scope cl C ts ρ0) (.Name x pos) (Zo i):=Zib (Ztz hi hx hne hcl hk hl hd)
end
end PM
end
noncomputable section
open PySem PM TM
namespace L
variable {H:Hp} {a:V} {t:T} {F:List Nat} {ρ:Lc} {σ:TL}
def Zfo: XS [] [] [] false:=⟨_,_,(Zj (ZD (i:=2) (O':=[]) (ZR Z5 (ZR ZaT (ZR ZaT (Za 1) (Za 1)) (Zc 7919)) (Zc 11))) (Zj (ZH (Zs (Zn ZcN (Zad Zaz (Zb (Za 0) Zd)) (Zc 0))) (ZD (i:=2) (O':=[]) (ZR Z5 (Za 2) (Zl Zk (Za 0) (Zn ZaW (Za 1) (Zad Zaz (Zb (Za 0) Zd)))))) ZJ) (ZB (Za 2))))⟩
def Zmh:=ZM 2 (XS.g Zfo)
def Zi5:=ZQ 2 (XS.q Zfo)
theorem Zmi: SimF false Zmh Zi5:=ZZ (XS.h Zfo)
def ZfB: XS [] [] [] false:=⟨_,_,(ZB (Zn ZaW (Zn ZaW (ZR ZaT (Zt Zmi (Zb (Za 0) (Zb (Za 1) Zd))) (Zc 48271)) (Zc 2147483647)) (Za 2)))⟩
def Zdk:=ZM 3 (XS.g ZfB)
def Zcw:=ZQ 3 (XS.q ZfB)
theorem ZbF: SimF false Zdk Zcw:=ZZ (XS.h ZfB)
def Zfd: XS [] [] [] false:=⟨_,_,(Zj (ZD (i:=2) (O':=[]) (Zt Zmi (Zb (Za 0) (Zb (Za 1) Zd)))) (Zj (ZD (i:=3) (O':=[]) (Zl Zk (E.list (Zb (Zc 3) (Zb (Zc 9) (Zb (Zn Zk5 (Zc 10) (Zc 9)) (Zb (Zn Zk5 (Zc 10) (Zc 40)) Zd))))) (Zn ZaW (Zn ZaW (ZR ZaT (Za 2) (Zc 69621)) (Zc 2147483629)) (Zc 4)))) (ZB (Zn Za5 (Zn ZaW (ZR ZaT (Za 2) (Zn Zk5 (Zc 48271) (Zc 9))) (ZR Z5 (ZR ZaT (Zc 2) (Za 3)) (Zc 1))) (Za 3)))))⟩
def ZiT:=ZM 2 (XS.g Zfd)
def ZgT:=ZQ 2 (XS.q Zfd)
theorem Zd7: SimF false ZiT ZgT:=ZZ (XS.h Zfd)
def Zfp: XS [] [] [] false:=⟨_,_,(Zj (ZD (i:=2) (O':=[]) (Zt ZbF (Zb (Za 0) (Zb (Za 1) (Zb (Zc 42) Zd))))) (Zj (ZH (Zs (Zn ZbQ (Zn ZaW (Za 2) (Zc 6)) (Zc 2))) (ZB (ZP)) ZJ) (Zj (ZH (Zs (Zn ZbQ (Zn ZaW (Za 2) (Zc 6)) (Zc 4))) (ZB (Zc 0)) ZJ) (Zj (ZH (Zs (Zn Zam (Zn ZaW (Za 2) (Zc 6)) (Zc 4))) (ZB (Zn Zct (Za 2) (Zc 6))) ZJ) (ZB (Zad Zdc (Zb (Zt Zd7 (Zb (Za 0) (Zb (Za 1) Zd))) Zd)))))))⟩
def Zmj:=ZM 2 (XS.g Zfp)
def Zi6:=ZQ 2 (XS.q Zfp)
theorem ZqY: SimF false Zmj Zi6:=ZZ (XS.h Zfp)
def Ze3: XS [] [] [] false:=⟨_,_,(Zj (ZH (Zs (Zn Zam (Za 0) (Zc 0))) (ZB (E.tup (Zb (Zc 0) (Zb (Za 1) Zd)))) ZJ) (ZB (E.tup (Zb (Za 0) (Zb (Zn ZaW (Za 1) (Za 0)) Zd)))))⟩
def ZlO:=ZM 2 (XS.g Ze3)
def ZiF:=ZQ 2 (XS.q Ze3)
theorem Ze4: SimF false ZlO ZiF:=ZZ (XS.h Ze3)
def ZfC: XS [] [] [] false:=⟨_,_,(Zj (ZD (i:=3) (O':=[]) (Zt ZbF (Zb (Za 0) (Zb (Za 1) (Zb (Zc 60) Zd))))) (Zj (ZH (Zs (Zn ZbQ (Zn ZaW (Za 3) (Zc 5)) (Zc 2))) (ZB (E.tup (Zb (Zc 1) (Zb (Zc 0) Zd)))) ZJ) (Zj (ZH (Zs (Zn Zam (Zn ZaW (Za 3) (Zc 5)) (Zc 2))) (ZB (E.tup (Zb (Zc 0) (Zb (Za 2) Zd)))) ZJ) (Zj (ZH (Zs (Zn Zam (Zn ZaW (Za 3) (Zc 5)) (Zc 3))) (ZB (Zt Ze4 (Zb (ZR Z5 (Zn Zct (Za 3) (Zc 5)) (Zc 1)) (Zb (Za 2) Zd)))) ZJ) (ZB (Zt Ze4 (Zb (Zad Zdc (Zb (Zt Zd7 (Zb (Za 0) (Zb (Za 1) Zd))) Zd)) (Zb (Za 2) Zd))))))))⟩
def ZmP:=ZM 3 (XS.g ZfC)
def Zjp:=ZQ 3 (XS.q ZfC)
theorem Zrl: SimF false ZmP Zjp:=ZZ (XS.h ZfC)
def ZfD: XS [] [5] [] true:=⟨_,_,(Zj (ZD (i:=3) (O':=[]) (ZR Z5 (E.list (Zb (Zc 0) Zd)) (Za 2))) (Zj (ZD (i:=4) (O':=[]) (Zad Zaz (Zb (Za 3) Zd))) (Zj (Zb5 (i:=5) (O':=[5]) (E.list Zd)) (Zj (ZaX (Gs.range (Zb (Za 4) Zd)) (PutOk.one (j:=6)) (by decide) (by decide) (Zj (Zb5 (i:=7) (O':=[5,7]) (ZaK (O':=[]) (E.list Zd))) (Zj (ZaX (Gs.range (Zb (Za 4) Zd)) (PutOk.one (j:=8)) (by decide) (by decide) (Zj (ZD (i:=9) (O':=[5,7]) (Zt ZqY (Zb (Za 0) (Zb (ZR Z5 (ZR Z5 (Za 1) (ZR ZaT (Za 6) (Za 4))) (Za 8)) Zd)))) (Zj (ZH (Zs (Zn Zbu (Za 9) (ZP))) (ZD (i:=9) (O':=[5,7]) (ZR Z5 (Zn Za5 (Zl Zk (Za 3) (Za 6)) (Zl Zk (Za 3) (Za 8))) (Za 9))) ZJ) (Zgx (x:=7) (O':=[5,7]) (by decide) Za4 (ZaK (O':=[5]) (E.flat (Za 9))) (by decide) (by decide))))) (Zj (S.put (x:=7) (O':=[5,7]) (by decide) (ZaK (O':=[5]) (Zc 0)) Za4 (Za 6) (by decide) (by decide)) (Zgx (x:=5) (O':=[5]) (by decide) Za4 (ZaK (O':=[7]) (E.own (i:=7) (by decide))) (by decide) (by decide)))))) (ZaG (E.tup (Zeq (E.own (i:=5) (by decide)) (Zeq (ZcC (Gs.range (Zb (Zn Za5 (Za 4) (Zc 1)) Zd)) (PutOk.one (j:=100)) (by decide) Zaf (ZaK (O':=[]) (E.flat (Zt Zrl (Zb (Za 0) (Zb (ZR Z5 (ZR Z5 (Za 1) (ZR ZaT (Za 4) (Za 4))) (Za 100)) (Zb (Zl Zk (Za 2) (Za 100)) Zd))))))) Zd (by decide) (by decide)) (by decide) (by decide))))))))⟩
def ZmQ:=ZM 3 (XS.g ZfD)
def Zjq:=ZQ 3 (XS.q ZfD)
theorem Zrm: SimF true ZmQ Zjq:=ZZ (XS.h ZfD)
def Zjr: Sm:=Z6 (sIf (Zai (Zx oIs (Zo 0) (Zas))) (Zat (Zas)) ZaL) (Zat (ZcK (Zw (Zbe (ZcM (Zx ZY (Zo 0) (ZL 0))) (put1 100) Zby (Z2 ZdN (Zw (Zo 100) Z0))) (Zw (Z2 ZdN (Zw (Zx ZY (Zo 0) (ZL 1)) Z0)) Z0))))
def ZmR:=ZM 1 Zjr
def Zha: PS:=(Z1 (qIf (Z9 (Zp qIs (Zf 0) (Zau))) (Zaq (Zau)) ZaC) (Zaq (ZcX (Zq (Zav (ZaM (Zp ZE (Zf 0) (Zv 0))) (Zaa 100) Zan (ZW ZcE (Zq (Zf 100) ZF))) (Zq (ZW ZcE (Zq (Zp ZE (Zf 0) (Zv 1)) ZF)) ZF)))))
def ZdF:=ZQ 1 Zha
theorem Zrn: SimF false ZmR ZdF:=ZZ (show S [] [] [] false Zjr Zha from(Zj (ZH (Zs (Zn Za0 (Za 0) (ZP))) (ZB (ZP)) ZJ) (ZB (E.tup (Zb (ZbH (Gs.seq (Zl Zk (Za 0) (Zc _))) PutOk.one (by decide) Zaf (Zgd ZcB (Zb (Za 100) Zd))) (Zb (Zgd ZcB (Zb (Zl Zk (Za 0) (Zc _)) Zd)) Zd))))))
def Zfq: XS [] [] [] false:=⟨_,_,(ZB ((ZvO (E.sh (Zn Za0 (Za 1) (ZP))) (E.sh ((ZdV (E.sh (Zn Zbu (Za 0) (ZP))) (E.sh (Zn Zlo (Za 0) (Za 1)))))))))⟩
def Zmk:=ZM 2 (XS.g Zfq)
def Zi7:=ZQ 2 (XS.q Zfq)
theorem Zml: SimF false Zmk Zi7:=ZZ (XS.h Zfq)
def ZfE: XS [] [] [] false:=⟨_,_,(Zj (ZH (Zs (Zn Zam (Zl Zk (Za 0) (Zc 0)) (Zc 0))) (ZB (Zn Zam (Za 1) (Zl Zk (Za 0) (Zc 1)))) ZJ) (ZB (Zn Zam (Zn ZaW (Za 1) (Zl Zk (Za 0) (Zc 0))) (Zl Zk (Za 0) (Zc 1)))))⟩
def ZmS:=ZM 2 (XS.g ZfE)
def Zjs:=ZQ 2 (XS.q ZfE)
theorem ZfF: SimF false ZmS Zjs:=ZZ (XS.h ZfE)
def ZgO: XS [] [] [] false:=⟨_,_,(Zj (ZH (Zs (Zn Zam (Zl Zk (Za 1) (Zc 0)) (Zc 0))) (ZB (Zn Zam (Za 0) (Za 1))) ZJ) (ZB ((ZdV (E.sh (Zn Zam (Zn ZaW (Zl Zk (Za 0) (Zc 0)) (Zl Zk (Za 1) (Zc 0))) (Zc 0))) (E.sh (Zt ZfF (Zb (Za 1) (Zb (Zl Zk (Za 0) (Zc 1)) Zd))))))))⟩
def ZlP:=ZM 2 (XS.g ZgO)
def Zqc:=ZQ 2 (XS.q ZgO)
theorem Zqd: SimF false ZlP Zqc:=ZZ (XS.h ZgO)
def ZfU: XS [] [] [] false:=⟨_,_,(Zj (ZD (i:=0) (O':=[]) (Zad Zdc (Zb (Za 0) Zd))) (Zj (ZD (i:=1) (O':=[]) (Zad Zdc (Zb (Za 1) Zd))) (Zj (Zez (Zs (Zn Zbb (Za 1) (Zc 0))) (Zj (ZD (i:=2) (O':=[]) (Zn ZaW (Za 0) (Za 1))) (Zj (ZD (i:=0) (O':=[]) (Za 1)) (ZD (i:=1) (O':=[]) (Za 2)))) 1000000) (ZB (Za 0)))))⟩
def Zni:=ZM 2 (XS.g ZfU)
def ZjR:=ZQ 2 (XS.q ZfU)
theorem Zr8: SimF false Zni ZjR:=ZZ (XS.h ZfU)
def Zfe: XS [] [3,4] [] false:=⟨_,_,(Zj (Zb5 (i:=3) (O':=[3]) (ZcC (Gs.seq (Zl Zk (Za 2) (Zc 0))) (PutOk.one (j:=100)) (by decide) Zaf (ZdI ZcB (Zb (Za 100) Zd)))) (Zj (Zb5 (i:=4) (O':=[3,4]) (ZaK (O':=[]) (ZdI ZcB (Zb (Zl Zk (Za 2) (Zc 1)) Zd)))) (Zj (ZD (i:=5) (O':=[3,4]) (Zt ZbF (Zb (Za 0) (Zb (Za 1) (Zb (Zad Zaz (Zb (Za 3) Zd)) Zd))))) (Zj (ZD (i:=6) (O':=[3,4]) (Zt ZbF (Zb (Za 0) (Zb (ZR Z5 (Za 1) (Zc 1)) (Zb (Zad Zaz (Zb (Za 3) Zd)) Zd))))) (Zj (ZD (i:=7) (O':=[3,4]) (Zt ZbF (Zb (Za 0) (Zb (ZR Z5 (Za 1) (Zc 2)) (Zb (Zc 5) Zd))))) (Zj (ZH (Zak (Zs (Zn ZbQ (Za 7) (Zc 3))) (Zak (Zs (Zn Zbb (Za 5) (Za 6))) (Zak (Zs (Zn Za0 (Zl Zk (Zl Zk (Za 3) (Za 5)) (Za 6)) (ZP))) Zaf))) (S.put (x:=3) (O':=[3,4]) (by decide) (ZaK (O':=[4]) (E.flat (Zt Zd7 (Zb (Za 0) (Zb (ZR Z5 (Za 1) (Zc 3)) Zd))))) (Zch Za4 (Za 5)) (Za 6) (by decide) (by decide)) (ZH (Zak (Zs (Zn ZbQ (Za 7) (Zc 3))) (Zak (Zs (Zn Zbb (Za 5) (Za 6))) Zaf)) (S.put (x:=3) (O':=[3,4]) (by decide) (ZaK (O':=[4]) (Zn Za5 (Zn Za5 (Zl Zk (Zl Zk (Za 3) (Za 5)) (Za 6)) (Zc 1)) (Zt ZbF (Zb (Za 0) (Zb (ZR Z5 (Za 1) (Zc 3)) (Zb (Zc 4) Zd)))))) (Zch Za4 (Za 5)) (Za 6) (by decide) (by decide)) (ZH (Zs (Zn ZcN (Zad Zaz (Zb (Za 4) Zd)) (Zc 0))) (Zj (ZD (i:=8) (O':=[3,4]) (Zt ZbF (Zb (Za 0) (Zb (Za 1) (Zb (Zad Zaz (Zb (Za 4) Zd)) Zd))))) (Zj (ZD (i:=9) (O':=[3,4]) (ZaK (O':=[]) (E.flat (Zl Zk (Za 4) (Za 8))))) (S.put (x:=4) (O':=[3,4]) (by decide) (ZaK (O':=[3]) (E.flat (Zt Ze4 (Zb (ZR ZaT (Zl Zk (Za 9) (Zc 0)) (ZR Z5 (Zc 1) (Zn ZaW (Za 7) (Zc 2)))) (Zb (ZR Z5 (Zl Zk (Za 9) (Zc 1)) (Zt ZbF (Zb (Za 0) (Zb (ZR Z5 (Za 1) (Zc 3)) (Zb (Zc 3) Zd))))) Zd))))) Za4 (Za 8) (by decide) (by decide)))) ZJ))) (ZB (E.tup (Zb (Za 3) (Zb (Za 4) Zd))))))))))⟩
def Zl1:=ZM 3 (XS.g Zfe)
def ZiU:=ZQ 3 (XS.q Zfe)
theorem ZqD: SimF false Zl1 ZiU:=ZZ (XS.h Zfe)
def ZfV: XS [] [] [] false:=⟨_,_,(Zj (ZD (i:=2) (O':=[]) (Zad Zdc (Zb (Za 0) Zd))) (Zj (ZD (i:=3) (O':=[]) (Zad Zdc (Zb (Za 1) Zd))) (Zj (Zez (Zs (Zn Zbb (Za 3) (Zc 0))) (Zj (ZD (i:=4) (O':=[]) (Zn ZaW (Za 2) (Za 3))) (Zj (ZD (i:=2) (O':=[]) (Za 3)) (ZD (i:=3) (O':=[]) (Za 4)))) 1000000) (ZB (Za 2)))))⟩
def Znj:=ZM 2 (XS.g ZfV)
def ZjS:=ZQ 2 (XS.q ZfV)
theorem ZjT: SimF false Znj ZjS:=ZZ (XS.h ZfV)
def Zgp: XS [] [] [] false:=⟨_,_,(Zj (ZH (Zs (Zn ZbQ (Za 0) (Zc 0))) (ZvP (g:=PM.sNo) (O':=[])) ZJ) (Zj (ZH (Zs (Zn Zam (Za 0) (Zc 0))) (ZB (E.tup (Zb (Zc 0) (Zb (Za 1) Zd)))) ZJ) (ZB (E.tup (Zb (Za 0) (Zb (Zn ZaW (Za 1) (Za 0)) Zd))))))⟩
def Zo7:=ZM 2 (XS.g Zgp)
def ZkT:=ZQ 2 (XS.q Zgp)
theorem Zh2: SimF false Zo7 ZkT:=ZZ (XS.h Zgp)
def ZfW: XS [] [] [] false:=⟨_,_,(Zj (ZD (i:=2) (O':=[]) (Zn ZaW (Za 0) (Za 1))) (Zj (ZD (i:=3) (O':=[]) (Za 1)) (Zj (ZD (i:=4) (O':=[]) (Zc 1)) (Zj (ZD (i:=5) (O':=[]) (Zc 0)) (Zj (Zez (Zs (Zn Zbb (Za 3) (Zc 0))) (Zj (ZD (i:=6) (O':=[]) (Zn Zct (Za 2) (Za 3))) (Zj (ZD (i:=7) (O':=[]) (Zn Za5 (Za 2) (ZR ZaT (Za 6) (Za 3)))) (Zj (ZD (i:=8) (O':=[]) (Zn Za5 (Za 4) (ZR ZaT (Za 6) (Za 5)))) (Zj (ZD (i:=2) (O':=[]) (Za 3)) (Zj (ZD (i:=4) (O':=[]) (Za 5)) (Zj (ZD (i:=3) (O':=[]) (Za 7)) (ZD (i:=5) (O':=[]) (Za 8)))))))) 1000000) (ZB (Zn ZaW (Za 4) (Za 1))))))))⟩
def Znk:=ZM 2 (XS.g ZfW)
def ZjU:=ZQ 2 (XS.q ZfW)
theorem Zr9: SimF false Znk ZjU:=ZZ (XS.h ZfW)
def ZfG: XS [] [] [] false:=⟨_,_,(Zj (ZH (Zs (Zn Zam (Zl Zk (Za 0) (Zc 0)) (Zc 0))) (ZB (ZdU (Zs (Zt ZfF (Zb (Za 1) (Zb (Zl Zk (Za 0) (Zc 1)) Zd)))) (E.sh (Za 0)) (E.sh (ZP)))) ZJ) (Zj (ZH (Zs (Zn Zam (Zl Zk (Za 1) (Zc 0)) (Zc 0))) (ZB (ZdU (Zs (Zt ZfF (Zb (Za 0) (Zb (Zl Zk (Za 1) (Zc 1)) Zd)))) (E.sh (Za 1)) (E.sh (ZP)))) ZJ) (Zj (ZD (i:=2) (O':=[]) (Zt ZjT (Zb (Zl Zk (Za 0) (Zc 0)) (Zb (Zl Zk (Za 1) (Zc 0)) Zd)))) (Zj (ZD (i:=3) (O':=[]) (Zn Za5 (Zl Zk (Za 1) (Zc 1)) (Zl Zk (Za 0) (Zc 1)))) (Zj (ZH (Zs (Zn Zbb (Zn ZaW (Za 3) (Za 2)) (Zc 0))) (ZB (ZP)) ZJ) (Zj (ZD (i:=4) (O':=[]) (Zn Zct (Zl Zk (Za 1) (Zc 0)) (Za 2))) (Zj (ZD (i:=5) (O':=[]) (ZR ZaT (Zn Zct (Za 3) (Za 2)) (Zt Zr9 (Zb (Zn Zct (Zl Zk (Za 0) (Zc 0)) (Za 2)) (Zb (Za 4) Zd))))) (ZB (Zt Zh2 (Zb (ZR ZaT (Zl Zk (Za 0) (Zc 0)) (Za 4)) (Zb (ZR Z5 (Zl Zk (Za 0) (Zc 1)) (ZR ZaT (Zl Zk (Za 0) (Zc 0)) (Za 5))) Zd)))))))))))⟩
def ZmT:=ZM 2 (XS.g ZfG)
def Zjt:=ZQ 2 (XS.q ZfG)
theorem ZmU: SimF false ZmT Zjt:=ZZ (XS.h ZfG)
def Zfr: XS [] [] [] false:=⟨_,_,(ZB (Zt Zh2 (Zb (Zt ZjT (Zb (Zl Zk (Za 0) (Zc 0)) (Zb (Zl Zk (Za 1) (Zc 0)) Zd))) (Zb (ZR Z5 (Zl Zk (Za 0) (Zc 1)) (Zl Zk (Za 1) (Zc 1))) Zd))))⟩
def Zi8:=ZM 2 (XS.g Zfr)
def Zg2:=ZQ 2 (XS.q Zfr)
theorem Zi9: SimF false Zi8 Zg2:=ZZ (XS.h Zfr)
def Zff: XS [] [] [] false:=⟨_,_,(ZB (Zt Zh2 (Zb (ZR ZaT (Zl Zk (Za 0) (Zc 0)) (Zad Zdc (Zb (Za 1) Zd))) (Zb (ZR ZaT (Zl Zk (Za 0) (Zc 1)) (Za 1)) Zd))))⟩
def ZiV:=ZM 2 (XS.g Zff)
def ZgU:=ZQ 2 (XS.q Zff)
theorem ZiW: SimF false ZiV ZgU:=ZZ (XS.h Zff)
def Zfg: XS [] [] [] false:=⟨_,_,(Zj (ZH (Zs (Zn Zam (Zl Zk (Za 0) (Zc 0)) (Zc 0))) (ZB (ZdU (Zs (Zn Zlo (Zl Zk (Za 0) (Zc 1)) (Za 1))) (E.sh (Zl Zk (Za 0) (Zc 1))) (E.sh (ZP)))) ZJ) (ZB (Zn Za5 (Za 1) (Zn ZaW (Zn Za5 (Za 1) (Zl Zk (Za 0) (Zc 1))) (Zl Zk (Za 0) (Zc 0))))))⟩
def Zl2:=ZM 2 (XS.g Zfg)
def ZiX:=ZQ 2 (XS.q Zfg)
theorem ZqE: SimF false Zl2 ZiX:=ZZ (XS.h Zfg)
def Zf5: XS [] [] [] false:=⟨_,_,(ZB (ZdU (Zs (Zt Zml (Zb (Za 0) (Zb (Za 1) Zd)))) (E.sh (Za 0)) (E.sh (Za 1))))⟩
def Zkj:=ZM 2 (XS.g Zf5)
def Zhr:=ZQ 2 (XS.q Zf5)
theorem ZnP: SimF false Zkj Zhr:=ZZ (XS.h Zf5)
def ZfH: XS [] [] [] false:=⟨_,_,(Zj (ZH (ZaS (Zs (Zn Za0 (Za 0) (ZP))) (ZaS (Zs (Zn Za0 (Za 1) (ZP))) Zce)) (ZB (ZP)) ZJ) (ZB (ZR Z5 (Za 0) (Za 1))))⟩
def ZmV:=ZM 2 (XS.g ZfH)
def Zju:=ZQ 2 (XS.q ZfH)
theorem Zec: SimF false ZmV Zju:=ZZ (XS.h ZfH)
def ZeU: XS [] [] [] true:=⟨_,_,(ZaG (ZcC (Gs.zip (Za 0) (Za 2)) (PutOk.two (i:=100) (j:=101)) (by decide) Zaf (E.flat (Zt ZnP (Zb (Za 100) (Zb (Zt Zec (Zb (Za 1) (Zb (Za 101) Zd))) Zd))))))⟩
def Zlz:=ZM 3 (XS.g ZeU)
def Zis:=ZQ 3 (XS.q ZeU)
theorem ZpF: SimF true Zlz Zis:=ZZ (XS.h ZeU)
def Zfs: XS [] [] [] true:=⟨_,_,(ZaG (ZcC (Gs.seq (Za 0)) (PutOk.one (j:=100)) (by decide) Zaf (Za9 ZpF (Zb (Za 100) (Zb (Zl Zk (Za 100) (Za 1)) (Zb (Zl Zk (Za 0) (Za 1)) Zd))))))⟩
def Zmm:=ZM 2 (XS.g Zfs)
def Zja:=ZQ 2 (XS.q Zfs)
theorem Zmn: SimF true Zmm Zja:=ZZ (XS.h Zfs)
def ZeY: XS [] [] [] false:=⟨_,_,(ZB (Zad Zvr (Zb (ZbH (Gs.range (Zb (Zad Zaz (Zb (Za 0) Zd)) Zd)) (PutOk.one (j:=100)) (by decide) Zaf (Zn ZbQ (Zl Zk (Zl Zk (Za 0) (Za 100)) (Za 100)) (Zc 0))) Zd)))⟩
def ZlH:=ZM 1 (XS.g ZeY)
def Ziw:=ZQ 1 (XS.q ZeY)
theorem ZlI: SimF false ZlH Ziw:=ZZ (XS.h ZeY)
def Zf6: XS [] [1] [] true:=⟨_,_,(Zj (ZD (i:=1) (O':=[]) (Za 0)) (Zj (Zvg (Gs.range (Zb (Zad Zaz (Zb (Za 0) Zd)) Zd)) (PutOk.one (j:=2)) (PutOk.one (j:=2)) (by decide) (by decide) (by decide) (Zj (Zb5 (i:=1) (O':=[1]) (Za9 Zmn (Zb (Za 1) (Zb (Za 2) Zd)))) (ZH (Zs (Zt ZlI (Zb (Za 1) Zd))) (ZaG (ZP)) ZJ)) (Zj (Zb5 (i:=1) (O':=[1]) (ZaK (O':=[]) (Za9 Zmn (Zb (Za 1) (Zb (Za 2) Zd))))) (ZH (Zs (Zt ZlI (Zb (Za 1) Zd))) (ZaG (ZP)) ZJ))) (ZaG (E.own (i:=1) (by decide)))))⟩
def Zes:=ZM 1 (XS.g Zf6)
def Zf7:=ZQ 1 (XS.q Zf6)
theorem Zs6: SimF true Zes Zf7:=ZZ (XS.h Zf6)
def Zft: XS [] [] [] false:=⟨_,_,(ZB ((ZdV (E.sh (Zdf (K:="int") (Za 0))) (E.sh (Zvp (Zdf (K:="bool") (Za 0)))))))⟩
def Zmo:=ZM 1 (XS.g Zft)
def Zjb:=ZQ 1 (XS.q Zft)
theorem Zjc: SimF false Zmo Zjb:=ZZ (XS.h Zft)
def ZfI: XS [] [] [] false:=⟨_,_,(Zj (ZH (ZaS (Zb4 (Zs (Zdf (K:="list") (Za 0)))) (ZaS (Zs (Zn Zbb (Zad Zaz (Zb (Za 0) Zd)) (Za 1))) Zce)) (ZB (E.bool false)) ZJ) (Zj (ZaX (Gs.range (Zb (Za 1) Zd)) (PutOk.one (j:=2)) (by decide) (by decide) (Zj (ZH (ZaS (Zb4 (Zs (Zdf (K:="list") (Zl Zk (Za 0) (Za 2))))) (ZaS (Zs (Zn Zbb (Zad Zaz (Zb (Zl Zk (Za 0) (Za 2)) Zd)) (Za 1))) Zce)) (ZB (E.bool false)) ZJ) (Zj (ZaX (Gs.seq (Zl Zk (Za 0) (Za 2))) (PutOk.one (j:=3)) (by decide) (by decide) (ZH (Zak (Zs (Zn Zbu (Za 3) (ZP))) (Zak (Zb4 (Zs (Zt Zjc (Zb (Za 3) Zd)))) Zaf)) (ZB (E.bool false)) ZJ)) (ZH (Zs (Zn Zbb (Zl Zk (Zl Zk (Za 0) (Za 2)) (Za 2)) (Zc 0))) (ZB (E.bool false)) ZJ)))) (ZB (E.bool true))))⟩
def ZmW:=ZM 2 (XS.g ZfI)
def Zjv:=ZQ 2 (XS.q ZfI)
theorem Zro: SimF false ZmW Zjv:=ZZ (XS.h ZfI)
def ZeZ: XS [] [] [] false:=⟨_,_,(ZB (E.tup (Zb (Zt Zec (Zb (Zl Zk (Za 0) (Zc 0)) (Zb (Zl Zk (Za 1) (Zc 0)) Zd))) (Zb (Zt Zec (Zb (Zl Zk (Za 0) (Zc 1)) (Zb (Zl Zk (Za 1) (Zc 1)) Zd))) Zd))))⟩
def ZlJ:=ZM 2 (XS.g ZeZ)
def Zix:=ZQ 2 (XS.q ZeZ)
theorem ZpX: SimF false ZlJ Zix:=ZZ (XS.h ZeZ)
def Zfu: XS [] [] [] false:=⟨_,_,(Zj (ZH (Zs (Zn Za0 (Za 0) (ZP))) (ZB (ZP)) ZJ) (ZB (ZR ZaT (Za 0) (Za 1))))⟩
def Zmp:=ZM 2 (XS.g Zfu)
def Zjd:=ZQ 2 (XS.q Zfu)
theorem Zg3: SimF false Zmp Zjd:=ZZ (XS.h Zfu)
def ZeV: XS [] [] [] false:=⟨_,_,(Zj (ZH (Zs (Zn Zam (Za 1) (Zc 0))) (ZB (E.tup (Zb (Zc 0) (Zb (Zc 0) Zd)))) ZJ) (Zj (ZD (i:=2) (O':=[]) (Zt Zg3 (Zb (Zl Zk (Za 0) (Zc 0)) (Zb (Za 1) Zd)))) (Zj (ZD (i:=3) (O':=[]) (Zt Zg3 (Zb (Zl Zk (Za 0) (Zc 1)) (Zb (Za 1) Zd)))) (Zj (ZH (Zs (Zn ZbQ (Za 1) (Zc 0))) (ZB (E.tup (Zb (Za 3) (Zb (Za 2) Zd)))) ZJ) (ZB (E.tup (Zb (Za 2) (Zb (Za 3) Zd))))))))⟩
def ZlA:=ZM 2 (XS.g ZeV)
def Zit:=ZQ 2 (XS.q ZeV)
theorem ZpG: SimF false ZlA Zit:=ZZ (XS.h ZeV)
def Ze5: XS [] [] [] false:=⟨_,_,(Zj (ZD (i:=2) (O':=[]) (E.tup (Zb (Zl Zk (Za 0) (Zc 0)) (Zb (Zl Zk (Za 0) (Zc 0)) Zd)))) (Zj (ZaX (Gs.zip (ZeE (k:=1) (Za 0)) (Za 1)) (PutOk.two (i:=3) (j:=4)) (by decide) (by decide) (ZD (i:=2) (O':=[]) (Zt ZpX (Zb (Za 2) (Zb (Zt ZpG (Zb (Za 4) (Zb (Za 3) Zd))) Zd))))) (ZB (Za 2))))⟩
def ZlQ:=ZM 2 (XS.g Ze5)
def ZiG:=ZQ 2 (XS.q Ze5)
theorem Zqe: SimF false ZlQ ZiG:=ZZ (XS.h Ze5)
def Zhb: XS [] [] [] false:=⟨_,_,(Zj (ZD (i:=2) (O':=[]) (E.tup (Zb (Zc 0) (Zb (Zl Zk (Za 0) (Zc 0)) Zd)))) (Zj (ZaX (Gs.zip (ZeE (k:=1) (Za 0)) (Za 1)) (PutOk.two (i:=3) (j:=4)) (by decide) (by decide) (ZD (i:=2) (O':=[]) (Zt Zi9 (Zb (Za 2) (Zb (Zt ZiW (Zb (Za 4) (Zb (Za 3) Zd))) Zd))))) (ZB (Za 2))))⟩
def ZmX:=ZM 2 (XS.g Zhb)
def Zrp:=ZQ 2 (XS.q Zhb)
theorem Zhc: SimF false ZmX Zrp:=ZZ (XS.h Zhb)
def ZfX: XS [] [] [] false:=⟨_,_,(ZB ((ZdV (E.sh (Zn Zbu (Za 0) (ZP))) (ZdV (E.sh (Zn Zbu (Za 1) (ZP))) (E.sh (Zn ZcN (Za 0) (Za 1)))))))⟩
def Znl:=ZM 2 (XS.g ZfX)
def ZfY:=ZQ 2 (XS.q ZfX)
theorem Zsa: SimF false Znl ZfY:=ZZ (XS.h ZfX)
def Ze6: XS [] [] [] false:=⟨_,_,(ZB (ZR Z5 (E.list (Zb (E.tup (Zb (Zc 0) (Zb (Zc 0) Zd))) Zd)) (Za 0)))⟩
def Ze7:=ZM 1 (XS.g Ze6)
def Ze8:=ZQ 1 (XS.q Ze6)
theorem ZiH: SimF false Ze7 Ze8:=ZZ (XS.h Ze6)
def Ze0: XS [] [] [] false:=⟨_,_,(Zj (ZD (i:=3) (O':=[]) (Zl Zk (Za 1) (Za 2))) (Zj (ZaX (Zt3 (Za 1)) (PutOk.two (i:=4) (j:=5)) (by decide) (by decide) (ZH (Zak (Zs (Zn Zbu (Za 3) (ZP))) (Zak (Zs (Zn Zam (Zt Zec (Zb (Zl Zk (Zl Zk (Za 0) (Za 2)) (Za 4)) (Zb (Zl Zk (Zl Zk (Za 0) (Za 4)) (Za 2)) Zd))) (Zc 0))) Zaf)) (ZD (i:=3) (O':=[]) (Zt ZmU (Zb (Za 3) (Zb (Zt Zi9 (Zb (Za 5) (Zb (E.tup (Zb (Zc 0) (Zb (Zl Zk (Zl Zk (Za 0) (Za 2)) (Za 4)) Zd))) Zd))) Zd)))) ZJ)) (ZB (Za 3))))⟩
def Ze1:=ZM 3 (XS.g Ze0)
def ZdB:=ZQ 3 (XS.q Ze0)
theorem ZlK: SimF false Ze1 ZdB:=ZZ (XS.h Ze0)
def Ze9: Sm:=Z6 (sIf (Zai (Zx oIs (Zo 0) (Zas))) (Zat (Zas)) ZaL) (Z6 (Zaw 1 (Z2 Ze7 (Zw (Zx ZY (Zo 0) (ZL 1)) Z0))) (Z6 (Zaw 2 (Zbe (Zb3 (Zw (ZL 1) (Zw (Z2 Zca (Zw (Zo 1) Z0)) Z0))) (put1 100) Zby (Z2 Ze1 (Zw (Zx ZY (Zo 0) (ZL 0)) (Zw (Zo 1) (Zw (Zo 100) Z0)))))) (Z6 (sIf (Zai (Zx oIn (Zas) (Zo 2))) (Zat (Zas)) ZaL) (Zat (ZcK (Zw (Zx ZY (Zo 0) (ZL 0)) (Zw (Zo 2) Z0)))))))
def Zdj:=ZM 1 Ze9
def Zfa: PS:=(Z1 (qIf (Z9 (Zp qIs (Zf 0) (Zau))) (Zaq (Zau)) ZaC) (Z1 (Zar 1 (ZW Ze8 (Zq (Zp ZE (Zf 0) (Zv 1)) ZF))) (Z1 (Zar 2 (Zav (Zbw (Zq (Zv 1) (Zq (ZW Zbg (Zq (Zf 1) ZF)) ZF))) (Zaa 100) Zan (ZW ZdB (Zq (Zp ZE (Zf 0) (Zv 0)) (Zq (Zf 1) (Zq (Zf 100) ZF)))))) (Z1 (qIf (Z9 (Zp qIn (Zau) (Zf 2))) (Zaq (Zau)) ZaC) (Zaq (ZcX (Zq (Zp ZE (Zf 0) (Zv 0)) (Zq (Zf 2) ZF))))))))
def ZcZ:=ZQ 1 Zfa
theorem Zqf: SimF false Zdj ZcZ:=ZZ (show S [] [] [] false Ze9 Zfa from(Zj (ZH (Zs (Zn Za0 (Za 0) (ZP))) (ZB (ZP)) ZJ) (Zj (ZD (O':=[]) (Zt ZiH (Zb (Zl Zk (Za 0) (Zc _)) Zd))) (Zj (ZD (O':=[]) (ZbH (Gs.range (Zb (Zc _) (Zb (Zad Zaz (Zb (Za 1) Zd)) Zd))) PutOk.one (by decide) Zaf (Zt ZlK (Zb (Zl Zk (Za 0) (Zc _)) (Zb (Za 1) (Zb (Za 100) Zd)))))) (Zj (ZH (Zs (Zn ZeR (ZP) (Za 2))) (ZB (ZP)) ZJ) (ZB (E.tup (Zb (Zl Zk (Za 0) (Zc _)) (Zb (Za 2) Zd)))))))))
def Zh3: Sm:=Z6 (sIf (Zai (Zx oIs (Zo 0) (Zas))) (Zat (Zas)) ZaL) (Z6 (Zaw 1 (Z2 Zes (Zw (Zx ZY (Zo 0) (ZL 0)) Z0))) (Z6 (sIf (Zai (Zx oIs (Zo 1) (Zas))) (Zat (Zas)) ZaL) (Zat (ZcK (Zw (Zo 1) (Zw (Zx ZY (Zo 0) (ZL 1)) Z0))))))
def Zdp:=ZM 1 Zh3
def Zh4: PS:=(Z1 (qIf (Z9 (Zp qIs (Zf 0) (Zau))) (Zaq (Zau)) ZaC) (Z1 (Zar 1 (ZW Zf7 (Zq (Zp ZE (Zf 0) (Zv 0)) ZF))) (Z1 (qIf (Z9 (Zp qIs (Zf 1) (Zau))) (Zaq (Zau)) ZaC) (Zaq (ZcX (Zq (Zf 1) (Zq (Zp ZE (Zf 0) (Zv 1)) ZF)))))))
def Zdq:=ZQ 1 Zh4
def ZkU: Sm:=Zat (Z2 Zdj (Zw (Z2 Zdp (Zw (Zo 0) Z0)) Z0))
def Zh5:=ZM 1 ZkU
def Zh6: PS:=(Zaq (ZW ZcZ (Zq (ZW Zdq (Zq (Zf 0) ZF)) ZF)))
def Zgf: T→Bool
 | .none=>true
 | .tup [_,.lst ts]=>T.flats ts
 | _=>false
def Zgq: List T→Option T:=fun ts=>(ZQ 1 Zh6 ts).bind fun t=>if Zgf t then some t else none
theorem Zo8(hp:0<H.length)(r:RF H a t F): St ⟨H,[],fun x=>x∈F⟩ [] (fun i=>[a][i]?) (fun i=>[t][i]?) H (fun _=>F):=by
 refine⟨fun i u e=>?_,fun i u e x m=>.inr m,fun i hi=>(nomatch hi),Nat.le_refl _,fun x _ _=>rfl,hp,by simp⟩
 cases i with
 | zero=>cases e;exact⟨a,rfl,r⟩
 | succ i=>simp at e
theorem Zoq(e:ρ 0=some a)(r:RF H a t F)(ht:t≠.none): sIf (Zai (Zx oIs (Zo 0) (Zas))) (Zat (Zas)) ZaL ρ H=some (none,ρ,H):=by
 cases r <;> first | exact absurd rfl ht | simp[sIf,Zai,Zx,Zo,e,Zas,oIs,Zcg,ZaL]
theorem Zor(e:σ 0=some t)(ht:t≠.none): qIf (Z9 (Zp qIs (Zf 0) (Zau))) (Zaq (Zau)) ZaC σ=some (none,σ):=by
 cases t <;> first | exact absurd rfl ht | simp[qIf,Z9,Zp,Zf,e,Zau,qIs,Zbv,ZaC]
theorem Zos(e:σ 0=some .none): qIf (Z9 (Zp qIs (Zf 0) (Zau))) (Zaq (Zau)) ZaC σ=some (some .none,σ):=by
 simp[qIf,Z9,Zp,Zf,e,Zau,qIs,Zbv,Zaq]
theorem Zls{a b:PS}{σ1:TL}(h:a σ=some (none,σ1)): Z1 a b σ=b σ1:=by simp only[Z1,h,Option.bind_some]
theorem Zpz{a b:PS}{σ1:TL}(h:a σ=some (some t,σ1)): Z1 a b σ=some (some t,σ1):=by simp only[Z1,h,Option.bind_some]
theorem ZdZ{a b:Sm}{ρ1:Lc}{H1:Hp}(h:a ρ H=some (none,ρ1,H1)): Z6 a b ρ H=b ρ1 H1:=by simp only[Z6,h,Option.bind_some]
theorem ZvD{a b:Sm}{ρ1:Lc}{H1:Hp}{v:V}(h:a ρ H=some (some v,ρ1,H1)): Z6 a b ρ H=some (some v,ρ1,H1):=by simp only[Z6,h,Option.bind_some]
theorem Zrq{u:T}(hp:0<H.length)(r:RF H a t F)(h:Zdq [t]=some u):
  (u=.none∧∃X,Zdp [a] H=some (.none,H++X))∨∃w0 v1 u0 u1 X F0 F1,u=.tup [u0,u1]∧Zdp [a] H=some (.tup [w0,v1],H++X)∧RF (H++X) w0 u0 F0∧F0.Nodup∧(∀x∈F0,H.length≤x)∧RF (H++X) v1 u1 F1:=by
 have st:=Zo8 hp r
 unfold Zdq ZQ at h
 simp only[List.length_cons,List.length_nil,Nat.zero_add,if_true]at h
 obtain⟨r1,h,h0⟩:=Zz1.mp h
 unfold Zh4 at h
 by_cases hn:t=.none
 ·subst hn
  rw[Zpz (Zos rfl)]at h
  cases h
  cases h0
  cases r
  exact .inl ⟨rfl,[],by simp[Zdp,ZM,Zh3,Z6,sIf,Zai,Zx,Zo,Zas,oIs,Zcg,Zat]⟩
 ·rw[Zls (Zor (σ:=fun i=>[t][i]?) rfl hn)]at h
  have ev:∀b:Sm,Z6 (sIf (Zai (Zx oIs (Zo 0) (Zas))) (Zat (Zas)) ZaL) b (fun i=>[a][i]?) H=b (fun i=>[a][i]?) H:=fun b=>ZdZ (Zoq rfl r hn)
  obtain⟨r2,h1',h⟩:=Zz0.mp h
  obtain⟨u0,h1,e1⟩:=Zz1.mp h1'
  subst e1
  have x1:E [] [] true (Z2 Zes (Zw (Zx ZY (Zo 0) (ZL 0)) Z0)) (ZW Zf7 (Zq (Zp ZE (Zf 0) (Zv 0)) ZF)):=Za9 Zs6 (Zb (Zl Zk (Za 0) (Zc _)) Zd)
  obtain⟨w0,X,F0,a1,a2,a3,a4⟩:=x1 _ _ _ _ _ _ st h1
  have new:∀x∈F0,H.length≤x:=fun x m=>(a3 x m).nil
  have e2:Zaw 1 (Z2 Zes (Zw (Zx ZY (Zo 0) (ZL 0)) Z0)) (fun i=>[a][i]?) H=some (none,upd (fun i=>[a][i]?) 1 w0,H++X):=by simp only[Zaw,a1,Option.map_some]
  simp only at h
  have ev2:∀b:Sm,Z6 (Zaw 1 (Z2 Zes (Zw (Zx ZY (Zo 0) (ZL 0)) Z0))) b (fun i=>[a][i]?) H=b (upd (fun i=>[a][i]?) 1 w0) (H++X):=fun b=>ZdZ e2
  have fin:∀o,Z6 (sIf (Zai (Zx oIs (Zo 1) (Zas))) (Zat (Zas)) ZaL) (Zat (ZcK (Zw (Zo 1) (Zw (Zx ZY (Zo 0) (ZL 1)) Z0)))) (upd (fun i=>[a][i]?) 1 w0) (H++X)=some o→Zdp [a] H=some (o.1.getD .none,o.2.2):=fun o ho=>by
   unfold Zdp ZM Zh3
   simp only[List.length_cons,List.length_nil,Nat.zero_add,if_true]
   rw[ev,ev2,ho]
   rfl
  by_cases hu:u0=.none
  ·subst hu
   cases a2
   obtain⟨r3,h2,h⟩:=Zz0.mp h
   have:r3=(some .none,ZN (fun i=>[t][i]?) 1 .none):=by
    have:=h2
    simp[qIf,Z9,Zp,Zf,ZN,Zau,qIs,Zbv,Zaq]at this
    exact this.symm
   subst this
   cases h
   cases h0
   refine .inl ⟨rfl,X,fin (some .none,upd (fun i=>[a][i]?) 1 .none,H++X) ?_⟩
   exact ZvD (by simp[sIf,Zai,Zx,Zo,upd,Zas,oIs,Zcg,Zat])
  ·have e3:sIf (Zai (Zx oIs (Zo 1) (Zas))) (Zat (Zas)) ZaL (upd (fun i=>[a][i]?) 1 w0) (H++X)=some (none,upd (fun i=>[a][i]?) 1 w0,H++X):=by
    cases a2 <;> first | exact(hu rfl).elim | simp[sIf,Zai,Zx,Zo,upd,Zas,oIs,Zcg,ZaL]
   have e4:qIf (Z9 (Zp qIs (Zf 1) (Zau))) (Zaq (Zau)) ZaC (ZN (fun i=>[t][i]?) 1 u0)=some (none,ZN (fun i=>[t][i]?) 1 u0):=by
    cases u0 <;> first | exact(hu rfl).elim | simp[qIf,Z9,Zp,Zf,ZN,Zau,qIs,Zbv,ZaC]
   rw[Zls e4]at h
   obtain⟨u',h5,h6⟩:=Zz1.mp h
   subst h6
   obtain⟨us,h7,h8⟩:=Zz1.mp h5
   subst h8
   obtain⟨q0,g1,h9⟩:=Zz0.mp h7
   obtain⟨qs,g2,h10⟩:=Zz0.mp h9
   cases h10
   obtain⟨q1,g3,g6⟩:=Zz0.mp g2
   obtain⟨qs',g4,g7⟩:=Zz0.mp g6
   cases g7
   cases g4
   have eq0:q0=u0:=by
    have:ZN (fun i=>[t][i]?) 1 u0 1=some q0:=g1
    simp[ZN]at this
    exact this.symm
   subst eq0
   have g5:ZE t (.int 1)=some q1:=by
    have:=g3
    simpa [Zp,Zf,ZN,Zv]using this
   obtain⟨v1,F1,b1,b2,b3⟩:=Zk _ _ _ _ _ _ _ _ (r.ext X) (RF.int (H:=H++X) 1) g5
   cases h0
   refine .inr ⟨w0,v1,q0,q1,X,F0,F1,rfl,fin (some (.tup [w0,v1]),upd (fun i=>[a][i]?) 1 w0,H++X) ?_,a2,a4 rfl,new,b2⟩
   rw[ZdZ e3]
   simp[Zat,ZcK,Zw,Zo,upd,Zx,ZL,b1,Z0,ZaP]
theorem Znm{put:T→TL→Option TL}{f:PE}{σ:TL}: ∀{ts us:List T},ZbT put Zan f σ ts=some us→T.flats us=true→ZbT put Zan (ZcT f) σ ts=some us
 | [],_,h,_=>h
 | t::ts,us,h,hf=>by
  obtain⟨σ1,h1,h⟩:=Zz0.mp h
  simp only[Zan,Option.bind_some,if_true]at h
  obtain⟨x,h2,h⟩:=Zz0.mp h
  obtain⟨xs,h3,h⟩:=Zz1.mp h
  subst h
  simp only[T.flats,Bool.and_eq_true]at hf
  simp only[ZbT,h1,Option.bind_some,Zan,if_true,ZcT,h2,hf.1,Znm h3 hf.2,Option.map_some]
theorem ZmY{u:T}(hp:0<H.length)(r:RF H a t F)(h:ZcZ [t]=some u)(ok:Zgf u=true):
  (u=.none∧∃X,Zdj [a] H=some (.none,H++X))∨∃w0 w1 u0 u1 X F1,u=.tup [u0,u1]∧ZY a (.int 0) H=some (w0,H)∧ZE t (.int 0)=some u0∧Zdj [a] H=some (.tup [w0,w1],H++X)∧RF (H++X) w1 u1 F1∧F1.Nodup∧(∀x∈F1,H.length≤x):=by
 have st:=Zo8 hp r
 have hfull:=h
 unfold ZcZ ZQ at h
 simp only[List.length_cons,List.length_nil,Nat.zero_add,if_true]at h
 obtain⟨r1,h,h0⟩:=Zz1.mp h
 unfold Zfa at h
 by_cases hn:t=.none
 ·subst hn
  rw[Zpz (Zos rfl)]at h
  cases h
  cases h0
  cases r
  exact .inl ⟨rfl,[],by simp[Zdj,ZM,Ze9,Z6,sIf,Zai,Zx,Zo,Zas,oIs,Zcg,Zat]⟩
 ·rw[Zls (Zor (σ:=fun i=>[t][i]?) rfl hn)]at h
  have ev:∀b:Sm,Z6 (sIf (Zai (Zx oIs (Zo 0) (Zas))) (Zat (Zas)) ZaL) b (fun i=>[a][i]?) H=b (fun i=>[a][i]?) H:=fun b=>ZdZ (Zoq rfl r hn)
  obtain⟨r2,h1',h⟩:=Zz0.mp h
  obtain⟨t1,h1,e1⟩:=Zz1.mp h1'
  subst e1
  have x1:E [] ([0]++[]) false (Z2 Ze7 (Zw (Zx ZY (Zo 0) (ZL 1)) Z0)) (ZW Ze8 (Zq (Zp ZE (Zf 0) (Zv 1)) ZF)):=Zt ZiH (Zb (Zl Zk (Za 0) (Zc _)) Zd)
  obtain⟨v1,X1,Fr,a1,a2,a3,_⟩:=x1 _ _ _ _ _ _ st h1
  have st1:=(st.ext X1).put (j:=1) (by simp) a2 (fun x m=>st.from_src (a3 x m)) (fun i hi=>(nomatch hi))
  have ev1:∀b:Sm,Z6 (Zaw 1 (Z2 Ze7 (Zw (Zx ZY (Zo 0) (ZL 1)) Z0))) b (fun i=>[a][i]?) H=b (upd (fun i=>[a][i]?) 1 v1) (H++X1):=fun b=>ZdZ (by simp only[Zaw,a1,Option.map_some])
  simp only at h
  obtain⟨r3,h2',h⟩:=Zz0.mp h
  obtain⟨t2,h2,e2⟩:=Zz1.mp h2'
  subst e2
  simp only at h
  generalize hσ:ZN (fun i=>[t][i]?) 1 t1=σ1 at *
  generalize hρ:upd (fun i=>[a][i]?) 1 v1=ρ1 at *
  have hρ0:ρ1 0=some a:=by rw[←hρ];simp[upd]
  have hσ0:σ1 0=some t:=by rw[←hσ];simp[ZN]
  have x2:∀ts,T.flats ts=true→Zav (Zbw (Zq (Zv 1) (Zq (ZW Zbg (Zq (Zf 1) ZF)) ZF))) (Zaa 100) Zan (ZW ZdB (Zq (Zp ZE (Zf 0) (Zv 0)) (Zq (Zf 1) (Zq (Zf 100) ZF)))) σ1=some (.lst ts)→∃w X G,Zbe (Zb3 (Zw (ZL 1) (Zw (Z2 Zca (Zw (Zo 1) Z0)) Z0))) (put1 100) Zby (Z2 Ze1 (Zw (Zx ZY (Zo 0) (ZL 0)) (Zw (Zo 1) (Zw (Zo 100) Z0)))) ρ1 (H++X1)=some (w,H++X1++X)∧RF (H++X1++X) w (.lst ts) G∧G.Nodup∧∀x∈G,(H++X1).length≤x:=fun ts hf he=>by
   have y:E [] [] true (Zbe (Zb3 (Zw (ZL 1) (Zw (Z2 Zca (Zw (Zo 1) Z0)) Z0))) (put1 100) Zby (Z2 Ze1 (Zw (Zx ZY (Zo 0) (ZL 0)) (Zw (Zo 1) (Zw (Zo 100) Z0))))) (Zav (Zbw (Zq (Zv 1) (Zq (ZW Zbg (Zq (Zf 1) ZF)) ZF))) (Zaa 100) Zan (ZcT (ZW ZdB (Zq (Zp ZE (Zf 0) (Zv 0)) (Zq (Zf 1) (Zq (Zf 100) ZF)))))):=ZcC (Gs.range (Zb (Zc _) (Zb (Zad Zaz (Zb (Za 1) Zd)) Zd))) PutOk.one (by decide) Zaf (E.flat (Zt ZlK (Zb (Zl Zk (Za 0) (Zc _)) (Zb (Za 1) (Zb (Za 100) Zd)))))
   have he2:Zav (Zbw (Zq (Zv 1) (Zq (ZW Zbg (Zq (Zf 1) ZF)) ZF))) (Zaa 100) Zan (ZcT (ZW ZdB (Zq (Zp ZE (Zf 0) (Zv 0)) (Zq (Zf 1) (Zq (Zf 100) ZF))))) σ1=some (.lst ts):=by
    obtain⟨zs,g1,g2⟩:=Zz0.mp he
    split at g2
    ·rename_i hl
     obtain⟨us,g3,g4⟩:=Zz1.mp g2
     cases g4
     simp only[Zav,g1,Option.bind_some]
     rw[if_pos hl,Znm g3 hf]
     rfl
    ·cases g2
   obtain⟨w,X,G,b1,b2,b3,b4⟩:=y _ _ _ _ _ _ st1 he2
   exact⟨w,X,G,b1,b2,b4 rfl,fun x m=>(b3 x m).nil⟩
  obtain⟨ts,rfl⟩:∃ts,t2=.lst ts:=by
   obtain⟨zs,g1,g2⟩:=Zz0.mp h2
   split at g2
   ·obtain⟨us,g3,g4⟩:=Zz1.mp g2
    exact⟨us,g4.symm⟩
   ·cases g2
  by_cases hu:u=.none
  ·subst hu
   obtain⟨v,X,G,c1,c2,_⟩:=Zqf H [a] [t] .none F hp (RFs.one r) hfull
   cases c2
   exact .inl ⟨rfl,X,c1⟩
  ·obtain⟨r4,h3,h⟩:=Zz0.mp h
   obtain⟨b,h4,h5⟩:=Zz0.mp h3
   cases b with
   | true=>
    simp only[if_true]at h5
    cases h5
    cases h
    cases h0
    exact absurd rfl hu
   | false=>
    cases h5
    simp only at h
    obtain⟨u',h6,h7⟩:=Zz1.mp h
    subst h7
    obtain⟨us,h8,h9⟩:=Zz1.mp h6
    subst h9
    obtain⟨q0,g1,h10⟩:=Zz0.mp h8
    obtain⟨qs,g2,h11⟩:=Zz0.mp h10
    cases h11
    obtain⟨q1,g3,g6⟩:=Zz0.mp g2
    obtain⟨qs',g4,g7⟩:=Zz0.mp g6
    cases g7
    cases g4
    have eq1:q1=.lst ts:=by
     have:ZN σ1 2 (.lst ts) 2=some q1:=g3
     simp[ZN]at this
     exact this.symm
    subst eq1
    have g5:ZE t (.int 0)=some q0:=by
     have:=g1
     simpa [Zp,Zf,ZN,Zv,hσ0]using this
    cases h0
    obtain⟨w,X,G,b1,b2,b3,b4⟩:=x2 ts ok h2
    obtain⟨w0,F0,i1,i2,i3⟩:=Zk _ _ _ _ _ _ _ _ r (RF.int (H:=H) 0) g5
    have st2:=(st1.ext X).put (j:=2) (by simp) b2 (fun x m=>.inl (by have:=b4 x m;simp at this;show H.length≤x;omega)) (fun i hi=>(nomatch hi))
    have bt:Bt [] (Zai (Zx oIn (Zas) (Zo 2))) (Z9 (Zp qIn (Zau) (Zf 2))):=Zs (Zn ZeR ZP (Za 2))
    obtain⟨Y,k1⟩:=bt _ _ _ _ _ _ st2 h4
    refine .inr ⟨w0,w,q0,.lst ts,X1++X++Y,G,rfl,i1,g5,?_,by rw[←List.append_assoc,←List.append_assoc];exact b2.ext Y,b3,fun x m=>by have:=b4 x m;simp at this;omega⟩
    unfold Zdj ZM Ze9
    simp only[List.length_cons,List.length_nil,Nat.zero_add,if_true]
    rw[ev,ev1,ZdZ (ρ1:=upd ρ1 2 w) (H1:=H++X1++X) (by simp only[Zaw,b1,Option.map_some]),ZdZ (ρ1:=upd ρ1 2 w) (H1:=H++X1++X++Y) (by simp only[sIf,k1,Option.bind_some];rfl)]
    have hidx:=(ZjP i1 (X1++X++Y)).2
    have hr:(upd ρ1 2 w) 0=some a:=by simp[upd,hρ0]
    have h2w:(upd ρ1 2 w) 2=some w:=by simp[upd]
    simp only[←List.append_assoc]at hidx ⊢
    generalize H++X1++X++Y=K at *
    have e5:ZcK (Zw (Zx ZY (Zo 0) (ZL 0)) (Zw (Zo 2) Z0)) (upd ρ1 2 w) K=some (.tup [w0,w],K):=by
     simp only[ZcK,Zw,Zx,Zo,hr,h2w,ZL,Z0,Option.map_some,Option.bind_some,hidx]
     rw[if_pos (by rw[ZaP];simp)]
    simp only[Zat,e5,Option.map_some]
    rfl
theorem Zo9: SimF true Zh5 Zgq:=fun H vs ts t F1 hp r h=>by
 obtain⟨t',h1,h2⟩:=Zz0.mp h
 by_cases ok:Zgf t'=true
 ·rw[if_pos ok]at h2
  cases h2
  unfold ZQ at h1
  split at h1
  ·rename_i hl
   obtain⟨t0,rfl⟩:∃t0,ts=[t0]:=List.length_eq_one_iff.mp hl
   obtain⟨a,rfl,r0⟩:=r.one_inv
   obtain⟨r1,h3,h4⟩:=Zz1.mp h1
   obtain⟨u,h5,h6⟩:=Zz1.mp h3
   subst h6
   cases h4
   obtain⟨us,h7,h8⟩:=Zz0.mp h5
   obtain⟨q0,g1,h9⟩:=Zz0.mp h7
   obtain⟨qs,g2,h10⟩:=Zz0.mp h9
   cases h10
   cases g2
   have g3:Zdq [t0]=some q0:=by
    have:=g1
    simpa [ZW,Zq,Zf,ZF]using this
   have g4:ZcZ [q0]=some u:=h8
   have run:∀v1 X1 v2 X2,Zdp [a] H=some (v1,H++X1)→Zdj [v1] (H++X1)=some (v2,H++X1++X2)→Zh5 [a] H=some (v2,H++(X1++X2)):=fun v1 X1 v2 X2 e1 e2=>by
    simp[Zh5,ZM,ZkU,Zat,Z2,Zw,Zo,Z0,e1,e2]
   rcases Zrq hp r0 g3 with⟨rfl,X,e1⟩ | ⟨w0,v1,u0,u1,X,F0,F2,rfl,e1,a1,a2,a3,a4⟩
   ·have hp2:0<(H++X).length:=by rw[List.length_append];omega
    rcases ZmY hp2 (.none (H:=H++X)) g4 ok with⟨rfl,Y,e2⟩ | ⟨_,_,_,_,_,_,_,e2,_⟩
    ·exact⟨.none,X++Y,[],run _ _ _ _ e1 e2,.none,by simp,by simp⟩
    ·cases e2
   ·have hp2:0<(H++X).length:=by rw[List.length_append];omega
    rcases ZmY hp2 (.tup (.cons a1 (.one a4))) g4 ok with⟨rfl,Y,e2⟩ | ⟨x0,w1,y0,y1,Y,F1',rfl,e3,e4,e2,b1,b2,b3⟩
    ·exact⟨.none,X++Y,[],run _ _ _ _ e1 e2,.none,by simp,by simp⟩
    ·have ex:x0=w0:=by
      have:ZY (.tup [w0,v1]) (.int 0) (H++X)=some (w0,H++X):=by simp[ZY,seqIndex?]
      rw[this]at e3
      cases e3
      rfl
     have ey:y0=u0:=by
      have:ZE (.tup [u0,u1]) (.int 0)=some u0:=by simp[ZE,seqIndex?]
      rw[this]at e4
      cases e4
      rfl
     subst ex ey
     have nd:(F0++F1').Nodup:=by
      rw[List.nodup_append]
      refine⟨a2,b2,fun x hx y hy e=>?_⟩
      have:=a1.lt x hx
      have:=b3 y hy
      omega
     have nw:∀x∈F0++F1',H.length≤x:=fun x m=>by
      rcases Zz8.mp m with m | m
      ·exact a3 x m
      ·have:=b3 x m;rw[List.length_append]at this;omega
     exact⟨.tup [x0,w1],X++Y,F0++F1',run _ _ _ _ e1 e2,by rw[←List.append_assoc];exact .tup (.cons (a1.ext Y) (.one b1)),fun x m=>.inl (nw x m),fun _=>⟨nd,nw⟩⟩
  ·cases h1
 ·rw[if_neg ok]at h2
  cases h2
def ZeW: XS [] [] [] false:=⟨_,_,(Zj (ZH (Zs (Zn Zbu (Za 0) (ZP))) (ZB (Zt ZqE (Zb (Za 1) (Zb (Za 0) Zd)))) ZJ) (Zj (ZH (Zs (Zn Zam (Zl Zk (Za 1) (Zc 0)) (Zc 0))) (ZB (Zl Zk (Za 1) (Zc 1))) ZJ) (ZB (ZP))))⟩
def Ziu:=ZM 2 (XS.g ZeW)
def ZgJ:=ZQ 2 (XS.q ZeW)
theorem ZpH: SimF false Ziu ZgJ:=ZZ (XS.h ZeW)
def ZiI: Sm:=Z6 (Zaw 3 (ZdR Z0)) (Z6 (ZbP (Zii (Zo 0) (Zo 2)) (ZcW 4 5) (Z6 (Zaw 6 (Z2 Ziu (Zw (Zo 4) (Zw (Z2 Zi8 (Zw (Zo 1) (Zw (Z2 ZiV (Zw (Zo 5) (Zw (eUn ZgD (ZL 1)) Z0))) Z0))) Z0)))) (Z6 (sIf (ZcV (Zai (Zx oIs (Zo 6) (Zas))) (ZcV (Zai (Zx ZhS (Zo 4) (Zas))) Zby)) (Zat (Zas)) ZaL) (Zcj (Zev (Zo 3) (Zo 6)))))) (Zat (Zo 3)))
def ZlR:=ZM 3 ZiI
def ZiJ: PS:=(Z1 (Zar 3 (ZcU ZF)) (Z1 (Zbh (Zip (Zf 0) (Zf 2)) (ZdX 4 5) (Z1 (Zar 6 (ZW ZgJ (Zq (Zf 4) (Zq (ZW Zg2 (Zq (Zf 1) (Zq (ZW ZgU (Zq (Zf 5) (Zq (pUn Zdg (Zv 1)) ZF))) ZF))) ZF)))) (Z1 (qIf (Zcb (Z9 (Zp qIs (Zf 6) (Zau))) (Zcb (Z9 (Zp ZdO (Zf 4) (Zau))) Zan)) (Zaq (Zau)) ZaC) (Zdh 3 [] Zba (ZcT (Zf 6)))))) (Zaq (Zf 3))))
def ZiK:=ZQ 3 ZiJ
theorem Zqg: SimF false ZlR ZiK:=ZZ (show S [] [3] [] false ZiI ZiJ from(Zj (Zb5 (O':=[3]) (E.list Zd)) (Zj (ZaX (Gs.zip (Za 0) (Za 2)) PutOk.two (by decide) (by decide) (Zj (ZD (O':=[3]) (Zt ZpH (Zb (Za 4) (Zb (Zt Zi9 (Zb (Za 1) (Zb (Zt ZiW (Zb (Za 5) (Zb (Zbm Zbn (Zc _)) Zd))) Zd))) Zd)))) (Zj (ZH (Zak (Zs (Zn Za0 (Za 6) (ZP))) (Zak (Zs (Zn Zbu (Za 4) (ZP))) Zaf)) (ZB (ZP)) ZJ) (Zgx (O':=[3]) (by decide) Za4 (ZaK (O':=[]) (E.flat (Za 6))) (by decide) (by decide))))) (ZB (Za 3)))))
def Zej: XS [] [] [] false:=⟨_,_,(Zj (ZH (Zs (Zn Za0 (Za 0) (ZP))) (ZB (ZP)) ZJ) (Zj (ZD (i:=1) (O':=[]) (Zt ZiH (Zb (Zl Zk (Za 0) (Zc 1)) Zd))) (Zj (ZD (i:=2) (O':=[]) (ZbH (Gs.zip (Zl Zk (Za 0) (Zc 0)) (Za 1)) (PutOk.two (i:=100) (j:=101)) (by decide) Zaf (Zt Zqg (Zb (Za 100) (Zb (Za 101) (Zb (Za 1) Zd)))))) (Zj (ZH (Zs (Zn ZeR (ZP) (Za 2))) (ZB (ZP)) ZJ) (ZB (E.tup (Zb (Za 2) (Zb (Zl Zk (Za 0) (Zc 1)) Zd))))))))⟩
def Znn:=ZM 1 (XS.g Zej)
def ZfZ:=ZQ 1 (XS.q Zej)
theorem Zsb: SimF false Znn ZfZ:=ZZ (XS.h Zej)
def Zgg: XS [] [] [] true:=⟨_,_,(ZaG (Za9 Zo9 (Zb (Zt Zsb (Zb (Zt Zo9 (Zb (Za 0) Zd)) Zd)) Zd)))⟩
def Zot:=ZM 1 (XS.g Zgg)
def Zgh:=ZQ 1 (XS.q Zgg)
theorem Zou: SimF true Zot Zgh:=ZZ (XS.h Zgg)
def ZeT: XS [] [2] [] false:=⟨_,_,(Zj (ZD (i:=1) (O':=[]) (Zad Zaz (Zb (Za 0) Zd))) (Zj (Zb5 (i:=2) (O':=[2]) (ZcC (Gs.seq (Za 0)) (PutOk.one (j:=100)) (by decide) Zaf (ZdI ZcB (Zb (Za 100) Zd)))) (Zj (ZD (i:=3) (O':=[2]) (Zc 1)) (Zj (Zez (Zs (Zn ZbQ (Za 3) (Za 1))) (Zj (ZD (i:=4) (O':=[2]) (ZaK (O':=[]) (ZcC (Gs.seq (Za 2)) (PutOk.one (j:=102)) (by decide) Zaf (ZdI ZcB (Zb (Za 102) Zd))))) (Zj (ZaX (Gs.range (Zb (Za 1) Zd)) (PutOk.one (j:=5)) (by decide) (by decide) (ZaX (Gs.range (Zb (Za 1) Zd)) (PutOk.one (j:=6)) (by decide) (by decide) (ZaX (Gs.range (Zb (Za 1) Zd)) (PutOk.one (j:=7)) (by decide) (by decide) (ZH (Zak (Zs (Zn Zbu (Zl Zk (Zl Zk (Za 4) (Za 5)) (Za 7)) (ZP))) (Zak (Zs (Zn Zbu (Zl Zk (Zl Zk (Za 4) (Za 7)) (Za 6)) (ZP))) Zaf)) (Zj (ZD (i:=8) (O':=[2]) (ZR Z5 (Zl Zk (Zl Zk (Za 4) (Za 5)) (Za 7)) (Zl Zk (Zl Zk (Za 4) (Za 7)) (Za 6)))) (ZH (ZaS (Zs (Zn Za0 (Zl Zk (Zl Zk (Za 2) (Za 5)) (Za 6)) (ZP))) (ZaS (Zs (Zn ZbQ (Za 8) (Zl Zk (Zl Zk (Za 2) (Za 5)) (Za 6)))) Zce)) (S.put (x:=2) (O':=[2]) (by decide) (ZaK (O':=[]) (E.flat (Za 8))) (Zch Za4 (Za 5)) (Za 6) (by decide) (by decide)) ZJ)) ZJ)))) (ZD (i:=3) (O':=[2]) (ZR ZaT (Zc 2) (Za 3))))) 1000000) (Zj (ZaX (Gs.range (Zb (Za 1) Zd)) (PutOk.one (j:=5)) (by decide) (by decide) (ZH (Zs (Zn ZbQ (Zl Zk (Zl Zk (Za 2) (Za 5)) (Za 5)) (Zc 0))) (ZB (ZP)) ZJ)) (ZB (Za 2)))))))⟩
def Zlv:=ZM 1 (XS.g ZeT)
def ZgI:=ZQ 1 (XS.q ZeT)
theorem Zlw: SimF false Zlv ZgI:=ZZ (XS.h ZeT)
def Zf0: XS [] [] [] false:=⟨_,_,(Zj (ZD (i:=2) (O':=[]) (Zl Zk (Za 0) (Zc 0))) (Zj (ZD (i:=3) (O':=[]) (Zl Zk (Za 1) (Zc 0))) (Zj (ZD (i:=4) (O':=[]) (Zc 1)) (Zj (ZD (i:=5) (O':=[]) (Zc 0)) (Zj (Zez (Zs (Zn Zbb (Za 3) (Zc 0))) (Zj (ZD (i:=6) (O':=[]) (Zn Zct (Za 2) (Za 3))) (Zj (ZD (i:=7) (O':=[]) (Zn Za5 (Za 2) (ZR ZaT (Za 6) (Za 3)))) (Zj (ZD (i:=2) (O':=[]) (Za 3)) (Zj (ZD (i:=3) (O':=[]) (Za 7)) (Zj (ZD (i:=7) (O':=[]) (Zn Za5 (Za 4) (ZR ZaT (Za 6) (Za 5)))) (Zj (ZD (i:=4) (O':=[]) (Za 5)) (ZD (i:=5) (O':=[]) (Za 7)))))))) 1000000) (Zj (ZD (i:=8) (O':=[]) (Zn Za5 (Zl Zk (Za 1) (Zc 1)) (Zl Zk (Za 0) (Zc 1)))) (Zj (ZH (Zs (Zn Zam (Za 2) (Zc 0))) (Zj (ZH (Zs (Zn Zbb (Za 8) (Zc 0))) (ZB (ZP)) ZJ) (ZB (Za 0))) ZJ) (Zj (ZH (Zs (Zn Zbb (Zn ZaW (Za 8) (Za 2)) (Zc 0))) (ZB (ZP)) ZJ) (ZB (Zt Ze4 (Zb (ZR ZaT (Zn Zct (Zl Zk (Za 0) (Zc 0)) (Za 2)) (Zl Zk (Za 1) (Zc 0))) (Zb (ZR Z5 (Zl Zk (Za 0) (Zc 1)) (ZR ZaT (ZR ZaT (Zl Zk (Za 0) (Zc 0)) (Za 4)) (Zn Zct (Za 8) (Za 2)))) Zd))))))))))))⟩
def Zno:=ZM 2 (XS.g Zf0)
def ZjV:=ZQ 2 (XS.q Zf0)
theorem Zsc: SimF false Zno ZjV:=ZZ (XS.h Zf0)
def Zfh: XS [] [3] [] false:=⟨_,_,(Zj (ZD (i:=2) (O':=[]) (ZR Z5 (E.list (Zb (E.tup (Zb (Zc 0) (Zb (Zc 0) Zd))) Zd)) (Za 1))) (Zj (Zb5 (i:=3) (O':=[3]) (ZkN Z5 (E.list (Zb (E.tup (Zb (Zc 0) (Zb (Zc 0) Zd))) Zd)) (Za 1))) (Zj (ZaX (Gs.range (Zb (Zc 1) (Zb (Zad Zaz (Zb (Za 2) Zd)) Zd))) (PutOk.one (j:=4)) (by decide) (by decide) (ZaX (Gs.range (Zb (Zad Zaz (Zb (Za 2) Zd)) Zd)) (PutOk.one (j:=5)) (by decide) (by decide) (Zj (ZD (i:=6) (O':=[3]) (Zl Zk (Zl Zk (Za 0) (Za 4)) (Za 5))) (ZH (Zak (Zs (Zn Zbb (Za 4) (Za 5))) (Zak (Zs (Zn Zbu (Za 6) (ZP))) (Zak (Zs (Zn Zam (Zl Zk (Zl Zk (Za 0) (Za 5)) (Za 4)) (Zbm Zbn (Za 6)))) (Zak (Zs (Zn Zbu (Zl Zk (Za 3) (Za 4)) (ZP))) Zaf)))) (S.put (x:=3) (O':=[3]) (by decide) (ZaK (O':=[]) (E.flat (Zt Zsc (Zb (Zl Zk (Za 3) (Za 4)) (Zb (Zt Ze4 (Zb (Zl Zk (Zl Zk (Za 2) (Za 5)) (Zc 0)) (Zb (ZR Z5 (Zl Zk (Zl Zk (Za 2) (Za 5)) (Zc 1)) (Za 6)) Zd))) Zd))))) Za4 (Za 4) (by decide) (by decide)) ZJ)))) (Zj (ZH (Zs (Zn ZeR (ZP) (Za 3))) (ZB (ZP)) ZJ) (ZB (ZeE (k:=1) (Za 3)))))))⟩
def Zl3:=ZM 2 (XS.g Zfh)
def ZiY:=ZQ 2 (XS.q Zfh)
theorem Zl4: SimF false Zl3 ZiY:=ZZ (XS.h Zfh)
def Zfb: XS [] [3] [] false:=⟨_,_,(Zj (ZD (i:=2) (O':=[]) (ZR Z5 (E.list (Zb (E.tup (Zb (Zc 0) (Zb (Zc 0) Zd))) Zd)) (Za 1))) (Zj (Zb5 (i:=3) (O':=[3]) (ZcC (Gs.seq (Za 0)) (PutOk.one (j:=100)) (by decide) Zaf (ZdI ZcB (Zb (Za 100) Zd)))) (Zj (ZaX (Gs.range (Zb (Zad Zaz (Zb (Za 2) Zd)) Zd)) (PutOk.one (j:=4)) (by decide) (by decide) (ZaX (Gs.range (Zb (Zad Zaz (Zb (Za 2) Zd)) Zd)) (PutOk.one (j:=5)) (by decide) (by decide) (Zj (ZD (i:=6) (O':=[3]) (Zt Zr8 (Zb (Zl Zk (Zl Zk (Za 2) (Za 4)) (Zc 0)) (Zb (Zl Zk (Zl Zk (Za 2) (Za 5)) (Zc 0)) Zd)))) (Zj (ZD (i:=7) (O':=[3]) (Zn Za5 (Zl Zk (Zl Zk (Za 2) (Za 4)) (Zc 1)) (Zl Zk (Zl Zk (Za 2) (Za 5)) (Zc 1)))) (Zj (ZD (i:=8) (O':=[3]) (Zl Zk (Zl Zk (Za 0) (Za 4)) (Za 5))) (ZH (Zak (Zs (Zn Zbb (Za 4) (Za 5))) (Zak (Zs (Zn Zam (Za 6) (Zc 0))) Zaf)) (Zj (ZH (Zak (Zs (Zn Zbu (Za 8) (ZP))) (Zak (Zs (Zn ZbQ (Za 8) (Za 7))) Zaf)) (ZB (ZP)) ZJ) (S.put (x:=3) (O':=[3]) (by decide) (ZaK (O':=[]) (E.flat (Za 7))) (Zch Za4 (Za 4)) (Za 5) (by decide) (by decide))) (ZH (Zak (Zs (Zn Zbb (Za 4) (Za 5))) (Zak (Zs (Zn Zbu (Za 8) (ZP))) Zaf)) (S.put (x:=3) (O':=[3]) (by decide) (ZaK (O':=[]) (Zn Za5 (Za 8) (Zn ZaW (Zn Za5 (Za 8) (Za 7)) (Za 6)))) (Zch Za4 (Za 4)) (Za 5) (by decide) (by decide)) ZJ))))))) (ZB (Za 3)))))⟩
def ZlS:=ZM 2 (XS.g Zfb)
def ZiL:=ZQ 2 (XS.q Zfb)
theorem Zqh: SimF false ZlS ZiL:=ZZ (XS.h Zfb)
def Zfv: XS [] [] [] false:=⟨_,_,(Zj (ZH (Zs (Zn Za0 (Za 0) (ZP))) (ZB (ZP)) ZJ) (Zj (ZD (i:=1) (O':=[]) (Zt Zlw (Zb (Zl Zk (Za 0) (Zc 0)) Zd))) (Zj (ZH (Zs (Zn Za0 (Za 1) (ZP))) (ZB (ZP)) ZJ) (Zj (ZD (i:=2) (O':=[]) (Zt Zl4 (Zb (Za 1) (Zb (Zl Zk (Za 0) (Zc 1)) Zd)))) (Zj (ZH (Zs (Zn Za0 (Za 2) (ZP))) (ZB (ZP)) ZJ) (Zj (ZD (i:=1) (O':=[]) (Zt Zqh (Zb (Za 1) (Zb (Za 2) Zd)))) (Zj (ZH (Zs (Zn Za0 (Za 1) (ZP))) (ZB (ZP)) ZJ) (Zj (ZD (i:=1) (O':=[]) (Zt Zlw (Zb (Za 1) Zd))) (Zj (ZH (Zs (Zn Za0 (Za 1) (ZP))) (ZB (ZP)) ZJ) (Zj (ZD (i:=2) (O':=[]) (Zt Zl4 (Zb (Za 1) (Zb (Za 2) Zd)))) (Zj (ZH (Zs (Zn Za0 (Za 2) (ZP))) (ZB (ZP)) ZJ) (ZB (E.tup (Zb (Za 1) (Zb (Za 2) Zd)))))))))))))))⟩
def Zmq:=ZM 1 (XS.g Zfv)
def Zfw:=ZQ 1 (XS.q Zfv)
theorem ZqZ: SimF false Zmq Zfw:=ZZ (XS.h Zfv)
def Zfx: XS [] [] [] false:=⟨_,_,(Zj (ZH (ZaS (Zb4 (Zs (Zdf (K:="tuple") (Za 0)))) (ZaS (Zs (Zn Zbb (Zad Zaz (Zb (Za 0) Zd)) (Zc 2))) (ZaS (Zb4 (Zs (Zt Zro (Zb (Zl Zk (Za 0) (Zc 0)) (Zb (ZR Z5 (Za 1) (Zc 1)) Zd))))) Zce))) (ZB (E.bool false)) ZJ) (Zj (ZH (ZaS (Zb4 (Zs (Zdf (K:="list") (Zl Zk (Za 0) (Zc 1))))) (ZaS (Zs (Zn Zbb (Zad Zaz (Zb (Zl Zk (Za 0) (Zc 1)) Zd)) (Za 1))) Zce)) (ZB (E.bool false)) ZJ) (Zj (ZaX (Gs.seq (Zl Zk (Za 0) (Zc 1))) (PutOk.one (j:=2)) (by decide) (by decide) (Zj (ZH (ZaS (Zb4 (Zs (Zdf (K:="tuple") (Za 2)))) (ZaS (Zs (Zn Zbb (Zad Zaz (Zb (Za 2) Zd)) (Zc 2))) Zce)) (ZB (E.bool false)) ZJ) (Zj (ZH (ZaS (Zb4 (Zs (Zt Zjc (Zb (Zl Zk (Za 2) (Zc 0)) Zd)))) (ZaS (Zb4 (Zs (Zt Zjc (Zb (Zl Zk (Za 2) (Zc 1)) Zd)))) Zce)) (ZB (E.bool false)) ZJ) (ZH (ZaS (Zs (Zn ZbQ (Zl Zk (Za 2) (Zc 0)) (Zc 0))) (ZaS (Zak (Zs (Zn ZcN (Zl Zk (Za 2) (Zc 0)) (Zc 0))) (Zak (Zb4 (Zs1 Zlo ZbQ (Zc 0) (Zl Zk (Za 2) (Zc 1)) (Zl Zk (Za 2) (Zc 0)))) Zaf)) Zce)) (ZB (E.bool false)) ZJ)))) (ZB (E.bool true)))))⟩
def Zmr:=ZM 2 (XS.g Zfx)
def Zje:=ZQ 2 (XS.q Zfx)
theorem Zq0: SimF false Zmr Zje:=ZZ (XS.h Zfx)
def Zed: XS [] [] [] false:=⟨_,_,(Zj (ZH (Zs (Zn Za0 (Za 1) (ZP))) (ZB (Zn Za0 (Za 0) (ZP))) ZJ) (ZB ((ZdV (E.sh (Zt Zq0 (Zb (Za 0) (Zb (Zad Zaz (Zb (Zl Zk (Za 1) (Zc 1)) Zd)) Zd)))) (E.sh (Zn Zam (Za 0) (Za 1)))))))⟩
def ZmZ:=ZM 2 (XS.g Zed)
def Zc1:=ZQ 2 (XS.q Zed)
theorem Zjw: SimF false ZmZ Zc1:=ZZ (XS.h Zed)
def Zkz(F:List V→Hp→Option (V×Hp)): Sm:=Z6 (sIf (Zai (eIs "list" (Zo 0))) (Zat (Zbe (ZcM (Zo 0)) (put1 100) Zby (Z2 F (Zw (Zo 100) Z0)))) ZaL) (Z6 (sIf (Zai (eIs "tuple" (Zo 0))) (Zat (Z2 Zex (Zw (Zbe (ZcM (Zo 0)) (put1 102) Zby (Z2 F (Zw (Zo 102) Z0))) Z0))) ZaL) (Zat (Zo 0)))
def Zet: Nat→List V→Hp→Option (V×Hp)
 | 0=>fun _ _=>none
 | n+1=>ZM 1 (Zkz (Zet n))
def Zov: List V→Hp→Option (V×Hp):=Zet 9
def ZeA(F:List T→Option T): PS:=(Z1 (qIf (Z9 (pIs "list" (Zf 0))) (Zaq (Zav (ZaM (Zf 0)) (Zaa 100) Zan (ZW F (Zq (Zf 100) ZF)))) ZaC) (Z1 (qIf (Z9 (pIs "tuple" (Zf 0))) (Zaq (ZW ZhA (Zq (Zav (ZaM (Zf 0)) (Zaa 102) Zan (ZW F (Zq (Zf 102) ZF))) ZF))) ZaC) (Zaq (ZcT (Zf 0)))))
def ZdH: Nat→List T→Option T
 | 0=>fun _=>none
 | n+1=>ZQ 1 (ZeA (ZdH n))
def Zow: List T→Option T:=ZdH 9
theorem Zkk: ∀n:Nat,SimF true (Zet n) (ZdH n)
 | 0=>Zr5
 | n+1=>ZZ (show S [] [] [] true (Zkz (Zet n)) (ZeA (ZdH n))from(Zj (ZH (Zs (Zdf (Za 0))) (ZaG (ZcC (Gs.seq (Za 0)) PutOk.one (by decide) Zaf (Za9 (Zkk n) (Zb (Za 100) Zd)))) ZJ) (Zj (ZH (Zs (Zdf (Za 0))) (ZaG (Zt6 Zs2 (Zeq (ZcC (Gs.seq (Za 0)) PutOk.one (by decide) Zaf (Za9 (Zkk n) (Zb (Za 102) Zd))) Zd (by decide) (by decide)))) ZJ) (ZaG (E.flat (Za 0))))))
theorem ZkA: SimF true Zov Zow:=Zkk 9
def ZgV: Sm:=sIf (Zai (Zx ZhS (Zo 0) (Zas))) (Z6 (ZcL (ZL 7) (Zx ZY (Zx ZY (Zo 0) (ZL 0)) (ZL 0)) (ZL 0)) (Z6 (Zcj (Zev (Zx ZY (Zo 0) (ZL 0)) (ZdR (Zw (ZL 7) Z0)))) (Zcj (Zev (Zx ZY (Zo 0) (ZL 1)) (ZcK (Zw (ZL 7) (Zw (ZL 7) Z0))))))) ZaL
def Zl5:=ZM 1 ZgV
def ZiZ: PS:=(qIf (Z9 (Zp ZdO (Zf 0) (Zau))) (Z1 (ZbX 0 [] (Zv 7) (Zc8 (Zc8 Zba (Zv 0)) (Zv 0)) (Zv 0)) (Z1 (Zdh 0 [] (Zc8 Zba (Zv 0)) (ZcU (Zq (Zv 7) ZF))) (Zdh 0 [] (Zc8 Zba (Zv 1)) (ZcX (Zq (Zv 7) (Zq (Zv 7) ZF)))))) ZaC)
def Zfi:=Zdz 1 ZiZ
theorem ZqF: SimM Zl5 Zfi:=ZhG (show S [0] [0] [0] false ZgV ZiZ from(ZH (Zs (Zn Zbu (Za 0) (ZP))) (Zj (S.put (O':=[0]) (by decide) (ZaK (O':=[]) (Zc _)) (Zch (Zch Za4 (Zc _)) (Zc _)) (Zc _) (by decide) (by decide)) (Zj (Zgx (O':=[0]) (by decide) (Zch Za4 (Zc _)) (ZaK (O':=[]) (E.list (Zeq (Zc _) Zd (by decide) (by decide)))) (by decide) (by decide)) (Zgx (O':=[0]) (by decide) (Zch Za4 (Zc _)) (ZaK (O':=[]) (E.tup (Zeq (Zc _) (Zeq (Zc _) Zd (by decide) (by decide)) (by decide) (by decide)))) (by decide) (by decide)))) ZJ)) (by decide) (by unfold ZgV;repeat' first | exact Keep0.next | exact Zhk | exact Keep0.ret | exact Keep0.put | apply Keep0.seq | apply Zhl | exact Keep0.set (by decide))
def Zhd: Sm:=ZcL (Z2 Zkj (Zw (Zx ZY (Zx ZY (Zo 0) (Zo 1)) (Zo 2)) (Zw (Zo 3) Z0))) (Zx ZY (Zo 0) (Zo 1)) (Zo 2)
def ZfJ:=ZM 4 Zhd
def Zjx: PS:=(ZbX 0 [] (ZcT (ZW Zhr (Zq (Zp ZE (Zp ZE (Zf 0) (Zf 1)) (Zf 2)) (Zq (Zf 3) ZF)))) (Zc8 Zba (Zf 1)) (Zf 2))
def Zee:=Zdz 4 Zjx
theorem Zjy: SimM ZfJ Zee:=ZhG (show S [0] [0] [0] false Zhd Zjx from(S.put (O':=[0]) (by decide) (ZaK (O':=[]) (E.flat (Zt ZnP (Zb (Zl Zk (Zl Zk (Za 0) (Za 1)) (Za 2)) (Zb (Za 3) Zd))))) (Zch Za4 (Za 1)) (Za 2) (by decide) (by decide))) (by decide) (by unfold Zhd;repeat' first | exact Keep0.next | exact Zhk | exact Keep0.ret | exact Keep0.put | apply Keep0.seq | apply Zhl | exact Keep0.set (by decide))
def ZjW: Sm:=Z6 (Zaw 3 (Zx Za6 (ZdR (Zw (Z2 ZiT (Zw (Zo 0) (Zw (Zo 1) Z0))) Z0)) (Zx Zdv (ZdR (Zw (ZL 0) Z0)) (Zo 2)))) (Z6 (Zaw 4 (Z2 Zdk (Zw (Zo 0) (Zw (Zo 1) (Zw (ZL 6) Z0))))) (Z6 (sIf (tOr (Zai (Zx oEq (Zo 4) (ZL 0))) (tOr (Zai (Zx oEq (Zo 2) (ZL 0))) Zgl)) (Zat (Zo 3)) ZaL) (Z6 (Zaw 5 (Zx Za6 (ZL 1) (Z2 Zdk (Zw (Zo 0) (Zw (Zx Za6 (Zo 1) (ZL 1)) (Zw (Zo 2) Z0)))))) (Z6 (sIf (Zai (Zx oEq (Zo 4) (ZL 1))) (ZcL (Zx Zd1 (Z2 Zdk (Zw (Zo 0) (Zw (Zx Za6 (Zo 1) (ZL 2)) (Zw (ZL 13) Z0)))) (ZL 6)) (Zo 3) (Zo 5)) ZaL) (Z6 (sIf (tOr (Zai (Zx oEq (Zo 4) (ZL 2))) (tOr (Zai (Zx oEq (Zo 4) (ZL 3))) Zgl)) (Z6 (Zaw 6 (Zx Za6 (ZL 1) (Z2 Zdk (Zw (Zo 0) (Zw (Zx Za6 (Zo 1) (ZL 2)) (Zw (Zo 2) Z0)))))) (Z6 (ZcL (ZL 1) (Zo 3) (Zo 5)) (ZcL (Zx Zd1 (Zx ZY (Zo 3) (Zo 6)) (ZL 1)) (Zo 3) (Zo 6)))) ZaL) (Z6 (sIf (Zai (Zx oEq (Zo 4) (ZL 4))) (ZbP (Zb3 (Zw (Zo 2) Z0)) (put1 7) (ZcL (Zx Zd1 (Z2 Zdk (Zw (Zo 0) (Zw (Zx Za6 (Zx Za6 (Zo 1) (ZL 1)) (Zo 7)) (Zw (ZL 7) Z0)))) (ZL 3)) (Zo 3) (Zx Za6 (Zo 7) (ZL 1)))) ZaL) (Z6 (sIf (Zai (Zx oEq (Zo 4) (ZL 5))) (ZbP (Zb3 (Zw (Zo 2) Z0)) (put1 7) (ZcL (Zx Zd1 (Z2 Zdk (Zw (Zo 0) (Zw (Zx Za6 (Zx Za6 (Zo 1) (ZL 1)) (Zo 7)) (Zw (ZL 2000000001) Z0)))) (ZL 1000000000)) (Zo 3) (Zx Za6 (Zo 7) (ZL 1)))) ZaL) (Zat (Zo 3)))))))))
def Znp:=ZM 3 ZjW
def ZjX: PS:=(Z1 (Zar 3 (pFl (Zp Zap (ZcU (Zq (ZW ZgT (Zq (Zf 0) (Zq (Zf 1) ZF))) ZF)) (Zp ZbV (ZcU (Zq (Zv 0) ZF)) (Zf 2))))) (Z1 (Zar 4 (ZW Zcw (Zq (Zf 0) (Zq (Zf 1) (Zq (Zv 6) ZF))))) (Z1 (qIf (bOr (Z9 (Zp qEq (Zf 4) (Zv 0))) (bOr (Z9 (Zp qEq (Zf 2) (Zv 0))) Zgm)) (Zaq (Zf 3)) ZaC) (Z1 (Zar 5 (Zp Zap (Zv 1) (ZW Zcw (Zq (Zf 0) (Zq (Zp Zap (Zf 1) (Zv 1)) (Zq (Zf 2) ZF)))))) (Z1 (qIf (Z9 (Zp qEq (Zf 4) (Zv 1))) (ZbX 3 [] (Zp Zck (ZW Zcw (Zq (Zf 0) (Zq (Zp Zap (Zf 1) (Zv 2)) (Zq (Zv 13) ZF)))) (Zv 6)) Zba (Zf 5)) ZaC) (Z1 (qIf (bOr (Z9 (Zp qEq (Zf 4) (Zv 2))) (bOr (Z9 (Zp qEq (Zf 4) (Zv 3))) Zgm)) (Z1 (Zar 6 (Zp Zap (Zv 1) (ZW Zcw (Zq (Zf 0) (Zq (Zp Zap (Zf 1) (Zv 2)) (Zq (Zf 2) ZF)))))) (Z1 (ZbX 3 [] (Zv 1) Zba (Zf 5)) (ZbX 3 [] (Zp Zck (Zp ZE (Zf 3) (Zf 6)) (Zv 1)) Zba (Zf 6)))) ZaC) (Z1 (qIf (Z9 (Zp qEq (Zf 4) (Zv 4))) (Zbh (Zbw (Zq (Zf 2) ZF)) (Zaa 7) (ZbX 3 [] (Zp Zck (ZW Zcw (Zq (Zf 0) (Zq (Zp Zap (Zp Zap (Zf 1) (Zv 1)) (Zf 7)) (Zq (Zv 7) ZF)))) (Zv 3)) Zba (Zp Zap (Zf 7) (Zv 1)))) ZaC) (Z1 (qIf (Z9 (Zp qEq (Zf 4) (Zv 5))) (Zbh (Zbw (Zq (Zf 2) ZF)) (Zaa 7) (ZbX 3 [] (Zp Zck (ZW Zcw (Zq (Zf 0) (Zq (Zp Zap (Zp Zap (Zf 1) (Zv 1)) (Zf 7)) (Zq (Zv 2000000001) ZF)))) (Zv 1000000000)) Zba (Zp Zap (Zf 7) (Zv 1)))) ZaC) (Zaq (Zf 3))))))))))
def ZjY:=ZQ 3 ZjX
theorem Zsd: SimF true Znp ZjY:=ZZ (show S [] [3] [] true ZjW ZjX from(Zj (Zb5 (O':=[3]) (ZkN Z5 (E.list (Zb (Zt Zd7 (Zb (Za 0) (Zb (Za 1) Zd))) Zd)) (ZR ZaT (E.list (Zb (Zc _) Zd)) (Za 2)))) (Zj (ZD (O':=[3]) (Zt ZbF (Zb (Za 0) (Zb (Za 1) (Zb (Zc _) Zd))))) (Zj (ZH (ZaS (Zs (Zn Zam (Za 4) (Zc _))) (ZaS (Zs (Zn Zam (Za 2) (Zc _))) Zce)) (ZaG (E.own (by decide))) ZJ) (Zj (ZD (O':=[3]) (ZR Z5 (Zc _) (Zt ZbF (Zb (Za 0) (Zb (ZR Z5 (Za 1) (Zc _)) (Zb (Za 2) Zd)))))) (Zj (ZH (Zs (Zn Zam (Za 4) (Zc _))) (S.put (O':=[3]) (by decide) (ZaK (O':=[]) (Zn Za5 (Zt ZbF (Zb (Za 0) (Zb (ZR Z5 (Za 1) (Zc _)) (Zb (Zc _) Zd)))) (Zc _))) Za4 (Za 5) (by decide) (by decide)) ZJ) (Zj (ZH (ZaS (Zs (Zn Zam (Za 4) (Zc _))) (ZaS (Zs (Zn Zam (Za 4) (Zc _))) Zce)) (Zj (ZD (O':=[3]) (ZR Z5 (Zc _) (Zt ZbF (Zb (Za 0) (Zb (ZR Z5 (Za 1) (Zc _)) (Zb (Za 2) Zd)))))) (Zj (S.put (O':=[3]) (by decide) (ZaK (O':=[]) (Zc _)) Za4 (Za 5) (by decide) (by decide)) (S.put (O':=[3]) (by decide) (ZaK (O':=[]) (Zn Za5 (Zl Zk (Za 3) (Za 6)) (Zc _))) Za4 (Za 6) (by decide) (by decide)))) ZJ) (Zj (ZH (Zs (Zn Zam (Za 4) (Zc _))) (ZaX (Gs.range (Zb (Za 2) Zd)) PutOk.one (by decide) (by decide) (S.put (O':=[3]) (by decide) (ZaK (O':=[]) (Zn Za5 (Zt ZbF (Zb (Za 0) (Zb (ZR Z5 (ZR Z5 (Za 1) (Zc _)) (Za 7)) (Zb (Zc _) Zd)))) (Zc _))) Za4 (ZR Z5 (Za 7) (Zc _)) (by decide) (by decide))) ZJ) (Zj (ZH (Zs (Zn Zam (Za 4) (Zc _))) (ZaX (Gs.range (Zb (Za 2) Zd)) PutOk.one (by decide) (by decide) (S.put (O':=[3]) (by decide) (ZaK (O':=[]) (Zn Za5 (Zt ZbF (Zb (Za 0) (Zb (ZR Z5 (ZR Z5 (Za 1) (Zc _)) (Za 7)) (Zb (Zc _) Zd)))) (Zc _))) Za4 (ZR Z5 (Za 7) (Zc _)) (by decide) (by decide))) ZJ) (ZaG (E.own (by decide))))))))))))
def Ziy: Sm:=Z6 (Zaw 2 (Zbe (Zb3 (Zw (ZL 1) (Zw (Z2 Zca (Zw (Zo 1) Z0)) Z0))) (put1 100) (Zai (Zx oGt (Zx ZY (Zo 1) (Zo 100)) (ZL 0))) (Zo 100))) (Z6 (Zaw 3 (Zbe (Zb3 (Zw (ZL 1) (Zw (Z2 Zca (Zw (Zo 1) Z0)) Z0))) (put1 102) (Zai (Zx oLt (Zx ZY (Zo 1) (Zo 102)) (ZL 0))) (Zo 102))) (Z6 (sIf (ZcV (Zai (Zx oEq (Z2 Zca (Zw (Zo 2) Z0)) (ZL 1))) (ZcV (Zai (Zx oEq (Z2 Zca (Zw (Zo 3) Z0)) (ZL 1))) (ZcV (Zai (Zx oEq (Zx ZY (Zo 1) (Zx ZY (Zo 2) (ZL 0))) (ZL 1))) (ZcV (Zai (Zx oEq (Zx ZY (Zo 1) (Zx ZY (Zo 3) (ZL 0))) (eUn ZgD (ZL 1)))) Zby)))) (Z6 (sIf (Zai (Zx oIs (Zx ZY (Zx ZY (Zx ZY (Zo 0) (ZL 0)) (Zx ZY (Zo 2) (ZL 0))) (Zx ZY (Zo 3) (ZL 0))) (Zas))) (Zat (Zas)) ZaL) (Zat (Zx Za6 (Zx ZY (Zx ZY (Zx ZY (Zo 0) (ZL 0)) (Zx ZY (Zo 2) (ZL 0))) (Zx ZY (Zo 3) (ZL 0))) (Zx ZY (Zo 1) (ZL 0))))) ZaL) (Z6 (Zaw 4 (Zx Za6 (Zbe (ZcM (Zo 2)) (put1 104) Zby (Zx ZY (Zx ZY (Zx ZY (Zo 0) (ZL 0)) (Zo 104)) (ZL 0))) (Zbe (ZcM (Zo 3)) (put1 106) Zby (Zx ZY (Zx ZY (Zx ZY (Zo 0) (ZL 0)) (ZL 0)) (Zo 106))))) (Z6 (sIf (Zai (Zx oIn (Zas) (Zo 4))) (Zat (Zas)) ZaL) (Z6 (Zaw 5 (Zx ZY (Zo 1) (ZL 0))) (Z6 (ZbP (ZcM (Zo 2)) (put1 6) (Zaw 5 (Zx Za6 (Zo 5) (Zx Zdv (Zx ZY (Zo 1) (Zo 6)) (Zx ZY (Zx ZY (Zx ZY (Zo 0) (ZL 0)) (Zo 6)) (ZL 0)))))) (Z6 (ZbP (ZcM (Zo 3)) (put1 6) (Zaw 5 (Zx Zd1 (Zo 5) (Zx Zdv (Zx ZY (Zo 1) (Zo 6)) (Zx ZY (Zx ZY (Zx ZY (Zo 0) (ZL 0)) (ZL 0)) (Zo 6)))))) (Zat (Zo 5)))))))))
def ZlL:=ZM 2 Ziy
def Ziz: PS:=(Z1 (Zar 2 (Zav (Zbw (Zq (Zv 1) (Zq (ZW Zbg (Zq (Zf 1) ZF)) ZF))) (Zaa 100) (Z9 (Zp qGt (Zp ZE (Zf 1) (Zf 100)) (Zv 0))) (Zf 100))) (Z1 (Zar 3 (Zav (Zbw (Zq (Zv 1) (Zq (ZW Zbg (Zq (Zf 1) ZF)) ZF))) (Zaa 102) (Z9 (Zp qLt (Zp ZE (Zf 1) (Zf 102)) (Zv 0))) (Zf 102))) (Z1 (qIf (Zcb (Z9 (Zp qEq (ZW Zbg (Zq (Zf 2) ZF)) (Zv 1))) (Zcb (Z9 (Zp qEq (ZW Zbg (Zq (Zf 3) ZF)) (Zv 1))) (Zcb (Z9 (Zp qEq (Zp ZE (Zf 1) (Zp ZE (Zf 2) (Zv 0))) (Zv 1))) (Zcb (Z9 (Zp qEq (Zp ZE (Zf 1) (Zp ZE (Zf 3) (Zv 0))) (pUn Zdg (Zv 1)))) Zan)))) (Z1 (qIf (Z9 (Zp qIs (Zp ZE (Zp ZE (Zp ZE (Zf 0) (Zv 0)) (Zp ZE (Zf 2) (Zv 0))) (Zp ZE (Zf 3) (Zv 0))) (Zau))) (Zaq (Zau)) ZaC) (Zaq (Zp Zap (Zp ZE (Zp ZE (Zp ZE (Zf 0) (Zv 0)) (Zp ZE (Zf 2) (Zv 0))) (Zp ZE (Zf 3) (Zv 0))) (Zp ZE (Zf 1) (Zv 0))))) ZaC) (Z1 (Zar 4 (Zp Zap (Zav (ZaM (Zf 2)) (Zaa 104) Zan (Zp ZE (Zp ZE (Zp ZE (Zf 0) (Zv 0)) (Zf 104)) (Zv 0))) (Zav (ZaM (Zf 3)) (Zaa 106) Zan (Zp ZE (Zp ZE (Zp ZE (Zf 0) (Zv 0)) (Zv 0)) (Zf 106))))) (Z1 (qIf (Z9 (Zp qIn (Zau) (Zf 4))) (Zaq (Zau)) ZaC) (Z1 (Zar 5 (Zp ZE (Zf 1) (Zv 0))) (Z1 (Zbh (ZaM (Zf 2)) (Zaa 6) (Zar 5 (Zp Zap (Zf 5) (Zp ZbV (Zp ZE (Zf 1) (Zf 6)) (Zp ZE (Zp ZE (Zp ZE (Zf 0) (Zv 0)) (Zf 6)) (Zv 0)))))) (Z1 (Zbh (ZaM (Zf 3)) (Zaa 6) (Zar 5 (Zp Zck (Zf 5) (Zp ZbV (Zp ZE (Zf 1) (Zf 6)) (Zp ZE (Zp ZE (Zp ZE (Zf 0) (Zv 0)) (Zv 0)) (Zf 6)))))) (Zaq (Zf 5))))))))))
def ZiA:=ZQ 2 Ziz
theorem ZiB: SimF false ZlL ZiA:=ZZ (show S [] [] [] false Ziy Ziz from(Zj (ZD (O':=[]) (ZbH (Gs.range (Zb (Zc _) (Zb (Zad Zaz (Zb (Za 1) Zd)) Zd))) PutOk.one (by decide) (Zs (Zn ZcN (Zl Zk (Za 1) (Za 100)) (Zc _))) (Za 100))) (Zj (ZD (O':=[]) (ZbH (Gs.range (Zb (Zc _) (Zb (Zad Zaz (Zb (Za 1) Zd)) Zd))) PutOk.one (by decide) (Zs (Zn ZbQ (Zl Zk (Za 1) (Za 102)) (Zc _))) (Za 102))) (Zj (ZH (Zak (Zs (Zn Zam (Zad Zaz (Zb (Za 2) Zd)) (Zc _))) (Zak (Zs (Zn Zam (Zad Zaz (Zb (Za 3) Zd)) (Zc _))) (Zak (Zs (Zn Zam (Zl Zk (Za 1) (Zl Zk (Za 2) (Zc _))) (Zc _))) (Zak (Zs (Zn Zam (Zl Zk (Za 1) (Zl Zk (Za 3) (Zc _))) (Zbm Zbn (Zc _)))) Zaf)))) (Zj (ZH (Zs (Zn Za0 (Zl Zk (Zl Zk (Zl Zk (Za 0) (Zc _)) (Zl Zk (Za 2) (Zc _))) (Zl Zk (Za 3) (Zc _))) (ZP))) (ZB (ZP)) ZJ) (ZB (ZR Z5 (Zl Zk (Zl Zk (Zl Zk (Za 0) (Zc _)) (Zl Zk (Za 2) (Zc _))) (Zl Zk (Za 3) (Zc _))) (Zl Zk (Za 1) (Zc _))))) ZJ) (Zj (ZD (O':=[]) (ZR Z5 (ZbH (Gs.seq (Za 2)) PutOk.one (by decide) Zaf (Zl Zk (Zl Zk (Zl Zk (Za 0) (Zc _)) (Za 104)) (Zc _))) (ZbH (Gs.seq (Za 3)) PutOk.one (by decide) Zaf (Zl Zk (Zl Zk (Zl Zk (Za 0) (Zc _)) (Zc _)) (Za 106))))) (Zj (ZH (Zs (Zn ZeR (ZP) (Za 4))) (ZB (ZP)) ZJ) (Zj (ZD (O':=[]) (Zl Zk (Za 1) (Zc _))) (Zj (ZaX (Gs.seq (Za 2)) PutOk.one (by decide) (by decide) (ZD (O':=[]) (ZR Z5 (Za 5) (ZR ZaT (Zl Zk (Za 1) (Za 6)) (Zl Zk (Zl Zk (Zl Zk (Za 0) (Zc _)) (Za 6)) (Zc _)))))) (Zj (ZaX (Gs.seq (Za 3)) PutOk.one (by decide) (by decide) (ZD (O':=[]) (Zn Za5 (Za 5) (ZR ZaT (Zl Zk (Za 1) (Za 6)) (Zl Zk (Zl Zk (Zl Zk (Za 0) (Zc _)) (Zc _)) (Za 6)))))) (ZB (Za 5)))))))))))
def ZeX: XS [] [] [] false:=⟨_,_,(ZB (Zn Zam (Zgd Zs4 (Zb (ZbH (Gs.seq (ZeE (k:=1) (Za 0))) (PutOk.one (j:=100)) (by decide) (Zs (Zn Zbb (Za 100) (Zc 0))) (Za 100)) Zd)) (E.list (Zb (Zbm Zbn (Zc 1)) (Zb (Zc 1) Zd)))))⟩
def ZlB:=ZM 1 (XS.g ZeX)
def Ziv:=ZQ 1 (XS.q ZeX)
theorem ZpI: SimF false ZlB Ziv:=ZZ (XS.h ZeX)
def Ze2: XS [] [] [] false:=⟨_,_,(Zj (ZD (i:=1) (O':=[]) (Zl Zk (Za 0) (Zc 0))) (ZB (ZbH (Gs.range (Zb (Zc 1) (Zb (Zad Zaz (Zb (Za 1) Zd)) Zd))) (PutOk.one (j:=100)) (by decide) Zaf (E.tup (Zb (Zt Zg3 (Zb (Zl Zk (Zl Zk (Za 1) (Zc 0)) (Za 100)) (Zb (Zbm Zbn (Zc 1)) Zd))) (Zb (Zl Zk (Zl Zk (Za 1) (Za 100)) (Zc 0)) Zd))))))⟩
def ZlM:=ZM 1 (XS.g Ze2)
def ZiC:=ZQ 1 (XS.q Ze2)
theorem ZpY: SimF false ZlM ZiC:=ZZ (XS.h Ze2)
def ZfK: XS [] [] [] false:=⟨_,_,(Zj (ZH (Zs (Zt ZpI (Zb (Za 1) Zd))) (ZB (Zt Zec (Zb (Zl Zk (Zl Zk (Zl Zk (Za 0) (Zc 0)) (E.index (Za 1) (Zc 1) (Zc 1))) (E.index (Za 1) (Zbm Zbn (Zc 1)) (Zc 1))) (Zb (Zl Zk (Za 1) (Zc 0)) Zd)))) ZJ) (ZB (Zl Zk (Zt Zqe (Zb (Za 1) (Zb (Zt ZpY (Zb (Za 0) Zd)) Zd))) (Zc 1))))⟩
def Zm0:=ZM 2 (XS.g ZfK)
def Zjz:=ZQ 2 (XS.q ZfK)
theorem ZjA: SimF false Zm0 Zjz:=ZZ (XS.h ZfK)
def Zfy: XS [] [] [] false:=⟨_,_,(ZB (ZbH (Gs.seq (Za 0)) (PutOk.one (j:=100)) (by decide) Zaf (ZR ZaT (Za 100) (Za 1))))⟩
def Zjf:=ZM 2 (XS.g Zfy)
def Zg4:=ZQ 2 (XS.q Zfy)
theorem ZdD: SimF false Zjf Zg4:=ZZ (XS.h Zfy)
def Zgi: XS [] [] [] false:=⟨_,_,(ZB (Zt Zg3 (Zb (Zt ZjA (Zb (Za 0) (Zb (Zt ZdD (Zb (Za 1) (Zb (Zbm Zbn (Zc 1)) Zd))) Zd))) (Zb (Zbm Zbn (Zc 1)) Zd))))⟩
def Zox:=ZM 2 (XS.g Zgi)
def ZhJ:=ZQ 2 (XS.q Zgi)
theorem Zt8: SimF false Zox ZhJ:=ZZ (XS.h Zgi)
def Zfz: XS [] [] [] false:=⟨_,_,(ZB (ZR Z5 (Zl Zk (Za 0) (Zc 0)) (Zad Zvq (Zb (ZbH (Gs.range (Zb (Zad Zaz (Zb (Za 1) Zd)) Zd)) (PutOk.one (j:=100)) (by decide) Zaf (ZR ZaT (Zl Zk (Za 0) (ZR Z5 (Za 100) (Zc 1))) (Zl Zk (Za 1) (Za 100)))) Zd))))⟩
def Zms:=ZM 2 (XS.g Zfz)
def Zjg:=ZQ 2 (XS.q Zfz)
theorem Zq1: SimF false Zms Zjg:=ZZ (XS.h Zfz)
def ZfL: XS [] [] [] false:=⟨_,_,(ZB (ZbH (Gs.zip (Za 0) (Za 1)) (PutOk.two (i:=100) (j:=101)) (by decide) Zaf (ZR Z5 (Za 100) (Za 101))))⟩
def Zm1:=ZM 2 (XS.g ZfL)
def ZjB:=ZQ 2 (XS.q ZfL)
theorem Zrr: SimF false Zm1 ZjB:=ZZ (XS.h ZfL)
def ZfM: XS [] [] [] false:=⟨_,_,(ZB (Zt Zrr (Zb (Za 0) (Zb (Zt ZdD (Zb (Za 1) (Zb (Zbm Zbn (Zc 1)) Zd))) Zd))))⟩
def ZjC:=ZM 2 (XS.g ZfM)
def Zhe:=ZQ 2 (XS.q ZfM)
theorem ZjD: SimF false ZjC Zhe:=ZZ (XS.h ZfM)
def Zf1: XS [] [] [] false:=⟨_,_,(ZB (ZbH (Gs.range (Zb (ZR Z5 (Za 1) (Zc 1)) Zd)) (PutOk.one (j:=100)) (by decide) Zaf (ZdU (Zak (Zs (Zn ZcN (Za 0) (Zc 0))) (Zak (Zs (Zn Zam (Za 100) (Za 0))) Zaf)) (E.sh (Zc 1)) (E.sh (Zc 0)))))⟩
def Zf2:=ZM 2 (XS.g Zf1)
def Zek:=ZQ 2 (XS.q Zf1)
theorem Zhm: SimF false Zf2 Zek:=ZZ (XS.h Zf1)
def Zfj: XS [] [] [] false:=⟨_,_,(ZB (Zt Zec (Zb (Zt ZjA (Zb (Za 0) (Zb (Zt ZjD (Zb (Za 1) (Zb (Za 2) Zd))) Zd))) (Zb (Za 3) Zd))))⟩
def ZgW:=ZM 4 (XS.g Zfj)
def Zfk:=ZQ 4 (XS.q Zfj)
theorem Zl6: SimF false ZgW Zfk:=ZZ (XS.h Zfj)
def ZgP: Sm:=Z6 (Zaw 4 (Z2 Zca (Zw (Zx ZY (Zo 1) (ZL 1)) Z0))) (ZbP (Zb3 (Zw (Zx Za6 (Zo 4) (ZL 1)) Z0)) (put1 5) (ZbP (Zb3 (Zw (Zx Za6 (Zo 4) (ZL 1)) Z0)) (put1 6) (Z6 (Zaw 7 (Z2 ZjC (Zw (Z2 Zf2 (Zw (Zo 5) (Zw (Zo 4) Z0))) (Zw (Z2 Zf2 (Zw (Zo 6) (Zw (Zo 4) Z0))) Z0)))) (Zcj (Z2 ZfJ (Zw (Zo 0) (Zw (Zo 5) (Zw (Zo 6) (Zw (Z2 ZgW (Zw (Zo 1) (Zw (Zo 7) (Zw (Zo 2) (Zw (Zo 3) Z0))))) Z0)))))))))
def ZlT:=ZM 4 ZgP
def ZiM: PS:=(Z1 (Zar 4 (ZW Zbg (Zq (Zp ZE (Zf 1) (Zv 1)) ZF))) (Zbh (Zbw (Zq (Zp Zap (Zf 4) (Zv 1)) ZF)) (Zaa 5) (Zbh (Zbw (Zq (Zp Zap (Zf 4) (Zv 1)) ZF)) (Zaa 6) (Z1 (Zar 7 (ZW Zhe (Zq (ZW Zek (Zq (Zf 5) (Zq (Zf 4) ZF))) (Zq (ZW Zek (Zq (Zf 6) (Zq (Zf 4) ZF))) ZF)))) (Zd5 0 Zee (Zq (Zf 5) (Zq (Zf 6) (Zq (ZW Zfk (Zq (Zf 1) (Zq (Zf 7) (Zq (Zf 2) (Zq (Zf 3) ZF))))) ZF))))))))
def ZiN:=Zdz 4 ZiM
theorem Zqi: SimM ZlT ZiN:=ZhG (show S [0] [0] [0] false ZgP ZiM from(Zj (ZD (O':=[0]) (Zad Zaz (Zb (Zl Zk (Za 1) (Zc _)) Zd))) (ZaX (Gs.range (Zb (ZR Z5 (Za 4) (Zc _)) Zd)) PutOk.one (by decide) (by decide) (ZaX (Gs.range (Zb (ZR Z5 (Za 4) (Zc _)) Zd)) PutOk.one (by decide) (by decide) (Zj (ZD (O':=[0]) (Zt ZjD (Zb (Zt Zhm (Zb (Za 5) (Zb (Za 4) Zd))) (Zb (Zt Zhm (Zb (Za 6) (Zb (Za 4) Zd))) Zd)))) (ZeH (O':=[0]) (by decide) Zjy (Zb (Za 5) (Zb (Za 6) (Zb (Zt Zl6 (Zb (Za 1) (Zb (Za 7) (Zb (Za 2) (Zb (Za 3) Zd))))) Zd))) (by decide) (by decide))))))) (by decide) (by unfold ZgP;repeat' first | exact Keep0.next | exact Zhk | exact Keep0.ret | exact Keep0.put | apply Keep0.seq | apply Zhl | exact Keep0.set (by decide) | apply Znh (ZmO (by decide)))
def Zfl: XS [] [] [] false:=⟨_,_,(Zj (ZH (Zs (Zn Za0 (Za 0) (ZP))) (ZB (ZP)) ZJ) (ZB (Zn Zct (Za 0) (Za 1))))⟩
def ZgX:=ZM 2 (XS.g Zfl)
def Zfm:=ZQ 2 (XS.q Zfl)
theorem Zl7: SimF false ZgX Zfm:=ZZ (XS.h Zfl)
def ZgQ: Sm:=Z6 (Zaw 4 (Z2 Zca (Zw (Zx ZY (Zo 1) (ZL 1)) Z0))) (ZbP (Zb3 (Zw (ZL 1) (Zw (Zx Za6 (Zo 4) (ZL 1)) Z0))) (put1 5) (Z6 (Zaw 6 (Zx ZY (Zo 2) (Zo 5))) (Z6 (Zaw 7 (Z2 ZgW (Zw (Zo 1) (Zw (Z2 Zjf (Zw (Z2 Zf2 (Zw (Zo 5) (Zw (Zo 4) Z0))) (Zw (Zo 6) Z0))) (Zw (Zo 2) (Zw (Zo 3) Z0)))))) (Z6 (sIf (Zai (Zx oGt (Zo 6) (ZL 0))) (Zcj (Z2 ZfJ (Zw (Zo 0) (Zw (Zo 5) (Zw (ZL 0) (Zw (Z2 ZgX (Zw (Zo 7) (Zw (Zo 6) Z0))) Z0)))))) ZaL) (sIf (Zai (Zx oLt (Zo 6) (ZL 0))) (Zcj (Z2 ZfJ (Zw (Zo 0) (Zw (ZL 0) (Zw (Zo 5) (Zw (Z2 ZgX (Zw (Zo 7) (Zw (eUn ZgD (Zo 6)) Z0))) Z0)))))) ZaL)))))
def ZlU:=ZM 4 ZgQ
def ZiO: PS:=(Z1 (Zar 4 (ZW Zbg (Zq (Zp ZE (Zf 1) (Zv 1)) ZF))) (Zbh (Zbw (Zq (Zv 1) (Zq (Zp Zap (Zf 4) (Zv 1)) ZF))) (Zaa 5) (Z1 (Zar 6 (Zp ZE (Zf 2) (Zf 5))) (Z1 (Zar 7 (ZW Zfk (Zq (Zf 1) (Zq (ZW Zg4 (Zq (ZW Zek (Zq (Zf 5) (Zq (Zf 4) ZF))) (Zq (Zf 6) ZF))) (Zq (Zf 2) (Zq (Zf 3) ZF)))))) (Z1 (qIf (Z9 (Zp qGt (Zf 6) (Zv 0))) (Zd5 0 Zee (Zq (Zf 5) (Zq (Zv 0) (Zq (ZW Zfm (Zq (Zf 7) (Zq (Zf 6) ZF))) ZF)))) ZaC) (qIf (Z9 (Zp qLt (Zf 6) (Zv 0))) (Zd5 0 Zee (Zq (Zv 0) (Zq (Zf 5) (Zq (ZW Zfm (Zq (Zf 7) (Zq (pUn Zdg (Zf 6)) ZF))) ZF)))) ZaC))))))
def ZiQ:=Zdz 4 ZiO
theorem Zqj: SimM ZlU ZiQ:=ZhG (show S [0] [0] [0] false ZgQ ZiO from(Zj (ZD (O':=[0]) (Zad Zaz (Zb (Zl Zk (Za 1) (Zc _)) Zd))) (ZaX (Gs.range (Zb (Zc _) (Zb (ZR Z5 (Za 4) (Zc _)) Zd))) PutOk.one (by decide) (by decide) (Zj (ZD (O':=[0]) (Zl Zk (Za 2) (Za 5))) (Zj (ZD (O':=[0]) (Zt Zl6 (Zb (Za 1) (Zb (Zt ZdD (Zb (Zt Zhm (Zb (Za 5) (Zb (Za 4) Zd))) (Zb (Za 6) Zd))) (Zb (Za 2) (Zb (Za 3) Zd)))))) (Zj (ZH (Zs (Zn ZcN (Za 6) (Zc _))) (ZeH (O':=[0]) (by decide) Zjy (Zb (Za 5) (Zb (Zc _) (Zb (Zt Zl7 (Zb (Za 7) (Zb (Za 6) Zd))) Zd))) (by decide) (by decide)) ZJ) (ZH (Zs (Zn ZbQ (Za 6) (Zc _))) (ZeH (O':=[0]) (by decide) Zjy (Zb (Zc _) (Zb (Za 5) (Zb (Zt Zl7 (Zb (Za 7) (Zb (Zbm Zbn (Za 6)) Zd))) Zd))) (by decide) (by decide)) ZJ))))))) (by decide) (by unfold ZgQ;repeat' first | exact Keep0.next | exact Zhk | exact Keep0.ret | exact Keep0.put | apply Keep0.seq | apply Zhl | exact Keep0.set (by decide) | apply Znh (ZmO (by decide)))
def ZdG: XS [] [3] [] true:=⟨_,_,(Zj (ZH (ZaS (Zs (Zn Za0 (Za 0) (ZP))) (ZaS (Zs (Zt Zsa (Zb (Zt Zt8 (Zb (Za 0) (Zb (Za 1) Zd))) (Zb (Za 2) Zd)))) Zce)) (ZaG (ZP)) ZJ) (Zj (Zb5 (i:=3) (O':=[3]) (Za9 ZkA (Zb (Zl Zk (Za 0) (Zc 0)) Zd))) (Zj (ZeH (x:=3) (O':=[3]) (by decide) Zqi (Zb (Za 0) (Zb (Za 1) (Zb (Za 2) Zd))) (by decide) (by decide)) (Zj (ZeH (x:=3) (O':=[3]) (by decide) Zqj (Zb (Za 0) (Zb (Za 1) (Zb (Za 2) Zd))) (by decide) (by decide)) (ZaG (Za9 Zou (Zb (E.tup (Zb (Za 3) (Zb (Zl Zk (Za 0) (Zc 1)) Zd))) Zd)))))))⟩
def Znq:=ZM 3 (XS.g ZdG)
def Zcc:=ZQ 3 (XS.q ZdG)
theorem Zel: SimF true Znq Zcc:=ZZ (XS.h ZdG)
def Zd8: XS [] [] [] true:=⟨_,_,(Zj (ZH (Zs (Za 2)) (ZaG (Za9 Zel (Zb (Za 0) (Zb (Za 1) (Zb (Zbm Zbn (Zc 1)) Zd))))) ZJ) (ZaG (Za9 Zel (Zb (Za 0) (Zb (Zt ZdD (Zb (Za 1) (Zb (Zbm Zbn (Zc 1)) Zd))) (Zb (Zc 0) Zd))))))⟩
def Zl8:=ZM 3 (XS.g Zd8)
def Zd9:=ZQ 3 (XS.q Zd8)
theorem ZqG: SimF true Zl8 Zd9:=ZZ (XS.h Zd8)
def ZgK: XS [] [] [] false:=⟨_,_,(ZB (Zt Zh2 (Zb (Zt ZjT (Zb (Zl Zk (Za 0) (Zc 0)) (Zb (Za 1) Zd))) (Zb (Zl Zk (Za 0) (Zc 1)) Zd))))⟩
def ZlC:=ZM 2 (XS.g ZgK)
def ZpJ:=ZQ 2 (XS.q ZgK)
theorem ZlD: SimF false ZlC ZpJ:=ZZ (XS.h ZgK)
def ZgR: XS [] [] [] false:=⟨_,_,(Zj (ZD (i:=4) (O':=[]) (Zl Zk (Za 1) (Za 3))) (Zj (ZD (i:=5) (O':=[]) (Zl Zk (Za 0) (Zn Za5 (Za 3) (Zc 1)))) (Zj (ZH (Zs (Zn Zbb (Zad Zdc (Zb (Za 4) Zd)) (Zc 1))) (ZB (Za 5)) ZJ) (Zj (ZD (i:=6) (O':=[]) (Zt ZjD (Zb (Za 1) (Zb (Zt ZdD (Zb (Zt Zhm (Zb (Za 3) (Zb (Zad Zaz (Zb (Za 0) Zd)) Zd))) (Zb (Za 4) Zd))) Zd)))) (ZB (Zt ZmU (Zb (Za 5) (Zb (Zt ZlD (Zb (Zt ZiW (Zb (Zt Zhc (Zb (Za 6) (Zb (Za 0) Zd))) (Zb (Zbm Zbn (Za 4)) Zd))) (Zb (Za 2) Zd))) Zd))))))))⟩
def ZlV:=ZM 4 (XS.g ZgR)
def Zqk:=ZQ 4 (XS.q ZgR)
theorem Zql: SimF false ZlV Zqk:=ZZ (XS.h ZgR)
def Zg5: XS [] [] [] true:=⟨_,_,(Zj (ZH (Zs (Zn Za0 (Za 0) (ZP))) (ZaG (ZP)) ZJ) (Zj (ZD (i:=3) (O':=[]) (ZbH (Gs.range (Zb (Zc 1) (Zb (Zad Zaz (Zb (Za 1) Zd)) Zd))) (PutOk.one (j:=100)) (by decide) Zaf (Zt Zql (Zb (Zl Zk (Za 0) (Zc 1)) (Zb (Za 1) (Zb (Za 2) (Zb (Za 100) Zd))))))) (Zj (ZH (Zs (Zn ZeR (ZP) (Za 3))) (ZaG (ZP)) ZJ) (ZaG (Za9 Zou (Zb (E.tup (Zb (Zl Zk (Za 0) (Zc 0)) (Zb (Za 3) Zd))) Zd))))))⟩
def Zmt:=ZM 3 (XS.g Zg5)
def Zq2:=ZQ 3 (XS.q Zg5)
theorem Zmu: SimF true Zmt Zq2:=ZZ (XS.h Zg5)
def Zg6: XS [] [] [] true:=⟨_,_,(Zj (ZH (Zb4 (Zs (Zt ZfF (Zb (Zt ZlD (Zb (Zt Zhc (Zb (Za 1) (Zb (Zl Zk (Za 0) (Zc 1)) Zd))) (Zb (Za 2) Zd))) (Zb (Zc 0) Zd))))) (ZaG (ZP)) ZJ) (ZaG (Za9 Zmu (Zb (Za 0) (Zb (Za 1) (Zb (Za 2) Zd))))))⟩
def Zmv:=ZM 3 (XS.g Zg6)
def Zq3:=ZQ 3 (XS.q Zg6)
theorem Zmw: SimF true Zmv Zq3:=ZZ (XS.h Zg6)
def ZgL: XS [] [] [] true:=⟨_,_,(Zj (ZH (Zs (Zt Zqd (Zb (Zt Zhc (Zb (Za 1) (Zb (Zl Zk (Za 0) (Zc 1)) Zd))) (Zb (E.tup (Zb (Za 2) (Zb (Zc 0) Zd))) Zd)))) (ZaG (ZP)) ZJ) (Zj (ZH (Zs (Zn Zam (Za 2) (Zc 2))) (ZaG (Za9 Zmw (Zb (Za 0) (Zb (ZR Z5 (E.list (Zb (ZR Z5 (Zl Zk (Za 1) (Zc 0)) (Zc 1)) Zd)) (ZeE (k:=1) (Za 1))) (Zb (Zc 2) Zd))))) ZJ) (ZaG (Za9 ZkA (Zb (Za 0) Zd)))))⟩
def ZlE:=ZM 3 (XS.g ZgL)
def ZpK:=ZQ 3 (XS.q ZgL)
theorem ZpL: SimF true ZlE ZpK:=ZZ (XS.h ZgL)
def Zg7: XS [] [] [] true:=⟨_,_,(Zj (ZH (Zb4 (Zs (Zt ZfF (Zb (Zt Zhc (Zb (Za 1) (Zb (Zl Zk (Za 0) (Zc 1)) Zd))) (Zb (Zc 0) Zd))))) (ZaG (ZP)) ZJ) (Zj (ZD (i:=2) (O':=[]) (Zt Zel (Zb (Zt Zel (Zb (Za 0) (Zb (Za 1) (Zb (Zc 0) Zd)))) (Zb (Zt ZdD (Zb (Za 1) (Zb (Zbm Zbn (Zc 1)) Zd))) (Zb (Zc 0) Zd))))) (ZaG (Za9 Zmu (Zb (Za 2) (Zb (Za 1) (Zb (Zc 0) Zd)))))))⟩
def Zmx:=ZM 2 (XS.g Zg7)
def Zq4:=ZQ 2 (XS.q Zg7)
theorem Zq5: SimF true Zmx Zq4:=ZZ (XS.h Zg7)
def Zhf: XS [] [] [] false:=⟨_,_,(Zj (ZH (Zak (Zs (Zn Zbu (Za 0) (ZP))) (Zak (Zs (Zt Zml (Zb (Zt ZjA (Zb (Za 0) (Zb (Za 1) Zd))) (Zb (Zc 0) Zd)))) Zaf)) (ZB (Zt Zel (Zb (Za 0) (Zb (Za 1) (Zb (Zbm Zbn (Zc 1)) Zd))))) ZJ) (ZB (Za 0)))⟩
def Zm2:=ZM 2 (XS.g Zhf)
def Zrs:=ZQ 2 (XS.q Zhf)
theorem Zm3: SimF false Zm2 Zrs:=ZZ (XS.h Zhf)
def ZgM: XS [] [] [] true:=⟨_,_,(ZaG (Za9 ZkA (Zb (Zt Zm3 (Zb (Zt Zm3 (Zb (Za 0) (Zb (Za 1) Zd))) (Zb (Zt ZdD (Zb (Za 1) (Zb (Zbm Zbn (Zc 1)) Zd))) Zd))) Zd)))⟩
def ZlF:=ZM 2 (XS.g ZgM)
def ZpM:=ZQ 2 (XS.q ZgM)
theorem ZpN: SimF true ZlF ZpM:=ZZ (XS.h ZgM)
def ZeJ: XS [] [] [] true:=⟨_,_,(Zj (ZH (Zs (Zn Za0 (Za 0) (ZP))) (ZaG (ZP)) ZJ) (Zj (ZH (Zs (Zn Zam (Zl Zk (Za 1) (Zc 0)) (E.str (Str.ofString "under")))) (ZaG (Za9 ZqG (Zb (Za 0) (Zb (Zl Zk (Za 1) (Zc 1)) (Zb (Za 2) Zd))))) ZJ) (Zj (ZH (Zs (Zn Zam (Zl Zk (Za 1) (Zc 0)) (E.str (Str.ofString "same")))) (ZaG (ZdU (Zs (Za 2)) (Za9 Zq5 (Zb (Za 0) (Zb (Zl Zk (Za 1) (Zc 1)) Zd))) (Za9 ZpN (Zb (Za 0) (Zb (Zl Zk (Za 1) (Zc 1)) Zd))))) ZJ) (ZaG (ZdU (Zs (Za 2)) (Za9 Zmw (Zb (Za 0) (Zb (Zl Zk (Za 1) (Zc 1)) (Zb (Zl Zk (Za 1) (Zc 2)) Zd)))) (Za9 ZpL (Zb (Za 0) (Zb (Zl Zk (Za 1) (Zc 1)) (Zb (Zl Zk (Za 1) (Zc 2)) Zd)))))))))⟩
def Zpa:=ZM 3 (XS.g ZeJ)
def Zc9:=ZQ 3 (XS.q ZeJ)
theorem Zpb: SimF true Zpa Zc9:=ZZ (XS.h ZeJ)
def ZfN: XS [] [3] [] false:=⟨_,_,(Zj (Zb5 (i:=3) (O':=[3]) (ZdI ZcB (Zb (Za 0) Zd))) (Zj (ZH (Zs (Zn ZcN (Za 1) (Zc 0))) (S.put (x:=3) (O':=[3]) (by decide) (ZaK (O':=[]) (ZkN Z5 (Zl Zk (Za 3) (Za 1)) (Za 2))) Za4 (Za 1) (by decide) (by decide)) ZJ) (ZB (Za 3))))⟩
def Zm4:=ZM 3 (XS.g ZfN)
def ZjE:=ZQ 3 (XS.q ZfN)
theorem ZjF: SimF false Zm4 ZjE:=ZZ (XS.h ZfN)
def Zfn: XS [] [] [] false:=⟨_,_,(Zj (ZH (Zs (Zn Za0 (Za 0) (ZP))) (ZB (Za 1)) ZJ) (Zj (ZH (Zs (Zn Za0 (Za 1) (ZP))) (ZB (Za 0)) ZJ) (ZB (Zad ZuK (Zb (Za 0) (Zb (Za 1) Zd))))))⟩
def Zl9:=ZM 2 (XS.g Zfn)
def ZgY:=ZQ 2 (XS.q Zfn)
theorem Zi0: SimF false Zl9 ZgY:=ZZ (XS.h Zfn)
def ZdC: XS [] [5] [] false:=⟨_,_,(Zj (ZH (Zs (Zn Za0 (Za 0) (ZP))) (ZB (ZP)) ZJ) (Zj (ZD (i:=3) (O':=[]) (ZbH (Gs.seq (Za 1)) (PutOk.one (j:=100)) (by decide) Zaf (Zbm Zbn (Za 100)))) (Zj (ZD (i:=4) (O':=[]) (Zt ZiB (Zb (Za 0) (Zb (Za 3) Zd)))) (Zj (ZH (Zak (Zs (Zn Zbu (Za 4) (ZP))) (Zak (Zs (Zn ZcN (Zbm Zbn (Za 4)) (Za 2))) Zaf)) (ZB (ZP)) ZJ) (Zj (Zb5 (i:=5) (O':=[5]) (ZcC (Gs.seq (Zl Zk (Za 0) (Zc 0))) (PutOk.one (j:=102)) (by decide) Zaf (ZdI ZcB (Zb (Za 102) Zd)))) (Zj (ZaX (Gs.range (Zb (Zad Zaz (Zb (Za 5) Zd)) Zd)) (PutOk.one (j:=6)) (by decide) (by decide) (ZaX (Gs.range (Zb (Zad Zaz (Zb (Za 5) Zd)) Zd)) (PutOk.one (j:=7)) (by decide) (by decide) (Zj (ZD (i:=4) (O':=[5]) (Zt ZiB (Zb (Za 0) (Zb (Zt ZjF (Zb (Zt ZjF (Zb (Za 3) (Zb (Za 6) (Zb (Zc 1) Zd)))) (Zb (Za 7) (Zb (Zbm Zbn (Zc 1)) Zd)))) Zd)))) (ZH (Zak (Zs (Zn Zbb (Za 6) (Za 7))) (Zak (Zs (Zn Zbu (Za 4) (ZP))) Zaf)) (S.put (x:=5) (O':=[5]) (by decide) (ZaK (O':=[]) (E.flat (Zt Zi0 (Zb (Zl Zk (Zl Zk (Za 5) (Za 6)) (Za 7)) (Zb (ZR Z5 (Za 4) (Za 2)) Zd))))) (Zch Za4 (Za 6)) (Za 7) (by decide) (by decide)) ZJ)))) (Zj (ZaX (Gs.range (Zb (Zc 1) (Zb (Zad Zaz (Zb (Za 5) Zd)) Zd))) (PutOk.one (j:=6)) (by decide) (by decide) (Zj (ZD (i:=4) (O':=[5]) (Zt ZiB (Zb (Za 0) (Zb (Zt ZjF (Zb (Za 3) (Zb (Za 6) (Zb (Zl Zk (Za 1) (Za 6)) Zd)))) Zd)))) (Zj (ZH (Zak (Zs (Zn ZcN (Zl Zk (Za 1) (Za 6)) (Zc 0))) (Zak (Zs (Zn Zbu (Za 4) (ZP))) Zaf)) (S.put (x:=5) (O':=[5]) (by decide) (ZaK (O':=[]) (E.flat (Zt Zi0 (Zb (Zl Zk (Zl Zk (Za 5) (Za 6)) (Zc 0)) (Zb (Zn Zct (ZR Z5 (Za 4) (Za 2)) (Zl Zk (Za 1) (Za 6))) Zd))))) (Zch Za4 (Za 6)) (Zc 0) (by decide) (by decide)) ZJ) (ZH (Zak (Zs (Zn ZbQ (Zl Zk (Za 1) (Za 6)) (Zc 0))) (Zak (Zs (Zn Zbu (Za 4) (ZP))) Zaf)) (S.put (x:=5) (O':=[5]) (by decide) (ZaK (O':=[]) (E.flat (Zt Zi0 (Zb (Zl Zk (Zl Zk (Za 5) (Zc 0)) (Za 6)) (Zb (Zn Zct (ZR Z5 (Za 4) (Za 2)) (Zad Zdc (Zb (Zl Zk (Za 1) (Za 6)) Zd))) Zd))))) (Zch Za4 (Zc 0)) (Za 6) (by decide) (by decide)) ZJ)))) (ZB (Zt ZqZ (Zb (E.tup (Zb (Za 5) (Zb (Zl Zk (Za 0) (Zc 1)) Zd))) Zd))))))))))⟩
def ZlW:=ZM 3 (XS.g ZdC)
def ZbZ:=ZQ 3 (XS.q ZdC)
theorem ZiR: SimF false ZlW ZbZ:=ZZ (XS.h ZdC)
def Zf8: XS [] [9] [] false:=⟨_,_,(Zj (ZD (i:=1) (O':=[]) (Zl Zk (E.list (Zb (Zc 0) (Zb (Zc 1) (Zb (Zc 2) (Zb (Zc 1) (Zb (Zc 2) (Zb (Zc 1) (Zb (Zc 2) (Zb (Zc 3) (Zb (Zc 4) Zd)))))))))) (Zt ZbF (Zb (Za 0) (Zb (Zc 0) (Zb (Zc 9) Zd)))))) (Zj (ZD (i:=2) (O':=[]) (ZbH (Gs.range (Zb (Za 1) Zd)) (PutOk.one (j:=100)) (by decide) Zaf (Zt Zd7 (Zb (Za 0) (Zb (ZR Z5 (Zc 2) (Za 100)) Zd))))) (Zj (ZD (i:=3) (O':=[]) (Zt Zrm (Zb (Za 0) (Zb (Zc 14) (Zb (Za 2) Zd))))) (Zj (ZD (i:=4) (O':=[]) (Zt Zsd (Zb (Za 0) (Zb (Zc 8) (Zb (Za 1) Zd))))) (Zj (ZD (i:=5) (O':=[]) (Zt Zd7 (Zb (Za 0) (Zb (Zc 6) Zd)))) (Zj (ZH (Zs (Zn ZcN (Zt ZbF (Zb (Za 0) (Zb (Zc 7) (Zb (Zc 3) Zd)))) (Zc 0))) (ZD (i:=5) (O':=[]) (Zn Za5 (ZR Z5 (Zt Zq1 (Zb (Za 4) (Zb (Za 2) Zd))) (Zt ZbF (Zb (Za 0) (Zb (Zc 6) (Zb (Zc 7) Zd))))) (Zc 3))) ZJ) (Zj (ZD (i:=6) (O':=[]) (Zt ZbF (Zb (Za 0) (Zb (Zc 1) (Zb (Zc 55) Zd))))) (Zj (ZH (Zs (Zn Zam (Zn ZaW (Za 6) (Zc 5)) (Zc 1))) (ZD (i:=3) (O':=[]) (Zt ZqD (Zb (Za 0) (Zb (Zc 40) (Zb (Za 3) Zd))))) ZJ) (Zj (ZH (Zs (Zn Zam (Zn ZaW (Za 6) (Zc 11)) (Zc 4))) (ZD (i:=3) (O':=[]) (ZP)) ZJ) (Zj (ZD (i:=7) (O':=[]) (Zt Zrn (Zb (Za 3) Zd))) (Zj (ZD (i:=8) (O':=[]) (Zgd ZcB (Zb (Za 4) Zd))) (Zj (Zb5 (i:=9) (O':=[9]) (Za9 Zel (Zb (Za 3) (Zb (Za 8) (Zb (Za 5) Zd))))) (Zj (ZH (ZaS (Zs (Zn Zbb (Za 3) (Za 7))) (ZaS (Zs (Zn Zbb (Za 8) (Za 4))) (ZaS (Zb4 (Zs (Zt Zjw (Zb (Za 9) (Zb (Zt ZiR (Zb (Za 7) (Zb (Za 4) (Zb (Za 5) Zd)))) Zd))))) Zce))) (ZB (E.bool false)) ZJ) (Zj (ZeH (x:=9) (O':=[9]) (by decide) ZqF Zd (by decide) (by decide)) (Zj (ZD (i:=10) (O':=[9]) (ZR Z5 (E.list (Zb (Zn Za5 (Zl Zk (Za 4) (Zc 0)) (Za 5)) Zd)) (ZeE (k:=1) (Za 4)))) (Zj (ZD (i:=8) (O':=[9]) (E.tup (Zb (E.str (Str.ofString "under")) (Zb (Zgd ZcB (Zb (Za 10) Zd)) Zd)))) (Zj (ZH (Zb4 (Zs (Zt Zjw (Zb (Zt Zpb (Zb (Za 3) (Zb (Za 8) (Zb (E.bool true) Zd)))) (Zb (Zt ZiR (Zb (Za 7) (Zb (Za 10) (Zb (Zbm Zbn (Zc 1)) Zd)))) Zd))))) (ZB (E.bool false)) ZJ) (Zj (ZH (Zb4 (Zs (Zt Zjw (Zb (Zt Zpb (Zb (Za 3) (Zb (Za 8) (Zb (E.bool false) Zd)))) (Zb (Zt ZiR (Zb (Za 7) (Zb (ZbH (Gs.seq (Za 10)) (PutOk.one (j:=102)) (by decide) Zaf (Zbm Zbn (Za 102))) (Zb (Zc 0) Zd)))) Zd))))) (ZB (E.bool false)) ZJ) (ZB ((ZdV (E.sh (Zn Zam (Za 3) (Za 7))) (E.sh (Zn Zam (Za 8) (E.tup (Zb (E.str (Str.ofString "under")) (Zb (Za 10) Zd))))))))))))))))))))))))))⟩
def ZnQ:=ZM 1 (XS.g Zf8)
def Zkl:=ZQ 1 (XS.q Zf8)
theorem Zs7: SimF false ZnQ Zkl:=ZZ (XS.h Zf8)
end L
end
section
open PySem PySem.W PyProof.Rows PM TM My
local macro_rules | `(tactic| tm_at "r")=>`(tactic| assumption)
local macro_rules | `(tactic| tm_at "r")=>`(tactic| exact rfl)
local macro_rules | `(tactic| tm_at "r")=>`(tactic| ((with_reducible apply ZsU);decide;tm_at "r"))
local macro_rules | `(tactic| tm_at "r")=>`(tactic| ((with_reducible apply Zt1);decide;tm_at "r"))
local macro_rules | `(tactic| tm_at "r")=>`(tactic| with_reducible exact Za1)
local macro_rules | `(tactic| tm_at "r")=>`(tactic| with_reducible assumption)
local macro_rules|`(tactic|walk_at "r")=>`(tactic|first | tm_at "r" | fail)
local macro_rules | `(tactic| tm_at "y")=>`(tactic| (simp only[Bool.not_eq_true',Bool.not_eq_false',decide_eq_true_eq,decide_eq_false_iff_not,beq_iff_eq,beq_eq_false_iff_ne,ne_eq,Bool.not_true,Bool.not_false,not_false_eq_true,not_true_eq_false,bne_iff_ne,Decidable.not_not,List.length_map] <;> first | done | omega | assumption))
local macro_rules | `(tactic| tm_at "y")=>`(tactic| (with_reducible assumption))
local macro_rules | `(tactic| tm_at "y")=>`(tactic| rfl)
local macro_rules|`(tactic|walk_at "y")=>`(tactic|first | tm_at "y" | fail)
local macro_rules | `(tactic| tm_at "f")=>`(tactic| exact ZmM fun i hi=>by(first | rfl | exact ZdJ | exact Zhq))
local macro_rules | `(tactic| tm_at "f")=>`(tactic| exact Zhq)
local macro_rules | `(tactic| tm_at "f")=>`(tactic| exact ZdJ)
local macro_rules | `(tactic| tm_at "f")=>`(tactic| rfl)
local macro_rules|`(tactic|walk_at "f")=>`(tactic|first | tm_at "f" | fail)
local macro_rules | `(tactic| tm_at "o")=>`(tactic| ((with_reducible apply Zu2);(first | decide | omega)))
local macro_rules | `(tactic| tm_at "o")=>`(tactic| with_reducible refine Zva ?_)
local macro_rules | `(tactic| tm_at "o")=>`(tactic| with_reducible refine tk_all ?_)
local macro_rules | `(tactic| tm_at "o")=>`(tactic| with_reducible refine ZtU ?_)
local macro_rules | `(tactic| tm_at "o")=>`(tactic| with_reducible refine tk_list1t ?_)
local macro_rules | `(tactic| tm_at "o")=>`(tactic| with_reducible refine ZsP ?_)
local macro_rules | `(tactic| tm_at "o")=>`(tactic| ((with_reducible apply Zok);omega))
local macro_rules | `(tactic| tm_at "o")=>`(tactic| ((with_reducible apply ZhE);(first | decide | omega);rfl))
local macro_rules | `(tactic| tm_at "o")=>`(tactic| ((with_reducible apply ZtT);(first | decide | omega);rfl))
local macro_rules | `(tactic| tm_at "o")=>`(tactic| ((with_reducible apply ZtS);(first | decide | omega);(first | decide | omega)))
local macro_rules | `(tactic| tm_at "o")=>`(tactic| ((with_reducible apply ZtR);(first | assumption | omega)))
local macro_rules | `(tactic| tm_at "o")=>`(tactic| with_reducible refine ZtQ ?_)
local macro_rules | `(tactic| tm_at "o")=>`(tactic| with_reducible refine Zu9 ?_)
local macro_rules | `(tactic| tm_at "o")=>`(tactic| with_reducible refine ZtP ?_)
local macro_rules | `(tactic| tm_at "o")=>`(tactic| with_reducible refine ZtO ?_)
local macro_rules | `(tactic| tm_at "o")=>`(tactic| with_reducible refine tk_notl ?_)
local macro_rules | `(tactic| tm_at "o")=>`(tactic| with_reducible refine ZtN ?_)
local macro_rules | `(tactic| tm_at "o")=>`(tactic| with_reducible refine ZtM ?_)
local macro_rules | `(tactic| tm_at "o")=>`(tactic| with_reducible refine Zu8 ?_)
local macro_rules | `(tactic| tm_at "o")=>`(tactic| with_reducible refine Zu7 ?_)
local macro_rules | `(tactic| tm_at "o")=>`(tactic| with_reducible refine Zu6 ?_)
local macro_rules | `(tactic| tm_at "o")=>`(tactic| with_reducible refine Zu5 ?_)
local macro_rules | `(tactic| tm_at "o")=>`(tactic| with_reducible refine tk_neb ?_)
local macro_rules | `(tactic| tm_at "o")=>`(tactic| with_reducible refine tk_eqb ?_)
local macro_rules | `(tactic| tm_at "o")=>`(tactic| with_reducible refine ZvB ?_)
local macro_rules | `(tactic| tm_at "o")=>`(tactic| with_reducible refine ZvA ?_)
local macro_rules | `(tactic| tm_at "o")=>`(tactic| with_reducible refine Zu4 ?_)
local macro_rules | `(tactic| tm_at "o")=>`(tactic| with_reducible refine tk_max ?_)
local macro_rules | `(tactic| tm_at "o")=>`(tactic| with_reducible refine Zu3 ?_)
local macro_rules | `(tactic| tm_at "o")=>`(tactic| with_reducible refine tk_ge ?_)
local macro_rules | `(tactic| tm_at "o")=>`(tactic| with_reducible refine Zvz ?_)
local macro_rules | `(tactic| tm_at "o")=>`(tactic| with_reducible refine Zvy ?_)
local macro_rules | `(tactic| tm_at "o")=>`(tactic| with_reducible refine Zvx ?_)
local macro_rules | `(tactic| tm_at "o")=>`(tactic| with_reducible refine Zu1 ?_)
local macro_rules | `(tactic| tm_at "o")=>`(tactic| with_reducible refine Zu0 ?_)
local macro_rules | `(tactic| tm_at "o")=>`(tactic| with_reducible refine Zo1 ?_)
local macro_rules|`(tactic|walk_at "o")=>`(tactic|first | tm_at "o" | fail)
local macro_rules | `(tactic| tm_at "1")=>`(tactic| tm_at "o")
local macro_rules | `(tactic| tm_at "1")=>`(tactic| ((with_reducible apply ZnL);tm_at "r";(first | assumption | omega);(first | assumption | omega)))
local macro_rules | `(tactic| tm_at "1")=>`(tactic| ((with_reducible apply ZsT);tm_at "r";(first | assumption | omega)))
local macro_rules | `(tactic| tm_at "1")=>`(tactic| ((with_reducible apply ZtY);tm_at "r";(first | (rw[Zae];omega) | (simp;done))))
local macro_rules | `(tactic| tm_at "1")=>`(tactic| ((with_reducible apply ZtX);tm_at "r";(first | (rw[Zae];omega) | (simp;done))))
local macro_rules | `(tactic| tm_at "1")=>`(tactic| with_reducible refine Zt0 ?_)
local macro_rules | `(tactic| tm_at "1")=>`(tactic| with_reducible refine Zvc ?_)
local macro_rules | `(tactic| tm_at "1")=>`(tactic| with_reducible refine ZtZ ?_)
local macro_rules | `(tactic| tm_at "1")=>`(tactic| with_reducible refine Zvb ?_)
local macro_rules | `(tactic| tm_at "1")=>`(tactic| with_reducible refine Zi.mn ?_)
local macro_rules | `(tactic| tm_at "1")=>`(tactic| with_reducible refine Zi.eq ?_)
local macro_rules | `(tactic| tm_at "1")=>`(tactic| with_reducible refine Zs3 ?_)
local macro_rules | `(tactic| tm_at "1")=>`(tactic| with_reducible refine Zt5 ?_)
local macro_rules | `(tactic| tm_at "1")=>`(tactic| with_reducible refine Zt4 ?_)
local macro_rules | `(tactic| tm_at "1")=>`(tactic| with_reducible refine Zo3 ?_)
local macro_rules | `(tactic| tm_at "1")=>`(tactic| ((with_reducible apply Rn.one);omega))
local macro_rules | `(tactic| tm_at "1")=>`(tactic| with_reducible refine ZsS ?_)
local macro_rules | `(tactic| tm_at "1")=>`(tactic| with_reducible refine Sq.tup ?_)
local macro_rules | `(tactic| tm_at "1")=>`(tactic| with_reducible refine Sq.lst ?_)
local macro_rules | `(tactic| tm_at "1")=>`(tactic| with_reducible refine ZhF ?_)
local macro_rules|`(tactic|tm_at "1")=>`(tactic|(refine And.intro (show T.flatIn _ = true by walk_at "f") ?_))
local macro_rules|`(tactic|tm_at "1")=>`(tactic|(refine And.intro (show T.flat _ = true by walk_at "f") ?_))
local macro_rules | `(tactic| tm_at "1")=>`(tactic| ((with_reducible apply ZkQ);rfl))
local macro_rules | `(tactic| tm_at "1")=>`(tactic| ((with_reducible apply ZuZ);tm_at "y"))
local macro_rules | `(tactic| tm_at "1")=>`(tactic| ((with_reducible apply Zo0);tm_at "y"))
local macro_rules | `(tactic| tm_at "1")=>`(tactic| ((with_reducible apply ZuQ);tm_at "r"))
local macro_rules | `(tactic| tm_at "1")=>`(tactic| with_reducible refine ZuP ?_)
local macro_rules | `(tactic| tm_at "1")=>`(tactic| with_reducible refine ZtD ?_)
local macro_rules | `(tactic| tm_at "1")=>`(tactic| with_reducible refine ZuO ?_)
local macro_rules | `(tactic| tm_at "1")=>`(tactic| with_reducible refine ZuN ?_)
local macro_rules | `(tactic| tm_at "1")=>`(tactic| with_reducible refine ZkP ?_)
local macro_rules | `(tactic| tm_at "1")=>`(tactic| with_reducible refine Zgn ?_)
local macro_rules | `(tactic| tm_at "1")=>`(tactic| with_reducible refine tk_exp ?_)
local macro_rules | `(tactic| tm_at "1")=>`(tactic| with_reducible refine ZhV ?_)
local macro_rules | `(tactic| tm_at "1")=>`(tactic| with_reducible refine ZuY ?_)
local macro_rules | `(tactic| tm_at "1")=>`(tactic| with_reducible refine ZtL ?_)
local macro_rules | `(tactic| tm_at "1")=>`(tactic| with_reducible refine tk_truth_n ?_)
local macro_rules | `(tactic| tm_at "1")=>`(tactic| with_reducible refine ZmL ?_)
local macro_rules | `(tactic| tm_at "1")=>`(tactic| with_reducible refine ZuX ?_)
local macro_rules | `(tactic| tm_at "1")=>`(tactic| with_reducible refine ZtK ?_)
local macro_rules | `(tactic| tm_at "1")=>`(tactic| with_reducible refine ZsO ?_)
local macro_rules | `(tactic| tm_at "1")=>`(tactic| with_reducible refine ZtJ ?_)
local macro_rules | `(tactic| tm_at "1")=>`(tactic| with_reducible refine ZtI ?_)
local macro_rules | `(tactic| tm_at "1")=>`(tactic| with_reducible refine ZuW ?_)
local macro_rules | `(tactic| tm_at "1")=>`(tactic| with_reducible refine Zvw ?_)
local macro_rules | `(tactic| tm_at "1")=>`(tactic| with_reducible refine Zvv ?_)
local macro_rules | `(tactic| tm_at "1")=>`(tactic| with_reducible refine ZuV ?_)
local macro_rules | `(tactic| tm_at "1")=>`(tactic| with_reducible refine ZuU ?_)
local macro_rules | `(tactic| tm_at "1")=>`(tactic| with_reducible refine Zvu ?_)
local macro_rules | `(tactic| tm_at "1")=>`(tactic| with_reducible refine Zvt ?_)
local macro_rules | `(tactic| tm_at "1")=>`(tactic| with_reducible refine ZtH ?_)
local macro_rules | `(tactic| tm_at "1")=>`(tactic| with_reducible refine ZtE ?_)
local macro_rules | `(tactic| tm_at "1")=>`(tactic| with_reducible refine ZtG ?_)
local macro_rules | `(tactic| tm_at "1")=>`(tactic| with_reducible refine ZuT ?_)
local macro_rules | `(tactic| tm_at "1")=>`(tactic| with_reducible refine ZuS ?_)
local macro_rules | `(tactic| tm_at "1")=>`(tactic| with_reducible refine ZtF ?_)
local macro_rules | `(tactic| tm_at "1")=>`(tactic| with_reducible refine Zvs ?_)
local macro_rules | `(tactic| tm_at "1")=>`(tactic| with_reducible refine ZuR ?_)
local macro_rules|`(tactic|walk_at "1")=>`(tactic|first | tm_at "1" | fail)
local macro_rules|`(tactic|walk_at "z")=>`(tactic|repeat' (first | tm_at "1" | fail))
namespace L
open PySem PySem.W PyProof.Rows PM TM My
variable {a v:Option Int} {b i j k k' m n:Nat} {ns:List Int} {c d:Nat→Int} {K K' M M' r top x y:Int} {A B F G G2 w Γ:Nat→Nat→Option Int} {σ:TL} {f g:PE} {Q:T→Prop} {R R' R2 S:Nat→Int×Int} {p q:Int×Int} {β:Type} {o:Option (Int×Int)} {ts:List T} {D T0 t:T} {done done':Nat→Nat→Nat→Prop} {l:List Nat} {N:TL→Prop}
section
variable {Q:T→Prop}
theorem ZvQ(h:Q (.int T9)): Pk (Zdw (.int 10) (.int 9)) Q:=by
 have:=Zvo []
 simp only[oPow]at this
 split at this
 ·rename_i hc
  refine⟨_,by simp only[Zdw];rw[if_pos hc],?_⟩
  simp only[Option.some.injEq,Prod.mk.injEq,V.int.injEq,and_true]at this
  rw[this];exact h
 ·cases this
theorem ZvE(h:Q (.int T40)): Pk (Zdw (.int 10) (.int 40)) Q:=by
 have:=ZuJ []
 simp only[oPow]at this
 split at this
 ·rename_i hc
  refine⟨_,by simp only[Zdw];rw[if_pos hc],?_⟩
  simp only[Option.some.injEq,Prod.mk.injEq,V.int.injEq,and_true]at this
  rw[this];exact h
 ·cases this
theorem ZvF(h:Q (.int M9)): Pk (Zdw (.int 48271) (.int 9)) Q:=by
 have:=ZuI []
 simp only[oPow]at this
 split at this
 ·rename_i hc
  refine⟨_,by simp only[Zdw];rw[if_pos hc],?_⟩
  simp only[Option.some.injEq,Prod.mk.injEq,V.int.injEq,and_true]at this
  rw[this];exact h
 ·cases this
theorem Zc5{a b:Int}(h1:-(2 ^ 64)<b)(h2:b<2 ^ 64)(h:Q (.int (a*b))): Pk (ZbV (.int a) (.int b)) Q:=Zbx (Zr0 h1 h2) h
theorem Zoy{a b:Int}(h1:-(2 ^ 64)<a)(h2:a<2 ^ 64)(h:Q (.int (a*b))): Pk (ZbV (.int a) (.int b)) Q:=Zbx (Zrj h1 h2) h
end
noncomputable def scr(ns:List Int): T:=.lst (ns.map T.int)
def Lay(ns:List Int): Prop:=PyData.layable0 (.list (ns.map .int))=true
noncomputable def ZbR(ns:List Int)(k:Int): Int:=k*k*7919+11+(if 0<ns.length then cellAt ns (k.fmod ns.length) 0 else 0)
theorem ZnR{k:Int}(h0:0≤k)(h9:k≤10000): Zi5 [scr ns,.int k]=some (.int (ZbR ns k)):=by
 apply Pk.eq
 unfold Zi5 Zfo ZbR scr
 by_cases hl:0<ns.length
 ·have a:=Int.fmod_nonneg_of_pos k (show(0:Int)<ns.length by omega)
  have b:=Int.fmod_lt_of_pos k (show(0:Int)<ns.length by omega)
  have e:(ns.map T.int).length=ns.length:=by simp
  walk_at "z"
  refine Zc5 (by omega) (by omega) ?_
  walk_at "z"
  refine Zc5 (by omega) (by omega) ?_
  walk_at "z"
  refine ZhE (t:=.int (cellAt ns (k.fmod ns.length) 0)) (by rw[e];omega) ?_ ?_
  ·rw[e,List.getElem?_map,List.getElem?_eq_getElem (by omega),cellAt_def]
   simp only[Option.map_some,T.int.injEq,Option.some.injEq]
   rw[List.getD_eq_getElem?_getD,List.getElem?_eq_getElem (by omega)]
   rfl
  walk_at "z"
  rw[if_pos hl]
 ·walk_at "z"
  refine Zc5 (by omega) (by omega) ?_
  walk_at "z"
  refine Zc5 (by omega) (by omega) ?_
  walk_at "z"
  rw[if_neg hl]
  simp
theorem Zrt{k:Int}(hL:Lay ns)(h0:0≤k)(h9:k≤10000): Builtin.Int.intBits (ZbR ns k)≤2 ^ 21:=by
 unfold ZbR
 have h1:0≤k*k:=Int.mul_nonneg h0 h0
 have h2:k*k≤10000*10000:=Int.mul_le_mul h9 h9 h0 (by decide)
 have hb:Builtin.Int.intBits (k*k*7919+11)≤2 ^ 20:=Nat.le_trans (intBits_le_64 (by omega) (by omega)) (by decide)
 have hc:Builtin.Int.intBits (if 0<ns.length then cellAt ns (k.fmod ns.length) 0 else 0)≤2 ^ 20:=by
  split
  ·exact(cell_at hL _).bits
  ·exact bits_zero
 exact Nat.le_trans (PM.ZsL hb hc) (by decide)
noncomputable def ZaY(ns:List Int)(k many:Int): Int:=((ZbR ns k*48271).fmod 2147483647).fmod many
theorem ZbM(ns:List Int)(k:Int){many:Int}(h:0<many): 0≤ZaY ns k many∧ZaY ns k many<many:=⟨Int.fmod_nonneg_of_pos _ h,Int.fmod_lt_of_pos _ h⟩
theorem ZbN{k many:Int}(h0:0≤k)(h9:k≤10000)(hm:0<many): Zcw [scr ns,.int k,.int many]=some (.int (ZaY ns k many)):=by
 apply Pk.eq
 unfold Zcw ZfB
 walk_at "z"
 refine Zy (ZnR h0 h9) ?_
 walk_at "z"
 refine Zc5 (by decide) (by decide) ?_
 walk_at "z"
 rfl
noncomputable def Zda(ns:List Int)(k:Int): Int:=[3,9,T9,T40].getD (((ZbR ns k*69621).fmod 2147483629).fmod 4).toNat 0
theorem ZnS(ns:List Int)(k:Int): 0<Zda ns k∧Zda ns k≤T40:=by
 unfold Zda
 have a:=Int.fmod_nonneg_of_pos ((ZbR ns k*69621).fmod 2147483629) (show(0:Int)<4 by decide)
 have b:=Int.fmod_lt_of_pos ((ZbR ns k*69621).fmod 2147483629) (show(0:Int)<4 by decide)
 generalize ((ZbR ns k*69621).fmod 2147483629).fmod 4=i at a b
 have h9:=T9_eq
 have h40:=ZhT
 have:i=0∨i=1∨i=2∨i=3:=by omega
 obtain rfl | rfl | rfl | rfl:=this
 ·show 0<3∧3≤T40;omega
 ·show 0<9∧9≤T40;omega
 ·show 0<T9∧T9≤T40;omega
 ·show 0<T40∧T40≤T40;omega
noncomputable def ZbB(ns:List Int)(k:Int): Int:=(ZbR ns k*M9).fmod (2*Zda ns k+1)-Zda ns k
theorem Zpc(ns:List Int)(k:Int): -T40≤ZbB ns k∧ZbB ns k≤T40:=by
 obtain⟨a,b⟩:=ZnS ns k
 have h1:=Int.fmod_nonneg_of_pos (ZbR ns k*M9) (show 0<2*Zda ns k+1 by omega)
 have h2:=Int.fmod_lt_of_pos (ZbR ns k*M9) (show 0<2*Zda ns k+1 by omega)
 unfold ZbB
 omega
theorem Zem{k:Int}(hL:Lay ns)(h0:0≤k)(h9:k≤10000): ZgT [scr ns,.int k]=some (.int (ZbB ns k)):=by
 apply Pk.eq
 unfold ZgT Zfd
 have hb:=ZnH (Zrt hL h0 h9) ZtB
 obtain⟨r0,r1⟩:=ZnS ns k
 have a:=Int.fmod_nonneg_of_pos ((ZbR ns k*69621).fmod 2147483629) (show(0:Int)<4 by decide)
 have b:=Int.fmod_lt_of_pos ((ZbR ns k*69621).fmod 2147483629) (show(0:Int)<4 by decide)
 walk_at "z"
 refine Zy (ZnR h0 h9) ?_
 walk_at "z"
 refine ZvQ ?_
 walk_at "z"
 refine ZvE ?_
 walk_at "z"
 refine Zc5 (by decide) (by decide) ?_
 walk_at "z"
 refine ZhE (t:=.int (Zda ns k)) (by omega) ?_ ?_
 ·unfold Zda
  have:(((ZbR ns k*69621).fmod 2147483629).fmod 4).toNat<4:=by omega
  generalize (((ZbR ns k*69621).fmod 2147483629).fmod 4).toNat=i at this
  match i,this with
  | 0,_=>rfl
  | 1,_=>rfl
  | 2,_=>rfl
  | 3,_=>rfl
 walk_at "z"
 refine ZvF ?_
 walk_at "z"
 refine Zbx hb ?_
 walk_at "z"
 refine Zoy (by decide) (by decide) ?_
 walk_at "z"
 rfl
noncomputable def ZbC(a:Int): Int:=if a<0 then -a else a
theorem Zc6(a:Int): 0≤ZbC a:=by unfold ZbC;split <;> omega
noncomputable def ZcF(ns:List Int)(k:Int): Option Int:=
 if(ZaY ns k 42).fmod 6<2 then none else if(ZaY ns k 42).fmod 6<4 then some 0 else if(ZaY ns k 42).fmod 6=4 then some ((ZaY ns k 42).fdiv 6)else some (ZbC (ZbB ns k))
theorem Zs8(ns:List Int)(k:Int){c:Int}(h:ZcF ns k=some c): 0≤c∧c≤T40:=by
 have h40:=ZhT
 unfold ZcF at h
 split at h
 ·cases h
 ·split at h
  ·cases h;omega
  ·split at h
   ·cases h
    obtain⟨p0,p1⟩:=ZbM ns k (show(0:Int)<42 by decide)
    rw[Int.fdiv_eq_ediv_of_nonneg _ (by decide)]
    omega
   ·cases h
    have:=Zpc ns k
    have:=Zc6 (ZbB ns k)
    unfold ZbC at *
    split at * <;> omega
theorem Znr{a b:Int}(h0:0≤b)(h1:b<2 ^ 30): Builtin.divisionGoesByPylong a b=false:=PyProof.noPylong_small (by omega)
theorem Zs9{k:Int}(hL:Lay ns)(h0:0≤k)(h9:k≤10000): Zi6 [scr ns,.int k]=some (oT (ZcF ns k)):=by
 apply Pk.eq
 unfold Zi6 Zfp ZcF
 obtain⟨p0,p1⟩:=ZbM ns k (show(0:Int)<42 by decide)
 walk_at "z"
 refine Zy (ZbN h0 h9 (by decide)) ?_
 walk_at "z"
 refine⟨fun c=>?_,fun c=>?_⟩
 ·walk_at "z"
  rw[if_pos (by simpa using c)];rfl
 rw[if_neg (by simpa using c)]
 walk_at "z"
 refine⟨fun c=>?_,fun c=>?_⟩
 ·walk_at "z"
  rw[if_pos (by simpa using c)];rfl
 rw[if_neg (by simpa using c)]
 walk_at "z"
 refine⟨fun c=>?_,fun c=>?_⟩
 ·walk_at "z"
  refine Zcq (by decide) (Znr (by decide) (by decide)) ?_
  rw[if_pos (by simpa using c)];rfl
 rw[if_neg (by simpa using c)]
 walk_at "z"
 refine Zy (Zem hL h0 h9) ?_
 walk_at "z"
 rfl
def RestOk(q:Int×Int): Prop:=q.1=0∨(0<q.1∧0≤q.2∧q.2<q.1)
noncomputable def ZaJ(m r:Int): Int×Int:=if m=0 then(0,r)else(m,r.fmod m)
theorem Zdl{m:Int}(h:0≤m)(r:Int): RestOk (ZaJ m r):=by
 unfold RestOk ZaJ
 split
 ·exact .inl rfl
 ·exact .inr ⟨by show 0<m;omega,Int.fmod_nonneg_of_pos _ (by omega),Int.fmod_lt_of_pos _ (by omega)⟩
theorem ZfO{m:Int}: ZiF [.int m,.int r]=some (ZX (ZaJ m r)):=by
 apply Pk.eq
 unfold ZiF Ze3 ZaJ
 by_cases c:m=0
 ·walk_at "z"
  rw[if_pos c];rfl
 ·walk_at "z"
  rw[if_neg c];rfl
noncomputable def Zds(ns:List Int)(k x:Int): Int×Int:=
 if(ZaY ns k 60).fmod 5<2 then(1,0)else if(ZaY ns k 60).fmod 5=2 then(0,x)else if(ZaY ns k 60).fmod 5=3 then ZaJ ((ZaY ns k 60).fdiv 5+1) x else ZaJ (ZbC (ZbB ns k)) x
def Zax(q:Int×Int)(x:Int): Prop:=(q.1=0→x=q.2)∧(0<q.1→(x-q.2).emod q.1=0)
theorem ZnT(ns:List Int)(k:Int): 0≤(ZaY ns k 60).fdiv 5∧(ZaY ns k 60).fdiv 5<12:=by
 obtain⟨p0,p1⟩:=ZbM ns k (show(0:Int)<60 by decide)
 rw[Int.fdiv_eq_ediv_of_nonneg _ (by decide)]
 omega
theorem Zta(ns:List Int)(k x:Int): RestOk (Zds ns k x):=by
 have:=ZnT ns k
 unfold Zds
 split
 ·exact .inr ⟨by decide,by decide,by decide⟩
 ·split
  ·exact .inl rfl
  ·split
   ·exact Zdl (by omega) x
   ·exact Zdl (Zc6 _) x
theorem Zt9{k:Int}(hL:Lay ns)(h0:0≤k)(h9:k≤10000): Zjp [scr ns,.int k,.int x]=some (ZX (Zds ns k x)):=by
 apply Pk.eq
 unfold Zjp ZfC Zds
 obtain⟨p0,p1⟩:=ZbM ns k (show(0:Int)<60 by decide)
 walk_at "z"
 refine Zy (ZbN h0 h9 (by decide)) ?_
 walk_at "z"
 refine⟨fun c=>?_,fun c=>?_⟩
 ·walk_at "z"
  rw[if_pos (by simpa using c)];rfl
 rw[if_neg (by simpa using c)]
 walk_at "z"
 refine⟨fun c=>?_,fun c=>?_⟩
 ·walk_at "z"
  rw[if_pos (by simpa using c)];rfl
 rw[if_neg (by simpa using c)]
 walk_at "z"
 refine⟨fun c=>?_,fun c=>?_⟩
 ·walk_at "z"
  refine Zcq (by decide) (Znr (by decide) (by decide)) ?_
  walk_at "z"
  refine Zy ZfO ?_
  rw[if_pos (by simpa using c)]
 rw[if_neg (by simpa using c)]
 walk_at "z"
 refine Zy (Zem hL h0 h9) ?_
 walk_at "z"
 exact Zy ZfO rfl
noncomputable def Zao(x:Nat→Int): Nat→Int:=cn 0 x
theorem Zvh(x:Nat→Int): cn (T.int 0) (fun i=>T.int (x i))=fun i=>T.int (Zao x i):=by
 funext i;cases i <;> rfl
noncomputable def ZbU(ns:List Int)(k:Int)(n:Nat)(x:Nat→Int)(i j:Nat): Option Int:=if j=i then some 0 else(ZcF ns (k+i*(n+1:Nat)+j)).map fun c=>Zao x i-Zao x j+c
noncomputable def ZeM(ns:List Int)(k:Int)(n:Nat)(x:Nat→Int)(t:Nat): Int×Int:=Zds ns (k+(n+1:Nat)*(n+1:Nat)+t) (x t)
theorem Zru(ns:List Int)(k:Int)(n:Nat)(x:Nat→Int)(i:Nat): ZbU ns k n x i i=some 0:=by simp[ZbU]
theorem Ztb(ns:List Int)(k:Int)(n:Nat)(x:Nat→Int)(i:Nat): (fun j=>if j=i then T.int 0 else oT ((ZcF ns (k+i*(n+1:Nat)+j)).map fun c=>Zao x i-Zao x j+c))=fun j=>oT (ZbU ns k n x i j):=by
 funext j
 unfold ZbU
 split <;> rfl
theorem Zua{k:Int}{x:Nat→Int}(hL:Lay ns)(h0:0≤k)(h9:k≤1000)(hn:n≤9): Zjq [scr ns,.int k,Ziq n x]=some (ZK n (ZbU ns k n x) (ZeM ns k n x)):=by
 apply Pk.eq
 unfold Zjq ZfD Ziq
 have hq:((n+1:Nat):Int)*((n+1:Nat):Int)≤10*10:=Int.mul_le_mul (by omega) (by omega) (by omega) (by decide)
 have hq0:(0:Int)≤((n+1:Nat):Int)*((n+1:Nat):Int):=Int.mul_nonneg (by omega) (by omega)
 walk_at "z"
 rw[Zvh]
 refine Zbl (n:=n+1) (a:=fun i=>.int i) (P:=fun i σ=>σ 0=some (scr ns)∧σ 1=some (.int k)∧σ 2=some (.lst (tab n fun i=>.int (x i)))∧σ 3=some (.lst (tab (n+1) fun i=>.int (Zao x i)))∧σ 4=some (.int (n+1:Nat))∧σ 5=some (.lst (tab i fun i=>Zab (n+1) (ZbU ns k n x i)))) ?_ ⟨rfl,rfl,rfl,rfl,rfl,rfl⟩ ?_ ?_
 ·walk_at "z"
  rfl
 ·rintro i σ hi ⟨e0,e1,e2,e3,e4,e5⟩
  walk_at "z"
  refine Zbl (n:=n+1) (a:=fun i=>.int i) (P:=fun j σ=>σ 0=some (scr ns)∧σ 1=some (.int k)∧σ 2=some (.lst (tab n fun i=>.int (x i)))∧σ 3=some (.lst (tab (n+1) fun i=>.int (Zao x i)))∧σ 4=some (.int (n+1:Nat))∧σ 5=some (.lst (tab i fun i=>Zab (n+1) (ZbU ns k n x i)))∧σ 6=some (.int i)∧σ 7=some (.lst (tab j fun j=>oT ((ZcF ns (k+i*(n+1:Nat)+j)).map fun c=>Zao x i-Zao x j+c)))) ?_ ⟨?_,?_,?_,?_,?_,?_,?_,?_⟩ ?_ ?_
  ·walk_at "z"
   rfl
  all_goals first | walk_at "r" | skip
  ·rintro j σ hj ⟨e0,e1,e2,e3,e4,e5,e6,e7⟩
   have hb1:(0:Int)≤i*((n+1:Nat):Int):=Int.mul_nonneg (by omega) (by omega)
   have hb2:(i:Int)*((n+1:Nat):Int)≤10*10:=Int.mul_le_mul (by omega) (by omega) (by omega) (by decide)
   walk_at "z"
   refine Zc5 (by omega) (by omega) ?_
   walk_at "z"
   refine Zy (Zs9 hL (by omega) (by omega)) ?_
   have key:∀w,w=oT ((ZcF ns (k+i*(n+1:Nat)+j)).map fun c=>Zao x i-Zao x j+c)→tab j (fun j=>oT ((ZcF ns (k+i*(n+1:Nat)+j)).map fun c=>Zao x i-Zao x j+c))++[w]=tab (j+1) fun j=>oT ((ZcF ns (k+i*(n+1:Nat)+j)).map fun c=>Zao x i-Zao x j+c):=fun w e=>by
    rw[e];exact Zc3
   cases hs:ZcF ns (k + ↑i * ↑(n+1) + ↑j)with
   | none=>
    simp only[ZaO,Z8]
    walk_at "z"
    rw[key _ (by rw[hs];rfl)]
    refine⟨?_,?_,?_,?_,?_,?_,?_,?_⟩ <;> walk_at "r"
   | some c=>
    simp only[ZaO,Z8]
    walk_at "z"
    rw[key _ (by rw[hs];rfl)]
    refine⟨?_,?_,?_,?_,?_,?_,?_,?_⟩ <;> walk_at "r"
  ·rintro σ ⟨e0,e1,e2,e3,e4,e5,e6,e7⟩
   walk_at "z"
   rw[Ztb,show tab i (fun i=>Zab (n+1) (ZbU ns k n x i))++[T.lst (tab (n+1) fun j=>oT (ZbU ns k n x i j))]=tab (i+1) fun i=>Zab (n+1) (ZbU ns k n x i)from Zc3 (f:=fun i=>Zab (n+1) (ZbU ns k n x i))]
   refine⟨?_,?_,?_,?_,?_,?_⟩ <;> walk_at "r"
 ·rintro σ ⟨e0,e1,e2,e3,e4,e5⟩
  walk_at "z"
  refine Zb1 (n:=n) (a:=fun i=>.int i) (b:=fun t=>ZX (ZeM ns k n x t)) (by omega) ?_ (fun t ht=>?_) ?_
  ·walk_at "z"
   refine Zic n (by omega) (by omega) rfl
  ·walk_at "z"
   refine Zc5 (by omega) (by omega) ?_
   walk_at "z"
   exact Zy (Zt9 hL (by omega) (by omega)) ⟨Zhq,rfl⟩
  walk_at "z"
  rfl
def Zbi(n:Nat)(G:Nat→Nat→Option Int)(R:Nat→Int×Int)(x:Nat→Int): Prop:=(∀i j,i<n+1→j<n+1→∀b,G i j=some b→Zao x i-Zao x j≤b)∧∀t,t<n→Zax (R t) (x t)
def ZvR(n:Nat)(G:Nat→Nat→Option Int)(R:Nat→Int×Int): Prop:=(∀i,i<n+1→G i i=some 0)∧∀t,t<n→RestOk (R t)
theorem Zse(ns:List Int)(k:Int)(n:Nat)(x:Nat→Int): ZvR n (ZbU ns k n x) (ZeM ns k n x):=⟨fun i _=>Zru ns k n x i,fun t _=>Zta ns _ _⟩
theorem Zsf(hn:n<10000)(e:Pk (g σ) fun t=>t=ZO n G)(h:Q (ZO n G)): Pk (Zav (ZaM g) (Zaa j) Zan (ZW ZcE (Zq (Zf j) ZF)) σ) Q:=by
 refine Zb1 (n:=n) (a:=fun i=>Zab n (G i)) (b:=fun i=>Zab n (G i)) hn ?_ (fun i hi=>?_) h
 ·refine ZhF (e.mono ?_)
  rintro _ rfl
  exact Sq.lst rfl
 ·unfold Zab
  walk_at "z"
  rfl
theorem Zub(hn:n≤100): ZdF [ZK n G R]=some (ZK n G R):=by
 apply Pk.eq
 unfold ZdF Zha ZK ZaD
 walk_at "z"
 refine Zsf (n:=n+1) (G:=G) (by omega) ?_ ?_
 ·walk_at "z"
  rfl
 walk_at "z"
 rfl
theorem Zsg: ZdF [.none]=some .none:=by
 apply Pk.eq
 unfold ZdF Zha
 walk_at "z"
 rfl
def leO(a b:Option Int): Prop:=∀y,b=some y→∃x,a=some x∧x≤y
theorem Zcz: leO a none:=fun _ e=>by cases e
theorem leO_some: leO (some x) (some y)↔x≤y:=⟨fun h=>by obtain⟨z,e,q⟩:=h y rfl;cases e;exact q,fun h z e=>by cases e;exact⟨x,rfl,h⟩⟩
theorem ZhK: ¬leO none (some y):=fun h=>by obtain⟨z,e,_⟩:=h y rfl;cases e
theorem ZqH{b:Option Int}: Zi7 [oT a,oT b]=some (.bool (dec (leO a b))):=by
 apply Pk.eq
 unfold Zi7 Zfq
 cases b with
 | none=>
  simp only[ZaO]
  walk_at "z"
  rw[ZaH Zcz]
 | some y=>
  cases a with
  | none=>
   simp only[ZaO,Z8]
   walk_at "z"
   rw[Zbo ZhK]
  | some x=>
   simp only[Z8]
   walk_at "z"
   rw[ZjQ leO_some,Zg9]
theorem Zuc(h:0<q.1∧0≤q.2∧q.2<q.1)(x:Int): x.fmod q.1=q.2↔(x-q.2) % q.1=0:=by
 rw[Int.fmod_eq_emod_of_nonneg _ (by omega)]
 constructor
 ·intro e
  rw[←e,Int.sub_emod,Int.emod_emod,Int.sub_self]
  simp
 ·intro e
  have:x % q.1=q.2 % q.1:=Int.emod_eq_emod_iff_emod_sub_eq_zero.mpr e
  rw[this,Int.emod_eq_of_lt h.2.1 h.2.2]
theorem Zud(h:RestOk q)(x:Int): (if q.1=0 then x=q.2 else x.fmod q.1=q.2)↔Zax q x:=by
 unfold Zax
 rcases h with h | h
 ·rw[if_pos h];simp[h]
 ·rw[if_neg (by omega),Zuc h]
  have h1:¬q.1=0:=by omega
  simp only[h1,false_implies,true_and,h.1,true_implies]
  rfl
theorem Zmy(h:RestOk q): Zjs [ZX q,.int x]=some (.bool (dec (Zax q x))):=by
 apply Pk.eq
 unfold Zjs ZfE ZX
 rw[←ZjQ (Zud h x)]
 by_cases c:q.1=0
 ·walk_at "z"
  rw[if_pos c,Zg9]
 ·walk_at "z"
  rw[if_neg c,Zg9]
def Eu(m:Nat)(a b:Int): Prop:=0≤a∧0≤b∧∃k:Nat,a*b<2 ^ k∧m=2*k+if a<b then 1 else 0
theorem Eu.step{a b:Int}(h:Eu m a b)(hb:b≠0): ∃m',m'<m∧Eu m' b (a % b):=by
 obtain⟨h0,h1,k,h2,h3⟩:=h
 have hb':0<b:=by omega
 have r0:=Int.emod_nonneg a hb
 have r1:=Int.emod_lt_of_pos a hb'
 by_cases q:a<b
 ·rw[if_pos q]at h3
  have e:a % b=a:=Int.emod_eq_of_lt h0 q
  rw[e]
  exact⟨2*k,by omega,h1,h0,k,by rw[Int.mul_comm];exact h2,by rw[if_neg (by omega)];omega⟩
 ·rw[if_neg q]at h3
  have hd:=Int.emod_add_mul_ediv a b
  have hq:1≤a / b:=Int.le_ediv_of_mul_le hb' (by omega)
  have hm:b*1≤b*(a / b):=Int.mul_le_mul_of_nonneg_left hq h1
  have h2r:2*(a % b)<a:=by omega
  have hp:b*(2*(a % b))<b*a:=Int.mul_lt_mul_of_pos_left h2r hb'
  have hk:k≠0:=by
   rintro rfl
   have:0<a*b:=Int.mul_pos (by omega) hb'
   simp at h2
   omega
  obtain⟨k',rfl⟩:∃k',k=k'+1:=⟨k-1,by omega⟩
  refine⟨2*k',by omega,h1,r0,k',?_,by rw[if_neg (by omega)];omega⟩
  have e1:b*(2*(a % b))=2*(b*(a % b)):=by rw[←Int.mul_assoc,Int.mul_comm b 2,Int.mul_assoc]
  have e2:a*b=b*a:=Int.mul_comm _ _
  rw[Int.pow_succ]at h2
  omega
theorem Zhs{a b:Int}(ha:0≤a)(hb:0≤b)(ha2:a<2 ^ 200000)(hb2:b<2 ^ 200000): ∃m,m<1000000∧Eu m a b:=by
 refine⟨_,?_,ha,hb,400000,?_,rfl⟩
 ·split <;> omega
 ·have h1:a*b≤a*2 ^ 200000:=Int.mul_le_mul_of_nonneg_left (by omega) ha
  have h2:a*2 ^ 200000<2 ^ 200000*2 ^ 200000:=Int.mul_lt_mul_of_pos_right ha2 (Int.pow_pos (by decide))
  have h3:(2:Int) ^ 200000*2 ^ 200000=2 ^ 400000:=by rw[←Int.pow_add]
  omega
theorem Zf9{a b:Int}(hb:0<b): Int.gcd b (a % b)=Int.gcd a b:=by
 rw[Int.gcd_comm a b,Int.emod_def,Int.gcd_sub_mul_left_right]
theorem Zoz{a b:Int}: Int.gcd (ZbC a) (ZbC b)=Int.gcd a b:=by
 unfold ZbC Int.gcd
 split <;> split <;> simp
theorem ZhL{a:Int}(h:a.natAbs<2 ^ k): ZbC a<2 ^ k:=by
 have:((a.natAbs:Nat):Int)<2 ^ k:=by exact_mod_cast h
 unfold ZbC
 split <;> omega
theorem Zrv{a b:Int}(ha:a.natAbs<2 ^ 200000)(hb:b.natAbs<2 ^ 200000): ZjR [.int a,.int b]=some (.int (Int.gcd a b)):=by
 apply Pk.eq
 unfold ZjR ZfU
 walk_at "z"
 obtain⟨m,hm,eu⟩:=Zhs (Zc6 a) (Zc6 b) (ZhL ha) (ZhL hb)
 refine Zer (fun m σ=>∃c d:Int,σ 0=some (.int c)∧σ 1=some (.int d)∧Eu m c d∧Int.gcd c d=Int.gcd a b) _ _ ?_ 1000000 (m:=m) ⟨ZbC a,ZbC b,by walk_at "r",by walk_at "r",eu,Zoz⟩ hm
 rintro m σ ⟨c,d,e0,e1,eu,eg⟩
 walk_at "z"
 refine⟨fun h=>?_,fun h=>?_⟩
 ·have hd:d≠0:=by simpa using h
  have hd0:0≤d:=eu.2.1
  walk_at "z"
  rw[Int.fmod_eq_emod_of_nonneg _ hd0]
  obtain⟨m',h1,h2⟩:=eu.step hd
  exact⟨m',h1,d,c % d,by walk_at "r",by walk_at "r",h2,by rw[Zf9 (by omega)];exact eg⟩
 ·have hd:d=0:=by simpa using h
  subst hd
  walk_at "z"
  rw[←eg,Int.gcd_zero_right]
  have:=eu.1
  congr 1
  omega
theorem Zgj(ns:List Int)(k:Int): (ZbB ns k).natAbs<2 ^ 134:=by
 have h:=Zpc ns k
 have h2:=ZhT
 have:(2:Nat) ^ 134=21778071482940061661655974875633165533184:=by decide
 omega
theorem ZaE{a:Nat}(h:a<2 ^ i)(hij:i≤j): a<2 ^ j:=Nat.lt_of_lt_of_le h (Nat.pow_le_pow_right (by decide) hij)
def SmG(k n:Nat)(G:Nat→Nat→Option Int): Prop:=∀i j,i<n+1→j<n+1→∀b,G i j=some b→b.natAbs<2 ^ k
def SmR(k n:Nat)(R:Nat→Int×Int): Prop:=∀t,t<n→(R t).1.natAbs<2 ^ k∧(R t).2.natAbs<2 ^ k
theorem ZgZ{m:Int}(h0:0≤m)(hm:m.natAbs<2 ^ k)(hr:r.natAbs<2 ^ k): (ZaJ m r).1.natAbs<2 ^ k∧(ZaJ m r).2.natAbs<2 ^ k:=by
 unfold ZaJ
 split
 ·exact⟨Nat.two_pow_pos k,hr⟩
 ·have h1:=Int.fmod_nonneg_of_pos r (show 0<m by omega)
  have h2:=Int.fmod_lt_of_pos r (show 0<m by omega)
  exact⟨hm,by show(r.fmod m).natAbs<_;omega⟩
theorem ZnU(a:Int): (ZbC a).natAbs=a.natAbs:=by unfold ZbC;split <;> omega
theorem Zq6{k:Int}(hx:x.natAbs<2 ^ 134): (Zds ns k x).1.natAbs<2 ^ 134∧(Zds ns k x).2.natAbs<2 ^ 134:=by
 have h:=ZnT ns k
 have h2:=Zgj ns k
 have e:(2:Nat) ^ 134=21778071482940061661655974875633165533184:=by decide
 unfold Zds
 split
 ·exact⟨by show(1:Nat)<_;omega,by show(0:Nat)<_;omega⟩
 ·split
  ·exact⟨by show(0:Nat)<_;omega,hx⟩
  ·split
   ·exact ZgZ (by omega) (by omega) hx
   ·exact ZgZ (Zc6 _) (by rw[ZnU];exact h2) hx
theorem Zm5{x:Nat→Int}(hx:∀i,i<n→(x i).natAbs<2 ^ k)(i:Nat)(hi:i<n+1): (Zao x i).natAbs<2 ^ k:=by
 cases i with
 | zero=>exact Nat.two_pow_pos k
 | succ i=>exact hx i (by omega)
theorem Ztc{k:Int}{x:Nat→Int}(hx:∀i,i<n→(x i).natAbs<2 ^ 134): SmG 136 n (ZbU ns k n x):=by
 intro i j hi hj b h
 have e:(2:Nat) ^ 134=21778071482940061661655974875633165533184:=by decide
 have e2:(2:Nat) ^ 136=4*21778071482940061661655974875633165533184:=by decide
 have h40:=ZhT
 have h1:=Zm5 hx i hi
 have h2:=Zm5 hx j hj
 unfold ZbU at h
 split at h
 ·cases h;exact Nat.two_pow_pos _
 ·obtain⟨c,h3,h4⟩:=Zz1.mp h
  have:=Zs8 ns _ h3
  subst h4
  omega
theorem ZnV{k:Int}{x:Nat→Int}(hx:∀i,i<n→(x i).natAbs<2 ^ 134): SmR 134 n (ZeM ns k n x):=fun t ht=>Zq6 (hx t ht)
theorem Zsh{g:PG}{a:Nat→T}(e:β→T)(P:Nat→β→Prop)(hn:n<10000)(hg:Pl (g σ) fun ts=>ts=tab n a)(hf:∀i,i<n→Pk (f (ZN σ j (a i))) fun t=>∃y,t=e y∧P i y)(d:β)(h:∀y:Nat→β,(∀i,i<n→P i (y i))→Q (.lst (tab n fun i=>e (y i)))): Pk (Zav g (Zaa j) Zan f σ) Q:=by
 have hc:∃y:Nat→β,∀i,i<n→Pk (f (ZN σ j (a i))) (fun t=>t=e (y i))∧P i (y i):=by
  have hx:∀i,∃y:β,i<n→Pk (f (ZN σ j (a i))) (fun t=>t=e y)∧P i y:=fun i=>by
   by_cases q:i<n
   ·obtain⟨t,e1,y,e2,p⟩:=hf i q
    exact⟨y,fun _=>⟨⟨t,e1,e2⟩,p⟩⟩
   ·exact⟨d,fun h=>absurd h q⟩
  exact⟨fun i=>Classical.choose (hx i),fun i=>Classical.choose_spec (hx i)⟩
 obtain⟨y,hy⟩:=hc
 exact Zb1 hn hg (fun i hi=>(hy i hi).1) (h y fun i hi=>(hy i hi).2)
theorem Zhg(hn:n<10000)(e:Pk (g σ) fun t=>t=ZO n G)(h:Q (ZO n G)): Pk (Zav (ZaM g) (Zaa j) Zan (pFl (ZW ZcE (Zq (Zf j) ZF))) σ) Q:=by
 refine Zb1 (n:=n) (a:=fun i=>Zab n (G i)) (b:=fun i=>Zab n (G i)) hn ?_ (fun i hi=>?_) h
 ·refine ZhF (e.mono ?_)
  rintro _ rfl
  exact Sq.lst rfl
 ·unfold Zab
  walk_at "z"
  rfl
noncomputable def Zbr(G:Nat→Nat→Option Int)(i j:Nat)(v:Option Int): Nat→Nat→Option Int:=fun a b=>if a=i∧b=j then v else G a b
theorem Zdb: T.lst (tab n fun a=>T.lst (tab n fun b=>if a=i∧b=j then oT v else oT (G a b)))=ZO n (Zbr G i j v):=by
 unfold ZO Zab Zbr
 congr 2
 funext a
 congr 2
 funext b
 split <;> rfl
theorem ZhM: Zbr G i j v i j=v:=by simp[Zbr]
theorem Zgk{a:Nat}(h:¬(a=i∧b=j)): Zbr G i j v a b=G a b:=by simp[Zbr,h]
theorem Zcm: leO a a:=fun y e=>⟨y,e,Int.le_refl y⟩
theorem ZcO{b c:Option Int}(h:leO a b)(k:leO b c): leO a c:=fun y e=>by
 obtain⟨x,e1,l1⟩:=k y e
 obtain⟨w,e2,l2⟩:=h x e1
 exact⟨w,e2,by omega⟩
theorem Zh7{k:Int}(h0:0≤k)(h1:k<n): ∃i:Nat,k=i∧i<n:=⟨k.toNat,by omega,by omega⟩
theorem Zm6{a b:Int}(ha:a.natAbs<2 ^ 200000)(hb:b.natAbs<2 ^ 200000): ZjS [.int a,.int b]=some (.int (Int.gcd a b)):=by
 apply Pk.eq
 unfold ZjS ZfV
 walk_at "z"
 obtain⟨m,hm,eu⟩:=Zhs (Zc6 a) (Zc6 b) (ZhL ha) (ZhL hb)
 refine Zer (fun m σ=>∃c d:Int,σ 2=some (.int c)∧σ 3=some (.int d)∧Eu m c d∧Int.gcd c d=Int.gcd a b) _ _ ?_ 1000000 (m:=m) ⟨ZbC a,ZbC b,by walk_at "r",by walk_at "r",eu,Zoz⟩ hm
 rintro m σ ⟨c,d,e0,e1,eu,eg⟩
 walk_at "z"
 refine⟨fun h=>?_,fun h=>?_⟩
 ·have hd:d≠0:=by simpa using h
  have hd0:0≤d:=eu.2.1
  walk_at "z"
  rw[Int.fmod_eq_emod_of_nonneg _ hd0]
  obtain⟨m',h1,h2⟩:=eu.step hd
  exact⟨m',h1,d,c % d,by walk_at "r",by walk_at "r",h2,by rw[Zf9 (by omega)];exact eg⟩
 ·have hd:d=0:=by simpa using h
  subst hd
  walk_at "z"
  rw[←eg,Int.gcd_zero_right]
  have:=eu.1
  congr 1
  omega
def Bd(k:Nat)(x:Int): Prop:=x.natAbs<2 ^ k
theorem Bd.mono(h:Bd i x)(hij:i≤j): Bd j x:=ZaE h hij
theorem ZbL(h:Bd i x)(k:Bd j y)(hi:i≤1000000)(hj:j≤1000000): mulOk x y=true:=ZnH (Nat.le_trans (PyProof.Rows.intBits_le h) (Nat.le_trans hi (by decide))) (Nat.le_trans (PyProof.Rows.intBits_le k) (Nat.le_trans hj (by decide)))
theorem Bd.mul(h:Bd i x)(k:Bd j y): Bd (i+j) (x*y):=by
 unfold Bd at *
 rw[Int.natAbs_mul,Nat.pow_add]
 exact Nat.mul_lt_mul'' h k
theorem Bd.add(h:Bd i x)(k:Bd i y): Bd (i+1) (x+y):=by
 unfold Bd at *
 rw[Nat.pow_succ]
 omega
theorem Bd.sub(h:Bd i x)(k:Bd i y): Bd (i+1) (x-y):=by
 unfold Bd at *
 rw[Nat.pow_succ]
 omega
theorem ZcR(h:Bd i y)(hi:i≤9000): Builtin.divisionGoesByPylong x y=false:=by
 refine PyProof.noPylong_of_log2 ?_
 by_cases h0:y.natAbs=0
 ·rw[h0];decide +kernel
 ·exact Nat.lt_of_lt_of_le ((Nat.log2_lt h0).mpr h) hi
theorem Zcu(h:Bd i y)(h0:0≤x)(h1:x≤y): Bd i x:=by unfold Bd at *;omega
theorem Zdi(h:1≤i): Bd i 1:=ZaE (i:=1) (by decide) h
theorem ZdA: Bd i 0:=Nat.two_pow_pos i
theorem Zrw{a b:Int}(hb:0<b)(kb:Bd k b)(hk:k≤8000)(ha:0≤a)(hg:Int.gcd a b=1): Pk (ZjU [.int a,.int b]) fun t=>∃x:Int,t=.int x∧0≤x∧x<b∧∃q,a*x=1+b*q:=by
 unfold ZjU ZfW
 walk_at "z"
 rw[Int.fmod_eq_emod_of_nonneg _ (by omega)]
 have r0:=Int.emod_nonneg a (show b≠0 by omega)
 have r1:=Int.emod_lt_of_pos a hb
 have hlt:∀x:Int,0≤x→x≤b→x<2 ^ 200000:=fun x h0 h1=>by
  have h2:b.natAbs<2 ^ 200000:=ZaE kb (by omega)
  have h3:((b.natAbs:Nat):Int)<2 ^ 200000:=by exact_mod_cast h2
  omega
 obtain⟨m,hm,eu⟩:=Zhs r0 (show 0≤b by omega) (hlt _ r0 (by omega)) (hlt b (by omega) (by omega))
 have hg0:Int.gcd (a % b) b=1:=by
  rw[Int.gcd_comm,Zf9 hb];exact hg
 refine Zer (fun m σ=>∃l r s t:Int,σ 1=some (.int b)∧σ 2=some (.int l)∧σ 3=some (.int r)∧σ 4=some (.int s)∧σ 5=some (.int t)∧Eu m l r∧Int.gcd l r=1∧l≤b∧r≤b∧(∃q,s*a=l+b*q)∧(∃q,t*a=r+b*q)∧(s.natAbs:Int)*r+(t.natAbs:Int)*l≤b∧(1≤l∨t=0)) _ _ ?_ 1000000 (m:=m) ⟨a % b,b,1,0,by walk_at "r",by walk_at "r",by walk_at "r",by walk_at "r",by walk_at "r",eu,hg0,by omega,by omega,⟨a / b,?_⟩,⟨-1,by omega⟩,by simp,.inr rfl⟩ hm
 ·rintro m σ ⟨l,r,s,t,e1,e2,e3,e4,e5,eu,gl,lb,rb,⟨q1,h1⟩,⟨q2,h2⟩,hb1,hl⟩
  walk_at "z"
  refine⟨fun h=>?_,fun h=>?_⟩
  ·have hr:r≠0:=by simpa using h
   have hr0:0≤r:=eu.2.1
   have hl0:0≤l:=eu.1
   have hrp:0<r:=by omega
   have kr:Bd k r:=Zcu kb hr0 rb
   have kl:Bd k l:=Zcu kb hl0 lb
   have hdiv0:0≤l / r:=Int.ediv_nonneg hl0 hr0
   have hdiv1:l / r≤l:=Int.ediv_le_self _ hl0
   have ks:(s.natAbs:Int)≤b:=by
    have:(s.natAbs:Int)*1≤(s.natAbs:Int)*r:=Int.mul_le_mul_of_nonneg_left (by omega) (by omega)
    have:0≤(t.natAbs:Int)*l:=Int.mul_nonneg (by omega) hl0
    omega
   have kt:(t.natAbs:Int)≤b:=by
    rcases hl with hl | hl
    ·have:(t.natAbs:Int)*1≤(t.natAbs:Int)*l:=Int.mul_le_mul_of_nonneg_left (by omega) (by omega)
     have:0≤(s.natAbs:Int)*r:=Int.mul_nonneg (by omega) hr0
     omega
    ·rw[hl];simp;omega
   have kt':Bd k t:=by unfold Bd at *;omega
   have kd:Bd k (l / r):=Zcu kl hdiv0 hdiv1
   walk_at "z"
   refine Zcq hr (ZcR kr (by omega)) ?_
   rw[Int.fdiv_eq_ediv_of_nonneg _ hr0]
   walk_at "z"
   refine Zbx (ZbL kd kr (by omega) (by omega)) ?_
   walk_at "z"
   refine Zbx (ZbL kd kt' (by omega) (by omega)) ?_
   walk_at "z"
   have hover:l-l / r*r=l % r:=by
    have:=Int.emod_add_mul_ediv l r
    rw[Int.mul_comm r (l / r)]at this
    omega
   rw[hover]
   obtain⟨m',hm1,hm2⟩:=eu.step hr
   have o0:=Int.emod_nonneg l hr
   have o1:=Int.emod_lt_of_pos l hrp
   refine⟨m',hm1,r,l % r,t,s-l / r*t,by walk_at "r",by walk_at "r",by walk_at "r",by walk_at "r",by walk_at "r",hm2,by rw[Zf9 hrp];exact gl,rb,by omega,⟨q2,h2⟩,⟨q1-l / r*q2,?_⟩,?_,.inl (by omega)⟩
   ·rw[Int.sub_mul,h1,Int.mul_assoc,h2,Int.mul_add,Int.mul_sub,←hover]
    have e1:b*(l / r*q2)=l / r*(b*q2):=by rw[←Int.mul_assoc,Int.mul_comm b,Int.mul_assoc]
    rw[e1]
    omega
   ·have ht:((s-l / r*t).natAbs:Int)≤(s.natAbs:Int)+l / r*(t.natAbs:Int):=by
     have h3:(s-l / r*t).natAbs≤s.natAbs+(l / r*t).natAbs:=by omega
     have h4:(l / r*t).natAbs=(l / r).natAbs*t.natAbs:=Int.natAbs_mul ..
     have h5:(((l / r).natAbs*t.natAbs:Nat):Int)=l / r*(t.natAbs:Int):=by
      rw[Int.natCast_mul,Int.natAbs_of_nonneg hdiv0]
     rw[h4]at h3
     omega
    have h6:((s-l / r*t).natAbs:Int)*r≤((s.natAbs:Int)+l / r*(t.natAbs:Int))*r:=Int.mul_le_mul_of_nonneg_right ht hr0
    have h7:((s.natAbs:Int)+l / r*(t.natAbs:Int))*r=(s.natAbs:Int)*r+(t.natAbs:Int)*(l / r*r):=by
     rw[Int.add_mul,Int.mul_comm (l / r) (t.natAbs:Int),Int.mul_assoc]
    have h8:(t.natAbs:Int)*(l % r)+(t.natAbs:Int)*(l / r*r)=(t.natAbs:Int)*l:=by
     rw[←Int.mul_add,←hover]
     congr 1
     omega
    omega
  ·have hr:r=0:=by simpa using h
   subst hr
   rw[Int.gcd_zero_right]at gl
   have hl1:l=1:=by have:=eu.1;omega
   subst hl1
   walk_at "z"
   rw[Int.fmod_eq_emod_of_nonneg _ (by omega)]
   refine⟨s % b,rfl,Int.emod_nonneg _ (by omega),Int.emod_lt_of_pos _ hb,q1-s / b*a,?_⟩
   have h3:=Int.emod_add_mul_ediv s b
   have h4:s % b=s-b*(s / b):=by omega
   rw[h4,Int.mul_sub,Int.mul_comm a s,h1,Int.mul_sub]
   have e1:a*(b*(s / b))=b*(s / b*a):=by rw[Int.mul_comm a,Int.mul_assoc]
   rw[e1]
   omega
 ·have h3:=Int.emod_add_mul_ediv a b
  rw[Int.one_mul]
  omega
theorem Zi1{m:Int}(h:0≤m): ZkT [.int m,.int r]=some (ZX (ZaJ m r)):=by
 apply Pk.eq
 unfold ZkT Zgp ZaJ
 by_cases c:m=0
 ·walk_at "z"
  rw[if_pos c];rfl
 ·walk_at "z"
  rw[if_neg c];rfl
theorem Zbc(h:0≤q.1)(x:Int): Zax q x↔q.1 ∣ x-q.2:=by
 unfold Zax
 by_cases c:q.1=0
 ·rw[c]
  simp
  omega
 ·have:0<q.1:=by omega
  simp only[c,false_implies,true_and,this,true_implies]
  exact(Int.dvd_iff_emod_eq_zero).symm
theorem Zsi{m:Int}(h:0≤m): 0≤(ZaJ m r).1:=by unfold ZaJ;split <;> simp[h]
theorem Zef{m:Int}(h:0≤m)(x:Int): Zax (ZaJ m r) x↔m ∣ x-r:=by
 rw[Zbc (Zsi h)]
 unfold ZaJ
 split
 ·rename_i c;subst c;rfl
 ·show m ∣ x-r.fmod m↔_
  rw[Int.fmod_eq_emod_of_nonneg _ h]
  have h1:x-r % m=(x-r)+m*(r / m):=by have:=Int.emod_add_mul_ediv r m;omega
  rw[h1]
  constructor
  ·intro q
   have:=Int.dvd_sub q (Int.dvd_mul_right m (r / m))
   rwa [Int.add_sub_cancel]at this
  ·intro q
   exact Int.dvd_add q (Int.dvd_mul_right m (r / m))
theorem RestOk.nn(h:RestOk q): 0≤q.1:=by rcases h with h | h <;> omega
theorem RestOk.self(h:RestOk q): Zax q q.2:=by rw[Zbc h.nn];simp
theorem Zjh(hp:RestOk p)(hq:RestOk q)(h:∀x,Zax p x↔Zax q x): p=q:=by
 have e1:∀x,p.1 ∣ x-p.2↔q.1 ∣ x-q.2:=fun x=>by rw[←Zbc hp.nn,←Zbc hq.nn];exact h x
 have a1:q.1 ∣ p.2-q.2:=(e1 p.2).mp (by simp)
 have a2:q.1 ∣ p.2+p.1-q.2:=(e1 (p.2+p.1)).mp (by rw[show p.2+p.1-p.2=p.1 by omega];exact Int.dvd_refl _)
 have b1:p.1 ∣ q.2-p.2:=(e1 q.2).mpr (by simp)
 have b2:p.1 ∣ q.2+q.1-p.2:=(e1 (q.2+q.1)).mpr (by rw[show q.2+q.1-q.2=q.1 by omega];exact Int.dvd_refl _)
 have c1:q.1 ∣ p.1:=by have:=Int.dvd_sub a2 a1;rwa [show p.2+p.1-q.2-(p.2-q.2)=p.1 by omega]at this
 have c2:p.1 ∣ q.1:=by have:=Int.dvd_sub b2 b1;rwa [show q.2+q.1-p.2-(q.2-p.2)=q.1 by omega]at this
 have em:p.1=q.1:=Int.dvd_antisymm hp.nn hq.nn c2 c1
 have er:p.2=q.2:=by
  rcases hp with hp | hp
  ·rw[hp]at em
   rw[←em]at a1
   have:=Int.zero_dvd.mp a1
   omega
  ·rcases hq with hq | hq
   ·omega
   ·rw[←em]at a1 hq
    obtain⟨k,hk⟩:=a1
    have:k=0:=by
     rcases Int.lt_trichotomy k 0 with h | h | h
     ·have:p.1*k≤p.1*(-1):=Int.mul_le_mul_of_nonneg_left (by omega) (by omega)
      omega
     ·exact h
     ·have:p.1*1≤p.1*k:=Int.mul_le_mul_of_nonneg_left (by omega) (by omega)
      omega
    subst this
    simp at hk
    omega
 exact Prod.ext em er
def RBd(k:Nat)(q:Int×Int): Prop:=Bd k q.1∧Bd k q.2
theorem ZjZ{m:Int}(h0:0≤m)(hm:Bd k m)(hr:Bd k r): RBd k (ZaJ m r):=ZgZ h0 hm hr
noncomputable def Zbf(p q:Int×Int): Int×Int:=ZaJ (Int.gcd p.1 q.1) (p.2+q.2)
theorem Zht(p q:Int×Int): RestOk (Zbf p q):=Zdl (by omega) _
theorem Zma(hk:k≤200000)(hp:Bd k p.1)(hq:Bd k q.1): Zg2 [ZX p,ZX q]=some (ZX (Zbf p q)):=by
 apply Pk.eq
 unfold Zg2 Zfr ZX Zbf
 walk_at "z"
 refine Zy (Zm6 (ZaE hp hk) (ZaE hq hk)) ?_
 walk_at "z"
 exact Zy (Zi1 (by omega)) rfl
noncomputable def ZdQ(p:Int×Int)(k:Int): Int×Int:=ZaJ (p.1*ZbC k) (p.2*k)
theorem Zqm{c:Int}(hk:k≤200000)(hp0:0≤p.1)(hp:RBd k p)(hc:Bd k c): ZgU [ZX p,.int c]=some (ZX (ZdQ p c)):=by
 apply Pk.eq
 unfold ZgU Zff ZX ZdQ
 have ha:Bd k (ZbC c):=by unfold Bd at *;rw[ZnU];exact hc
 walk_at "z"
 refine Zbx (ZbL hp.1 ha (by omega) (by omega)) ?_
 walk_at "z"
 refine Zbx (ZbL hp.2 hc (by omega) (by omega)) ?_
 walk_at "z"
 exact Zy (Zi1 (Int.mul_nonneg hp0 (Zc6 c))) rfl
noncomputable def ZcS(p:Int×Int)(top:Int): Option Int:=if p.1=0 then(if p.2≤top then some p.2 else none)else some (top-(top-p.2) % p.1)
theorem Zqn(hp:0≤p.1): ZiX [ZX p,.int top]=some (oT (ZcS p top)):=by
 apply Pk.eq
 unfold ZiX Zfg ZX ZcS
 by_cases c:p.1=0
 ·rw[if_pos c]
  by_cases d:p.2≤top
  ·walk_at "z"
   rw[if_pos d];rfl
  ·walk_at "z"
   rw[if_neg d];rfl
 ·rw[if_neg c]
  walk_at "z"
  rw[Int.fmod_eq_emod_of_nonneg _ hp]
  rfl
noncomputable def oR: Option (Int×Int)→T
 | none=>.none
 | some q=>ZX q
def Met(p q:Int×Int)(o:Option (Int×Int)): Prop:=match o with
 | none=>∀x,¬(Zax p x∧Zax q x)
 | some r=>RestOk r∧(∀x,Zax r x↔Zax p x∧Zax q x)
theorem Zrx{a b:Option (Int×Int)}(ha:Met p q a)(hb:Met p q b): a=b:=by
 cases a with
 | none=>
  cases b with
  | none=>rfl
  | some r=>exact absurd ((hb.2 r.2).mp hb.1.self) (ha r.2)
 | some s=>
  cases b with
  | none=>exact absurd ((ha.2 s.2).mp ha.1.self) (hb s.2)
  | some r=>rw[Zjh ha.1 hb.1 fun x=>(ha.2 x).trans (hb.2 x).symm]
theorem Zmz(hk:k≤8000)(op:RestOk p)(oq:RestOk q)(bp:RBd k p)(bq:RBd k q): Pk (Zjt [ZX p,ZX q]) fun t=>∃o,t=oR o∧Met p q o∧∀r,o=some r→(r=p∨r=q∨(p.1≠0∧q.1≠0∧r.1=Int.lcm p.1 q.1)):=by
 unfold Zjt ZfG
 have ep:ZX p=.tup [.int p.1,.int p.2]:=rfl
 have eq:ZX q=.tup [.int q.1,.int q.2]:=rfl
 have np:=op.nn
 have nq:=oq.nn
 by_cases c1:p.1=0
 ·rw[ep]
  walk_at "z"
  refine Zy (Zmy oq) ?_
  walk_at "z"
  have hone:∀x,Zax p x↔x=p.2:=fun x=>by rw[Zbc np,c1,Int.zero_dvd];omega
  refine⟨fun e=>?_,fun e=>?_⟩
  ·walk_at "z"
   refine⟨some p,rfl,⟨op,fun x=>⟨fun h=>⟨h,?_⟩,fun h=>h.1⟩⟩,fun r e=>by cases e;exact .inl rfl⟩
   rw[(hone x).mp h];exact dec_iff.mp e
  ·walk_at "z"
   refine⟨none,rfl,fun x h=>?_,by simp⟩
   have:=(hone x).mp h.1
   subst this
   have h2:=ZaH h.2
   rw[h2]at e
   cases e
 by_cases c2:q.1=0
 ·have hone:∀x,Zax q x↔x=q.2:=fun x=>by rw[Zbc nq,c2,Int.zero_dvd];omega
  rw[ep,eq]
  walk_at "z"
  rw[←ep]
  refine Zy (Zmy op) ?_
  walk_at "z"
  refine⟨fun e=>?_,fun e=>?_⟩
  ·walk_at "z"
   refine⟨some q,rfl,⟨oq,fun x=>⟨fun h=>⟨?_,h⟩,fun h=>h.2⟩⟩,fun r e=>by cases e;exact .inr (.inl rfl)⟩
   rw[(hone x).mp h];exact dec_iff.mp e
  ·walk_at "z"
   refine⟨none,rfl,fun x h=>?_,by simp⟩
   have:=(hone x).mp h.2
   subst this
   have h2:=ZaH h.1
   rw[h2]at e
   cases e
 ·have pp:0<p.1:=by omega
  have pq:0<q.1:=by omega
  obtain⟨g,hg⟩:∃g:Nat,Int.gcd p.1 q.1=g:=⟨_,rfl⟩
  have hg0:0<(g:Int):=by
   have:Int.gcd p.1 q.1≠0:=fun h=>c1 (Int.gcd_eq_zero_iff.mp h).1
   omega
  have gp:(g:Int) ∣ p.1:=by rw[←hg];exact Int.gcd_dvd_left ..
  have gq:(g:Int) ∣ q.1:=by rw[←hg];exact Int.gcd_dvd_right ..
  obtain⟨a,ea⟩:=gp
  obtain⟨b,eb⟩:=gq
  have ha:0<a:=by
   rcases Int.lt_trichotomy a 0 with h | h | h
   ·have:=Int.mul_neg_of_pos_of_neg hg0 h;omega
   ·subst h;simp at ea;omega
   ·exact h
  have hb:0<b:=by
   rcases Int.lt_trichotomy b 0 with h | h | h
   ·have:=Int.mul_neg_of_pos_of_neg hg0 h;omega
   ·subst h;simp at eb;omega
   ·exact h
  have da:p.1 / g=a:=by rw[ea];exact Int.mul_ediv_cancel_left _ (by omega)
  have db:q.1 / g=b:=by rw[eb];exact Int.mul_ediv_cancel_left _ (by omega)
  have kg:Bd k (g:Int):=Zcu bp.1 (by omega) (by
   rw[ea]
   have:(g:Int)*1≤g*a:=Int.mul_le_mul_of_nonneg_left (by omega) (by omega)
   omega)
  have kb:Bd k b:=Zcu bq.1 (by omega) (by
   rw[eb]
   have:1*b≤g*b:=Int.mul_le_mul_of_nonneg_right (by omega) (by omega)
   omega)
  have cop:Int.gcd a b=1:=by
   have h1:=Int.gcd_mul_left (g:Int) a b
   rw[←ea,←eb,hg,Int.natAbs_natCast]at h1
   have h2:g*1=g*Int.gcd a b:=by omega
   exact(Nat.eq_of_mul_eq_mul_left (by omega) h2).symm
  rw[ep,eq]
  walk_at "z"
  refine Zy (Zm6 (ZaE bp.1 (by omega)) (ZaE bq.1 (by omega))) ?_
  rw[hg]
  walk_at "z"
  rw[Int.fmod_eq_emod_of_nonneg _ (by omega)]
  by_cases c3:(q.2-p.2) % (g:Int)=0
  ·obtain⟨d,ed⟩:=Int.dvd_of_emod_eq_zero c3
   have dd:(q.2-p.2) / g=d:=by rw[ed];exact Int.mul_ediv_cancel_left _ (by omega)
   have kd:Bd (k+1) d:=by
    have h1:Bd (k+1) (q.2-p.2):=Bd.sub bq.2 bp.2
    unfold Bd at *
    rw[ed,Int.natAbs_mul]at h1
    have:1*d.natAbs≤(g:Int).natAbs*d.natAbs:=Nat.mul_le_mul_right _ (by omega)
    omega
   walk_at "z"
   refine Zcq (by omega) (ZcR kg (by omega)) ?_
   rw[Int.fdiv_eq_ediv_of_nonneg _ (by omega),db]
   walk_at "z"
   refine Zcq (by omega) (ZcR kg (by omega)) ?_
   rw[Int.fdiv_eq_ediv_of_nonneg _ (by omega),dd]
   walk_at "z"
   refine Zcq (by omega) (ZcR kg (by omega)) ?_
   rw[Int.fdiv_eq_ediv_of_nonneg _ (by omega),da]
   walk_at "z"
   refine(Zrw hb kb hk (by omega) cop).mono ?_
   rintro _ ⟨y,rfl,y0,y1,z,hz⟩
   have ky:Bd k y:=Zcu kb y0 (by omega)
   walk_at "z"
   refine Zbx (ZbL kd ky (by omega) (by omega)) ?_
   walk_at "z"
   refine Zbx (ZbL bp.1 kb (by omega) (by omega)) ?_
   walk_at "z"
   refine Zbx (ZbL bp.1 (Bd.mul kd ky) (by omega) (by omega)) ?_
   walk_at "z"
   have hL:(p.1*b).natAbs=Int.lcm p.1 q.1:=by
    have h1:=Int.gcd_mul_lcm p.1 q.1
    rw[hg]at h1
    have h2:p.1.natAbs*q.1.natAbs=g*(p.1*b).natAbs:=by
     rw[Int.natAbs_mul]
     conv=>lhs;rw[show q.1.natAbs=g*b.natAbs by rw[eb,Int.natAbs_mul,Int.natAbs_natCast]]
     rw[←Nat.mul_assoc,Nat.mul_comm p.1.natAbs g,Nat.mul_assoc]
    have h3:g*Int.lcm p.1 q.1=g*(p.1*b).natAbs:=by omega
    exact(Nat.eq_of_mul_eq_mul_left (by omega) h3).symm
   have hpb:0<p.1*b:=Int.mul_pos pp hb
   refine Zy (Zi1 (by omega)) ⟨some _,rfl,⟨Zdl (by omega) _,fun x=>?_⟩,fun r e=>?_⟩
   ·rw[Zef (by omega),Zbc np,Zbc nq]
    have hx0:p.1*(d*y)=(q.2-p.2)+q.1*(d*z):=by
     rw[ed,ea,eb]
     have:(g:Int)*a*(d*y)=g*d*(a*y):=by
      rw[Int.mul_assoc,Int.mul_assoc,Int.mul_left_comm a d y]
     rw[this,hz,Int.mul_add,Int.mul_one]
     congr 1
     rw[Int.mul_assoc,Int.mul_assoc,Int.mul_left_comm d b z]
    constructor
    ·intro h
     have h1:p.1 ∣ x-(p.2+p.1*(d*y)):=Int.dvd_trans (Int.dvd_mul_right _ _) h
     have h2:q.1 ∣ x-(p.2+p.1*(d*y)):=Int.dvd_trans ⟨a,by rw[ea,eb];rw[Int.mul_assoc,Int.mul_assoc,Int.mul_comm a b]⟩ h
     refine⟨?_,?_⟩
     ·have:=Int.dvd_add h1 (Int.dvd_mul_right p.1 (d*y))
      rwa [show x-(p.2+p.1*(d*y))+p.1*(d*y)=x-p.2 by omega]at this
     ·have:=Int.dvd_add h2 (Int.dvd_mul_right q.1 (d*z))
      rwa [show x-(p.2+p.1*(d*y))+q.1*(d*z)=x-q.2 by omega]at this
    ·rintro⟨h1,h2⟩
     have h3:p.1 ∣ x-(p.2+p.1*(d*y)):=by
      have:=Int.dvd_sub h1 (Int.dvd_mul_right p.1 (d*y))
      rwa [show x-p.2-p.1*(d*y)=x-(p.2+p.1*(d*y))by omega]at this
     have h4:q.1 ∣ x-(p.2+p.1*(d*y)):=by
      have:=Int.dvd_sub h2 (Int.dvd_mul_right q.1 (d*z))
      rwa [show x-q.2-q.1*(d*z)=x-(p.2+p.1*(d*y))by omega]at this
     have h5:=Int.lcm_dvd (Int.dvd_natAbs.mpr h3) (Int.dvd_natAbs.mpr h4)
     rw[←hL]at h5
     have h6:(((p.1*b).natAbs:Nat):Int) ∣ (((x-(p.2+p.1*(d*y))).natAbs:Nat):Int):=Int.natCast_dvd_natCast.mpr h5
     exact Int.natAbs_dvd.mp (Int.dvd_natAbs.mp h6)
   ·cases e
    refine .inr (.inr ⟨c1,c2,?_⟩)
    unfold ZaJ
    rw[if_neg (by omega)]
    show p.1*b=_
    rw[←hL]
    omega
  ·walk_at "z"
   refine⟨none,rfl,fun x h=>c3 ?_,by simp⟩
   rw[Zbc np,Zbc nq]at h
   have h1:(g:Int) ∣ x-p.2:=Int.dvd_trans ⟨a,ea⟩ h.1
   have h2:(g:Int) ∣ x-q.2:=Int.dvd_trans ⟨b,eb⟩ h.2
   have h3:=Int.dvd_sub h1 h2
   rw[show x-p.2-(x-q.2)=q.2-p.2 by omega]at h3
   exact Int.emod_eq_zero_of_dvd h3
noncomputable def ZaB(a b:Option Int): Option Int:=if dec (leO a b)then a else b
noncomputable def Z3: Option Int→Option Int→Option Int
 | some a,some b=>some (a+b)
 | _,_=>none
theorem addO_some{b:Option Int}{c:Int}: Z3 a b=some c↔∃x y,a=some x∧b=some y∧x+y=c:=by
 cases a <;> cases b <;> simp[Z3]
theorem leO_total{b:Option Int}(h:¬leO a b): leO b a:=by
 cases a with
 | none=>exact Zcz
 | some x=>
  cases b with
  | none=>exact absurd Zcz h
  | some y=>rw[leO_some]at h ⊢;omega
theorem ZkV{b:Option Int}: leO (ZaB a b) a:=by
 unfold ZaB
 split
 ·exact Zcm
 ·rename_i h;exact leO_total fun q=>h (ZaH q)
theorem Zpd{b:Option Int}: leO (ZaB a b) b:=by
 unfold ZaB
 split
 ·rename_i h;exact dec_iff.mp h
 ·exact Zcm
theorem ZdK(a b:Option Int): ZaB a b=a∨ZaB a b=b:=by
 unfold ZaB;split <;> simp
theorem ZqI{b:Option Int}(h:leO a b)(k:leO b a): a=b:=by
 cases a with
 | none=>
  cases b with
  | none=>rfl
  | some y=>exact absurd h ZhK
 | some x=>
  cases b with
  | none=>exact absurd k ZhK
  | some y=>rw[leO_some]at h k;rw[show x=y by omega]
theorem Zdn{b:Option Int}(h:leO a b): ZaB a b=a:=by unfold ZaB;rw[ZaH h];rfl
theorem Zen{b c d:Option Int}(h:leO a c)(k:leO b d): leO (Z3 a b) (Z3 c d):=by
 intro y e
 obtain⟨p,q,rfl,rfl,rfl⟩:=addO_some.mp e
 obtain⟨p',rfl,l1⟩:=h p rfl
 obtain⟨q',rfl,l2⟩:=k q rfl
 exact⟨p'+q',rfl,by omega⟩
theorem Zpe: Z3 a (some 0)=a:=by cases a <;> simp[Z3]
theorem Zpf: Z3 (some 0) a=a:=by cases a <;> simp[Z3]
theorem ZfP{b c:Option Int}: Z3 (Z3 a b) c=Z3 a (Z3 b c):=by cases a <;> cases b <;> cases c <;> simp[Z3,Int.add_assoc]
theorem Zeb{b:Option Int}: Zju [oT a,oT b]=some (oT (Z3 a b)):=by
 apply Pk.eq
 unfold Zju ZfH
 cases a with
 | none=>
  rw[ZaO]
  walk_at "z"
  rfl
 | some x=>
  cases b with
  | none=>
   rw[ZaO,Z8]
   walk_at "z"
   rfl
  | some y=>
   rw[Z8,Z8]
   walk_at "z"
   rfl
theorem Zns{b:Option Int}: Zhr [oT a,oT b]=some (oT (ZaB a b)):=by
 apply Pk.eq
 unfold Zhr Zf5 ZaB
 walk_at "z"
 refine Zy ZqH ?_
 walk_at "z"
 refine⟨fun e=>?_,fun e=>?_⟩
 ·walk_at "z"
  rw[e];rfl
 ·walk_at "z"
  rw[e];rfl
noncomputable def Zbs(G:Nat→Nat→Option Int)(m:Nat): Nat→Nat→Option Int:=fun i j=>ZaB (G i j) (Z3 (G i m) (G m j))
theorem ZpB{a b:Nat→Option Int}{c:Option Int}(hn:n<10000): Zis [Zab n a,oT c,Zab n b]=some (Zab n fun j=>ZaB (a j) (Z3 c (b j))):=by
 apply Pk.eq
 unfold Zis ZeU Zab
 walk_at "z"
 refine Zkg (n:=n) (a:=fun j=>oT (a j)) (b:=fun j=>oT (b j)) (c:=fun j=>oT (ZaB (a j) (Z3 c (b j)))) hn ?_ (fun j hj=>?_) ?_
 ·walk_at "z"
  rfl
 ·walk_at "z"
  refine Zy Zeb ?_
  walk_at "z"
  exact Zy Zns ⟨ZdJ,rfl⟩
 rfl
theorem ZqJ(hn:n<10000)(hm:m<n): Zja [ZO n G,.int m]=some (ZO n (Zbs G m)):=by
 apply Pk.eq
 unfold Zja Zfs ZO
 walk_at "z"
 refine Zb1 (n:=n) (a:=fun i=>Zab n (G i)) (b:=fun i=>Zab n (Zbs G m i)) hn ?_ (fun i hi=>?_) ?_
 ·walk_at "z"
  rfl
 ·have h:Zab n (G i)=.lst (tab n fun j=>oT (G i j)):=rfl
  rw[h]
  walk_at "z"
  rw[←h]
  exact Zy (ZpB hn) rfl
 rfl
def Neg(n:Nat)(G:Nat→Nat→Option Int): Prop:=∃i,i<n∧∃b,G i i=some b∧b<0
theorem Ztd(hn:n≤1000)(hd:∀i,i<n→∃b,G i i=some b): Ziw [ZO n G]=some (.bool (dec (Neg n G))):=by
 apply Pk.eq
 unfold Ziw ZeY ZO Zab
 walk_at "z"
 refine Zb1 (n:=n) (a:=fun i=>.int i) (b:=fun i=>.bool (dec (∃b,G i i=some b∧b<0))) (by omega) ?_ (fun i hi=>?_) ?_
 ·walk_at "z"
  rfl
 ·walk_at "z"
  obtain⟨b,e⟩:=hd i hi
  rw[e,Z8]
  walk_at "z"
  rw[Zg9]
  congr 1
  refine ZjQ ⟨fun h=>⟨b,rfl,h⟩,?_⟩
  rintro⟨c,e,h⟩
  cases e
  exact h
 walk_at "z"
 rfl
noncomputable def ZU(G:Nat→Nat→Option Int): Nat→Nat→Nat→Option Int
 | 0=>G
 | m+1=>Zbs (ZU G m) m
theorem ZnW(h:∃b,G i i=some b): ∃b,Zbs G m i i=some b:=by
 obtain⟨b,e⟩:=h
 have:=ZkV (a:=G i i) (b:=Z3 (G i m) (G m i))
 rw[e]at this
 obtain⟨c,e2,_⟩:=this b rfl
 exact⟨c,by unfold Zbs;rw[e];exact e2⟩
theorem ZkB{n:Nat}{G:Nat→Nat→Option Int}(hd:∀i,i<n→∃b,G i i=some b): ∀m i,i<n→∃b,ZU G m i i=some b
 | 0=>hd
 | m+1=>fun i hi=>ZnW (ZkB hd m i hi)
theorem Zsj(h0:0<n)(hn:n≤1000)(hd:∀i,i<n→∃b,G i i=some b): Pk (Zf7 [ZO n G]) fun t=>(t=ZO n (ZU G n)∧∀m,m<n→¬Neg n (ZU G (m+1)))∨(t=.none∧∃m,m<n∧Neg n (ZU G (m+1))):=by
 unfold Zf7 Zf6
 have hg:ZO n G=.lst (tab n fun i=>Zab n (G i)):=rfl
 walk_at "z"
 refine Zt7 (n:=n) (a:=fun i=>.int i) h0 ?_ (P:=fun i σ=>σ 1=some (ZO n (ZU G i))∧∀m,m<i→¬Neg n (ZU G (m+1))) ⟨rfl,by omega⟩ ?_ ?_
 ·walk_at "z"
  rw[hg]
  walk_at "z"
  rfl
 ·rintro i σ hi ⟨e1,e2⟩
  walk_at "z"
  refine Zy (ZqJ (by omega) hi) ?_
  walk_at "z"
  refine Zy (Ztd hn fun a ha=>ZnW (ZkB hd i a ha)) ?_
  walk_at "z"
  refine⟨fun e=>?_,fun e=>?_⟩
  ·walk_at "z"
   exact .inr ⟨rfl,i,hi,dec_iff.mp e⟩
  ·walk_at "z"
   refine⟨by walk_at "r",fun m hm=>?_⟩
   by_cases q:m=i
   ·subst q
    intro h
    have h2:dec (Neg n (Zbs (ZU G m) m))=true:=ZaH h
    rw[h2]at e
    cases e
   ·exact e2 m (by omega)
 ·rintro σ ⟨e1,e2⟩
  walk_at "z"
  exact .inl ⟨rfl,e2⟩
theorem Zlc{G:Nat→Nat→Option Int}: ∀m i j,leO (ZU G m i j) (G i j)
 | 0=>fun _ _=>Zcm
 | m+1=>fun i j=>ZcO ZkV (Zlc m i j)
theorem ZdL(hd:∀i,i<n→G i i=some 0)(hn:∀k,k<m→¬Neg n (ZU G (k+1))): ∀i,i<n→ZU G m i i=some 0:=by
 intro i hi
 obtain⟨b,e⟩:=ZkB (fun i hi=>⟨0,hd i hi⟩) m i hi
 have h:=Zlc m i i (G:=G)
 rw[hd i hi,e]at h
 have h1:=leO_some.mp h
 have h2:¬b<0:=fun q=>by
  cases m with
  | zero=>have:=hd i hi;rw[show ZU G 0 i i=G i i from rfl,this]at e;cases e;omega
  | succ m=>exact hn m (by omega) ⟨i,hi,b,e,q⟩
 rw[e,show b=0 by omega]
theorem ZkW{n:Nat}{G:Nat→Nat→Option Int}(hd:∀i,i<n→G i i=some 0): ∀m,m≤n→(∀k,k<m→¬Neg n (ZU G (k+1)))→∀k,k<m→∀i j,i<n→j<n→leO (ZU G m i j) (Z3 (ZU G m i k) (ZU G m k j))
 | 0,_,_,k,hk=>by omega
 | m+1,hm,hn,k,hk=>by
  intro i j hi hj
  have z:=ZdL hd (fun k hk=>hn k (by omega):∀k,k<m→_)
  have ih:=ZkW hd m (by omega) (fun k hk=>hn k (by omega))
  generalize hD:ZU G m=D at z ih
  have hs:ZU G (m+1)=Zbs D m:=by rw[←hD];rfl
  rw[hs]
  have zm:=z m (by omega)
  have cm:∀a,Zbs D m a m=D a m:=fun a=>by unfold Zbs;rw[zm,Zpe];exact Zdn Zcm
  have rm:∀b,Zbs D m m b=D m b:=fun b=>by unfold Zbs;rw[zm,Zpf];exact Zdn Zcm
  by_cases q:k=m
  ·subst q
   rw[cm,rm]
   exact Zpd
  ·have hk':k<m:=by omega
   have t1:=ih k hk' i j hi hj
   have t2:=ih k hk' i m hi (by omega)
   have t3:=ih k hk' m j (by omega) hj
   have t4:=ih k hk' m m (by omega) (by omega)
   rw[zm]at t4
   have dn:leO (Zbs D m i j) (Z3 (D i m) (D m j)):=Zpd
   have d0:leO (Zbs D m i j) (D i j):=ZkV
   rcases ZdK (D i k) (Z3 (D i m) (D m k))with e1 | e1 <;> rcases ZdK (D k j) (Z3 (D k m) (D m j))with e2 | e2
   ·rw[show Zbs D m i k=_ from e1,show Zbs D m k j=_ from e2]
    exact ZcO d0 t1
   ·rw[show Zbs D m i k=_ from e1,show Zbs D m k j=_ from e2,←ZfP]
    exact ZcO dn (Zen t2 Zcm)
   ·rw[show Zbs D m i k=_ from e1,show Zbs D m k j=_ from e2,ZfP]
    exact ZcO dn (Zen Zcm t3)
   ·rw[show Zbs D m i k=_ from e1,show Zbs D m k j=_ from e2,ZfP,←ZfP (a:=D m k)]
    refine ZcO dn (Zen Zcm ?_)
    have:=Zen t4 (Zcm (a:=D m j))
    rwa [Zpf]at this
def ZgA(n:Nat)(G:Nat→Nat→Option Int)(y:Nat→Int): Prop:=∀i j,i<n→j<n→∀b,G i j=some b→y i-y j≤b
theorem Zkm{n:Nat}{G:Nat→Nat→Option Int}{y:Nat→Int}(h:ZgA n G y): ∀m,m≤n→ZgA n (ZU G m) y
 | 0,_=>h
 | m+1,hm=>by
  have ih:=Zkm h m (by omega)
  intro i j hi hj b e
  rcases ZdK (ZU G m i j) (Z3 (ZU G m i m) (ZU G m m j))with e1 | e1
  ·rw[show ZU G (m+1) i j=_ from e1]at e;exact ih i j hi hj b e
  ·rw[show ZU G (m+1) i j=_ from e1]at e
   obtain⟨p,q,h1,h2,h3⟩:=addO_some.mp e
   have:=ih i m hi (by omega) p h1
   have:=ih m j (by omega) hj q h2
   omega
theorem Zsk{y:Nat→Int}(h:ZgA n G y): ¬Neg n G:=by
 rintro⟨i,hi,b,e,hb⟩
 have:=h i i hi hi b e
 omega
theorem Zm7{x:Nat→Int}(h:Zbi n G R x): ZgA (n+1) G (Zao x):=fun i j hi hj b e=>h.1 i j hi hj b e
theorem Zj0{k:Int}: Zjb [.int k]=some (.bool true):=by
 apply Pk.eq
 unfold Zjb Zft
 walk_at "z"
 rfl
theorem Zue(hn:n≤1000)(hd:∀i,i<n→G i i=some 0): Zjv [ZO n G,.int n]=some (.bool true):=by
 apply Pk.eq
 unfold Zjv ZfI ZO Zab
 walk_at "z"
 refine Zbl (n:=n) (a:=fun i=>.int i) (P:=fun i σ=>σ 0=some (ZO n G)∧σ 1=some (.int n)) ?_ ⟨rfl,rfl⟩ ?_ ?_
 ·walk_at "z"
  rfl
 ·rintro i σ hi ⟨e0,e1⟩
  unfold ZO Zab at e0
  walk_at "z"
  refine Zbl (n:=n) (a:=fun j=>oT (G i j)) (P:=fun j σ=>σ 0=some (ZO n G)∧σ 1=some (.int n)∧σ 2=some (.int i)) ?_ ⟨by walk_at "r",by walk_at "r",by walk_at "r"⟩ ?_ ?_
  ·walk_at "z"
   rfl
  ·rintro j σ hj ⟨f0,f1,f2⟩
   cases G i j with
   | none=>
    rw[ZaO]
    walk_at "z"
    exact⟨by walk_at "r",by walk_at "r",by walk_at "r"⟩
   | some b=>
    rw[Z8]
    walk_at "z"
    refine Zy Zj0 ?_
    walk_at "z"
    exact⟨by walk_at "r",by walk_at "r",by walk_at "r"⟩
  ·rintro σ ⟨f0,f1,f2⟩
   unfold ZO Zab at f0
   walk_at "z"
   rw[hd i hi,Z8]
   walk_at "z"
   exact⟨by walk_at "r",by walk_at "r"⟩
 ·rintro σ ⟨e0,e1⟩
  walk_at "z"
  rfl
section
variable {Q:T→Prop}
theorem Zj1{p:PE}(h:Pk (p σ) fun t=>∃ts,t=.lst ts∧Q (.lst (ts.drop k))): Pk (Zdr p k σ) Q:=by
 obtain⟨_,e,ts,rfl,q⟩:=h
 exact⟨_,by simp only[Zdr,e,Option.bind_some],q⟩
end
noncomputable abbrev Sp:=Option Int×Option Int
noncomputable def spT(s:Sp): T:=.tup [oT s.1,oT s.2]
def SBd(k:Nat)(s:Sp): Prop:=(∀x,s.1=some x→Bd k x)∧∀x,s.2=some x→Bd k x
def InS(s:Sp)(x:Int): Prop:=(∀l,s.1=some l→l≤x)∧∀h,s.2=some h→x≤h
theorem Zg0{k:Int}(hi:i≤100000)(ha:∀x,a=some x→Bd i x)(hk:Bd i k): Zjd [oT a,.int k]=some (oT (a.map fun x=>x*k)):=by
 apply Pk.eq
 unfold Zjd Zfu
 cases a with
 | none=>
  simp only[ZaO,Option.map_none]
  walk_at "z"
  rfl
 | some x=>
  simp only[Z8,Option.map_some]
  walk_at "z"
  refine Zbx (ZbL (ha x rfl) hk (by omega) (by omega)) ?_
  rfl
noncomputable def Zb8(s:Sp)(k:Int): Sp:=if k=0 then(some 0,some 0)else if k<0 then(s.2.map fun x=>x*k,s.1.map fun x=>x*k)else(s.1.map fun x=>x*k,s.2.map fun x=>x*k)
theorem ZpC{s:Sp}{k:Int}(hi:i≤100000)(hs:SBd i s)(hk:Bd i k): Zit [spT s,.int k]=some (spT (Zb8 s k)):=by
 apply Pk.eq
 unfold Zit ZeV Zb8 spT
 by_cases c:k=0
 ·walk_at "z"
  rw[if_pos c]
  rfl
 ·rw[if_neg c]
  walk_at "z"
  refine Zy (Zg0 hi hs.1 hk) ?_
  walk_at "z"
  refine Zy (Zg0 hi hs.2 hk) ?_
  by_cases d:k<0
  ·walk_at "z"
   rw[if_pos d]
  ·walk_at "z"
   rw[if_neg d]
noncomputable def Zld(s u:Sp): Sp:=(Z3 s.1 u.1,Z3 s.2 u.2)
theorem ZpO{s u:Sp}: Zix [spT s,spT u]=some (spT (Zld s u)):=by
 apply Pk.eq
 unfold Zix ZeZ spT
 walk_at "z"
 refine Zy Zeb ?_
 walk_at "z"
 refine Zy Zeb ?_
 walk_at "z"
 rfl
noncomputable def ZbY(c:Nat→Int)(S:Nat→Sp): Nat→Sp
 | 0=>(some (c 0),some (c 0))
 | j+1=>Zld (ZbY c S j) (Zb8 (S j) (c (j+1)))
theorem ZnX{f:Nat→T}: (tab (n+1) f).drop 1=tab n fun i=>f (i+1):=by
 apply List.ext_getElem
 ·simp[tab]
 ·intro i h1 h2
  simp[tab]
theorem ZpZ{S:Nat→Sp}(hn:n≤100)(hi:i≤100000)(bc:∀j,j<n+1→Bd i (c j))(bS:∀j,j<n→SBd i (S j)): ZiG [.lst (tab (n+1) fun j=>.int (c j)),.lst (tab n fun j=>spT (S j))]=some (spT (ZbY c S n)):=by
 apply Pk.eq
 unfold ZiG Ze5
 walk_at "z"
 refine Zkt (n:=n) (a:=fun j=>.int (c (j+1))) (c:=fun j=>spT (S j)) (P:=fun j σ=>σ 2=some (spT (ZbY c S j))) ?_ rfl ?_ ?_
 ·refine Zo3 ?_
  refine Zj1 ?_
  walk_at "z"
  refine⟨_,rfl,?_⟩
  rw[ZnX]
  walk_at "z"
  rfl
 ·rintro j σ hj e2
  walk_at "z"
  refine Zy (ZpC hi (bS j hj) (bc (j+1) (by omega))) ?_
  walk_at "z"
  refine Zy ZpO ?_
  walk_at "z"
  exact Za1
 ·rintro σ e2
  walk_at "z"
  rfl
theorem Zm8{b:Option Int}: ZfY [oT a,oT b]=some (.bool (dec (∃x y,a=some x∧b=some y∧y<x))):=by
 apply Pk.eq
 unfold ZfY ZfX
 cases a with
 | none=>
  rw[ZaO]
  walk_at "z"
  rw[Zbo (by rintro⟨x,y,h,_⟩;cases h)]
 | some x=>
  cases b with
  | none=>
   rw[ZaO,Z8]
   walk_at "z"
   rw[Zbo (by rintro⟨x,y,_,h,_⟩;cases h)]
  | some y=>
   rw[Z8,Z8]
   walk_at "z"
   congr 1
   by_cases h:y<x
   ·rw[ZaH ⟨x,y,rfl,rfl,h⟩];simp[h]
   ·rw[Zbo (by rintro⟨x',y',h1,h2,h3⟩;cases h1;cases h2;exact h h3)];simp[h]
theorem Zsl{s:Sp}{k:Int}(h:InS s x): InS (Zb8 s k) (k*x):=by
 unfold Zb8
 obtain⟨a,b⟩:=s
 by_cases c:k=0
 ·rw[if_pos c,c,Int.zero_mul]
  exact⟨fun l e=>by cases e;omega,fun l e=>by cases e;omega⟩
 ·rw[if_neg c]
  by_cases d:k<0
  ·rw[if_pos d]
   refine⟨fun l e=>?_,fun l e=>?_⟩
   ·cases b with
    | none=>cases e
    | some y=>
     cases e
     have:=h.2 y rfl
     show y*k≤k*x
     rw[Int.mul_comm]
     exact Int.mul_le_mul_of_nonpos_left (a:=k) (by omega) this
   ·cases a with
    | none=>cases e
    | some y=>
     cases e
     have:=h.1 y rfl
     show k*x≤y*k
     rw[Int.mul_comm y]
     exact Int.mul_le_mul_of_nonpos_left (a:=k) (by omega) this
  ·rw[if_neg d]
   refine⟨fun l e=>?_,fun l e=>?_⟩
   ·cases a with
    | none=>cases e
    | some y=>
     cases e
     have:=h.1 y rfl
     show y*k≤k*x
     rw[Int.mul_comm]
     exact Int.mul_le_mul_of_nonneg_left this (show 0≤k by omega)
   ·cases b with
    | none=>cases e
    | some y=>
     cases e
     have:=h.2 y rfl
     show k*x≤y*k
     rw[Int.mul_comm y]
     exact Int.mul_le_mul_of_nonneg_left this (show 0≤k by omega)
theorem Zte{s u:Sp}(h:InS s x)(k:InS u y): InS (Zld s u) (x+y):=by
 refine⟨fun l e=>?_,fun l e=>?_⟩
 ·obtain⟨a,b,h1,h2,rfl⟩:=addO_some.mp e
  have:=h.1 a h1
  have:=k.1 b h2
  omega
 ·obtain⟨a,b,h1,h2,rfl⟩:=addO_some.mp e
  have:=h.2 a h1
  have:=k.2 b h2
  omega
noncomputable def ZA(R:Nat→Int×Int): Nat→Int×Int:=cn (0,0) R
theorem Zle(R:Nat→Int×Int): cn (T.tup [.int 0,.int 0]) (fun i=>ZX (R i))=fun i=>ZX (ZA R i):=by
 funext i;cases i <;> rfl
theorem ZlN(hn:n<9000): Ze8 [ZaD n R]=some (ZaD (n+1) (ZA R)):=by
 apply Pk.eq
 unfold Ze8 Ze6 ZaD
 walk_at "z"
 rw[Zle]
def RB(M:Int)(k:Nat)(q:Int×Int): Prop:=RestOk q∧(q.1=0∨q.1 ∣ M)∧Bd k q.2
theorem RB.mono(h:RB M i q)(hij:i≤j): RB M j q:=⟨h.1,h.2.1,h.2.2.mono hij⟩
theorem RB.bd(hM:0<M)(bM:Bd k M)(h:RB M k q): RBd k q:=by
 refine⟨?_,h.2.2⟩
 rcases h.2.1 with e | e
 ·rw[e];exact ZdA
 ·exact Zcu bM h.1.nn (Int.le_of_dvd hM e)
theorem ZcA(h:∀t,t<n→RB M k (R t)): ∀i,i<n+1→RB M k (ZA R i)
 | 0,_=>⟨.inl rfl,.inl rfl,ZdA⟩
 | i+1,hi=>h i (by omega)
def Zcf(n:Nat)(G:Nat→Nat→Option Int)(R:Nat→Int×Int)(i:Nat)(m:Nat)(x:Int): Prop:=Zax (ZA R i) x∧∀j,j<m→∀a b,G i j=some a→G j i=some b→a+b=0→Zax (ZA R j) (x-a)
def Zcr(n:Nat)(G:Nat→Nat→Option Int)(R:Nat→Int×Int)(M:Int)(k:Nat)(i m:Nat)(o:Option (Int×Int)): Prop:=match o with
 | none=>∀x,¬Zcf n G R i m x
 | some q=>RB M k q∧∀x,Zax q x↔Zcf n G R i m x
theorem ZmA(h:RestOk q)(a x:Int): Zax (Zbf q (0,a)) x↔Zax q (x-a):=by
 unfold Zbf
 rw[Zef (by omega),Zbc h.nn]
 simp only[Int.gcd_zero_right]
 rw[Int.natAbs_of_nonneg h.nn,show x-(q.2+a)=x-a-q.2 by omega]
theorem ZpP(hn:n≤100)(hi:i<n+1)(hk:k≤7000)(hM:0<M)(bM:Bd k M)(bG:∀a b c,a<n+1→b<n+1→G a b=some c→Bd k c)(hR:∀t,t<n→RB M k (R t)): Pk (ZdB [ZO (n+1) G,ZaD (n+1) (ZA R),.int i]) fun t=>∃o,t=oR o∧Zcr n G R M (k+1) i (n+1) o:=by
 unfold ZdB Ze0
 have hF:=ZcA hR
 have bM1:Bd (k+1) M:=bM.mono (by omega)
 have hr:ZaD (n+1) (ZA R)=.lst (tab (n+1) fun i=>ZX (ZA R i)):=rfl
 rw[hr]
 walk_at "z"
 refine Zkt (n:=n+1) (a:=fun j=>.int j) (c:=fun j=>ZX (ZA R j)) (P:=fun m σ=>∃o,σ 0=some (ZO (n+1) G)∧σ 1=some (.lst (tab (n+1) fun i=>ZX (ZA R i)))∧σ 2=some (.int i)∧σ 3=some (oR o)∧Zcr n G R M (k+1) i m o) ?_ ⟨some (ZA R i),by walk_at "r",by walk_at "r",by walk_at "r",by walk_at "r",(hF i hi).mono (by omega),fun x=>⟨fun h=>⟨h,by omega⟩,fun h=>h.1⟩⟩ ?_ ?_
 ·walk_at "z"
  rfl
 ·rintro j σ hj ⟨o,e0,e1,e2,e3,ho⟩
  unfold ZO Zab at e0
  cases o with
  | none=>
   have e3':σ 3=some .none:=e3
   clear e3
   walk_at "z"
   refine⟨none,by walk_at "r",by walk_at "r",by walk_at "r",by walk_at "r",fun x h=>ho x ⟨h.1,fun j' hj'=>h.2 j' (by omega)⟩⟩
  | some q=>
   have e3':σ 3=some (.tup [.int q.1,.int q.2]):=e3
   clear e3
   walk_at "z"
   refine Zy Zeb ?_
   walk_at "z"
   refine ZdP (Zgy (n:=0)) (.int (n:=0)) ?_
   walk_at "z"
   have stay:(∀a b,G i j=some a→G j i=some b→¬a+b=0)→Zcr n G R M (k+1) i (j+1) (some q):=fun h=>⟨ho.1,fun x=>(ho.2 x).trans ⟨fun hx=>⟨hx.1,fun j' hj' a b ha hb hab=>by
     by_cases q':j'=j
     ·subst q';exact absurd hab (h a b ha hb)
     ·exact hx.2 j' (by omega) a b ha hb hab⟩,fun hx=>⟨hx.1,fun j' hj'=>hx.2 j' (by omega)⟩⟩⟩
   refine⟨fun e=>?_,fun e=>?_⟩
   ·have e':=dec_iff.mp e
    rw[←Z8,oT_inj]at e'
    obtain⟨a,b,ha,hb,hab⟩:=addO_some.mp e'
    walk_at "z"
    rw[ha,Z8]
    have hj2:=hF j hj
    have ba:=bG i j a hi hj ha
    refine Zy (Zma (p:=ZA R j) (q:=(0,a)) (k:=k) (by omega) (hj2.bd hM bM).1 ZdA) ?_
    have hpl:RB M (k+1) (Zbf (ZA R j) (0,a)):=by
     refine⟨Zht _ _,?_,?_⟩
     ·unfold Zbf ZaJ
      simp only[Int.gcd_zero_right]
      rw[Int.natAbs_of_nonneg hj2.1.nn]
      split
      ·exact .inl rfl
      ·exact hj2.2.1
     ·have hm:=(hj2.bd hM bM).1
      refine(ZjZ (k:=k+1) (by omega) ?_ (Bd.add hj2.2.2 ba)).2
      simp only[Int.gcd_zero_right]
      rw[Int.natAbs_of_nonneg hj2.1.nn]
      exact hm.mono (by omega)
    walk_at "z"
    refine(Zmz (p:=q) (q:=Zbf (ZA R j) (0,a)) (k:=k+1) (by omega) ho.1.1 hpl.1 (ho.1.bd hM bM1) (hpl.bd hM bM1)).mono ?_
    rintro _ ⟨o',rfl,mt,wh⟩
    refine⟨o',by walk_at "r",by walk_at "r",by walk_at "r",by walk_at "r",?_⟩
    have hset:∀x,(Zax q x∧Zax (Zbf (ZA R j) (0,a)) x)↔Zcf n G R i (j+1) x:=fun x=>by
     rw[ho.2 x,ZmA hj2.1]
     constructor
     ·rintro⟨h1,h2⟩
      refine⟨h1.1,fun j' hj' c d hc hd hcd=>?_⟩
      by_cases q':j'=j
      ·subst q';rw[ha]at hc;cases hc;exact h2
      ·exact h1.2 j' (by omega) c d hc hd hcd
     ·intro h
      exact⟨⟨h.1,fun j' hj'=>h.2 j' (by omega)⟩,h.2 j (by omega) a b ha hb hab⟩
    cases o' with
    | none=>exact fun x hx=>mt x ((hset x).mpr hx)
    | some r=>
     refine⟨⟨mt.1,?_,?_⟩,fun x=>(mt.2 x).trans (hset x)⟩
     ·rcases wh r rfl with h | h | ⟨h1,h2,h3⟩
      ·rw[h];exact ho.1.2.1
      ·rw[h];exact hpl.2.1
      ·right
       rw[h3]
       exact Int.coe_lcm_dvd (ho.1.2.1.resolve_left h1) (hpl.2.1.resolve_left h2)
     ·rcases wh r rfl with h | h | ⟨h1,h2,h3⟩
      ·rw[h];exact ho.1.2.2
      ·rw[h];exact hpl.2.2
      ·rcases mt.1 with z | z
       ·have:(Int.lcm q.1 (Zbf (ZA R j) (0,a)).1)≠0:=Int.lcm_ne_zero h1 h2
        omega
       ·have hd:r.1 ∣ M:=by
         rw[h3]
         exact Int.coe_lcm_dvd (ho.1.2.1.resolve_left h1) (hpl.2.1.resolve_left h2)
        exact Zcu bM1 z.2.1 (by have:=Int.le_of_dvd hM hd;omega)
   ·walk_at "z"
    refine⟨some q,by walk_at "r",by walk_at "r",by walk_at "r",by walk_at "r",stay fun a b ha hb hab=>?_⟩
    have:dec (oT (Z3 (G i j) (G j i))=.int 0)=true:=ZaH (by rw[ha,hb];simp[Z3,oT,hab])
    rw[this]at e
    cases e
 ·rintro σ ⟨o,e0,e1,e2,e3,ho⟩
  walk_at "z"
  exact⟨o,rfl,ho⟩
theorem Zpg: ZbW 1 1 1=some []:=by
 unfold ZbW
 rw[if_pos (by decide +kernel)]
 rfl
theorem Zpu: Pln 1 (oR o):=by
 cases o with
 | none=>exact .none
 | some q=>exact Zo5
theorem oR_none: oR o=.none↔o=none:=by cases o <;> simp[oR,ZX]
def Hand(n:Nat)(G:Nat→Nat→Option Int)(R R':Nat→Int×Int)(M:Int)(k:Nat): Prop:=∀t,t<n→RB M k (R' t)∧∀x,Zax (R' t) x↔Zcf n G R (t+1) (n+1) x
theorem Zp0(hn:n≤100)(hk:k≤7000)(hM:0<M)(bM:Bd k M)(bG:∀a b c,a<n+1→b<n+1→G a b=some c→Bd k c)(hR:∀t,t<n→RB M k (R t)): Pk (ZcZ [ZK n G R]) fun t=>(∃R',t=ZK n G R'∧Hand n G R R' M (k+1))∨(t=.none∧∃i,i<n∧∀x,¬Zcf n G R (i+1) (n+1) x):=by
 unfold ZcZ Zfa
 have ht:ZK n G R=.tup [ZO (n+1) G,ZaD n R]:=rfl
 rw[ht]
 walk_at "z"
 refine Zy (ZlN (by omega)) ?_
 have hr:ZaD (n+1) (ZA R)=.lst (tab (n+1) fun i=>ZX (ZA R i)):=rfl
 walk_at "z"
 refine Zsh oR (fun t o=>Zcr n G R M (k+1) (t+1) (n+1) o) (n:=n) (a:=fun i=>.int (i+1)) (by omega) ?_ (fun t ht=>?_) none (fun y hy=>?_)
 ·by_cases h0:n=0
  ·subst h0
   exact⟨[],Zge (a:=1) (b:=1) rfl Zpg,rfl⟩
  ·rw[hr]
   walk_at "z"
   refine Rn.two 1 n (by decide) (by omega) (by omega) (by omega) ?_
   refine Zbj fun i _=>?_
   congr 1
   omega
 ·walk_at "z"
  refine(ZpP (i:=t+1) hn (by omega) hk hM bM bG hR).mono ?_
  rintro _ ⟨o,rfl,ho⟩
  exact⟨o,rfl,ho⟩
 ·walk_at "z"
  refine Zid (.none (n:=0)) (ZeG (n:=1) fun i _=>Zpu) ?_
  by_cases hc:∃i,i<n∧y i=none
  ·obtain⟨i,hi,ei⟩:=hc
   rw[ZaH (show T.none∈tab n fun i=>oR (y i)from List.mem_of_getElem? (i:=i) (by rw[Zbd hi,ei];rfl))]
   walk_at "z"
   refine .inr ⟨rfl,i,hi,?_⟩
   have:=hy i hi
   rw[ei]at this
   exact this
  ·rw[Zbo (show ¬T.none∈tab n fun i=>oR (y i)from fun h=>by
    obtain⟨i,hi,e⟩:=Zc4 h
    exact hc ⟨i,hi,oR_none.mp e.symm⟩)]
   walk_at "z"
   have hs:∀i,i<n→y i=some ((y i).getD (1,0)):=fun i hi=>by
    cases e:y i with
    | none=>exact absurd ⟨i,hi,e⟩ hc
    | some q=>rfl
   refine .inl ⟨fun i=>(y i).getD (1,0),?_,fun t ht=>?_⟩
   ·unfold ZK ZaD
    congr 4
    refine Zbj fun i hi=>?_
    conv=>lhs;rw[hs i hi]
    rfl
   ·have:=hy t ht
    rw[hs t ht]at this
    exact this
theorem Zlx: ZcZ [.none]=some .none:=by
 apply Pk.eq
 unfold ZcZ Zfa
 walk_at "z"
 rfl
noncomputable def Za7(R:Nat→Int×Int)(i j:Nat): Int×Int:=Zbf (ZA R i) (ZdQ (ZA R j) (-1))
noncomputable def ZbD(b:Option Int)(q:Int×Int): Option Int:=match b with
 | some b=>ZcS q b
 | none=>if q.1=0 then some q.2 else none
noncomputable def Zay(G:Nat→Nat→Option Int)(R:Nat→Int×Int): Nat→Nat→Option Int:=fun i j=>ZbD (G i j) (Za7 R i j)
def ZcP(n:Nat)(G:Nat→Nat→Option Int)(R:Nat→Int×Int): Prop:=∃i j,i<n+1∧j<n+1∧∃b,G i j=some b∧Zay G R i j=none
theorem ZpD{b:Option Int}(hq:0≤q.1): ZgJ [oT b,ZX q]=some (oT (ZbD b q)):=by
 apply Pk.eq
 unfold ZgJ ZeW ZbD
 cases b with
 | none=>
  have ep:ZX q=.tup [.int q.1,.int q.2]:=rfl
  rw[ZaO,ep]
  by_cases c:q.1=0
  ·walk_at "z"
   simp[c,oT]
  ·walk_at "z"
   simp[c,oT]
 | some b=>
  rw[Z8]
  walk_at "z"
  exact Zy (Zqn hq) rfl
theorem Zp1{b:Nat→Option Int}(hn:n≤100)(hi:i<n+1)(hk:k≤7000)(hM:0<M)(bM:Bd k M)(hR:∀t,t<n→RB M k (R t)): Pk (ZiK [Zab (n+1) b,ZX (ZA R i),ZaD (n+1) (ZA R)]) fun t=>(t=Zab (n+1) (fun j=>ZbD (b j) (Za7 R i j))∧∀j,j<n+1→∀c,b j=some c→ZbD (b j) (Za7 R i j)≠none)∨(t=.none∧∃j,j<n+1∧∃c,b j=some c∧ZbD (b j) (Za7 R i j)=none):=by
 unfold ZiK ZiJ
 have hF:=ZcA hR
 have hb:Zab (n+1) b=.lst (tab (n+1) fun j=>oT (b j)):=rfl
 have hr:ZaD (n+1) (ZA R)=.lst (tab (n+1) fun i=>ZX (ZA R i)):=rfl
 rw[hb,hr]
 walk_at "z"
 refine Zkt (n:=n+1) (a:=fun j=>oT (b j)) (c:=fun j=>ZX (ZA R j)) (P:=fun m σ=>σ 1=some (ZX (ZA R i))∧σ 3=some (.lst (tab m fun j=>oT (ZbD (b j) (Za7 R i j))))∧∀j,j<m→∀c,b j=some c→ZbD (b j) (Za7 R i j)≠none) ?_ ⟨by walk_at "r",by walk_at "r",by omega⟩ ?_ ?_
 ·walk_at "z"
  rfl
 ·rintro j σ hj ⟨e1,e3,st⟩
  have h1:=hF i hi
  have h2:=hF j hj
  have b1:=h1.bd hM bM
  have b2:=h2.bd hM bM
  have bt:Bd (k+1) (ZdQ (ZA R j) (-1)).1:=by
   refine(ZjZ (k:=k+1) (Int.mul_nonneg h2.1.nn (Zc6 _)) ?_ ?_).1
   ·have:=Bd.mul b2.1 (show Bd 1 (ZbC (-1))by unfold Bd;decide);exact this
   ·have:=Bd.mul b2.2 (show Bd 1 (-1)by unfold Bd;decide);exact this
  walk_at "z"
  refine Zy (Zqm (p:=ZA R j) (c:=-1) (k:=k+1) (by omega) h2.1.nn ⟨b2.1.mono (by omega),b2.2.mono (by omega)⟩ (show Bd (k+1) (-1)from(show Bd 1 (-1)by unfold Bd;decide).mono (by omega))) ?_
  walk_at "z"
  refine Zy (Zma (k:=k+1) (by omega) (b1.1.mono (by omega)) bt) ?_
  walk_at "z"
  refine Zy (ZpD (Zht _ _).nn) ?_
  have hd:Zbf (ZA R i) (ZdQ (ZA R j) (-1))=Za7 R i j:=rfl
  rw[hd]
  walk_at "z"
  have app:∀w,w=oT (ZbD (b j) (Za7 R i j))→tab j (fun j=>oT (ZbD (b j) (Za7 R i j)))++[w]=tab (j+1) fun j=>oT (ZbD (b j) (Za7 R i j)):=fun w e=>by rw[e];exact Zc3
  cases hl:ZbD (b j) (Za7 R i j)with
  | none=>
   rw[ZaO]
   walk_at "z"
   cases hbj:b j with
   | none=>
    rw[ZaO]
    walk_at "z"
    rw[app _ (by rw[hl];rfl)]
    refine⟨by walk_at "r",by walk_at "r",fun j' hj' c hc=>?_⟩
    by_cases q:j'=j
    ·subst q;rw[hbj]at hc;cases hc
    ·exact st j' (by omega) c hc
   | some c=>
    rw[Z8]
    walk_at "z"
    exact .inr ⟨rfl,j,hj,c,hbj,hl⟩
  | some v=>
   rw[Z8]
   walk_at "z"
   rw[app _ (by rw[hl];rfl)]
   refine⟨by walk_at "r",by walk_at "r",fun j' hj' c hc=>?_⟩
   by_cases q:j'=j
   ·subst q;rw[hl];simp
   ·exact st j' (by omega) c hc
 ·rintro σ ⟨e1,e3,st⟩
  walk_at "z"
  exact .inl ⟨rfl,st⟩
noncomputable def ZeS(n:Nat): Option (Nat→Option Int)→T
 | none=>.none
 | some b=>Zab n b
theorem Zuf{o:Option (Nat→Option Int)}: Pln 1 (ZeS n o):=by
 cases o with
 | none=>exact .none
 | some q=>exact Zon
theorem Zry{g:PG}{a b:Nat→T}(e:β→T)(P:Nat→β→Prop)(hn:n<10000)(hg:Pl (g σ) fun ts=>ts=tab n fun i=>.tup [a i,b i])(hf:∀i,i<n→Pk (f (ZN (ZN σ j (a i)) k (b i))) fun t=>∃y,t=e y∧P i y)(d:β)(h:∀y:Nat→β,(∀i,i<n→P i (y i))→Q (.lst (tab n fun i=>e (y i)))): Pk (Zav g (ZdX j k) Zan f σ) Q:=by
 have hc:∃y:Nat→β,∀i,i<n→Pk (f (ZN (ZN σ j (a i)) k (b i))) (fun t=>t=e (y i))∧P i (y i):=by
  have hx:∀i,∃y:β,i<n→Pk (f (ZN (ZN σ j (a i)) k (b i))) (fun t=>t=e y)∧P i y:=fun i=>by
   by_cases q:i<n
   ·obtain⟨t,e1,y,e2,p⟩:=hf i q
    exact⟨y,fun _=>⟨⟨t,e1,e2⟩,p⟩⟩
   ·exact⟨d,fun h=>absurd h q⟩
  exact⟨fun i=>Classical.choose (hx i),fun i=>Classical.choose_spec (hx i)⟩
 obtain⟨y,hy⟩:=hc
 exact Zkg hn hg (fun i hi=>(hy i hi).1) (h y fun i hi=>(hy i hi).2)
theorem oRow_none{o:Option (Nat→Option Int)}: ZeS n o=.none↔o=none:=by cases o <;> simp[ZeS,Zab]
theorem Zrz(hn:n≤100)(hk:k≤7000)(hM:0<M)(bM:Bd k M)(hR:∀t,t<n→RB M k (R t)): Pk (ZfZ [ZK n G R]) fun t=>(t=ZK n (Zay G R) R∧¬ZcP n G R)∨(t=.none∧ZcP n G R):=by
 unfold ZfZ Zej
 have ht:ZK n G R=.tup [.lst (tab (n+1) fun i=>Zab (n+1) (G i)),ZaD n R]:=rfl
 rw[ht]
 walk_at "z"
 refine Zy (ZlN (by omega)) ?_
 have hr:ZaD (n+1) (ZA R)=.lst (tab (n+1) fun i=>ZX (ZA R i)):=rfl
 walk_at "z"
 refine Zry (ZeS (n+1)) (fun i o=>match o with
  | none=>∃j,j<n+1∧∃c,G i j=some c∧Zay G R i j=none
  | some b=>b=Zay G R i∧∀j,j<n+1→∀c,G i j=some c→Zay G R i j≠none) (n:=n+1) (a:=fun i=>Zab (n+1) (G i)) (b:=fun i=>ZX (ZA R i)) (by omega) ?_ (fun i hi=>?_) none (fun y hy=>?_)
 ·rw[hr]
  walk_at "z"
  rfl
 ·walk_at "z"
  refine(Zp1 hn hi hk hM bM hR).mono ?_
  rintro t (⟨rfl,h⟩ | ⟨rfl,h⟩)
  ·exact⟨some (Zay G R i),rfl,rfl,h⟩
  ·exact⟨none,rfl,h⟩
 ·walk_at "z"
  refine Zid (.none (n:=0)) (ZeG (n:=1) fun i _=>Zuf) ?_
  by_cases hc:∃i,i<n+1∧y i=none
  ·obtain⟨i,hi,ei⟩:=hc
   rw[ZaH (show T.none∈tab (n+1) fun i=>ZeS (n+1) (y i)from List.mem_of_getElem? (i:=i) (by rw[Zbd hi,ei];rfl))]
   walk_at "z"
   have:=hy i hi
   rw[ei]at this
   obtain⟨j,hj,c,h1,h2⟩:=this
   exact .inr ⟨rfl,i,j,hi,hj,c,h1,h2⟩
  ·rw[Zbo (show ¬T.none∈tab (n+1) fun i=>ZeS (n+1) (y i)from fun h=>by
    obtain⟨i,hi,e⟩:=Zc4 h
    exact hc ⟨i,hi,oRow_none.mp e.symm⟩)]
   walk_at "z"
   have hs:∀i,i<n+1→y i=some (Zay G R i)∧∀j,j<n+1→∀c,G i j=some c→Zay G R i j≠none:=fun i hi=>by
    have:=hy i hi
    cases e:y i with
    | none=>exact absurd ⟨i,hi,e⟩ hc
    | some b=>rw[e]at this;exact⟨by rw[this.1],this.2⟩
   refine .inl ⟨?_,?_⟩
   ·unfold ZK ZO
    congr 3
    refine Zbj fun i hi=>?_
    rw[(hs i hi).1]
    rfl
   ·rintro⟨i,j,hi,hj,c,h1,h2⟩
    exact(hs i hi).2 j hj c h1 h2
theorem ZqK: ZfZ [.none]=some .none:=by
 apply Pk.eq
 unfold ZfZ Zej
 walk_at "z"
 rfl
theorem Zsm: Zdq [.none]=some .none:=by
 apply Pk.eq
 unfold Zdq Zh4
 walk_at "z"
 rfl
def ZbI(n:Nat)(G:Nat→Nat→Option Int): Prop:=∃m,m<n∧Neg n (ZU G (m+1))
theorem Zug(hn:n≤100)(hd:∀i,i<n+1→G i i=some 0): Pk (Zdq [ZK n G R]) fun t=>(t=ZK n (ZU G (n+1)) R∧¬ZbI (n+1) G)∨(t=.none∧ZbI (n+1) G):=by
 unfold Zdq Zh4
 have ht:ZK n G R=.tup [ZO (n+1) G,ZaD n R]:=rfl
 rw[ht]
 walk_at "z"
 refine(Zsj (n:=n+1) (by omega) (by omega) fun i hi=>⟨0,hd i hi⟩).mono ?_
 rintro t (⟨rfl,h⟩ | ⟨rfl,h⟩)
 ·have hg:ZO (n+1) (ZU G (n+1))=.lst (tab (n+1) fun i=>Zab (n+1) (ZU G (n+1) i)):=rfl
  rw[hg]
  walk_at "z"
  exact .inl ⟨rfl,fun⟨m,hm,q⟩=>h m hm q⟩
 ·walk_at "z"
  exact .inr ⟨rfl,h⟩
def BdG(n k:Nat)(G:Nat→Nat→Option Int): Prop:=∀a b c,a<n→b<n→G a b=some c→Bd k c
theorem Zdt{n k:Nat}{G:Nat→Nat→Option Int}(h:BdG n k G): ∀m,m≤n→BdG n (k+m) (ZU G m)
 | 0,_=>h
 | m+1,hm=>fun a b c ha hb e=>by
  have ih:=Zdt h m (by omega)
  rcases ZdK (ZU G m a b) (Z3 (ZU G m a m) (ZU G m m b))with e1 | e1
  ·rw[show ZU G (m+1) a b=_ from e1]at e
   exact(ih a b c ha hb e).mono (by omega)
  ·rw[show ZU G (m+1) a b=_ from e1]at e
   obtain⟨p,q,h1,h2,rfl⟩:=addO_some.mp e
   exact Bd.add (ih a m p ha (by omega) h1) (ih m b q (by omega) hb h2)
theorem Zm9(h:RestOk q): ZdQ q (-1)=ZaJ q.1 (-q.2):=by
 unfold ZdQ
 rw[show ZbC (-1)=1 from rfl,Int.mul_one,Int.mul_neg,Int.mul_one]
theorem ZjG{m:Int}: (ZaJ m r).1=m:=by
 unfold ZaJ;split
 ·rename_i c;exact c.symm
 ·rfl
theorem Zga(hi:RestOk (ZA R i))(hj:RestOk (ZA R j))(x:Int): Zax (Za7 R i j) x↔((Int.gcd (ZA R i).1 (ZA R j).1:Nat):Int) ∣ x-((ZA R i).2-(ZA R j).2):=by
 unfold Za7 Zbf
 rw[Zef (by omega),Zm9 hj,ZjG]
 have hr:=Zef hj.nn (r:=-(ZA R j).2) (ZaJ (ZA R j).1 (-(ZA R j).2)).2
 have hs:=(hr.mp (Zdl hj.nn _).self)
 generalize (ZaJ (ZA R j).1 (-(ZA R j).2)).2=s at *
 have hg:((Int.gcd (ZA R i).1 (ZA R j).1:Nat):Int) ∣ s - -(ZA R j).2:=Int.dvd_trans (Int.gcd_dvd_right ..) hs
 constructor
 ·intro h
  have:=Int.dvd_add h hg
  rwa [show x-((ZA R i).2+s)+(s - -(ZA R j).2)=x-((ZA R i).2-(ZA R j).2)by omega]at this
 ·intro h
  have:=Int.dvd_sub h hg
  rwa [show x-((ZA R i).2-(ZA R j).2)-(s - -(ZA R j).2)=x-((ZA R i).2+s)by omega]at this
theorem Znt{b c:Int}(h0:RestOk q)(h:ZcS q b=some c): c≤b∧Zax q c∧(q.1=0∨b-c<q.1):=by
 unfold ZcS at h
 split at h
 ·rename_i z
  split at h
  ·cases h
   exact⟨by assumption,h0.self,.inl z⟩
  ·cases h
 ·rename_i z
  cases h
  have hp:0<q.1:=by have:=h0.nn;omega
  have h1:=Int.emod_nonneg (b-q.2) z
  have h2:=Int.emod_lt_of_pos (b-q.2) hp
  refine⟨by omega,?_,.inr (by omega)⟩
  rw[Zbc h0.nn]
  have h3:=Int.emod_add_mul_ediv (b-q.2) q.1
  exact⟨(b-q.2) / q.1,by omega⟩
theorem ZjH{b:Int}(h0:RestOk q)(hx:Zax q x)(hb:x≤b): ∃c,ZcS q b=some c∧x≤c:=by
 unfold ZcS
 rw[Zbc h0.nn]at hx
 split
 ·rename_i z
  rw[z,Int.zero_dvd]at hx
  rw[if_pos (by omega)]
  exact⟨_,rfl,by omega⟩
 ·rename_i z
  have hp:0<q.1:=by have:=h0.nn;omega
  refine⟨_,rfl,?_⟩
  obtain⟨t,ht⟩:=hx
  have h3:=Int.emod_add_mul_ediv (b-q.2) q.1
  have h2:=Int.emod_lt_of_pos (b-q.2) hp
  have h4:t≤(b-q.2) / q.1:=Int.le_ediv_of_mul_le hp (by rw[Int.mul_comm];omega)
  have h5:q.1*t≤q.1*((b-q.2) / q.1):=Int.mul_le_mul_of_nonneg_left h4 (by omega)
  omega
theorem Zdo(R:Nat→Int×Int)(i j:Nat): RestOk (Za7 R i j):=Zht _ _
theorem ZkX(hM:0<M)(bM:Bd k M)(hG:BdG (n+1) k G)(hR:∀t,t<n→RB M k (R t)): BdG (n+1) (k+1) (Zay G R):=by
 intro i j c hi hj e
 have h1:=ZcA hR i hi
 have h2:=ZcA hR j hj
 have hd1:(Za7 R i j).1=((Int.gcd (ZA R i).1 (ZA R j).1:Nat):Int):=by
  unfold Za7 Zbf
  rw[ZjG,Zm9 h2.1,ZjG]
 have hb1:=(h1.bd hM bM).1
 have hb2:=(h2.bd hM bM).1
 have hm:Bd k (Za7 R i j).1:=by
  rw[hd1]
  by_cases z:(ZA R i).1=0
  ·rw[z,Int.gcd_zero_left]
   unfold Bd at *
   simpa using hb2
  ·have:=Int.gcd_le_natAbs_left (b:=(ZA R j).1) z
   unfold Bd at *
   simp only[Int.natAbs_natCast]
   omega
 unfold Zay ZbD at e
 cases hg:G i j with
 | some b=>
  rw[hg]at e
  obtain⟨u1,u2,u3⟩:=Znt (Zdo R i j) e
  have hbb:=hG i j b hi hj hg
  rcases u3 with z | z
  ·have hx:=(Zga h1.1 h2.1 c).mp u2
   rw[hd1]at z
   rw[z,Int.zero_dvd]at hx
   have:c=(ZA R i).2-(ZA R j).2:=by omega
   rw[this]
   exact Bd.sub h1.2.2 h2.2.2
  ·unfold Bd at *
   rw[Nat.pow_succ]
   omega
 | none=>
  rw[hg]at e
  simp only at e
  split at e
  ·rename_i z
   cases e
   have hx:=(Zga h1.1 h2.1 (Za7 R i j).2).mp (Zdo R i j).self
   rw[hd1]at z
   rw[z,Int.zero_dvd]at hx
   have:(Za7 R i j).2=(ZA R i).2-(ZA R j).2:=by omega
   rw[this]
   exact Bd.sub h1.2.2 h2.2.2
  ·cases e
def Zeu(n:Nat)(C:Nat→Nat→Option Int)(R:Nat→Int×Int): Prop:=∃i,i<n∧∀x,¬Zcf n C R (i+1) (n+1) x
theorem ZoA(h:Pk (ZQ 1 Zh6 ts) fun t=>Zgf t=true∧Q t): Pk (Zgq ts) Q:=by
 obtain⟨t,e,o,q⟩:=h
 exact⟨t,by simp only[Zgq,e,Option.bind_some,o,if_true],q⟩
theorem Zuh: Zgf (ZK n G R)=true:=Zng fun _ _=>Zhq
theorem ZoB(hn:n≤100)(hk:k+n+1≤7000)(hM:0<M)(bM:Bd k M)(hd:∀i,i<n+1→G i i=some 0)(bG:BdG (n+1) k G)(hR:∀t,t<n→RB M k (R t)): Pk (Zgq [ZK n G R]) fun t=>(∃R',t=ZK n (ZU G (n+1)) R'∧¬ZbI (n+1) G∧Hand n (ZU G (n+1)) R R' M (k+n+2))∨(t=.none∧(ZbI (n+1) G∨(¬ZbI (n+1) G∧Zeu n (ZU G (n+1)) R))):=by
 refine ZoA ?_
 unfold Zh6
 walk_at "z"
 refine(Zug hn hd).mono ?_
 rintro t (⟨rfl,h⟩ | ⟨rfl,h⟩)
 ·walk_at "z"
  refine(Zp0 (k:=k+n+1) hn hk hM (bM.mono (by omega)) (Zdt bG (n+1) (by omega)) (fun t ht=>(hR t ht).mono (by omega))).mono ?_
  rintro t (⟨R',rfl,h2⟩ | ⟨rfl,h2⟩)
  ·exact⟨Zuh,.inl ⟨R',rfl,h,h2⟩⟩
  ·exact⟨rfl,.inr ⟨rfl,.inr ⟨h,h2⟩⟩⟩
 ·walk_at "z"
  exact Zy Zlx ⟨rfl,.inr ⟨rfl,.inl h⟩⟩
theorem Znu: Zgq [.none]=some .none:=by
 apply Pk.eq
 refine ZoA ?_
 unfold Zh6
 walk_at "z"
 refine Zy Zsm ?_
 walk_at "z"
 exact Zy Zlx ⟨rfl,rfl⟩
theorem Zhu(hR:∀i,i<n+1→RestOk (ZA R i))(hd:∀i,i<n+1→G i i=some 0): ∀i,i<n+1→Zay G R i i=some 0:=by
 intro i hi
 unfold Zay ZbD
 rw[hd i hi]
 have h0:Zax (Za7 R i i) 0:=(Zga (hR i hi) (hR i hi) 0).mpr (by simp)
 obtain⟨c,e,hc⟩:=ZjH (Zdo R i i) h0 (Int.le_refl 0)
 have:=(Znt (Zdo R i i) e).1
 show ZcS (Za7 R i i) 0=some 0
 rw[e,show c=0 by omega]
structure Sharp(n:Nat)(G:Nat→Nat→Option Int)(R:Nat→Int×Int)(G2:Nat→Nat→Option Int)(R2:Nat→Int×Int)(M:Int)(k:Nat): Prop where
 go:∃R1,¬ZbI (n+1) G∧Hand n (ZU G (n+1)) R R1 M k∧¬ZcP n (ZU G (n+1)) R1∧¬ZbI (n+1) (Zay (ZU G (n+1)) R1)∧G2=ZU (Zay (ZU G (n+1)) R1) (n+1)∧Hand n G2 R1 R2 M k
def Zeo(n:Nat)(G:Nat→Nat→Option Int)(R:Nat→Int×Int)(M:Int)(k:Nat): Prop:=ZbI (n+1) G∨(¬ZbI (n+1) G∧Zeu n (ZU G (n+1)) R)∨∃R1,¬ZbI (n+1) G∧Hand n (ZU G (n+1)) R R1 M k∧(ZcP n (ZU G (n+1)) R1∨(¬ZcP n (ZU G (n+1)) R1∧(ZbI (n+1) (Zay (ZU G (n+1)) R1)∨(¬ZbI (n+1) (Zay (ZU G (n+1)) R1)∧Zeu n (ZU (Zay (ZU G (n+1)) R1) (n+1)) R1))))
theorem Hand.mono(h:Hand n G R R' M i)(hij:i≤j): Hand n G R R' M j:=fun t ht=>⟨(h t ht).1.mono hij,(h t ht).2⟩
theorem Ztf(hn:n≤100)(hk:k+2*n+4≤7000)(hM:0<M)(bM:Bd k M)(hd:∀i,i<n+1→G i i=some 0)(bG:BdG (n+1) k G)(hR:∀t,t<n→RB M k (R t)): Pk (Zgh [ZK n G R]) fun t=>(∃G2 R2,t=ZK n G2 R2∧Sharp n G R G2 R2 M (k+2*n+5))∨(t=.none∧Zeo n G R M (k+n+2)):=by
 unfold Zgh Zgg
 walk_at "z"
 refine(ZoB hn (by omega) hM bM hd bG hR).mono ?_
 rintro t (⟨R1,rfl,nr,h1⟩ | ⟨rfl,h⟩)
 ·have hR1:∀t,t<n→RB M (k+n+2) (R1 t):=fun t ht=>(h1 t ht).1
  have hF1:=ZcA hR1
  have z1:=ZdL hd (m:=n+1) fun m hm q=>nr ⟨m,hm,q⟩
  walk_at "z"
  refine(Zrz hn (by omega) hM (bM.mono (by omega)) hR1).mono ?_
  rintro t (⟨rfl,nl⟩ | ⟨rfl,fl⟩)
  ·walk_at "z"
   have bG1:BdG (n+1) (k+n+3) (Zay (ZU G (n+1)) R1):=ZkX hM (bM.mono (by omega)) (fun a b c ha hb e=>(Zdt bG (n+1) (by omega) a b c ha hb e).mono (by omega)) hR1
   refine(ZoB (k:=k+n+3) hn (by omega) hM (bM.mono (by omega)) (Zhu (fun i hi=>(hF1 i hi).1) z1) bG1 (fun t ht=>(hR1 t ht).mono (by omega))).mono ?_
   rintro t (⟨R2,rfl,nr2,h2⟩ | ⟨rfl,h2⟩)
   ·exact .inl ⟨_,R2,rfl,⟨R1,nr,h1.mono (by omega),nl,nr2,rfl,h2.mono (by omega)⟩⟩
   ·exact .inr ⟨rfl,.inr (.inr ⟨R1,nr,h1,.inr ⟨nl,h2⟩⟩)⟩
  ·walk_at "z"
   exact Zy Znu (.inr ⟨rfl,.inr (.inr ⟨R1,nr,h1,.inl fl⟩)⟩)
 ·walk_at "z"
  refine Zy ZqK ?_
  walk_at "z"
  refine Zy Znu (.inr ⟨rfl,?_⟩)
  rcases h with h | h
  ·exact .inl h
  ·exact .inr (.inl h)
theorem ZfQ{x:Nat→Int}(h:Zbi n G R x): Zbi n (ZU G (n+1)) R x:=⟨fun i j hi hj b e=>Zkm (Zm7 h) (n+1) (by omega) i j hi hj b e,h.2⟩
theorem ZmB{x:Nat→Int}(h:Zbi n G R x): ¬ZbI (n+1) G:=fun⟨m,hm,q⟩=>Zsk (Zkm (Zm7 h) (m+1) (by omega)) q
theorem Zj2{x:Nat→Int}(h:Zbi n G R x): ∀i,i<n+1→Zax (ZA R i) (Zao x i)
 | 0,_=>⟨fun _=>rfl,fun q=>absurd q (show ¬(0:Int)<0 by decide)⟩
 | i+1,hi=>h.2 i (by omega)
theorem Znv{x:Nat→Int}(h:Zbi n G R x){t:Nat}(ht:t<n): Zcf n G R (t+1) (n+1) (x t):=by
 refine⟨h.2 t ht,fun j hj a b ha hb hab=>?_⟩
 have h1:=h.1 (t+1) j (by omega) hj a ha
 have h2:=h.1 j (t+1) hj (by omega) b hb
 have h3:Zao x (t+1)=x t:=rfl
 rw[h3]at h1 h2
 rw[show x t-a=Zao x j by omega]
 exact Zj2 h j hj
theorem Zji{x:Nat→Int}(h:Zbi n G R x)(q:Hand n G R R' M k): Zbi n G R' x:=⟨h.1,fun t ht=>((q t ht).2 _).mpr (Znv h ht)⟩
theorem ZnY{x:Nat→Int}(hR:∀i,i<n+1→RestOk (ZA R i))(h:Zbi n G R x)(hi:i<n+1)(hj:j<n+1): Zax (Za7 R i j) (Zao x i-Zao x j):=by
 rw[Zga (hR i hi) (hR j hj)]
 have h1:=(Zbc (hR i hi).nn _).mp (Zj2 h i hi)
 have h2:=(Zbc (hR j hj).nn _).mp (Zj2 h j hj)
 have h3:=Int.dvd_sub (Int.dvd_trans (Int.gcd_dvd_left (b:=(ZA R j).1) ..) h1) (Int.dvd_trans (Int.gcd_dvd_right (a:=(ZA R i).1) ..) h2)
 rwa [show Zao x i-(ZA R i).2-(Zao x j-(ZA R j).2)=Zao x i-Zao x j-((ZA R i).2-(ZA R j).2)by omega]at h3
theorem ZrA{x:Nat→Int}(hR:∀i,i<n+1→RestOk (ZA R i))(h:Zbi n G R x): ¬ZcP n G R:=by
 rintro⟨i,j,hi,hj,b,e,hn⟩
 obtain⟨c,e2,_⟩:=ZjH (Zdo R i j) (ZnY hR h hi hj) (h.1 i j hi hj b e)
 unfold Zay ZbD at hn
 rw[e]at hn
 simp only at hn
 rw[e2]at hn
 cases hn
theorem ZnZ{x:Nat→Int}(hR:∀i,i<n+1→RestOk (ZA R i))(h:Zbi n G R x): Zbi n (Zay G R) R x:=by
 refine⟨fun i j hi hj b e=>?_,h.2⟩
 have hd:=ZnY hR h hi hj
 unfold Zay ZbD at e
 cases hg:G i j with
 | some c=>
  rw[hg]at e
  simp only at e
  obtain⟨d,e2,hle⟩:=ZjH (Zdo R i j) hd (h.1 i j hi hj c hg)
  rw[e2]at e
  cases e
  exact hle
 | none=>
  rw[hg]at e
  simp only at e
  split at e
  ·rename_i z
   cases e
   rw[Zbc (Zdo R i j).nn,z,Int.zero_dvd]at hd
   omega
  ·cases e
theorem ZrB{x:Nat→Int}(h:Zbi n G R x)(s:Sharp n G R G2 R2 M k): Zbi n G2 R2 x:=by
 obtain⟨R1,h1,h2,h3,h4,rfl,h6⟩:=s.go
 have l1:=Zji (ZfQ h) h2
 have hF:=ZcA fun t ht=>(h2 t ht).1
 exact Zji (ZfQ (ZnZ (fun i hi=>(hF i hi).1) l1)) h6
theorem Zq7{x:Nat→Int}(h:Zbi n G R x): ¬Zeo n G R M k:=by
 have hf:∀{G:Nat→Nat→Option Int} {R:Nat→Int×Int},Zbi n G R x→¬Zeu n G R:=fun h ⟨i,hi,q⟩=>q _ (Znv h hi)
 rintro(q | ⟨_,q⟩ | ⟨R1,_,h2,q⟩)
 ·exact ZmB h q
 ·exact hf (ZfQ h) q
 ·have l1:=Zji (ZfQ h) h2
  have hF:=ZcA fun t ht=>(h2 t ht).1
  have l2:=ZnZ (fun i hi=>(hF i hi).1) l1
  rcases q with q | ⟨_,q | ⟨_,q⟩⟩
  ·exact ZrA (fun i hi=>(hF i hi).1) l1 q
  ·exact ZmB l2 q
  ·exact hf (ZfQ l2) q
theorem ZrC(hk:k≤8000)(op:RestOk p)(oq:RestOk q)(bp:RBd k p)(bq:RBd k q): Pk (ZjV [ZX p,ZX q]) fun t=>∃o,t=oR o∧Met p q o:=by
 unfold ZjV Zf0
 have ep:ZX p=.tup [.int p.1,.int p.2]:=rfl
 have eq:ZX q=.tup [.int q.1,.int q.2]:=rfl
 have np:=op.nn
 have nq:=oq.nn
 rw[ep,eq]
 walk_at "z"
 have hlt:∀x:Int,0≤x→Bd k x→x<2 ^ 200000:=fun x h0 h1=>by
  have h2:x.natAbs<2 ^ 200000:=ZaE h1 (by omega)
  have h3:((x.natAbs:Nat):Int)<2 ^ 200000:=by exact_mod_cast h2
  omega
 obtain⟨m,hm,eu⟩:=Zhs np nq (hlt _ np bp.1) (hlt _ nq bq.1)
 refine Zer (fun m σ=>∃l r s t:Int,σ 0=some (.tup [.int p.1,.int p.2])∧σ 1=some (.tup [.int q.1,.int q.2])∧σ 2=some (.int l)∧σ 3=some (.int r)∧σ 4=some (.int s)∧σ 5=some (.int t)∧Eu m l r∧Int.gcd l r=Int.gcd p.1 q.1∧Bd k l∧Bd k r∧(∃z,s*p.1=l+q.1*z)∧(∃z,t*p.1=r+q.1*z)∧Bd (k+1) s∧Bd (k+1) t∧(s.natAbs:Int)*r+(t.natAbs:Int)*l≤q.1∧(1≤l∨t=0)) _ _ ?_ 1000000 (m:=m) ⟨p.1,q.1,1,0,by walk_at "r",by walk_at "r",by walk_at "r",by walk_at "r",by walk_at "r",by walk_at "r",eu,rfl,bp.1,bq.1,⟨0,by omega⟩,⟨-1,by omega⟩,Zdi (by omega),ZdA,by simp,.inr rfl⟩ hm
 rintro m σ ⟨l,r,s,t,e0,e1,e2,e3,e4,e5,eu,gl,kl,kr,⟨z1,h1⟩,⟨z2,h2⟩,ks,kt,hb1,hl⟩
 walk_at "z"
 refine⟨fun h=>?_,fun h=>?_⟩
 ·have hr:r≠0:=by simpa using h
  have hr0:0≤r:=eu.2.1
  have hl0:0≤l:=eu.1
  have hrp:0<r:=by omega
  have hdiv0:0≤l / r:=Int.ediv_nonneg hl0 hr0
  have hdiv1:l / r≤l:=Int.ediv_le_self _ hl0
  have kd:Bd k (l / r):=Zcu kl hdiv0 hdiv1
  walk_at "z"
  refine Zcq hr (ZcR kr (by omega)) ?_
  rw[Int.fdiv_eq_ediv_of_nonneg _ hr0]
  walk_at "z"
  refine Zbx (ZbL kd kr (by omega) (by omega)) ?_
  walk_at "z"
  refine Zbx (ZbL kd kt (by omega) (by omega)) ?_
  walk_at "z"
  have hover:l-l / r*r=l % r:=by
   have:=Int.emod_add_mul_ediv l r
   rw[Int.mul_comm r (l / r)]at this
   omega
  rw[hover]
  obtain⟨m',hm1,hm2⟩:=eu.step hr
  have o0:=Int.emod_nonneg l hr
  have o1:=Int.emod_lt_of_pos l hrp
  have ht:((s-l / r*t).natAbs:Int)≤(s.natAbs:Int)+l / r*(t.natAbs:Int):=by
   have h3:(s-l / r*t).natAbs≤s.natAbs+(l / r*t).natAbs:=by omega
   have h4:(l / r*t).natAbs=(l / r).natAbs*t.natAbs:=Int.natAbs_mul ..
   have h5:(((l / r).natAbs*t.natAbs:Nat):Int)=l / r*(t.natAbs:Int):=by
    rw[Int.natCast_mul,Int.natAbs_of_nonneg hdiv0]
   rw[h4]at h3
   omega
  have h6:((s-l / r*t).natAbs:Int)*r≤((s.natAbs:Int)+l / r*(t.natAbs:Int))*r:=Int.mul_le_mul_of_nonneg_right ht hr0
  have h7:((s.natAbs:Int)+l / r*(t.natAbs:Int))*r=(s.natAbs:Int)*r+(t.natAbs:Int)*(l / r*r):=by
   rw[Int.add_mul,Int.mul_comm (l / r) (t.natAbs:Int),Int.mul_assoc]
  have h8:(t.natAbs:Int)*(l % r)+(t.natAbs:Int)*(l / r*r)=(t.natAbs:Int)*l:=by
   rw[←Int.mul_add,←hover]
   congr 1
   omega
  have h9:(t.natAbs:Int)*(l % r)+((s-l / r*t).natAbs:Int)*r≤q.1:=by omega
  have hpos:0≤(t.natAbs:Int)*(l % r):=Int.mul_nonneg (by omega) o0
  have kn:Bd (k+1) (s-l / r*t):=by
   have h10:((s-l / r*t).natAbs:Int)*1≤((s-l / r*t).natAbs:Int)*r:=Int.mul_le_mul_of_nonneg_left (by omega) (by omega)
   have h11:((s-l / r*t).natAbs:Int)≤q.1:=by omega
   have h12:=bq.1
   unfold Bd at *
   rw[Nat.pow_succ]
   omega
  refine⟨m',hm1,r,l % r,t,s-l / r*t,by walk_at "r",by walk_at "r",by walk_at "r",by walk_at "r",by walk_at "r",by walk_at "r",hm2,by rw[Zf9 hrp];exact gl,kr,Zcu kr o0 (by omega),⟨z2,h2⟩,⟨z1-l / r*z2,?_⟩,kt,kn,h9,.inl (by omega)⟩
  rw[Int.sub_mul,h1,Int.mul_assoc,h2,Int.mul_add,Int.mul_sub,←hover]
  have e1:q.1*(l / r*z2)=l / r*(q.1*z2):=by rw[←Int.mul_assoc,Int.mul_comm q.1,Int.mul_assoc]
  rw[e1]
  omega
 ·have hr:r=0:=by simpa using h
  subst hr
  rw[Int.gcd_zero_right]at gl
  have hl0:=eu.1
  have hlg:l=(Int.gcd p.1 q.1:Nat):=by omega
  walk_at "z"
  by_cases c:l=0
  ·have hz:p.1=0∧q.1=0:=Int.gcd_eq_zero_iff.mp (by omega)
   have hp1:∀x,Zax p x↔x=p.2:=fun x=>by rw[Zbc np,hz.1,Int.zero_dvd];omega
   have hq1:∀x,Zax q x↔x=q.2:=fun x=>by rw[Zbc nq,hz.2,Int.zero_dvd];omega
   walk_at "z"
   by_cases d:q.2-p.2=0
   ·walk_at "z"
    refine⟨some p,rfl,op,fun x=>?_⟩
    rw[hp1,hq1]
    omega
   ·walk_at "z"
    refine⟨none,rfl,fun x hx=>?_⟩
    rw[hp1,hq1]at hx
    omega
  ·have hlp:0<l:=by omega
   obtain⟨a,ea⟩:l ∣ p.1:=by rw[hlg];exact Int.gcd_dvd_left ..
   obtain⟨b,eb⟩:l ∣ q.1:=by rw[hlg];exact Int.gcd_dvd_right ..
   walk_at "z"
   rw[Int.fmod_eq_emod_of_nonneg _ (by omega)]
   by_cases c3:(q.2-p.2) % l=0
   ·obtain⟨d,ed⟩:=Int.dvd_of_emod_eq_zero c3
    have da:p.1 / l=a:=by rw[ea];exact Int.mul_ediv_cancel_left _ (by omega)
    have dd:(q.2-p.2) / l=d:=by rw[ed];exact Int.mul_ediv_cancel_left _ (by omega)
    have ha0:0≤a:=by rw[←da];exact Int.ediv_nonneg np (by omega)
    have ka:Bd k a:=Zcu bp.1 ha0 (by rw[←da];exact Int.ediv_le_self _ np)
    have kdd:Bd (k+1) d:=by
     have h1:Bd (k+1) (q.2-p.2):=Bd.sub bq.2 bp.2
     unfold Bd at *
     rw[ed,Int.natAbs_mul]at h1
     have:1*d.natAbs≤l.natAbs*d.natAbs:=Nat.mul_le_mul_right _ (by omega)
     omega
    walk_at "z"
    refine Zcq (by omega) (ZcR kl (by omega)) ?_
    rw[Int.fdiv_eq_ediv_of_nonneg _ (by omega),da]
    walk_at "z"
    refine Zbx (ZbL ka bq.1 (by omega) (by omega)) ?_
    walk_at "z"
    refine Zbx (ZbL bp.1 ks (by omega) (by omega)) ?_
    walk_at "z"
    refine Zcq (by omega) (ZcR kl (by omega)) ?_
    rw[Int.fdiv_eq_ediv_of_nonneg _ (by omega),dd]
    walk_at "z"
    refine Zbx (ZbL (Bd.mul bp.1 ks) kdd (by omega) (by omega)) ?_
    walk_at "z"
    have hm0:0≤a*q.1:=Int.mul_nonneg ha0 nq
    refine Zy ZfO ⟨some _,rfl,Zdl hm0 _,fun x=>?_⟩
    rw[Zef hm0,Zbc np,Zbc nq]
    have hx0:p.1*s*d=(q.2-p.2)+q.1*(z1*d):=by
     rw[Int.mul_comm p.1 s,h1,Int.add_mul,ed,Int.mul_assoc]
    have hpm:p.1 ∣ a*q.1:=⟨b,by rw[ea,eb];rw[Int.mul_left_comm,Int.mul_assoc]⟩
    have hqm:q.1 ∣ a*q.1:=Int.dvd_mul_left _ _
    constructor
    ·intro hx
     have g1:=Int.dvd_trans hpm hx
     have g2:=Int.dvd_trans hqm hx
     refine⟨?_,?_⟩
     ·have:=Int.dvd_add g1 (show p.1 ∣ p.1*s*d from⟨s*d,by rw[Int.mul_assoc]⟩)
      rwa [show x-(p.2+p.1*s*d)+p.1*s*d=x-p.2 by omega]at this
     ·have:=Int.dvd_add g2 (Int.dvd_mul_right q.1 (z1*d))
      rwa [show x-(p.2+p.1*s*d)+q.1*(z1*d)=x-q.2 by omega]at this
    ·rintro⟨g1,g2⟩
     have g3:p.1 ∣ x-(p.2+p.1*s*d):=by
      have:=Int.dvd_sub g1 (show p.1 ∣ p.1*s*d from⟨s*d,by rw[Int.mul_assoc]⟩)
      rwa [show x-p.2-p.1*s*d=x-(p.2+p.1*s*d)by omega]at this
     have g4:q.1 ∣ x-(p.2+p.1*s*d):=by
      have:=Int.dvd_sub g2 (Int.dvd_mul_right q.1 (z1*d))
      rwa [show x-q.2-q.1*(z1*d)=x-(p.2+p.1*s*d)by omega]at this
     have g5:=Int.coe_lcm_dvd g3 g4
     have g6:(a*q.1).natAbs=Int.lcm p.1 q.1:=by
      have k1:=Int.gcd_mul_lcm p.1 q.1
      have k2:(l.natAbs)*(a*q.1).natAbs=p.1.natAbs*q.1.natAbs:=by
       rw[Int.natAbs_mul,←Nat.mul_assoc]
       congr 1
       rw[←Int.natAbs_mul,←ea]
      have k3:Int.gcd p.1 q.1=l.natAbs:=by omega
      rw[k3]at k1
      exact Nat.eq_of_mul_eq_mul_left (show 0<l.natAbs by omega) (by omega)
     rw[←g6]at g5
     exact Int.natAbs_dvd.mp g5
   ·walk_at "z"
    refine⟨none,rfl,fun x hx=>c3 ?_⟩
    rw[Zbc np,Zbc nq]at hx
    have g1:l ∣ x-p.2:=Int.dvd_trans ⟨a,ea⟩ hx.1
    have g2:l ∣ x-q.2:=Int.dvd_trans ⟨b,eb⟩ hx.2
    have g3:=Int.dvd_sub g1 g2
    rw[show x-p.2-(x-q.2)=q.2-p.2 by omega]at g3
    exact Int.emod_eq_zero_of_dvd g3
theorem Zvi(hk:k≤8000)(op:RestOk p)(oq:RestOk q)(bp:RBd k p)(bq:RBd k q)(h:Met p q o): ∀r,o=some r→(r=p∨r=q∨(p.1≠0∧q.1≠0∧r.1=Int.lcm p.1 q.1)):=by
 obtain⟨t,_,o',rfl,h',wh⟩:=Zmz hk op oq bp bq
 rw[Zrx h h']
 exact wh
theorem Zsn(q:Int×Int)(h:0≤q.1)(a:Int): ZaJ q.1 (q.2+a)=Zbf q (0,a):=by
 unfold Zbf
 simp only[Int.gcd_zero_right]
 rw[Int.natAbs_of_nonneg h]
theorem Zj3(ho:Zcr n G R M k i j o)(h:∀a b x,G i j=some a→G j i=some b→a+b=0→Zcf n G R i j x→Zax (ZA R j) (x-a)): Zcr n G R M k i (j+1) o:=by
 have hs:∀x,Zcf n G R i j x↔Zcf n G R i (j+1) x:=fun x=>⟨fun hx=>⟨hx.1,fun j' hj' a b ha hb hab=>by
     by_cases q':j'=j
     ·subst q';exact h a b x ha hb hab hx
     ·exact hx.2 j' (by omega) a b ha hb hab⟩,fun hx=>⟨hx.1,fun j' hj'=>hx.2 j' (by omega)⟩⟩
 cases o with
 | none=>exact fun x hx=>ho x ((hs x).mpr hx)
 | some q=>exact⟨ho.1,fun x=>(ho.2 x).trans (hs x)⟩
theorem ZoC{a:Int}(hM:0<M)(bM:Bd k M)(h:RB M k q)(ba:Bd k a): RB M (k+1) (Zbf q (0,a)):=by
 refine⟨Zht _ _,?_,?_⟩
 ·unfold Zbf ZaJ
  simp only[Int.gcd_zero_right]
  rw[Int.natAbs_of_nonneg h.1.nn]
  split
  ·exact .inl rfl
  ·exact h.2.1
 ·have hm:=(h.bd hM bM).1
  refine(ZjZ (k:=k+1) (by omega) ?_ (Bd.add h.2.2 ba)).2
  simp only[Int.gcd_zero_right]
  rw[Int.natAbs_of_nonneg h.1.nn]
  exact hm.mono (by omega)
theorem Zso{o':Option (Int×Int)}{a b:Int}(hk:k≤7000)(hM:0<M)(bM:Bd k M)(ha:G i j=some a)(hb:G j i=some b)(hab:a+b=0)(ba:Bd k a)(hj2:RB M k (ZA R j))(ho:Zcr n G R M (k+1) i j (some q))(mt:Met q (Zbf (ZA R j) (0,a)) o'): Zcr n G R M (k+1) i (j+1) o':=by
 have bM1:Bd (k+1) M:=bM.mono (by omega)
 have hpl:=ZoC hM bM hj2 ba
 have wh:=Zvi (k:=k+1) (by omega) ho.1.1 hpl.1 (ho.1.bd hM bM1) (hpl.bd hM bM1) mt
 have hset:∀x,(Zax q x∧Zax (Zbf (ZA R j) (0,a)) x)↔Zcf n G R i (j+1) x:=fun x=>by
  rw[ho.2 x,ZmA hj2.1]
  constructor
  ·rintro⟨h1,h2⟩
   refine⟨h1.1,fun j' hj' c d hc hd hcd=>?_⟩
   by_cases q':j'=j
   ·subst q';rw[ha]at hc;cases hc;exact h2
   ·exact h1.2 j' (by omega) c d hc hd hcd
  ·intro h
   exact⟨⟨h.1,fun j' hj'=>h.2 j' (by omega)⟩,h.2 j (by omega) a b ha hb hab⟩
 cases o' with
 | none=>exact fun x hx=>mt x ((hset x).mpr hx)
 | some r=>
  refine⟨⟨mt.1,?_,?_⟩,fun x=>(mt.2 x).trans (hset x)⟩
  ·rcases wh r rfl with h | h | ⟨h1,h2,h3⟩
   ·rw[h];exact ho.1.2.1
   ·rw[h];exact hpl.2.1
   ·right
    rw[h3]
    exact Int.coe_lcm_dvd (ho.1.2.1.resolve_left h1) (hpl.2.1.resolve_left h2)
  ·rcases wh r rfl with h | h | ⟨h1,h2,h3⟩
   ·rw[h];exact ho.1.2.2
   ·rw[h];exact hpl.2.2
   ·rcases mt.1 with z | z
    ·have:(Int.lcm q.1 (Zbf (ZA R j) (0,a)).1)≠0:=Int.lcm_ne_zero h1 h2
     omega
    ·have hd:r.1 ∣ M:=by
      rw[h3]
      exact Int.coe_lcm_dvd (ho.1.2.1.resolve_left h1) (hpl.2.1.resolve_left h2)
     exact Zcu bM1 z.2.1 (by have:=Int.le_of_dvd hM hd;omega)
theorem Zui{p:PE}(h:Pk (p σ) fun t=>∃ts,t=.lst ts∧Q (.lst (ts.drop k))): Pk (Zdr p k σ) Q:=by
 obtain⟨t,e,ts,rfl,q⟩:=h
 exact⟨_,by simp only[Zdr,e,Option.bind_some],q⟩
theorem Zsp{f:Nat→T}: (tab (n+1) f).drop 1=tab n fun i=>f (i+1):=by
 apply List.ext_getElem?
 intro i
 rw[List.getElem?_drop]
 by_cases h:i<n
 ·rw[Zbd h,Nat.add_comm 1 i,Zbd (by omega)]
 ·rw[List.getElem?_eq_none (by rw[Zae];omega),List.getElem?_eq_none (by rw[Zae];omega)]
theorem ZlX(hn:n≤100)(hk:k≤7000)(hM:0<M)(bM:Bd k M)(bG:∀a b c,a<n+1→b<n+1→G a b=some c→Bd k c)(hR:∀t,t<n→RB M k (R t)): Pk (ZiY [ZO (n+1) G,ZaD n R]) fun t=>(∃R',t=ZaD n R'∧Hand n G R R' M (k+1))∨(t=.none∧Zeu n G R):=by
 unfold ZiY Zfh
 have hF:=ZcA hR
 have bM1:Bd (k+1) M:=bM.mono (by omega)
 have hr:ZaD n R=.lst (tab n fun i=>ZX (R i)):=rfl
 rw[hr]
 walk_at "z"
 rw[Zle]
 walk_at "z"
 refine Zbl (n:=n) (a:=fun i=>.int ((i+1:Nat):Int)) (P:=fun m σ=>∃F:Nat→Option (Int×Int),σ 0=some (ZO (n+1) G)∧σ 2=some (.lst (tab (n+1) fun i=>ZX (ZA R i)))∧σ 3=some (.lst (tab (n+1) fun i=>oR (F i)))∧F 0=some (0,0)∧(∀a,a<m→Zcr n G R M (k+1) (a+1) (n+1) (F (a+1)))∧∀a,m≤a→a<n→F (a+1)=some (R a)) ?_ ⟨fun i=>some (ZA R i),by walk_at "r",by walk_at "r",by walk_at "r",rfl,by omega,fun _ _ _=>rfl⟩ ?_ ?_
 ·by_cases h0:n=0
  ·subst h0
   exact⟨[],Zge (a:=1) (b:=1) rfl Zpg,rfl⟩
  ·walk_at "z"
   refine Rn.two 1 n (by decide) (by omega) (by omega) (by omega) ?_
   refine Zbj fun i _=>?_
   congr 1
   omega
 ·rintro i σ hi ⟨F,e0,e2,e3,z0,h1,h2⟩
  have hself:(fun a=>oR (F a))=fun a=>oR (if a=i+1 then F (i+1)else F a):=funext fun a=>by split <;> simp_all
  rw[hself]at e3
  refine Zbl (n:=n+1) (a:=fun j=>.int j) (P:=fun j σ=>∃o,σ 0=some (ZO (n+1) G)∧σ 2=some (.lst (tab (n+1) fun i=>ZX (ZA R i)))∧σ 3=some (.lst (tab (n+1) fun a=>oR (if a=i+1 then o else F a)))∧σ 4=some (.int ((i+1:Nat):Int))∧Zcr n G R M (k+1) (i+1) j o) ?_ ⟨F (i+1),by walk_at "r",by walk_at "r",by walk_at "r",by walk_at "r",?_⟩ ?_ ?_
  ·walk_at "z"
   rfl
  ·rw[h2 i (by omega) hi]
   exact⟨(hF (i+1) (by omega)).mono (by omega),fun x=>⟨fun h=>⟨h,by omega⟩,fun h=>h.1⟩⟩
  ·rintro j σ hj ⟨o,f0,f2,f3,f4,ho⟩
   unfold ZO Zab at f0
   walk_at "z"
   have fin:∀σ':TL,σ' 0=σ 0→σ' 2=σ 2→σ' 3=σ 3→σ' 4=σ 4→Zcr n G R M (k+1) (i+1) (j+1) o→∃o,σ' 0=some (ZO (n+1) G)∧σ' 2=some (.lst (tab (n+1) fun i=>ZX (ZA R i)))∧σ' 3=some (.lst (tab (n+1) fun a=>oR (if a=i+1 then o else F a)))∧σ' 4=some (.int ((i+1:Nat):Int))∧Zcr n G R M (k+1) (i+1) (j+1) o:=fun σ' g0 g2 g3 g4 h=>⟨o,g0.trans f0,g2.trans f2,g3.trans f3,g4.trans f4,h⟩
   refine⟨fun c=>?_,fun c=>⟨fun h=>(nomatch h),fun _=>?_⟩⟩
   ·have cne:i+1≠j:=fun q=>of_decide_eq_true c (by omega)
    cases hg:G (i+1) j with
    | none=>
     rw[ZaO]
     walk_at "z"
     exact fin _ rfl rfl rfl rfl (Zj3 ho fun a b x ha=>by rw[hg]at ha;cases ha)
    | some a=>
     rw[Z8]
     walk_at "z"
     refine ZdP (Zgy (n:=0)) (.int (n:=0)) ?_
     walk_at "z"
     refine⟨fun e=>?_,fun e=>?_⟩
     ·have e':=dec_iff.mp e
      rw[←Z8,oT_inj]at e'
      cases o with
      | none=>
       walk_at "z"
       rw[if_pos rfl,show oR none=T.none from rfl]
       walk_at "z"
       exact fin _ rfl rfl rfl rfl fun x hx=>ho x ⟨hx.1,fun j' hj'=>hx.2 j' (by omega)⟩
      | some q=>
       walk_at "z"
       rw[if_pos rfl,show oR (some q)=T.tup [.int q.1,.int q.2]from rfl]
       walk_at "z"
       rw[if_pos rfl]
       have hj2:=hF j hj
       have ba:=bG (i+1) j a (by omega) hj hg
       have hpl:=ZoC hM bM hj2 ba
       have eq:ZX (ZA R j)=.tup [.int (ZA R j).1,.int (ZA R j).2]:=rfl
       rw[eq]
       walk_at "z"
       rw[eq]
       walk_at "z"
       refine Zy ZfO ?_
       rw[Zsn _ hj2.1.nn]
       walk_at "z"
       refine(ZrC (p:=q) (q:=Zbf (ZA R j) (0,a)) (k:=k+1) (by omega) ho.1.1 hpl.1 (ho.1.bd hM bM1) (hpl.bd hM bM1)).mono ?_
       rintro _ ⟨o',rfl,mt⟩
       refine⟨by cases o' <;> rfl,?_⟩
       walk_at "z"
       refine⟨o',by walk_at "r",by walk_at "r",?_,by walk_at "r",Zso hk hM bM hg e' (by omega) ba hj2 ho mt⟩
       refine(show _=_ from Za1).trans ?_
       congr 2
       refine Zbj fun a _=>?_
       split <;> rfl
     ·walk_at "z"
      refine fin _ rfl rfl rfl rfl (Zj3 ho fun a' b x ha hb hab hx=>?_)
      rw[hg]at ha
      cases ha
      have:dec (oT (G j (i+1))=.int (-a))=true:=ZaH (by rw[hb,Z8];congr 1;omega)
      rw[this]at e
      cases e
   ·walk_at "z"
    refine fin _ rfl rfl rfl rfl (Zj3 ho fun a b x ha hb hab hx=>?_)
    have cj:i+1=j:=by
     have:=of_decide_eq_false c
     omega
    subst cj
    rw[ha]at hb
    cases hb
    rw[show x-a=x by omega]
    exact hx.1
  ·rintro σ ⟨o,f0,f2,f3,f4,ho⟩
   refine⟨fun a=>if a=i+1 then o else F a,f0,f2,f3,by simp[z0],fun a ha=>?_,fun a ha hb=>?_⟩
   ·by_cases q:a=i
    ·subst q;simpa using ho
    ·simpa [q]using h1 a (by omega)
   ·simpa [show a≠i by omega]using h2 a (by omega) hb
 ·rintro σ ⟨F,e0,e2,e3,z0,h1,-⟩
  walk_at "z"
  refine Zid (.none (n:=0)) (ZeG (n:=1) fun i _=>Zpu) ?_
  by_cases hc:∃i,i<n∧F (i+1)=none
  ·obtain⟨i,hi,ei⟩:=hc
   rw[ZaH (show T.none∈tab (n+1) fun i=>oR (F i)from List.mem_of_getElem? (i:=i+1) (by rw[Zbd (by omega),ei];rfl))]
   walk_at "z"
   refine .inr ⟨rfl,i,hi,?_⟩
   have:=h1 i hi
   rw[ei]at this
   exact this
  ·rw[Zbo (show ¬T.none∈tab (n+1) fun i=>oR (F i)from fun h=>by
    obtain⟨i,hi,e⟩:=Zc4 h
    have e':=oR_none.mp e.symm
    cases i with
    | zero=>rw[z0]at e';cases e'
    | succ i=>exact hc ⟨i,by omega,e'⟩)]
   walk_at "z"
   refine Zui ?_
   walk_at "z"
   refine⟨_,rfl,?_⟩
   rw[Zsp]
   have hs:∀i,i<n→F (i+1)=some ((F (i+1)).getD (1,0)):=fun i hi=>by
    cases e:F (i+1)with
    | none=>exact absurd ⟨i,hi,e⟩ hc
    | some q=>rfl
   refine .inl ⟨fun i=>(F (i+1)).getD (1,0),?_,fun t ht=>?_⟩
   ·unfold ZaD
    congr 1
    refine Zbj fun i hi=>?_
    conv=>lhs;rw[hs i hi]
    rfl
   ·have:=h1 t ht
    rw[hs t ht]at this
    exact this
theorem Zuj(hi:RestOk (ZA R i))(hj:RestOk (ZA R j)): Za7 R i j=ZaJ (Int.gcd (ZA R i).1 (ZA R j).1:Nat) ((ZA R i).2-(ZA R j).2):=
 Zjh (Zdo R i j) (Zdl (by omega) _) fun x=>(Zga hi hj x).trans (Zef (by omega) x).symm
theorem Zuk(hi:RestOk (ZA R i))(hj:RestOk (ZA R j)): Zay G R i j=if((Int.gcd (ZA R i).1 (ZA R j).1:Nat):Int)=0 then(match G i j with | none=>some ((ZA R i).2-(ZA R j).2) | some b=>if(ZA R i).2-(ZA R j).2≤b then some ((ZA R i).2-(ZA R j).2)else none)else(match G i j with | none=>none | some b=>some (b-(b-((ZA R i).2-(ZA R j).2)) % (Int.gcd (ZA R i).1 (ZA R j).1:Nat))):=by
 unfold Zay
 rw[Zuj hi hj]
 generalize ((Int.gcd (ZA R i).1 (ZA R j).1:Nat):Int)=m at *
 generalize (ZA R i).2-(ZA R j).2=r
 unfold ZaJ
 by_cases c:m=0
 ·rw[if_pos c,if_pos c]
  cases G i j with
  | none=>simp[ZbD]
  | some b=>simp[ZbD,ZcS]
 ·rw[if_neg c,if_neg c]
  cases G i j with
  | none=>simp[ZbD,c]
  | some b=>
   have:(b-r.fmod m) % m=(b-r) % m:=by
    have h1:m ∣ (b-r.fmod m)-(b-r):=by
     have:=Int.mul_fdiv_add_fmod r m
     exact⟨r.fdiv m,by omega⟩
    exact Int.emod_eq_emod_iff_emod_sub_eq_zero.mpr (Int.emod_eq_zero_of_dvd h1)
   simp[ZbD,ZcS,c,this]
def ZeN(n:Nat)(G:Nat→Nat→Option Int)(R:Nat→Int×Int)(F:Nat→Nat→Option Int)(i j:Nat): Prop:=∀a b,a<n+1→b<n+1→((a<i∨(a=i∧b<j))→F a b=Zay G R a b∧∀c,G a b=some c→Zay G R a b≠none)∧(¬(a<i∨(a=i∧b<j))→F a b=G a b)
theorem Zna(h:ZeN n G R F i j)(e:G i j=Zay G R i j): ZeN n G R F i (j+1):=fun a b ha hb=>by
 obtain⟨h1,h2⟩:=h a b ha hb
 refine⟨fun q=>?_,fun q=>h2 (by omega)⟩
 by_cases q':a=i∧b=j
 ·obtain⟨rfl,rfl⟩:=q'
  rw[h2 (by omega)]
  exact⟨e,fun c hc=>by rw[←e,hc];simp⟩
 ·exact h1 (by omega)
theorem Zj4{v:Int}(h:ZeN n G R F i j)(e:Zay G R i j=some v): ZeN n G R (Zbr F i j (some v)) i (j+1):=fun a b ha hb=>by
 obtain⟨h1,h2⟩:=h a b ha hb
 by_cases q':a=i∧b=j
 ·obtain⟨rfl,rfl⟩:=q'
  rw[ZhM]
  exact⟨fun _=>⟨e.symm,fun c _=>by rw[e];simp⟩,fun q=>by omega⟩
 ·rw[Zgk q']
  exact⟨fun q=>h1 (by omega),fun q=>h2 (by omega)⟩
theorem Zp2(hn:n≤100)(hk:k≤7000)(hM:0<M)(bM:Bd k M)(hR:∀t,t<n→RB M k (R t))(hd:∀i,i<n+1→G i i=some 0): Pk (ZiL [ZO (n+1) G,ZaD n R]) fun t=>(t=ZO (n+1) (Zay G R)∧¬ZcP n G R)∨(t=.none∧ZcP n G R):=by
 unfold ZiL Zfb
 have hF:=ZcA hR
 have hlz:=Zhu (fun i hi=>(hF i hi).1) hd
 have hr:ZaD n R=.lst (tab n fun i=>ZX (R i)):=rfl
 rw[hr]
 walk_at "z"
 rw[Zle]
 refine Zhg (n:=n+1) (G:=G) (by omega) ?_ ?_
 ·walk_at "z"
  rfl
 walk_at "z"
 refine Zbl (n:=n+1) (a:=fun i=>.int i) (P:=fun i σ=>∃F,σ 0=some (ZO (n+1) G)∧σ 2=some (.lst (tab (n+1) fun i=>ZX (ZA R i)))∧σ 3=some (ZO (n+1) F)∧ZeN n G R F i 0) ?_ ⟨G,by walk_at "r",by walk_at "r",by walk_at "r",fun a b _ _=>⟨fun q=>by omega,fun _=>rfl⟩⟩ ?_ ?_
 ·walk_at "z"
  rfl
 ·rintro i σ hi ⟨F,e0,e2,e3,lt⟩
  refine Zbl (n:=n+1) (a:=fun i=>.int i) (P:=fun j σ=>∃F,σ 0=some (ZO (n+1) G)∧σ 2=some (.lst (tab (n+1) fun i=>ZX (ZA R i)))∧σ 3=some (ZO (n+1) F)∧σ 4=some (.int i)∧ZeN n G R F i j) ?_ ⟨F,by walk_at "r",by walk_at "r",by walk_at "r",by walk_at "r",lt⟩ ?_ ?_
  ·walk_at "z"
   rfl
  ·rintro j σ hj ⟨F,e0,e2,e3,e4,lt⟩
   have hi1:=hF i hi
   have hj1:=hF j hj
   have lw:=Zuk (G:=G) hi1.1 hj1.1
   have f0:σ 0=some (.lst (tab (n+1) fun i=>.lst (tab (n+1) fun j=>oT (G i j)))):=e0
   have f3:σ 3=some (.lst (tab (n+1) fun i=>.lst (tab (n+1) fun j=>oT (F i j)))):=e3
   have eqi:ZX (ZA R i)=.tup [.int (ZA R i).1,.int (ZA R i).2]:=rfl
   have eqj:ZX (ZA R j)=.tup [.int (ZA R j).1,.int (ZA R j).2]:=rfl
   clear e0 e3
   walk_at "z"
   rw[eqi]
   walk_at "z"
   rw[eqj]
   walk_at "z"
   refine Zy (Zrv (ZaE (hi1.bd hM bM).1 (by omega)) (ZaE (hj1.bd hM bM).1 (by omega))) ?_
   walk_at "z"
   rw[eqi]
   walk_at "z"
   rw[eqj]
   walk_at "z"
   have hm0:(0:Int)≤((Int.gcd (ZA R i).1 (ZA R j).1:Nat):Int):=by omega
   generalize ((Int.gcd (ZA R i).1 (ZA R j).1:Nat):Int)=m at *
   generalize (ZA R i).2-(ZA R j).2=r at *
   refine⟨fun c=>?_,fun c=>⟨fun h=>(nomatch h),fun _=>?_⟩⟩
   ·have cne:(i:Int)≠j:=of_decide_eq_true c
    by_cases cm:m=0
    ·rw[if_pos cm]at lw
     walk_at "z"
     cases hg:G i j with
     | none=>
      rw[hg]at lw
      rw[ZaO]
      walk_at "z"
      rw[←Z8 (c:=r),Zdb]
      exact⟨_,by walk_at "r",by walk_at "r",by walk_at "r",by walk_at "r",Zj4 lt lw⟩
     | some b=>
      rw[hg]at lw
      rw[Z8]
      walk_at "z"
      by_cases cb:b<r
      ·walk_at "z"
       refine .inr ⟨rfl,i,j,hi,hj,b,hg,?_⟩
       rw[lw]
       exact if_neg (by omega)
      ·walk_at "z"
       rw[←Z8 (c:=r),Zdb]
       exact⟨_,by walk_at "r",by walk_at "r",by walk_at "r",by walk_at "r",Zj4 lt (by rw[lw];exact if_pos (by omega))⟩
    ·rw[if_neg cm]at lw
     walk_at "z"
     cases hg:G i j with
     | none=>
      rw[hg]at lw
      rw[ZaO]
      walk_at "z"
      exact⟨F,by walk_at "r",by walk_at "r",by walk_at "r",by walk_at "r",Zna lt (by rw[hg,lw])⟩
     | some b=>
      rw[hg]at lw
      rw[Z8]
      walk_at "z"
      rw[Int.fmod_eq_emod_of_nonneg _ hm0]
      walk_at "z"
      rw[←Z8 (c:=b-(b-r) % m),Zdb]
      exact⟨_,by walk_at "r",by walk_at "r",by walk_at "r",by walk_at "r",Zj4 lt lw⟩
   ·have ceq:i=j:=by
     have:=of_decide_eq_false c
     omega
    walk_at "z"
    subst ceq
    exact⟨F,by walk_at "r",by walk_at "r",by walk_at "r",by walk_at "r",Zna lt (by rw[hd _ hi,hlz _ hi])⟩
  ·rintro σ ⟨F,e0,e2,e3,e4,lt⟩
   exact⟨F,e0,e2,e3,fun a b ha hb=>⟨fun q=>(lt a b ha hb).1 (by omega),fun q=>(lt a b ha hb).2 (by omega)⟩⟩
 ·rintro σ ⟨F,e0,e2,e3,lt⟩
  walk_at "z"
  refine .inl ⟨?_,?_⟩
  ·unfold ZO Zab
   congr 1
   refine Zbj fun a ha=>?_
   congr 1
   refine Zbj fun b hb=>?_
   rw[((lt a b ha hb).1 (by omega)).1]
  ·rintro⟨a,b,ha,hb,c,hc,e⟩
   exact((lt a b ha hb).1 (by omega)).2 c hc e
noncomputable def ZbE(G:Nat→Nat→Option Int): Nat→List Nat→Nat→Option Int
 | i,[],j=>G i j
 | i,k::l,j=>Z3 (G i k) (ZbE G k l j)
theorem Zcn(G:Nat→Nat→Option Int): ∀(i:Nat) (l1:List Nat) (k:Nat) (l2:List Nat) (j:Nat),ZbE G i (l1++k::l2) j=Z3 (ZbE G i l1 k) (ZbE G k l2 j)
 | i,[],k,l2,j=>rfl
 | i,a::l1,k,l2,j=>by
  show Z3 (G i a) (ZbE G a (l1++k::l2) j)=Z3 (Z3 (G i a) (ZbE G a l1 k)) (ZbE G k l2 j)
  rw[Zcn G a l1 k l2 j,ZfP]
theorem Zn0{n:Nat}{G C:Nat→Nat→Option Int}(hle:∀i j,i<n→j<n→leO (C i j) (G i j))(tri:∀k i j,k<n→i<n→j<n→leO (C i j) (Z3 (C i k) (C k j))): ∀(l:List Nat) (i j:Nat),(∀a∈l,a<n)→i<n→j<n→leO (C i j) (ZbE G i l j)
 | [],i,j,_,hi,hj=>hle i j hi hj
 | k::l,i,j,hl,hi,hj=>by
  have hk:=hl k Zz5
  exact ZcO (tri k i j hk hi hj) (Zen (hle i k hi hk) (Zn0 hle tri l k j (fun a m=>hl a (Zz2 _ m)) hk hj))
theorem Zgr{n:Nat}{G:Nat→Nat→Option Int}: ∀(m:Nat),m≤n→∀i j c,ZU G m i j=some c→∃l:List Nat,(∀a∈l,a<n)∧ZbE G i l j=some c
 | 0,_,i,j,c,h=>⟨[],by simp,h⟩
 | m+1,hm,i,j,c,h=>by
  rcases ZdK (ZU G m i j) (Z3 (ZU G m i m) (ZU G m m j))with e | e
  ·rw[show ZU G (m+1) i j=_ from e]at h
   exact Zgr (n:=n) m (by omega) i j c h
  ·rw[show ZU G (m+1) i j=_ from e]at h
   obtain⟨p,q,h1,h2,h3⟩:=addO_some.mp h
   obtain⟨l1,a1,b1⟩:=Zgr (n:=n) m (by omega) i m p h1
   obtain⟨l2,a2,b2⟩:=Zgr (n:=n) m (by omega) m j q h2
   refine⟨l1++m::l2,fun a ha=>?_,by rw[Zcn,b1,b2];simp[Z3,h3]⟩
   rcases Zz8.mp ha with ha | ha
   ·exact a1 a ha
   ·rcases Zz7.mp ha with rfl | ha
    ·omega
    ·exact a2 a ha
theorem Zj5: ∀(n:Nat) (l:List Nat),l.Nodup→(∀a∈l,a<n)→l.length≤n
 | 0,l,_,h=>by
  cases l with
  | nil=>simp
  | cons a l=>exact absurd (h a Zz5) (by omega)
 | n+1,l,hn,h=>by
  have h1:=Zj5 n (l.erase n) (hn.erase n) fun a ha=>by
   have ha':=List.mem_of_mem_erase ha
   have:=h a ha'
   have hne:a≠n:=fun q=>by
    subst q
    exact(List.Nodup.not_mem_erase hn) ha
   omega
  have h2:=List.length_erase_of_mem (a:=n) (l:=l)
  by_cases q:n∈l
  ·have:=h2 q;have:0<l.length:=List.length_pos_of_mem q;omega
  ·rw[List.erase_of_not_mem q]at h1;omega
theorem Zj6: ∀(l:List Nat),¬l.Nodup→∃k l1 l2 l3,l=l1++k::(l2++k::l3)
 | [],h=>absurd List.nodup_nil h
 | a::l,h=>by
  by_cases q:a∈l
  ·obtain⟨l2,l3,e⟩:=List.append_of_mem q
   exact⟨a,[],l2,l3,by rw[e];rfl⟩
  ·have:¬l.Nodup:=fun n=>h (List.nodup_cons.mpr ⟨q,n⟩)
   obtain⟨k,l1,l2,l3,e⟩:=Zj6 l this
   exact⟨k,a::l1,l2,l3,by rw[e];rfl⟩
theorem Zul(pos:∀k l s,k<n→(∀a∈l,a<n)→ZbE G k l k=some s→0≤s)(hi:i<n)(hj:j<n): ∀(L:Nat) (l:List Nat) (s:Int),l.length=L→(∀a∈l,a<n)→ZbE G i l j=some s→∃l' s',l'.length+1≤n∧(∀a∈l',a<n)∧ZbE G i l' j=some s'∧s'≤s:=by
 intro L
 induction L using Nat.strongRecOn with
 | _ L ih=>
  intro l s hL hl h
  by_cases q:i∈l
  ·obtain⟨l1,l2,e⟩:=List.append_of_mem q
   subst e
   rw[Zcn]at h
   obtain⟨p,r,h1,h2,h3⟩:=addO_some.mp h
   have hp:=pos i l1 p hi (fun a ha=>hl a (Zz4 _ ha)) h1
   obtain⟨l',s',k1,k2,k3,k4⟩:=ih l2.length (by rw[←hL];simp;omega) l2 r rfl (fun a ha=>hl a (Zz3 _ (Zz2 _ ha))) h2
   exact⟨l',s',k1,k2,k3,by omega⟩
  ·by_cases nd:l.Nodup
   ·have:=Zj5 n (i::l) (List.nodup_cons.mpr ⟨q,nd⟩) (fun a ha=>by
     rcases Zz7.mp ha with rfl | ha
     ·exact hi
     ·exact hl a ha)
    exact⟨l,s,by simpa using this,hl,h,by omega⟩
   ·obtain⟨k,l1,l2,l3,e⟩:=Zj6 l nd
    subst e
    rw[Zcn]at h
    obtain⟨p,r,h1,h2,h3⟩:=addO_some.mp h
    rw[Zcn]at h2
    obtain⟨p2,r2,h4,h5,h6⟩:=addO_some.mp h2
    have hk:k<n:=hl k (by simp)
    have hp:=pos k l2 p2 hk (fun a ha=>hl a (by simp[ha])) h4
    have h7:ZbE G i (l1++k::l3) j=some (p+r2):=by rw[Zcn,h1,h5];rfl
    obtain⟨l',s',k1,k2,k3,k4⟩:=ih (l1++k::l3).length (by rw[←hL];simp;omega) (l1++k::l3) (p+r2) rfl (fun a ha=>hl a (by simp at ha ⊢;rcases ha with h | h | h <;> simp[h])) h7
    exact⟨l',s',k1,k2,k3,by omega⟩
theorem ZrD: ∀(L:Nat) (i:Nat) (l:List Nat) (s:Int),l.length=L→i<n→(∀a∈l,a<n)→ZbE G i l i=some s→s<0→∃i' l' s',l'.length+1≤n∧i'<n∧(∀a∈l',a<n)∧ZbE G i' l' i'=some s'∧s'<0:=by
 intro L
 induction L using Nat.strongRecOn with
 | _ L ih=>
  intro i l s hL hi hl h hs
  by_cases q:i∈l
  ·obtain⟨l1,l2,e⟩:=List.append_of_mem q
   subst e
   rw[Zcn]at h
   obtain⟨p,r,h1,h2,h3⟩:=addO_some.mp h
   by_cases hp:p<0
   ·exact ih l1.length (by rw[←hL];simp) i l1 p rfl hi (fun a ha=>hl a (Zz4 _ ha)) h1 hp
   ·exact ih l2.length (by rw[←hL];simp;omega) i l2 r rfl hi (fun a ha=>hl a (Zz3 _ (Zz2 _ ha))) h2 (by omega)
  ·by_cases nd:l.Nodup
   ·have:=Zj5 n (i::l) (List.nodup_cons.mpr ⟨q,nd⟩) (fun a ha=>by
     rcases Zz7.mp ha with rfl | ha
     ·exact hi
     ·exact hl a ha)
    exact⟨i,l,s,by simpa using this,hi,hl,h,hs⟩
   ·obtain⟨k,l1,l2,l3,e⟩:=Zj6 l nd
    subst e
    rw[Zcn]at h
    obtain⟨p,r,h1,h2,h3⟩:=addO_some.mp h
    rw[Zcn]at h2
    obtain⟨p2,r2,h4,h5,h6⟩:=addO_some.mp h2
    have hk:k<n:=hl k (by simp)
    by_cases hp:p2<0
    ·exact ih l2.length (by rw[←hL];simp;omega) k l2 p2 rfl hk (fun a ha=>hl a (by simp[ha])) h4 hp
    ·have h7:ZbE G i (l1++k::l3) i=some (p+r2):=by rw[Zcn,h1,h5];rfl
     exact ih (l1++k::l3).length (by rw[←hL];simp;omega) i (l1++k::l3) (p+r2) rfl hi (fun a ha=>hl a (by simp at ha ⊢;rcases ha with h | h | h <;> simp[h])) h7 (by omega)
def Zd6(n r:Nat)(G D:Nat→Nat→Option Int): Prop:=(∀i j,i<n→j<n→∀c,D i j=some c→∃l:List Nat,(∀a∈l,a<n)∧ZbE G i l j=some c)∧∀(l:List Nat) i j,l.length+1≤r→(∀a∈l,a<n)→i<n→j<n→leO (D i j) (ZbE G i l j)
theorem Ztg: Zd6 n 1 G G:=⟨fun i j _ _ c h=>⟨[],by simp,h⟩,fun l i j h _ _ _=>by
 have:l=[]:=List.length_eq_zero_iff.mp (by omega)
 subst this
 exact Zcm⟩
def Zpv(n:Nat)(D D':Nat→Nat→Option Int): Prop:=∀i j,i<n→j<n→leO (D' i j) (D i j)∧(∀k,k<n→leO (D' i j) (Z3 (D i k) (D k j)))∧(D' i j=D i j∨∃k,k<n∧D' i j=Z3 (D i k) (D k j))
theorem ZrE{r:Nat}{D D':Nat→Nat→Option Int}(h:Zd6 n r G D)(t:Zpv n D D'): Zd6 n (2*r) G D':=by
 refine⟨fun i j hi hj c e=>?_,fun l i j hl ha hi hj=>?_⟩
 ·obtain⟨_,_,e1 | ⟨k,hk,e1⟩⟩:=t i j hi hj
  ·rw[e1]at e;exact h.1 i j hi hj c e
  ·rw[e1]at e
   obtain⟨p,q,h1,h2,h3⟩:=addO_some.mp e
   obtain⟨l1,a1,b1⟩:=h.1 i k hi hk p h1
   obtain⟨l2,a2,b2⟩:=h.1 k j hk hj q h2
   refine⟨l1++k::l2,fun a ha=>?_,by rw[Zcn,b1,b2];simp[Z3,h3]⟩
   rcases Zz8.mp ha with ha | ha
   ·exact a1 a ha
   ·rcases Zz7.mp ha with rfl | ha
    ·exact hk
    ·exact a2 a ha
 ·obtain⟨t1,t2,_⟩:=t i j hi hj
  by_cases q:l.length+1≤r
  ·exact ZcO t1 (h.2 l i j q ha hi hj)
  ·have hr:1≤r:=by omega
   have hlt:r-1<l.length:=by omega
   obtain⟨k,l1,l2,e,hl1⟩:∃k l1 l2,l=l1++k::l2∧l1.length=r-1:=⟨l[r-1],l.take (r-1),l.drop r,by
    have e1:=(List.take_append_drop (r-1) l).symm
    rw[List.drop_eq_getElem_cons hlt,show r-1+1=r by omega]at e1
    exact e1,by simp;omega⟩
   subst e
   have hk:k<n:=ha k (by simp)
   rw[Zcn]
   refine ZcO (t2 k hk) (Zen (h.2 l1 i k (by omega) (fun a m=>ha a (Zz4 _ m)) hi hk) (h.2 l2 k j ?_ (fun a m=>ha a (Zz3 _ (Zz2 _ m))) hk hj))
   simp at hl
   omega
theorem ZrF{r:Nat}{D:Nat→Nat→Option Int}(hd:∀i,i<n→G i i=some 0)(hr:n≤r)(b:Zd6 n r G D)(nn:∀m,m<n→¬Neg n (ZU G (m+1))): ∀i j,i<n→j<n→D i j=ZU G n i j:=by
 intro i j hi hj
 have low:=Zn0 (n:=n) (G:=G) (C:=ZU G n) (fun i j _ _=>Zlc n i j) (fun k i j hk hi hj=>ZkW hd n (by omega) nn k hk i j hi hj)
 have zero:=ZdL hd (m:=n) nn
 have pos:∀k l s,k<n→(∀a∈l,a<n)→ZbE G k l k=some s→0≤s:=fun k l s hk hl e=>by
  have:=low l k k hl hk hk
  rw[zero k hk,e]at this
  exact leO_some.mp this
 refine ZqI ?_ ?_
 ·intro c e
  obtain⟨l,h1,h2⟩:=Zgr n (Zz10 n) i j c e
  obtain⟨l',s',k1,k2,k3,k4⟩:=Zul pos hi hj _ l c rfl h1 h2
  have:=b.2 l' i j (by omega) k2 hi hj
  rw[k3]at this
  obtain⟨x,e1,e2⟩:=this s' rfl
  exact⟨x,e1,by omega⟩
 ·intro c e
  obtain⟨l,h1,h2⟩:=b.1 i j hi hj c e
  have:=low l i j h1 hi hj
  rw[h2]at this
  exact this c rfl
theorem Zsq{r:Nat}{D:Nat→Nat→Option Int}(hr:n≤r)(b:Zd6 n r G D)(hm:m<n)(ng:Neg n (ZU G (m+1))): Neg n D:=by
 obtain⟨i,hi,c,e,hc⟩:=ng
 obtain⟨l,h1,h2⟩:=Zgr (n:=n) (m+1) (by omega) i i c e
 obtain⟨i',l',s',k1,k2,k3,k4,k5⟩:=ZrD _ i l c rfl hi h1 h2 hc
 have:=b.2 l' i' i' (by omega) k3 k2 k2
 rw[k4]at this
 obtain⟨x,e1,e2⟩:=this s' rfl
 exact⟨i',k2,x,e1,by omega⟩
def ZcY(n:Nat)(D F:Nat→Nat→Option Int)(done:Nat→Nat→Nat→Prop): Prop:=∀a b,a<n→b<n→leO (F a b) (D a b)∧(F a b=D a b∨∃k,k<n∧F a b=Z3 (D a k) (D k b))∧∀k,k<n→done a b k→leO (F a b) (Z3 (D a k) (D k b))
theorem Zj7{D:Nat→Nat→Option Int}(h:ZcY n D F done)(hd:∀a b c,c<n→done' a b c→done a b c∨(a=i∧b=j∧c=k))(hl:leO (F i j) (Z3 (D i k) (D k j))): ZcY n D F done':=fun a b ha hb=>by
 obtain⟨h1,h2,h3⟩:=h a b ha hb
 refine⟨h1,h2,fun c hc q=>?_⟩
 rcases hd a b c hc q with q | ⟨rfl,rfl,rfl⟩
 ·exact h3 c hc q
 ·exact hl
theorem Zth{D:Nat→Nat→Option Int}(h:ZcY n D F done)(hi:i<n)(hj:j<n)(hk:k<n)(hd:∀a b c,c<n→done' a b c→done a b c∨(a=i∧b=j∧c=k))(hl:leO (Z3 (D i k) (D k j)) (F i j)): ZcY n D (Zbr F i j (Z3 (D i k) (D k j))) done':=fun a b ha hb=>by
 by_cases q:a=i∧b=j
 ·obtain⟨rfl,rfl⟩:=q
  obtain⟨h1,h2,h3⟩:=h a b ha hb
  rw[ZhM]
  refine⟨ZcO hl h1,.inr ⟨k,hk,rfl⟩,fun c hc q=>?_⟩
  rcases hd a b c hc q with q | ⟨_,_,rfl⟩
  ·exact ZcO hl (h3 c hc q)
  ·exact Zcm
 ·rw[Zgk q]
  obtain⟨h1,h2,h3⟩:=h a b ha hb
  refine⟨h1,h2,fun c hc q'=>?_⟩
  rcases hd a b c hc q' with q' | ⟨rfl,rfl,_⟩
  ·exact h3 c hc q'
  ·exact absurd ⟨rfl,rfl⟩ q
theorem Zf3{D:Nat→Nat→Option Int}(h:ZcY n D F done)(hd:∀a b c,a<n→b<n→c<n→done' a b c→done a b c): ZcY n D F done':=fun a b ha hb=>by
 obtain⟨h1,h2,h3⟩:=h a b ha hb
 exact⟨h1,h2,fun c hc q=>h3 c hc (hd a b c ha hb hc q)⟩
theorem ZrG{D:Nat→Nat→Option Int}(h:ZcY n D F fun _ _ _=>True): Zpv n D F:=fun a b ha hb=>by
 obtain⟨h1,h2,h3⟩:=h a b ha hb
 exact⟨h1,fun k hk=>h3 k hk trivial,h2⟩
theorem Zqo(h0:0<n)(hn:n≤100)(hd:∀i,i<n→G i i=some 0): Pk (ZgI [ZO n G]) fun t=>∃r D,n≤r∧Zd6 n r G D∧((t=ZO n D∧¬Neg n D)∨(t=.none∧Neg n D)):=by
 unfold ZgI ZeT
 have hg:ZO n G=.lst (tab n fun i=>Zab n (G i)):=rfl
 walk_at "z"
 rw[hg]
 walk_at "z"
 refine Zhg (n:=n) (G:=G) (by omega) ?_ ?_
 ·walk_at "z"
  rfl
 walk_at "z"
 refine Zer (fun m σ=>∃(r:Nat) (D:Nat→Nat→Option Int),σ 1=some (.int n)∧σ 2=some (ZO n D)∧σ 3=some (.int r)∧Zd6 n r G D∧1≤r∧r≤2*n∧m=2*n-r) _ _ ?_ 1000000 (m:=2*n-1) ⟨1,G,by walk_at "r",by walk_at "r",by walk_at "r",Ztg,by omega,by omega,rfl⟩ (by omega)
 rintro m σ ⟨r,D,e1,e2,e3,bs,r1,r2,rfl⟩
 have hdD:∀i,i<n→∃b,D i i=some b:=fun i hi=>by
  have:=bs.2 [] i i (by simpa using r1) (by simp) hi hi
  rw[show ZbE G i [] i=some 0 from hd i hi]at this
  obtain⟨x,e,_⟩:=this 0 rfl
  exact⟨x,e⟩
 walk_at "z"
 refine⟨fun c=>?_,fun c=>?_⟩
 ·have hrn:r<n:=by simpa using c
  walk_at "z"
  refine Zhg (n:=n) (G:=D) (by omega) ?_ ?_
  ·walk_at "z"
   rfl
  walk_at "z"
  refine Zbl (n:=n) (a:=fun i=>.int i) (P:=fun i σ=>∃F,σ 1=some (.int n)∧σ 2=some (ZO n F)∧σ 3=some (.int r)∧σ 4=some (ZO n D)∧ZcY n D F fun a _ _=>a<i) ?_ ⟨D,by walk_at "r",by walk_at "r",by walk_at "r",by walk_at "r",fun a b _ _=>⟨Zcm,.inl rfl,fun k _ q=>by omega⟩⟩ ?_ ?_
  ·walk_at "z"
   rfl
  ·rintro i σ hi ⟨F0,f1,f2,f3,f4,pt⟩
   refine Zbl (n:=n) (a:=fun i=>.int i) (P:=fun j σ=>∃F,σ 1=some (.int n)∧σ 2=some (ZO n F)∧σ 3=some (.int r)∧σ 4=some (ZO n D)∧σ 5=some (.int i)∧ZcY n D F fun a b _=>a<i∨(a=i∧b<j)) ?_ ⟨F0,by walk_at "r",by walk_at "r",by walk_at "r",by walk_at "r",by walk_at "r",Zf3 pt fun a b c _ _ _ q=>by omega⟩ ?_ ?_
   ·walk_at "z"
    rfl
   ·rintro j σ hj ⟨F1,f1,f2,f3,f4,f5,pt⟩
    refine Zbl (n:=n) (a:=fun i=>.int i) (P:=fun k σ=>∃F,σ 1=some (.int n)∧σ 2=some (ZO n F)∧σ 3=some (.int r)∧σ 4=some (ZO n D)∧σ 5=some (.int i)∧σ 6=some (.int j)∧ZcY n D F fun a b c=>a<i∨(a=i∧(b<j∨(b=j∧c<k)))) ?_ ⟨F1,by walk_at "r",by walk_at "r",by walk_at "r",by walk_at "r",by walk_at "r",by walk_at "r",Zf3 pt fun a b c _ _ _ q=>by omega⟩ ?_ ?_
    ·walk_at "z"
     rfl
    ·rintro k σ hk ⟨F,f1,f2,f3,f4,f5,f6,pt⟩
     have hdn:∀a b c,c<n→(a<i∨(a=i∧(b<j∨(b=j∧c<k+1))))→(a<i∨(a=i∧(b<j∨(b=j∧c<k))))∨(a=i∧b=j∧c=k):=fun a b c _ q=>by omega
     have f2':=f2
     unfold ZO Zab at f2 f4
     walk_at "z"
     cases hik:D i k with
     | none=>
      rw[ZaO]
      walk_at "z"
      exact⟨F,by walk_at "r",by walk_at "r",by walk_at "r",by walk_at "r",by walk_at "r",by walk_at "r",Zj7 pt hdn (by rw[hik];exact Zcz)⟩
     | some p=>
      rw[Z8]
      walk_at "z"
      cases hkj:D k j with
      | none=>
       rw[ZaO]
       walk_at "z"
       exact⟨F,by walk_at "r",by walk_at "r",by walk_at "r",by walk_at "r",by walk_at "r",by walk_at "r",Zj7 pt hdn (by rw[hik,hkj];exact Zcz)⟩
      | some q=>
       rw[Z8]
       walk_at "z"
       rw[hik,hkj,Z8,Z8]
       have hs:Z3 (D i k) (D k j)=some (p+q):=by rw[hik,hkj];rfl
       have hset:=Zth pt hi hj hk hdn
       have hkeep:=Zj7 pt hdn
       rw[hs]at hset hkeep
       clear f2'
       walk_at "z"
       cases hij:F i j with
       | none=>
        rw[ZaO]
        walk_at "z"
        rw[←Z8 (c:=p+q),Zdb]
        exact⟨_,by walk_at "r",by walk_at "r",by walk_at "r",by walk_at "r",by walk_at "r",by walk_at "r",hset (by rw[hij];exact Zcz)⟩
       | some g=>
        rw[Z8]
        walk_at "z"
        rw[hij,Z8]
        walk_at "z"
        by_cases hlt:p+q<g
        ·walk_at "z"
         rw[←Z8 (c:=p+q),Zdb]
         exact⟨_,by walk_at "r",by walk_at "r",by walk_at "r",by walk_at "r",by walk_at "r",by walk_at "r",hset (by rw[hij];exact leO_some.mpr (by omega))⟩
        ·walk_at "z"
         exact⟨F,by walk_at "r",by walk_at "r",by walk_at "r",by walk_at "r",by walk_at "r",by walk_at "r",hkeep (by rw[hij];exact leO_some.mpr (by omega))⟩
    ·rintro σ ⟨F,f1,f2,f3,f4,f5,f6,pt⟩
     exact⟨F,f1,f2,f3,f4,f5,Zf3 pt fun a b c _ _ hc q=>by omega⟩
   ·rintro σ ⟨F,f1,f2,f3,f4,f5,pt⟩
    exact⟨F,f1,f2,f3,f4,Zf3 pt fun a b c _ hb _ q=>by omega⟩
  ·rintro σ ⟨F,f1,f2,f3,f4,pt⟩
   walk_at "z"
   refine Zoy (by decide) (by decide) ?_
   walk_at "z"
   exact⟨2*n-2*r,by omega,2*r,F,by walk_at "r",by walk_at "r",by rw[show((2*r:Nat):Int)=2*(r:Int)by omega];walk_at "r",ZrE bs (ZrG (Zf3 pt fun a b c ha _ _ _=>ha)),by omega,by omega,rfl⟩
 ·have hrn:n≤r:=by simp at c;omega
  refine Zgn ?_
  refine Zbl (n:=n) (a:=fun i=>.int i) (P:=fun i σ=>σ 2=some (ZO n D)∧∀a,a<i→∀b,D a a=some b→0≤b) ?_ ⟨e2,by omega⟩ ?_ ?_
  ·walk_at "z"
   rfl
  ·rintro i σ hi ⟨f2,f3⟩
   unfold ZO Zab at f2
   obtain⟨b,eb⟩:=hdD i hi
   walk_at "z"
   rw[eb,Z8]
   walk_at "z"
   by_cases hb:b<0
   ·walk_at "z"
    exact⟨r,D,hrn,bs,.inr ⟨rfl,i,hi,b,eb,hb⟩⟩
   ·walk_at "z"
    refine⟨by walk_at "r",fun a ha c hc=>?_⟩
    by_cases q:a=i
    ·subst q;rw[eb]at hc;cases hc;omega
    ·exact f3 a (by omega) c hc
  ·rintro σ ⟨f2,f3⟩
   walk_at "z"
   refine⟨r,D,hrn,bs,.inl ⟨rfl,?_⟩⟩
   rintro⟨i,hi,b,eb,hb⟩
   have:=f3 i hi b eb
   omega
theorem ZoD(hn:n≤99)(hd:∀i,i<n+1→G i i=some 0): Pk (ZgI [ZO (n+1) G]) fun t=>(t=ZO (n+1) (ZU G (n+1))∧¬ZbI (n+1) G)∨(t=.none∧ZbI (n+1) G):=by
 refine(Zqo (by omega) (by omega) hd).mono ?_
 rintro t ⟨r,D,hr,bs,h⟩
 by_cases hc:ZbI (n+1) G
 ·obtain⟨m,hm,ng⟩:=hc
  have ng2:=Zsq hr bs hm ng
  rcases h with⟨_,h⟩ | ⟨h,_⟩
  ·exact absurd ng2 h
  ·exact .inr ⟨h,m,hm,ng⟩
 ·have nn:∀m,m<n+1→¬Neg (n+1) (ZU G (m+1)):=fun m hm q=>hc ⟨m,hm,q⟩
  have same:=ZrF hd hr bs nn
  have hz:=ZdL hd nn
  rcases h with⟨h,_⟩ | ⟨_,i,hi,b,e,hb⟩
  ·refine .inl ⟨?_,hc⟩
   rw[h]
   unfold ZO Zab
   congr 1
   refine Zbj fun i hi=>?_
   congr 1
   refine Zbj fun j hj=>?_
   rw[same i j hi hj]
  ·rw[same i i hi hi,hz i hi]at e
   cases e
   omega
theorem ZqL(hn:n≤99)(hk:k+2*n+4≤7000)(hM:0<M)(bM:Bd k M)(hd:∀i,i<n+1→G i i=some 0)(bG:BdG (n+1) k G)(hR:∀t,t<n→RB M k (R t)): Pk (Zfw [ZK n G R]) fun t=>(∃G2 R2,t=ZK n G2 R2∧Sharp n G R G2 R2 M (k+2*n+5))∨(t=.none∧Zeo n G R M (k+n+2)):=by
 unfold Zfw Zfv
 have ht:ZK n G R=.tup [ZO (n+1) G,ZaD n R]:=rfl
 have hg:∀G,ZO (n+1) G=.lst (tab (n+1) fun i=>Zab (n+1) (G i)):=fun _=>rfl
 have hr:∀R,ZaD n R=.lst (tab n fun i=>ZX (R i)):=fun _=>rfl
 rw[ht]
 walk_at "z"
 refine(ZoD hn hd).mono ?_
 rintro t (⟨rfl,nr⟩ | ⟨rfl,h⟩)
 ·rw[hg (ZU G (n+1))]
  walk_at "z"
  rw[←hg (ZU G (n+1))]
  refine(ZlX (k:=k+n+1) (by omega) (by omega) hM (bM.mono (by omega)) (Zdt bG (n+1) (by omega)) (fun t ht=>(hR t ht).mono (by omega))).mono ?_
  rintro t (⟨R1,rfl,h1⟩ | ⟨rfl,h⟩)
  ·have hR1:∀t,t<n→RB M (k+n+2) (R1 t):=fun t ht=>(h1 t ht).1
   have hF1:=ZcA hR1
   have z1:=ZdL hd (m:=n+1) fun m hm q=>nr ⟨m,hm,q⟩
   rw[hr R1]
   walk_at "z"
   rw[←hr R1]
   refine(Zp2 (k:=k+n+2) (by omega) (by omega) hM (bM.mono (by omega)) hR1 z1).mono ?_
   rintro t (⟨rfl,nl⟩ | ⟨rfl,fl⟩)
   ·have bG1:BdG (n+1) (k+n+3) (Zay (ZU G (n+1)) R1):=ZkX hM (bM.mono (by omega)) (fun a b c ha hb e=>(Zdt bG (n+1) (by omega) a b c ha hb e).mono (by omega)) hR1
    have z2:=Zhu (fun i hi=>(hF1 i hi).1) z1
    rw[hg (Zay (ZU G (n+1)) R1)]
    walk_at "z"
    rw[←hg (Zay (ZU G (n+1)) R1)]
    refine(ZoD hn z2).mono ?_
    rintro t (⟨rfl,nr2⟩ | ⟨rfl,h2⟩)
    ·rw[hg (ZU (Zay (ZU G (n+1)) R1) (n+1))]
     walk_at "z"
     rw[←hg (ZU (Zay (ZU G (n+1)) R1) (n+1))]
     refine(ZlX (k:=k+n+3+n+1) (by omega) (by omega) hM (bM.mono (by omega)) (fun a b c ha hb e=>Zdt bG1 (n+1) (by omega) a b c ha hb e) (fun t ht=>(hR1 t ht).mono (by omega))).mono ?_
     rintro t (⟨R2,rfl,h2⟩ | ⟨rfl,h2⟩)
     ·rw[hr R2]
      walk_at "z"
      exact .inl ⟨_,R2,rfl,⟨R1,nr,h1.mono (by omega),nl,nr2,rfl,h2.mono (by omega)⟩⟩
     ·walk_at "z"
      exact .inr ⟨rfl,.inr (.inr ⟨R1,nr,h1,.inr ⟨nl,.inr ⟨nr2,h2⟩⟩⟩)⟩
    ·walk_at "z"
     exact .inr ⟨rfl,.inr (.inr ⟨R1,nr,h1,.inr ⟨nl,.inl h2⟩⟩)⟩
   ·walk_at "z"
    exact .inr ⟨rfl,.inr (.inr ⟨R1,nr,h1,.inl fl⟩)⟩
  ·walk_at "z"
   exact .inr ⟨rfl,.inr (.inl ⟨nr,h⟩)⟩
 ·walk_at "z"
  exact .inr ⟨rfl,.inl h⟩
def SameG(n:Nat)(A B:Nat→Nat→Option Int): Prop:=∀i j,i<n→j<n→A i j=B i j
theorem ZhN{n:Nat}{A B:Nat→Nat→Option Int}(h:SameG n A B): ∀m,m≤n→SameG n (ZU A m) (ZU B m)
 | 0,_=>h
 | m+1,hm=>fun i j hi hj=>by
  have ih:=ZhN h m (by omega)
  show ZaB (ZU A m i j) (Z3 (ZU A m i m) (ZU A m m j))=ZaB (ZU B m i j) (Z3 (ZU B m i m) (ZU B m m j))
  rw[ih i j hi hj,ih i m hi (by omega),ih m j (by omega) hj]
theorem Zsr(h:SameG n A B)(r:ZbI n A): ZbI n B:=by
 obtain⟨m,hm,i,hi,b,e,hb⟩:=r
 exact⟨m,hm,i,hi,b,by rw[←ZhN h (m+1) (by omega) i i hi hi];exact e,hb⟩
def SameR(n:Nat)(R S:Nat→Int×Int): Prop:=∀t,t<n→R t=S t
theorem Zhn(h:SameR n R S): ∀i,i<n+1→ZA R i=ZA S i
 | 0,_=>rfl
 | i+1,hi=>h i (by omega)
theorem Zkn(h:SameG (n+1) A B)(hr:SameR n R S): SameG (n+1) (Zay A R) (Zay B S):=fun i j hi hj=>by
 unfold Zay Za7
 rw[h i j hi hj,Zhn hr i hi,Zhn hr j hj]
theorem ZqM(h:SameG (n+1) A B)(hr:SameR n R S)(q:ZcP n A R): ZcP n B S:=by
 obtain⟨i,j,hi,hj,b,e,l⟩:=q
 exact⟨i,j,hi,hj,b,by rw[←h i j hi hj];exact e,by rw[←Zkn h hr i j hi hj];exact l⟩
theorem Zi2(h:SameG (n+1) A B)(hr:SameR n R S)(hi:i<n+1)(q:Zcf n A R i (n+1) x): Zcf n B S i (n+1) x:=by
 refine⟨by rw[←Zhn hr i hi];exact q.1,fun j hj a b ha hb hab=>?_⟩
 rw[←Zhn hr j hj]
 exact q.2 j hj a b (by rw[h i j hi hj];exact ha) (by rw[h j i hj hi];exact hb) hab
theorem SameG.symm(h:SameG n A B): SameG n B A:=fun i j hi hj=>(h i j hi hj).symm
theorem SameR.symm{A B:Nat→Int×Int}(h:SameR n A B): SameR n B A:=fun i hi=>(h i hi).symm
theorem Zj8{S':Nat→Int×Int}(h:SameG (n+1) A B)(hr:SameR n R S)(a:Hand n A R R' M k)(b:Hand n B S S' M' k'): SameR n R' S':=fun t ht=>
 Zjh (a t ht).1.1 (b t ht).1.1 fun x=>((a t ht).2 x).trans (Iff.trans ⟨Zi2 h hr (by omega),Zi2 h.symm hr.symm (by omega)⟩ ((b t ht).2 x).symm)
theorem Znw(h:SameG (n+1) A B)(hr:SameR n R S)(a:Hand n A R R' M k): ¬Zeu n B S:=by
 rintro⟨i,hi,q⟩
 exact q _ (Zi2 h hr (by omega) (((a i hi).2 _).mp (a i hi).1.1.self))
theorem Zeg: SameG n A A:=fun _ _ _ _=>rfl
theorem ZjI{A:Nat→Int×Int}: SameR n A A:=fun _ _=>rfl
theorem Zss(h:SameG (n+1) A B)(hr:SameR n R S): ZK n A R=ZK n B S:=by
 unfold ZK ZO ZaD Zab
 have e1:(tab (n+1) fun i=>T.lst (tab (n+1) fun j=>oT (A i j)))=tab (n+1) fun i=>T.lst (tab (n+1) fun j=>oT (B i j)):=Zbj fun i hi=>by
  congr 1
  exact Zbj fun j hj=>by rw[h i j hi hj]
 have e2:(tab n fun i=>ZX (R i))=tab n fun i=>ZX (S i):=Zbj fun i hi=>by rw[hr i hi]
 rw[e1,e2]
theorem ZrH{G2':Nat→Nat→Option Int}{R2':Nat→Int×Int}(a:Sharp n G R G2 R2 M k)(b:Sharp n G R G2' R2' M' k'): ZK n G2 R2=ZK n G2' R2':=by
 obtain⟨R1,a1,a2,a3,a4,rfl,a6⟩:=a.go
 obtain⟨S1,b1,b2,b3,b4,rfl,b6⟩:=b.go
 have r1:=Zj8 Zeg ZjI a2 b2
 have g2:=ZhN (Zkn (A:=ZU G (n+1)) Zeg r1) (n+1) (by omega)
 exact Zss g2 (Zj8 g2 r1 a6 b6)
theorem Znx(a:Sharp n G R G2 R2 M k)(b:Zeo n G R M' k'): False:=by
 obtain⟨R1,a1,a2,a3,a4,rfl,a6⟩:=a.go
 rcases b with b | ⟨_,b⟩ | ⟨S1,b1,b2,b⟩
 ·exact a1 b
 ·exact Znw Zeg ZjI a2 b
 ·have r1:=Zj8 Zeg ZjI a2 b2
  have g1:=Zkn (A:=ZU G (n+1)) Zeg r1
  rcases b with b | ⟨_,b | ⟨_,b⟩⟩
  ·exact a3 (ZqM Zeg r1.symm b)
  ·exact a4 (Zsr g1.symm b)
  ·exact Znw (ZhN g1 (n+1) (by omega)) r1 a6 b
theorem ZrI{u:T}(h:(∃G2 R2,t=ZK n G2 R2∧Sharp n G R G2 R2 M (k+2*n+5))∨(t=.none∧Zeo n G R M (k+n+2)))(h':(∃G2 R2,u=ZK n G2 R2∧Sharp n G R G2 R2 M (k+2*n+5))∨(u=.none∧Zeo n G R M (k+n+2))): t=u:=by
 rcases h with⟨A,B,rfl,h⟩ | ⟨rfl,h⟩
 ·rcases h' with⟨C,D,rfl,h'⟩ | ⟨rfl,h'⟩
  ·exact ZrH h h'
  ·exact absurd h' fun q=>Znx h q
 ·rcases h' with⟨C,D,rfl,h'⟩ | ⟨rfl,h'⟩
  ·exact absurd h fun q=>Znx h' q
  ·rfl
theorem ZrJ(hn:n≤100)(hd:∀i,i<n+1→G i i=some 0)(ok:∀t,t<n→RestOk (R t)): Zje [ZK n G R,.int n]=some (.bool true):=by
 apply Pk.eq
 unfold Zje Zfx ZK ZaD
 walk_at "z"
 rw[show(n:Int)+1=((n+1:Nat):Int)by omega]
 refine Zy (Zue (by omega) hd) ?_
 walk_at "z"
 refine Zbl (n:=n) (a:=fun i=>ZX (R i)) (P:=fun _ _=>True) ?_ trivial ?_ ?_
 ·walk_at "z"
  rfl
 ·rintro t σ ht _
  have ho:=ok t ht
  unfold ZX
  walk_at "z"
  refine Zy Zj0 ?_
  walk_at "z"
  refine Zy Zj0 ?_
  walk_at "z"
  have h0:=ho.nn
  walk_at "z"
  rcases ho with h | h
  ·walk_at "z"
   trivial
  ·walk_at "z"
   trivial
 ·rintro σ _
  walk_at "z"
  rfl
theorem ZrK(hd:∀i,i<n+1→G i i=some 0)(s:Sharp n G R G2 R2 M k): (∀i,i<n+1→G2 i i=some 0)∧∀k,k<n+1→∀i j,i<n+1→j<n+1→leO (G2 i j) (Z3 (G2 i k) (G2 k j)):=by
 obtain⟨R1,h1,h2,h3,h4,rfl,h6⟩:=s.go
 have hF:=ZcA fun t ht=>(h2 t ht).1
 have z1:=ZdL hd (m:=n+1) fun m hm q=>h1 ⟨m,hm,q⟩
 have z2:=Zhu (fun i hi=>(hF i hi).1) z1
 exact⟨ZdL z2 fun m hm q=>h4 ⟨m,hm,q⟩,ZkW z2 (n+1) (by omega) fun m hm q=>h4 ⟨m,hm,q⟩⟩
noncomputable def Zde(R:Nat→Int×Int): Nat→Int
 | 0=>1
 | t+1=>Zde R t*(if(R t).1=0 then 1 else(R t).1)
theorem Zny{n:Nat}{R:Nat→Int×Int}(h:∀t,t<n→RestOk (R t)): ∀m,m≤n→0<Zde R m
 | 0,_=>by show(0:Int)<1;decide
 | m+1,hm=>by
  have ih:=Zny h m (by omega)
  have:=(h m (by omega)).nn
  unfold Zde
  refine Int.mul_pos ih ?_
  split
  ·decide
  ·omega
theorem Znz{R:Nat→Int×Int}: ∀m t,t<m→(R t).1=0∨(R t).1 ∣ Zde R m
 | m+1,t,ht=>by
  by_cases z:(R t).1=0
  ·exact .inl z
  ·right
   unfold Zde
   by_cases q:t=m
   ·subst q
    rw[if_neg z]
    exact Int.dvd_mul_left _ _
   ·exact Int.dvd_trans ((Znz m t (by omega)).resolve_left z) (Int.dvd_mul_right _ _)
theorem Zn1{n k:Nat}{R:Nat→Int×Int}(hk:1≤k)(h:∀t,t<n→Bd k (R t).1): ∀m,m≤n→Bd (k*m+1) (Zde R m)
 | 0,_=>by rw[Nat.mul_zero];exact Zdi (by omega)
 | m+1,hm=>by
  have ih:=Zn1 hk h m (by omega)
  unfold Zde
  have h2:Bd k (if(R m).1=0 then 1 else(R m).1):=by
   split
   ·exact Zdi hk
   ·exact h m (by omega)
  have:=Bd.mul ih h2
  rw[Nat.mul_succ]
  exact this.mono (by omega)
theorem Zst{k:Int}{B:Nat}(hL:Lay ns)(h0:0≤k)(h9:k≤1000)(hn:n≤9)(hB2:134≤B)(hR:∀t,t<n→RestOk (R t))(sR:SmR B n R)(sG:SmG B n G): Pk (ZiU [scr ns,.int k,ZK n G R]) fun t=>∃G' R',t=ZK n G' R'∧(∀i,i<n+1→G' i i=G i i)∧(∀t,t<n→RestOk (R' t))∧SmG (B+1) n G'∧SmR (B+1) n R':=by
 unfold ZiU Zfe
 have ht:ZK n G R=.tup [.lst (tab (n+1) fun i=>Zab (n+1) (G i)),.lst (tab n fun i=>ZX (R i))]:=rfl
 have e134:(2:Nat) ^ 134=21778071482940061661655974875633165533184:=by decide
 have hpB:(2:Nat) ^ 134≤2 ^ B:=Nat.pow_le_pow_right (by decide) hB2
 have hpB1:(2:Nat) ^ (B+1)=2 ^ B*2:=Nat.pow_succ ..
 have sG1:SmG (B+1) n G:=fun i j hi hj b h=>ZaE (sG i j hi hj b h) (by omega)
 have sR1:SmR (B+1) n R:=fun t ht=>⟨ZaE (sR t ht).1 (by omega),ZaE (sR t ht).2 (by omega)⟩
 rw[ht]
 walk_at "z"
 refine Zhg (n:=n+1) (G:=G) (by omega) ?_ ?_
 ·walk_at "z"
  rfl
 unfold ZO Zab
 walk_at "z"
 obtain⟨p0,p1⟩:=ZbM ns k (show(0:Int)<((n+1:Nat):Int)by omega)
 obtain⟨i,ei,hi⟩:=Zh7 p0 p1
 obtain⟨p2,p3⟩:=ZbM ns (k+1) (show(0:Int)<((n+1:Nat):Int)by omega)
 obtain⟨j,ej,hj⟩:=Zh7 p2 p3
 obtain⟨w0,w1⟩:=ZbM ns (k+2) (show(0:Int)<5 by decide)
 obtain⟨u0,u1⟩:=ZbM ns (k+3) (show(0:Int)<4 by decide)
 obtain⟨u2,u3⟩:=ZbM ns (k+3) (show(0:Int)<3 by decide)
 refine Zy (ZbN h0 (by omega) (by omega)) ?_
 rw[ei]
 walk_at "z"
 refine Zy (ZbN (by omega) (by omega) (by omega)) ?_
 rw[ej]
 walk_at "z"
 refine Zy (ZbN (by omega) (by omega) (by omega)) ?_
 walk_at "z"
 generalize ZaY ns (k+2) 5=w at w0 w1
 by_cases hw:w<3∧i≠j
 ·have hij:(i:Int)≠(j:Int):=by omega
  have hw3:=hw.1
  have fin:∀v,(∀b,v=some b→b.natAbs<2 ^ (B+1))→(∀a,a<n+1→Zbr G i j v a a=G a a)∧SmG (B+1) n (Zbr G i j v):=fun v hv=>by
   refine⟨fun a ha=>by rw[Zgk (by omega)],fun a b ha hb c hc=>?_⟩
   by_cases q:a=i∧b=j
   ·obtain⟨rfl,rfl⟩:=q;rw[ZhM]at hc;exact hv c hc
   ·rw[Zgk q]at hc;exact sG1 a b ha hb c hc
  cases hg:G i j with
  | none=>
   walk_at "z"
   rw[hg,ZaO]
   walk_at "z"
   refine Zy (Zem hL (by omega) (by omega)) ?_
   walk_at "z"
   rw[←Z8 (c:=ZbB ns (k+3)),Zdb]
   walk_at "z"
   have:=Zgj ns (k+3)
   obtain⟨f1,f2⟩:=fin (some (ZbB ns (k+3))) (fun b e=>by cases e;omega)
   exact⟨Zbr G i j (some (ZbB ns (k+3))),R,rfl,f1,hR,f2,sR1⟩
  | some g=>
   walk_at "z"
   rw[hg,Z8]
   walk_at "z"
   rw[hg,Z8]
   walk_at "z"
   refine Zy (ZbN (by omega) (by omega) (by omega)) ?_
   walk_at "z"
   rw[←Z8 (c:=g-1-ZaY ns (k+3) 4),Zdb]
   walk_at "z"
   have:=sG i j (by omega) (by omega) g hg
   obtain⟨f1,f2⟩:=fin (some (g-1-ZaY ns (k+3) 4)) (fun b e=>by cases e;omega)
   exact⟨Zbr G i j _,R,rfl,f1,hR,f2,sR1⟩
 ·have hcase:(¬w<3)∨(w<3∧(i:Int)=(j:Int)):=by
   by_cases q:w<3
   ·exact .inr ⟨q,by
     have:i=j:=Classical.byContradiction fun h=>hw ⟨q,h⟩
     rw[this]⟩
   ·exact .inl q
  clear hw
  rcases hcase with hw | ⟨hw,hij⟩
  all_goals
   by_cases hn0:n=0
   ·subst hn0
    walk_at "z"
    exact⟨G,R,rfl,fun _ _=>rfl,hR,sG1,sR1⟩
   ·have hnp:(0:Int)<(n:Int):=by omega
    walk_at "z"
    obtain⟨q0,q1⟩:=ZbM ns k hnp
    obtain⟨t,et,ht⟩:=Zh7 q0 q1
    refine Zy (ZbN h0 (by omega) hnp) ?_
    rw[et]
    walk_at "z"
    have hp:ZX (R t)=.tup [.int (R t).1,.int (R t).2]:=rfl
    rw[hp]
    walk_at "z"
    obtain⟨m0,m1⟩:0≤w.fmod 2∧w.fmod 2<2:=⟨Int.fmod_nonneg_of_pos _ (by decide),Int.fmod_lt_of_pos _ (by decide)⟩
    refine Zc5 (by omega) (by omega) ?_
    walk_at "z"
    refine Zy (ZbN (by omega) (by omega) (by omega)) ?_
    walk_at "z"
    refine Zy ZfO ?_
    walk_at "z"
    have hRt:=hR t ht
    have hm0:0≤(R t).1:=by rcases hRt with h | h <;> omega
    have sRt:=sR t ht
    obtain⟨c,hc,hc1⟩:∃c,(R t).1*(1+w.fmod 2)=c∧0≤c∧c≤(R t).1*2:=⟨_,rfl,Int.mul_nonneg hm0 (by omega),Int.mul_le_mul_of_nonneg_left (by omega) hm0⟩
    rw[hc]
    generalize hpp:ZaJ c ((R t).2+ZaY ns (k+3) 3)=pp
    have p1:RestOk pp:=by rw[←hpp];exact Zdl hc1.1 _
    have p2:pp.1.natAbs<2 ^ (B+1)∧pp.2.natAbs<2 ^ (B+1):=by rw[←hpp];exact ZgZ hc1.1 (by omega) (by omega)
    refine⟨G,fun s=>if s=t then pp else R s,?_,fun _ _=>rfl,fun s hs=>?_,sG1,fun s hs=>?_⟩
    ·unfold ZK ZO Zab ZaD
     congr 5
     funext s
     show(if s=t then ZX pp else ZX (R s))=ZX (if s=t then pp else R s)
     split <;> rfl
    ·show RestOk (if s=t then pp else R s)
     split
     ·exact p1
     ·exact hR s hs
    ·show(if s=t then pp else R s).1.natAbs<_∧(if s=t then pp else R s).2.natAbs<_
     split
     ·exact p2
     ·exact sR1 s hs
theorem Zqp: Zc1 [.none,.none]=some (.bool true):=by
 apply Pk.eq
 unfold Zc1 Zed
 walk_at "z"
 rfl
theorem Zqq(hn:n≤100)(hd:∀i,i<n+1→G i i=some 0)(ok:∀t,t<n→RestOk (R t)): Zc1 [ZK n G R,ZK n G R]=some (.bool true):=by
 apply Pk.eq
 unfold Zc1 Zed
 have ht:ZK n G R=.tup [ZO (n+1) G,.lst (tab n fun i=>ZX (R i))]:=rfl
 rw[ht]
 walk_at "z"
 rw[←ht]
 refine Zy (ZrJ hn hd ok) ?_
 walk_at "z"
 refine ZdP Zki Zki ?_
 rw[ZaH rfl]
inductive Dp: Nat→T→Prop where
 | none {n:Nat}:Dp n .none
 | int {n:Nat} {i:Int}:Dp n (.int i)
 | tup {n:Nat} {ts:List T}:(∀t∈ts,Dp n t)→ts.length≤10000→Dp (n+1) (.tup ts)
 | lst {n:Nat} {ts:List T}:(∀t∈ts,Dp n t)→ts.length≤10000→Dp (n+1) (.lst ts)
theorem Dp.mono(h:Dp n t): ∀{m:Nat},n≤m→Dp m t:=by
 induction h with
 | none=>intro m _;exact .none
 | int=>intro m _;exact .int
 | tup hs hl ih=>
  intro m hm
  cases m with
  | zero=>omega
  | succ m=>exact .tup (fun t a=>ih t a (by omega)) hl
 | lst hs hl ih=>
  intro m hm
  cases m with
  | zero=>omega
  | succ m=>exact .lst (fun t a=>ih t a (by omega)) hl
theorem ZoE{F:List T→Option T}(hg:ZaM g σ=some ts)(hl:ts.length≤10000)(h:∀t∈ts,F [t]=some t)(q:Q (.lst ts)): Pk (Zav (ZaM g) (Zaa j) Zan (ZW F (Zq (Zf j) ZF)) σ) Q:=by
 refine⟨.lst ts,?_,q⟩
 have:=Znf (σ:=σ) (j:=j) (f:=ZW F (Zq (Zf j) ZF)) (h:=fun t=>t) (ts:=ts) fun t m=>by
  simp only[ZW,Zq,Zf,ZF,Za1,Option.bind_some,Option.map_some]
  exact h t m
 simp only[Zav,hg,Option.bind_some,this]
 rw[if_pos (by rw[ZaP];omega)]
 simp
theorem Zti(h:Dp n t): ZdH (n+1) [t]=some t:=by
 induction h with
 | none=>rfl
 | int=>rfl
 | @tup n ts hs hl ih=>
  apply Pk.eq
  show Pk (ZQ 1 (ZeA (ZdH (n+1))) [.tup ts]) _
  unfold ZeA
  walk_at "z"
  refine ZoE (ts:=ts) rfl hl ih ?_
  walk_at "z"
  rfl
 | @lst n ts hs hl ih=>
  apply Pk.eq
  show Pk (ZQ 1 (ZeA (ZdH (n+1))) [.lst ts]) _
  unfold ZeA
  walk_at "z"
  exact ZoE (ts:=ts) rfl hl ih rfl
theorem Ztj(h:Dp 8 t): Zow [t]=some t:=Zti h
theorem ZvG: Dp n (oT a):=by cases a;exact .none;exact .int
theorem ZvH: ∃l,Zb6 (ZeQ 0 (.int 7)) [0,0] (ZK n G R)=some (.tup [.lst l,ZaD n R])∧l.length=n+1:=by
 refine⟨((tab (n+1) fun i=>T.lst (tab (n+1) fun j=>oT (G i j))).set 0 (.lst ((tab (n+1) fun j=>oT (G 0 j)).set 0 (.int 7)))),?_,by rw[List.length_set,Zae]⟩
 unfold ZK ZO Zab
 simp only[Zb6,List.length_cons,List.length_nil,Zae,Zdd (show(0:Int)≤0 by decide) (show(0:Int)<((0+1+1:Nat):Int)by decide),Zdd (show(0:Int)≤0 by decide) (show(0:Int)<((n+1:Nat):Int)by omega),Option.bind_some,Int.toNat_zero,List.getElem?_cons_zero,Zbd (show 0<n+1 by omega),ZeQ]
 rw[if_pos ⟨by omega,by omega⟩]
 rfl
theorem ZvI{l:List T}{w r:T}(hl:l.length≤1000): Zb6 (Zdy w) [0] (.tup [.lst l,r])=some (.tup [.lst (l++[w]),r]):=by
 simp only[Zb6,List.length_cons,List.length_nil,Zdd (show(0:Int)≤0 by decide) (show(0:Int)<((0+1+1:Nat):Int)by decide),Option.bind_some,Zdy,show(0:Int).toNat=0 from rfl,List.getElem?_cons_zero]
 rw[if_pos (by rw[ZaP];omega)]
 rfl
theorem ZvJ{g w:T}(hn:n≤100): ∃u,Zb6 (Zdy w) [1] (.tup [g,ZaD n R])=some u:=by
 refine⟨.tup [g,.lst ((tab n fun i=>ZX (R i))++[w])],?_⟩
 unfold ZaD
 simp only[Zb6,List.length_cons,List.length_nil,Zdd (show(0:Int)≤1 by decide) (show(1:Int)<((0+1+1:Nat):Int)by decide),Option.bind_some,Zdy,Zae,show(1:Int).toNat=1 from rfl,List.getElem?_cons_succ,List.getElem?_cons_zero]
 rw[if_pos (by rw[ZaP];omega)]
 rfl
section
variable {σ:TL} {Q:T→Prop}
theorem ZoF{a b:List T}(hl:a.length+b.length≤10000)(h:Q (.lst (a++b))): Pk (Zap (.lst a) (.lst b)) Q:=by
 refine⟨_,?_,h⟩
 simp only[Zap]
 rw[if_pos (by rw[ZaP,List.length_append];omega)]
theorem Zum{a:T}(hn:n≤1000)(h:Q (.lst (tab n fun _=>a))): Pk (ZbV (.lst [a]) (.int n)) Q:=by
 have e:∀n,ZgG [a] n=tab n fun _=>a:=fun n=>by
  induction n with
  | zero=>rfl
  | succ n ih=>show ZgG [a] n++[a]=_;rw[ih];exact Zc3 (f:=fun _=>a)
 refine⟨_,?_,h⟩
 simp only[ZbV,List.length_cons,List.length_nil,Int.toNat_natCast,e]
 rw[if_pos ⟨by rw[ZaP];omega,by omega,by omega⟩]
end
theorem ZoG{x:Nat}{k l:Int}{w:T}{f:Nat→Nat→T}(e:σ x=some (.lst (tab n fun a=>.lst (tab m (f a)))))(hk:k=i)(hl:l=j)(hi:i<n)(hj:j<m)(h:N (ZN σ x (.lst (tab n fun a=>.lst (tab m fun b=>if a=i∧b=j then w else f a b))))): Put2 σ x w (.int k) (.int l) N:=by
 subst hk hl
 exact ZnL e hi hj h
theorem Zj9{w:T}(hw:w=oT v): T.lst (tab n fun a=>T.lst (tab n fun b=>if a=i∧b=j then w else oT (G a b)))=T.lst (tab n fun a=>T.lst (tab n fun b=>oT (Zbr G i j v a b))):=by
 subst hw
 exact Zdb
theorem Zb7{a b:PS}{R:T→Prop}(M:TL→Prop)(h1:Psk (a σ) R M)(h2:∀σ,M σ→Psk (b σ) R N): Psk (Z1 a b σ) R N:=by
 obtain⟨o,s,e,p,q⟩:=h1
 exact Zgn ⟨o,s,e,p,fun h=>h2 s (q h)⟩
theorem Zun{a:Nat}(h:a≤4): ZbW a a 1=some []:=by
 have:a=0∨a=1∨a=2∨a=3∨a=4:=by omega
 obtain rfl | rfl | rfl | rfl | rfl:=this <;> (unfold ZbW;rw[if_pos (by decide +kernel)];rfl)
theorem Zhv{g:PEs}{a:Nat}{L:List T→Prop}(ha:a≤4)(hm:m≤100)(e:g σ=some [.int a,.int (a+m)])(h:L (tab m fun i=>.int ((a+i:Nat):Int))): Pl (Zbw g σ) L:=by
 cases m with
 | zero=>
  have e2:ZbW (a:Int) ((a:Int)+((0:Nat):Int)) 1=some []:=by simpa using Zun ha
  exact⟨[],Zge e e2,h⟩
 | succ m=>
  refine⟨_,Zge e (by have:=Zol (a:=a) (n:=m+1) (by omega) (by omega);simpa using this),?_⟩
  rw[show(tab (m+1) fun i=>T.int ((a:Int)+i))=tab (m+1) fun i=>.int ((a+i:Nat):Int)from Zbj fun i _=>by congr 1]
  exact h
theorem Zjj{N a:Nat}(ha:a<N)(hb:b<N): Zee [ZO N Γ,.int a,.int b,oT v]=some (ZO N (Zbr Γ a b (ZaB (Γ a b) v))):=by
 apply Pk.eq
 unfold Zee Zjx
 refine ZhH rfl ?_
 unfold ZO Zab
 walk_at "z"
 refine Zy Zns ?_
 refine⟨ZdJ,?_⟩
 walk_at "z"
 refine⟨_,Za1,?_⟩
 exact Zdb
noncomputable def ZT(n:Nat)(c:Nat→Int): T:=.lst (tab (n+1) fun i=>.int (c i))
theorem Zg1{k:Int}(hn:n≤1000)(hb:b≤100000)(bc:∀i,i<n+1→Bd b (c i))(bk:Bd b k): Zg4 [ZT n c,.int k]=some (ZT n fun i=>c i*k):=by
 apply Pk.eq
 unfold Zg4 Zfy ZT
 walk_at "z"
 refine Zb1 (n:=n+1) (a:=fun i=>.int (c i)) (b:=fun i=>.int (c i*k)) (by omega) ?_ (fun i hi=>?_) rfl
 ·walk_at "z"
  rfl
 ·walk_at "z"
  exact Zbx (ZbL (bc i hi) bk (by omega) (by omega)) rfl
noncomputable def S40(G:Nat→Nat→Option Int)(i:Nat): Sp:=((G 0 (i+1)).map fun y=>y*(-1),G (i+1) 0)
theorem ZpQ(hn:n≤90)(hb:b≤100000)(hb1:1≤b)(bG:∀i j,i<n+1→j<n+1→∀y,G i j=some y→Bd b y): ZiC [ZK n G R]=some (.lst (tab n fun i=>spT (S40 G i))):=by
 apply Pk.eq
 unfold ZiC Ze2
 have ht:ZK n G R=.tup [.lst (tab (n+1) fun i=>.lst (tab (n+1) fun j=>oT (G i j))),.lst (tab n fun i=>ZX (R i))]:=rfl
 rw[ht]
 walk_at "z"
 refine Zb1 (n:=n) (a:=fun i=>.int ((1+i:Nat):Int)) (b:=fun i=>spT (S40 G i)) (by omega) ?_ (fun i hi=>?_) rfl
 ·refine Zhv (a:=1) (m:=n) (by omega) (by omega) ?_ rfl
  simp only[Zq,Zv,ZF,ZW,Zf,ZN,Option.bind_some,if_true,Zbg,Zae]
  congr 3
  congr 1
  omega
 ·have h1:1+i<n+1:=by omega
  have h0:0<n+1:=by omega
  walk_at "z"
  refine Zy (Zg0 hb (fun y e=>bG 0 (1+i) h0 h1 y e) (show Bd b (-1)by unfold Bd;have:=Zdi hb1;unfold Bd at this;simpa using this)) ?_
  walk_at "z"
  unfold spT S40
  rw[show 1+i=i+1 by omega]
  rfl
theorem ZmC{σ:TL}{j:Nat}{cnd:PB}{P:T→Bool}: ∀{ts:List T},(∀t∈ts,cnd (ZN σ j t)=some (P t))→ZbT (Zaa j) cnd (Zf j) σ ts=some (ts.filter P)
 | [],_=>rfl
 | t::ts,h=>by
  have ih:=ZmC fun t m=>h t (Zz2 _ m)
  have h0:=h t Zz5
  simp only[ZbT,Zaa,Option.bind_some,h0,Zf,Za1,ih,Option.map_some,List.filter_cons]
  cases P t <;> rfl
theorem Zka{g:PG}{cnd:PB}{P:T→Bool}(hl:ts.length≤10000)(hg:Pl (g σ) fun us=>us=ts)(hc:∀t∈ts,Pb (cnd (ZN σ j t)) fun b=>b=P t)(h:Q (.lst (ts.filter P))): Pk (Zav g (Zaa j) cnd (Zf j) σ) Q:=by
 obtain⟨us,e,rfl⟩:=hg
 refine⟨_,?_,h⟩
 have:=ZmC (σ:=σ) (j:=j) (cnd:=cnd) (P:=P) (ts:=us) fun t m=>by
  obtain⟨b,e1,rfl⟩:=hc t m
  exact e1
 simp only[Zav,e,Option.bind_some,this,Option.map_some]
 rw[if_pos (by rw[ZaP];omega)]
noncomputable def xsI(n:Nat)(c:Nat→Int): List Int:=tab n fun i=>c (i+1)
noncomputable def nzI(n:Nat)(c:Nat→Int): List Int:=(xsI n c).filter fun x=>decide (x≠0)
def Df(n:Nat)(c:Nat→Int): Prop:=PM.ZcJ (nzI n c)=[-1,1]
theorem Zhw(ks:List Int): ZcI (ks.map T.int)=some ks:=by
 induction ks with
 | nil=>rfl
 | cons k ks ih=>simp[ZcI,ih]
theorem Zq8{a b:List Int}(h:a.map T.int=b.map T.int): a=b:=by
 have:=congrArg ZcI h
 rw[Zhw,Zhw]at this
 simpa using this
theorem ZkC(ks:List Int): Pln 1 (.lst (ks.map T.int)):=.lst fun t m=>by
 obtain⟨k,_,rfl⟩:=Zz11.mp m
 exact .int
theorem tab_map{α:Type}{f:Nat→α}{g:α→β}: (tab n f).map g=tab n fun i=>g (f i):=by simp[tab]
theorem ZpE(hn:n≤60): Ziv [ZT n c]=some (.bool (dec (Df n c))):=by
 apply Pk.eq
 unfold Ziv ZeX ZT
 walk_at "z"
 refine Zka (ts:=(xsI n c).map T.int) (P:=fun t=>match t with | .int x=>decide (x≠0) | _=>false) (by simp[xsI,Zae];omega) ?_ (fun t m=>?_) ?_
 ·refine ZhF ?_
  refine Zj1 ?_
  walk_at "z"
  refine⟨_,rfl,?_⟩
  rw[ZnX]
  refine Sq.lst ?_
  unfold xsI
  rw[tab_map]
 ·obtain⟨x,_,rfl⟩:=Zz11.mp m
  walk_at "z"
  rfl
 have ef:((xsI n c).map T.int).filter (fun t=>match t with | .int x=>decide (x≠0) | _=>false)=(nzI n c).map T.int:=by
  unfold nzI
  rw[List.filter_map]
  rfl
 rw[ef]
 have hl:(nzI n c).length≤n:=by
  unfold nzI
  refine Nat.le_trans (List.length_filter_le _ _) ?_
  simp[xsI,Zae]
 walk_at "z"
 refine⟨.lst ((PM.ZcJ (nzI n c)).map T.int),?_,?_⟩
 ·simp only[Zky,Zhw,Option.bind_some,List.length_map]
  rw[if_pos (by omega)]
 walk_at "z"
 refine ZdP (n:=1) (m:=1) (ZkC _) (ZkC [-1,1]) ?_
 by_cases h:Df n c
 ·rw[ZaH h,ZaH]
  show T.lst ((PM.ZcJ (nzI n c)).map T.int)=_
  rw[show PM.ZcJ (nzI n c)=[-1,1]from h]
  rfl
 ·rw[Zbo h,Zbo]
  intro q
  refine h (Zq8 ?_)
  simpa using q
noncomputable def Zag(c:Nat→Int): Nat→List Nat
 | 0=>[]
 | n+1=>Zag c n++(if 0<c (n+1)then [n+1]else [])
noncomputable def Zah(c:Nat→Int): Nat→List Nat
 | 0=>[]
 | n+1=>Zah c n++(if c (n+1)<0 then [n+1]else [])
theorem ups_mem{c:Nat→Int}: ∀{n i:Nat},i∈Zag c n↔1≤i∧i≤n∧0<c i
 | 0,i=>by simp[Zag];omega
 | n+1,i=>by
  simp only[Zag,List.mem_append,ups_mem (n:=n)]
  by_cases h:0<c (n+1)
  ·simp only[h,if_true,List.mem_singleton]
   constructor
   ·rintro(⟨a,b,d⟩ | rfl)
    ·exact⟨a,by omega,d⟩
    ·exact⟨by omega,by omega,h⟩
   ·rintro⟨a,b,d⟩
    by_cases q:i=n+1
    ·exact .inr q
    ·exact .inl ⟨a,by omega,d⟩
  ·simp only[h,if_false,List.not_mem_nil,or_false]
   constructor
   ·rintro⟨a,b,d⟩;exact⟨a,by omega,d⟩
   ·rintro⟨a,b,d⟩
    have:i≠n+1:=fun q=>h (q▸d)
    exact⟨a,by omega,d⟩
theorem dns_mem{c:Nat→Int}: ∀{n i:Nat},i∈Zah c n↔1≤i∧i≤n∧c i<0
 | 0,i=>by simp[Zah];omega
 | n+1,i=>by
  simp only[Zah,List.mem_append,dns_mem (n:=n)]
  by_cases h:c (n+1)<0
  ·simp only[h,if_true,List.mem_singleton]
   constructor
   ·rintro(⟨a,b,d⟩ | rfl)
    ·exact⟨a,by omega,d⟩
    ·exact⟨by omega,by omega,h⟩
   ·rintro⟨a,b,d⟩
    by_cases q:i=n+1
    ·exact .inr q
    ·exact .inl ⟨a,by omega,d⟩
  ·simp only[h,if_false,List.not_mem_nil,or_false]
   constructor
   ·rintro⟨a,b,d⟩;exact⟨a,by omega,d⟩
   ·rintro⟨a,b,d⟩
    have:i≠n+1:=fun q=>h (q▸d)
    exact⟨a,by omega,d⟩
theorem ZoH{c:Nat→Int}: ∀n,(Zag c n).length≤n
 | 0=>Nat.le_refl 0
 | n+1=>by
  have:=ZoH (c:=c) n
  simp only[Zag,List.length_append]
  split <;> simp <;> omega
theorem ZoI{c:Nat→Int}: ∀n,(Zah c n).length≤n
 | 0=>Nat.le_refl 0
 | n+1=>by
  have:=ZoI (c:=c) n
  simp only[Zah,List.length_append]
  split <;> simp <;> omega
theorem Zn2{c:Nat→Int}: ∀n,(Zag c n).map c=(xsI n c).filter fun x=>decide (0<x)
 | 0=>rfl
 | n+1=>by
  have e:xsI (n+1) c=xsI n c++[c (n+1)]:=(Zc3 (n:=n) (f:=fun i=>c (i+1))).symm
  rw[e,List.filter_append,←Zn2 n]
  simp only[Zag,List.map_append]
  by_cases h:0<c (n+1) <;> simp[h]
theorem Zn3{c:Nat→Int}: ∀n,(Zah c n).map c=(xsI n c).filter fun x=>decide (x<0)
 | 0=>rfl
 | n+1=>by
  have e:xsI (n+1) c=xsI n c++[c (n+1)]:=(Zc3 (n:=n) (f:=fun i=>c (i+1))).symm
  rw[e,List.filter_append,←Zn3 n]
  simp only[Zah,List.map_append]
  by_cases h:c (n+1)<0 <;> simp[h]
theorem df_iff: Df n c↔(Zag c n).map c=[1]∧(Zah c n).map c=[-1]:=by
 rw[Zn2,Zn3]
 have hp:(nzI n c).Perm ((xsI n c).filter (fun x=>decide (0<x))++(xsI n c).filter (fun x=>decide (x<0))):=by
  unfold nzI
  generalize xsI n c=xs
  induction xs with
  | nil=>exact List.Perm.refl _
  | cons x xs ih=>
   by_cases h1:0<x
   ·have:x≠0:=by omega
    have h2:¬x<0:=by omega
    simp only[List.filter_cons,h1,h2,this,decide_true,decide_false,ne_eq,not_false_eq_true,if_true,Bool.false_eq_true,if_false,List.cons_append]
    exact List.Perm.cons _ ih
   ·by_cases h2:x<0
    ·have:x≠0:=by omega
     simp only[List.filter_cons,h1,h2,this,decide_true,decide_false,ne_eq,not_false_eq_true,if_true,Bool.false_eq_true,if_false]
     exact(List.Perm.cons _ ih).trans List.perm_middle.symm
    ·have:x=0:=by omega
     subst this
     simpa using ih
 constructor
 ·intro h
  have hq:(nzI n c).Perm [-1,1]:=by
   have:=List.mergeSort_perm (nzI n c) fun a b=>decide (a≤b)
   rw[show(nzI n c).mergeSort (fun a b=>decide (a≤b))=[-1,1]from h]at this
   exact this.symm
  have hf:∀q:Int→Bool,(∀x,q x=true→x≠0)→(xsI n c).filter q=(nzI n c).filter q:=fun q hq=>by
   unfold nzI
   rw[List.filter_filter]
   refine List.filter_congr fun x _=>?_
   cases e:q x with
   | false=>simp
   | true=>simp[hq x e]
  rw[hf _ (fun x h=>by simp at h;omega),hf _ (fun x h=>by simp at h;omega)]
  have p1:=hq.filter fun x=>decide (0<x)
  have p2:=hq.filter fun x=>decide (x<0)
  exact⟨List.perm_singleton.mp (by simpa using p1),List.perm_singleton.mp (by simpa using p2)⟩
 ·rintro⟨h1,h2⟩
  rw[h1,h2]at hp
  unfold Df
  refine(PM.ZnN ?_ ?_).symm
  ·exact(hp.trans (List.Perm.swap (-1) 1 [])).symm
  ·simp
theorem Zn4{p q r:PE}(h:Pk (p σ) fun t=>∃ks:List Int,t=.lst (ks.map T.int)∧Pk (q σ) fun u=>∃k,u=.int k∧Pk (r σ) fun v=>v=.int 1∧k∈ks.drop 1∧Q (.int ((1+(ks.drop 1).idxOf k:Nat):Int))): Pk (ZkS p q r σ) Q:=by
 obtain⟨_,e1,ks,rfl,_,e2,k,rfl,_,e3,rfl,hm,h⟩:=h
 refine⟨_,?_,h⟩
 simp only[ZkS,e1,e2,e3,Option.bind_some,Zhw]
 rw[if_pos ⟨trivial,hm⟩]
theorem ZhO: (tab (n+1) c).drop 1=xsI n c:=by
 unfold xsI
 apply List.ext_getElem
 ·simp[tab]
 ·intro i h1 h2
  simp[tab]
theorem Zph{k:Int}(h:l.map c=[k]): ∃u,l=[u]∧c u=k:=by
 cases l with
 | nil=>simp at h
 | cons a l=>
  cases l with
  | nil=>exact⟨a,rfl,by simpa using h⟩
  | cons b l=>simp at h
theorem Zpw(hi:i<n): (xsI n c)[i]?=some (c (i+1)):=Zbd (f:=fun i=>c (i+1)) hi
theorem Zpi{u:Nat}{k:Int}(h1:1≤u)(h2:u≤n)(hu:c u=k)(ho:∀i,1≤i→i≤n→c i=k→i=u): 1+(xsI n c).idxOf k=u∧k∈xsI n c:=by
 have hm:k∈xsI n c:=List.mem_of_getElem? (i:=u-1) (by rw[Zpw (by omega),show u-1+1=u by omega,hu])
 have hl:(xsI n c).idxOf k<(xsI n c).length:=List.idxOf_lt_length_iff.mpr hm
 have hn:(xsI n c).length=n:=Zae
 have hk:=List.getElem_idxOf hl
 have hx:(xsI n c)[(xsI n c).idxOf k]?=some k:=by rw[List.getElem?_eq_getElem hl,hk]
 rw[Zpw (by omega)]at hx
 have:=ho ((xsI n c).idxOf k+1) (by omega) (by omega) (by simpa using hx)
 exact⟨by omega,hm⟩
theorem Zho(h:Df n c): ∃u d,Zag c n=[u]∧Zah c n=[d]∧c u=1∧c d = -1∧u<n+1∧d<n+1∧1≤u∧1≤d∧1+(xsI n c).idxOf 1=u∧1+(xsI n c).idxOf (-1)=d∧1∈xsI n c∧-1∈xsI n c:=by
 obtain⟨h1,h2⟩:=df_iff.mp h
 obtain⟨u,eu,hu⟩:=Zph h1
 obtain⟨d,ed,hd⟩:=Zph h2
 have mu:=ups_mem.mp (show u∈Zag c n by rw[eu];simp)
 have md:=dns_mem.mp (show d∈Zah c n by rw[ed];simp)
 have a1:=Zpi mu.1 mu.2.1 hu fun i q1 q2 q3=>by
  have:i∈Zag c n:=ups_mem.mpr ⟨q1,q2,by omega⟩
  rw[eu]at this
  simpa using this
 have a2:=Zpi md.1 md.2.1 hd fun i q1 q2 q3=>by
  have:i∈Zah c n:=dns_mem.mpr ⟨q1,q2,by omega⟩
  rw[ed]at this
  simpa using this
 exact⟨u,d,eu,ed,hu,hd,by omega,by omega,mu.1,md.1,a1.1,a2.1,a1.2,a2.2⟩
noncomputable def grt(n:Nat)(G:Nat→Nat→Option Int)(c:Nat→Int): Option Int:=if dec (Df n c)then Z3 (G (1+(xsI n c).idxOf 1) (1+(xsI n c).idxOf (-1))) (some (c 0))else(ZbY c (S40 G) n).2
def GB(b n:Nat)(G:Nat→Nat→Option Int): Prop:=∀i j,i<n+1→j<n+1→∀y,G i j=some y→Bd b y
theorem Zpj(hG:GB b n G): ∀i,i<n→SBd b (S40 G i):=fun i hi=>⟨fun x e=>by
 obtain⟨y,e1,e2⟩:=Zz1.mp e
 have:=hG 0 (i+1) (by omega) (by omega) y e1
 subst e2
 unfold Bd at *
 omega,fun x e=>hG (i+1) 0 (by omega) (by omega) x e⟩
theorem ZmD(hn:n≤60)(hb:b≤100000)(hb1:1≤b)(hG:GB b n G)(bc:∀i,i<n+1→Bd b (c i)): Zjz [ZK n G R,ZT n c]=some (oT (grt n G c)):=by
 apply Pk.eq
 unfold Zjz ZfK grt
 have ht:ZK n G R=.tup [.lst (tab (n+1) fun i=>.lst (tab (n+1) fun j=>oT (G i j))),.lst (tab n fun i=>ZX (R i))]:=rfl
 have hs:ZT n c=.lst ((tab (n+1) c).map T.int):=by unfold ZT;rw[tab_map]
 walk_at "z"
 refine Zy (ZpE hn) ?_
 by_cases h:Df n c
 ·obtain⟨u,d,_,_,_,_,hu,hd,_,_,eu,ed,mu,md⟩:=Zho h
  rw[ZaH h]
  rw[ht]
  walk_at "z"
  refine Zn4 ?_
  walk_at "z"
  refine⟨tab (n+1) c,hs,?_⟩
  walk_at "z"
  refine⟨1,rfl,?_⟩
  walk_at "z"
  refine⟨rfl,by rw[ZhO];exact mu,?_⟩
  rw[ZhO,eu]
  walk_at "z"
  refine Zn4 ?_
  walk_at "z"
  refine⟨tab (n+1) c,hs,?_⟩
  walk_at "z"
  refine⟨-1,rfl,?_⟩
  walk_at "z"
  refine⟨rfl,by rw[ZhO];exact md,?_⟩
  rw[ZhO,ed]
  unfold ZT
  walk_at "z"
  exact Zy (Zeb (b:=some (c (Int.toNat 0)))) rfl
 ·rw[Zbo h]
  walk_at "z"
  refine Zy (ZpQ (by omega) hb hb1 hG) ?_
  walk_at "z"
  refine Zy (ZpZ (by omega) hb bc (Zpj hG)) ?_
  unfold spT
  walk_at "z"
  rfl
theorem Zuo: ZT n (fun i=>c i * -1)=ZT n fun i=>-(c i):=by
 unfold ZT
 congr 1
 exact Zbj fun i _=>by show T.int (c i * -1)=T.int (-(c i));congr 1;omega
theorem Ztk(hn:n≤60)(hb:b≤1000)(hb1:1≤b)(hG:GB b n G)(bc:∀i,i<n+1→Bd b (c i))(bg:∀y,grt n G (fun i=>-(c i))=some y→Bd 100000 y): ZhJ [ZK n G R,ZT n c]=some (oT ((grt n G fun i=>-(c i)).map fun y=>y * -1)):=by
 apply Pk.eq
 unfold ZhJ Zgi
 have b1:Bd b (-1):=by have:=Zdi hb1;unfold Bd at *;simpa using this
 walk_at "z"
 refine Zy (Zg1 (by omega) (by omega) bc b1) ?_
 rw[Zuo]
 walk_at "z"
 refine Zy (ZmD hn (by omega) hb1 hG fun i hi=>by have:=bc i hi;show Bd b (-(c i));unfold Bd at *;omega) ?_
 walk_at "z"
 exact Zy (Zg0 (i:=100000) (by decide) bg (b1.mono (by omega))) rfl
noncomputable def Zlt(c:Nat→Int): T→Bool
 | .int i=>decide (0<c i.toNat)
 | _=>false
noncomputable def Zlu(c:Nat→Int): T→Bool
 | .int i=>decide (c i.toNat<0)
 | _=>false
theorem Zn5{c:Nat→Int}: ∀n,((tab n fun i=>T.int ((1+i:Nat):Int)).filter (Zlt c))=(Zag c n).map fun i=>T.int (i:Nat)
 | 0=>rfl
 | n+1=>by
  rw[←Zc3 (n:=n) (f:=fun i=>T.int ((1+i:Nat):Int)),List.filter_append,Zn5 n]
  simp only[Zag,List.map_append]
  congr 1
  rw[show 1+n=n+1 by omega]
  by_cases h:0<c (n+1) <;> simp[Zlt,h]
theorem Zn6{c:Nat→Int}: ∀n,((tab n fun i=>T.int ((1+i:Nat):Int)).filter (Zlu c))=(Zah c n).map fun i=>T.int (i:Nat)
 | 0=>rfl
 | n+1=>by
  rw[←Zc3 (n:=n) (f:=fun i=>T.int ((1+i:Nat):Int)),List.filter_append,Zn6 n]
  simp only[Zah,List.map_append]
  congr 1
  rw[show 1+n=n+1 by omega]
  by_cases h:c (n+1)<0 <;> simp[Zlu,h]
theorem Zn7{us:List Nat}{h:Nat→T}(hl:us.length≤1000)(hg:Pk (g σ) fun t=>t=.lst (us.map fun i=>T.int (i:Nat)))(hf:∀i∈us,Pk (f (ZN σ j (.int (i:Nat)))) fun t=>t=h i)(q:Q (.lst (us.map h))): Pk (Zav (ZaM g) (Zaa j) Zan f σ) Q:=by
 obtain⟨_,e,rfl⟩:=hg
 refine⟨_,?_,q⟩
 have hc:ZbT (Zaa j) Zan f σ (us.map fun i=>T.int (i:Nat))=some (us.map h):=by
  have key:∀l:List Nat,(∀i∈l,i∈us)→ZbT (Zaa j) Zan f σ (l.map fun i=>T.int (i:Nat))=some (l.map h):=by
   intro l
   induction l with
   | nil=>intro _;rfl
   | cons a l ih=>
    intro hm
    obtain⟨_,e1,rfl⟩:=hf a (hm a Zz5)
    simp only[List.map_cons,ZbT,Zaa,Option.bind_some,Zan,if_true,e1,ih fun i m=>hm i (Zz2 _ m),Option.map_some]
  exact key us fun i m=>m
 simp only[Zav,ZaM,e,Option.bind_some,hc,Option.map_some,List.length_map]
 rw[if_pos (by rw[ZaP];omega)]
theorem ZoJ{b:PS}{us:List Nat}{R:T→Prop}(hg:Pk (g σ) fun t=>t=.lst (us.map fun i=>T.int (i:Nat)))(P:List Nat→TL→Prop)(h0:P [] σ)(h1:∀pre i σ,i∈us→P pre σ→Psk (b (ZN σ j (.int (i:Nat)))) R (P (pre++[i])))(h2:∀σ,P us σ→N σ): Psk (Zbh (ZaM g) (Zaa j) b σ) R N:=by
 refine ZtW (ts:=us.map fun i=>T.int (i:Nat)) (P:=fun k σ=>P (us.take k) σ) ?_ (by simpa using h0) (fun k t σ hk hP=>?_) (fun σ h=>h2 σ (by simpa using h))
 ·obtain⟨_,e,rfl⟩:=hg
  exact⟨_,by simp only[ZaM,e,Option.bind_some],rfl⟩
 ·rw[List.getElem?_map]at hk
  obtain⟨i,ei,rfl⟩:=Zz1.mp hk
  rw[List.take_add_one,ei]
  exact h1 _ i σ (List.mem_of_getElem? ei) hP
noncomputable def sU(G:Nat→Nat→Option Int)(c:Nat→Int)(l:List Nat): Int:=(l.map fun i=>c i*(G i 0).getD 0).sum
noncomputable def sD(G:Nat→Nat→Option Int)(c:Nat→Int)(l:List Nat): Int:=(l.map fun i=>c i*(G 0 i).getD 0).sum
def Zcv(G:Nat→Nat→Option Int)(c:Nat→Int)(n:Nat): Prop:=(∃i∈Zag c n,G i 0=none)∨∃i∈Zah c n,G 0 i=none
theorem ZoK: sU G c (l++[i])=sU G c l+c i*(G i 0).getD 0:=by simp[sU]
theorem ZoL: sD G c (l++[i])=sD G c l+c i*(G 0 i).getD 0:=by simp[sD]
theorem tot{G:Nat→Nat→Option Int}{c:Nat→Int}: ∀n,(Zcv G c n→(ZbY c (S40 G) n).2=none)∧(¬Zcv G c n→(ZbY c (S40 G) n).2=some (c 0+sU G c (Zag c n)-sD G c (Zah c n)))
 | 0=>⟨fun h=>(by rcases h with⟨i,m,_⟩ | ⟨i,m,_⟩ <;> cases m),fun _=>by simp[ZbY,sU,sD,Zag,Zah]⟩
 | n+1=>by
  obtain⟨ih1,ih2⟩:=tot (G:=G) (c:=c) n
  have step:(ZbY c (S40 G) (n+1)).2=Z3 (ZbY c (S40 G) n).2 (Zb8 (S40 G n) (c (n+1))).2:=rfl
  rw[step]
  have mono:Zcv G c n→Zcv G c (n+1):=fun h=>h.imp (fun⟨i,m,e⟩=>⟨i,by simp only[Zag,List.mem_append];exact .inl m,e⟩) fun⟨i,m,e⟩=>⟨i,by simp only[Zah,List.mem_append];exact .inl m,e⟩
  rcases Int.lt_trichotomy (c (n+1)) 0 with h | h | h
  ·have h0:¬0<c (n+1):=by omega
   have hz:¬c (n+1)=0:=by omega
   have eu:Zag c (n+1)=Zag c n:=by simp[Zag,h0]
   have ed:Zah c (n+1)=Zah c n++[n+1]:=by simp[Zah,h]
   have et:(Zb8 (S40 G n) (c (n+1))).2=(G 0 (n+1)).map fun y=>y*(-1)*c (n+1):=by
    unfold Zb8 S40
    rw[if_neg hz,if_pos h]
    cases G 0 (n+1) <;> rfl
   rw[et]
   cases hg:G 0 (n+1)with
   | none=>
    refine⟨fun _=>?_,fun q=>absurd (.inr ⟨n+1,by rw[ed];simp,hg⟩) q⟩
    cases (ZbY c (S40 G) n).2 <;> rfl
   | some y=>
    have hl:Zcv G c (n+1)→Zcv G c n:=by
     rintro(⟨i,m,e⟩ | ⟨i,m,e⟩)
     ·rw[eu]at m;exact .inl ⟨i,m,e⟩
     ·rw[ed]at m
      rcases Zz8.mp m with m | m
      ·exact .inr ⟨i,m,e⟩
      ·rw[List.mem_singleton.mp m,hg]at e;cases e
    refine⟨fun q=>by rw[ih1 (hl q)];rfl,fun q=>?_⟩
    rw[ih2 fun r=>q (mono r),eu,ed,ZoL,hg]
    simp only[Z3,Option.map_some,Option.getD_some]
    congr 1
    have:y*(-1)*c (n+1) = -(c (n+1)*y):=by rw[Int.mul_neg,Int.mul_one,Int.neg_mul,Int.mul_comm]
    omega
  ·have h0:¬0<c (n+1):=by omega
   have h1:¬c (n+1)<0:=by omega
   have eu:Zag c (n+1)=Zag c n:=by simp[Zag,h0]
   have ed:Zah c (n+1)=Zah c n:=by simp[Zah,h1]
   have et:(Zb8 (S40 G n) (c (n+1))).2=some 0:=by unfold Zb8;rw[if_pos h]
   have el:Zcv G c (n+1)↔Zcv G c n:=by unfold Zcv;rw[eu,ed]
   rw[et,Zpe,el,eu,ed]
   exact⟨ih1,ih2⟩
  ·have h1:¬c (n+1)<0:=by omega
   have hz:¬c (n+1)=0:=by omega
   have eu:Zag c (n+1)=Zag c n++[n+1]:=by simp[Zag,h]
   have ed:Zah c (n+1)=Zah c n:=by simp[Zah,h1]
   have et:(Zb8 (S40 G n) (c (n+1))).2=(G (n+1) 0).map fun y=>y*c (n+1):=by
    unfold Zb8 S40
    rw[if_neg hz,if_neg h1]
   rw[et]
   cases hg:G (n+1) 0 with
   | none=>
    refine⟨fun _=>?_,fun q=>absurd (.inl ⟨n+1,by rw[eu];simp,hg⟩) q⟩
    cases (ZbY c (S40 G) n).2 <;> rfl
   | some y=>
    have hl:Zcv G c (n+1)→Zcv G c n:=by
     rintro(⟨i,m,e⟩ | ⟨i,m,e⟩)
     ·rw[eu]at m
      rcases Zz8.mp m with m | m
      ·exact .inl ⟨i,m,e⟩
      ·rw[List.mem_singleton.mp m,hg]at e;cases e
     ·rw[ed]at m;exact .inr ⟨i,m,e⟩
    refine⟨fun q=>by rw[ih1 (hl q)];rfl,fun q=>?_⟩
    rw[ih2 fun r=>q (mono r),eu,ed,ZoK,hg]
    simp only[Z3,Option.map_some,Option.getD_some]
    congr 1
    have:y*c (n+1)=c (n+1)*y:=Int.mul_comm _ _
    omega
theorem Zp3(hn:n≤60)(hb:b≤100000)(hG:GB b n G)(bc:∀i,i<n+1→Bd b (c i))(e0:σ 0=some (.tup [.lst (tab (n+1) fun i=>.lst (tab (n+1) fun j=>oT (G i j))),.lst (tab n fun i=>ZX (R i))]))(e1:σ 1=some (.lst (tab (n+1) fun i=>.int (c i))))(e2:σ 2=some (.lst ((Zag c n).map fun i=>T.int (i:Nat))))(e3:σ 3=some (.lst ((Zah c n).map fun i=>T.int (i:Nat)))): Psk ((Z1 (Zar 4 (Zp Zap (Zav (ZaM (Zf 2)) (Zaa 104) Zan (Zp ZE (Zp ZE (Zp ZE (Zf 0) (Zv 0)) (Zf 104)) (Zv 0))) (Zav (ZaM (Zf 3)) (Zaa 106) Zan (Zp ZE (Zp ZE (Zp ZE (Zf 0) (Zv 0)) (Zv 0)) (Zf 106))))) (Z1 (qIf (Z9 (Zp qIn (Zau) (Zf 4))) (Zaq (Zau)) ZaC) (Z1 (Zar 5 (Zp ZE (Zf 1) (Zv 0))) (Z1 (Zbh (ZaM (Zf 2)) (Zaa 6) (Zar 5 (Zp Zap (Zf 5) (Zp ZbV (Zp ZE (Zf 1) (Zf 6)) (Zp ZE (Zp ZE (Zp ZE (Zf 0) (Zv 0)) (Zf 6)) (Zv 0)))))) (Z1 (Zbh (ZaM (Zf 3)) (Zaa 6) (Zar 5 (Zp Zck (Zf 5) (Zp ZbV (Zp ZE (Zf 1) (Zf 6)) (Zp ZE (Zp ZE (Zp ZE (Zf 0) (Zv 0)) (Zv 0)) (Zf 6)))))) (Zaq (Zf 5))))))) σ) (fun t=>t=oT (ZbY c (S40 G) n).2) N:=by
 have lu:=ZoH (c:=c) n
 have ld:=ZoI (c:=c) n
 have hu:∀i∈Zag c n,i<n+1:=fun i m=>by have:=ups_mem.mp m;omega
 have hd:∀i∈Zah c n,i<n+1:=fun i m=>by have:=dns_mem.mp m;omega
 have h0:0<n+1:=by omega
 walk_at "z"
 refine Zn7 (us:=Zag c n) (h:=fun i=>oT (G i 0)) (by omega) ?_ (fun i m=>?_) ?_
 ·walk_at "z"
  rfl
 ·have:=hu i m
  walk_at "z"
  rfl
 refine Zn7 (us:=Zah c n) (h:=fun i=>oT (G 0 i)) (by omega) ?_ (fun i m=>?_) ?_
 ·walk_at "z"
  rfl
 ·have:=hd i m
  walk_at "z"
  rfl
 refine ZoF (by simp;omega) ?_
 walk_at "z"
 refine Zid (n:=0) (m:=1) .none (.lst fun t m=>?_) ?_
 ·rcases Zz8.mp m with m | m
  ·obtain⟨i,_,rfl⟩:=Zz11.mp m;exact Zgy
  ·obtain⟨i,_,rfl⟩:=Zz11.mp m;exact Zgy
 by_cases hl:Zcv G c n
 ·have hm:T.none∈(Zag c n).map (fun i=>oT (G i 0))++(Zah c n).map fun i=>oT (G 0 i):=by
   rcases hl with⟨i,m,e⟩ | ⟨i,m,e⟩
   ·exact Zz4 _ (Zz11.mpr ⟨i,m,by rw[e];rfl⟩)
   ·exact Zz3 _ (Zz11.mpr ⟨i,m,by rw[e];rfl⟩)
  rw[ZaH hm]
  walk_at "z"
  rw[(tot n).1 hl]
  rfl
 ·have hm:¬T.none∈(Zag c n).map (fun i=>oT (G i 0))++(Zah c n).map fun i=>oT (G 0 i):=fun m=>hl (by
   rcases Zz8.mp m with m | m
   ·obtain⟨i,m,e⟩:=Zz11.mp m
    exact .inl ⟨i,m,oT_inj.mp (by rw[e];rfl)⟩
   ·obtain⟨i,m,e⟩:=Zz11.mp m
    exact .inr ⟨i,m,oT_inj.mp (by rw[e];rfl)⟩)
  have gu:∀i∈Zag c n,∃y,G i 0=some y:=fun i m=>by
   cases e:G i 0 with
   | none=>exact absurd (.inl ⟨i,m,e⟩) hl
   | some y=>exact⟨y,rfl⟩
  have gd:∀i∈Zah c n,∃y,G 0 i=some y:=fun i m=>by
   cases e:G 0 i with
   | none=>exact absurd (.inr ⟨i,m,e⟩) hl
   | some y=>exact⟨y,rfl⟩
  rw[Zbo hm]
  walk_at "z"
  refine ZoJ (us:=Zag c n) (P:=fun pre σ'=>σ' 0=some (.tup [.lst (tab (n+1) fun i=>.lst (tab (n+1) fun j=>oT (G i j))),.lst (tab n fun i=>ZX (R i))])∧σ' 1=some (.lst (tab (n+1) fun i=>.int (c i)))∧σ' 3=some (.lst ((Zah c n).map fun i=>T.int (i:Nat)))∧σ' 5=some (.int (c 0+sU G c pre))) ?_ ⟨by walk_at "r",by walk_at "r",by walk_at "r",by simp[sU,ZN]⟩ ?_ ?_
  ·walk_at "z"
   rfl
  ·rintro pre i σ' m ⟨f0,f1,f3,f5⟩
   have hi:=hu i m
   obtain⟨y,ey⟩:=gu i m
   have by_:Bd b y:=hG i 0 hi h0 y ey
   walk_at "z"
   rw[show(Int.toNat 0)=0 from rfl,ey,Z8]
   refine Zbx (ZbL (bc i hi) by_ (by omega) (by omega)) ?_
   walk_at "z"
   refine⟨by walk_at "r",by walk_at "r",by walk_at "r",?_⟩
   rw[Za1,ZoK,ey]
   simp only[Option.getD_some]
   congr 2
   omega
  rintro σ1 ⟨f0,f1,f3,f5⟩
  walk_at "z"
  refine ZoJ (us:=Zah c n) (P:=fun pre σ'=>σ' 0=some (.tup [.lst (tab (n+1) fun i=>.lst (tab (n+1) fun j=>oT (G i j))),.lst (tab n fun i=>ZX (R i))])∧σ' 1=some (.lst (tab (n+1) fun i=>.int (c i)))∧σ' 5=some (.int (c 0+sU G c (Zag c n)-sD G c pre))) ?_ ⟨by walk_at "r",by walk_at "r",by simpa [sD]using f5⟩ ?_ ?_
  ·walk_at "z"
   rfl
  ·rintro pre i σ' m ⟨g0,g1,g5⟩
   have hi:=hd i m
   obtain⟨y,ey⟩:=gd i m
   have by_:Bd b y:=hG 0 i h0 hi y ey
   walk_at "z"
   rw[show(Int.toNat 0)=0 from rfl,ey,Z8]
   refine Zbx (ZbL (bc i hi) by_ (by omega) (by omega)) ?_
   walk_at "z"
   refine⟨by walk_at "r",by walk_at "r",?_⟩
   rw[Za1,ZoL,ey]
   simp only[Option.getD_some]
   congr 2
   omega
  rintro σ2 ⟨g0,g1,g5⟩
  walk_at "z"
  rw[(tot n).2 hl]
  rfl
theorem ZqN(hn:n≤60)(hb:b≤100000)(hG:GB b n G)(bc:∀i,i<n+1→Bd b (c i))(e0:σ 0=some (.tup [.lst (tab (n+1) fun i=>.lst (tab (n+1) fun j=>oT (G i j))),.lst (tab n fun i=>ZX (R i))]))(e1:σ 1=some (.lst (tab (n+1) fun i=>.int (c i))))(e2:σ 2=some (.lst ((Zag c n).map fun i=>T.int (i:Nat))))(e3:σ 3=some (.lst ((Zah c n).map fun i=>T.int (i:Nat)))): Psk ((Z1 (qIf (Zcb (Z9 (Zp qEq (ZW Zbg (Zq (Zf 2) ZF)) (Zv 1))) (Zcb (Z9 (Zp qEq (ZW Zbg (Zq (Zf 3) ZF)) (Zv 1))) (Zcb (Z9 (Zp qEq (Zp ZE (Zf 1) (Zp ZE (Zf 2) (Zv 0))) (Zv 1))) (Zcb (Z9 (Zp qEq (Zp ZE (Zf 1) (Zp ZE (Zf 3) (Zv 0))) (pUn Zdg (Zv 1)))) Zan)))) (Z1 (qIf (Z9 (Zp qIs (Zp ZE (Zp ZE (Zp ZE (Zf 0) (Zv 0)) (Zp ZE (Zf 2) (Zv 0))) (Zp ZE (Zf 3) (Zv 0))) (Zau))) (Zaq (Zau)) ZaC) (Zaq (Zp Zap (Zp ZE (Zp ZE (Zp ZE (Zf 0) (Zv 0)) (Zp ZE (Zf 2) (Zv 0))) (Zp ZE (Zf 3) (Zv 0))) (Zp ZE (Zf 1) (Zv 0))))) ZaC) (Z1 (Zar 4 (Zp Zap (Zav (ZaM (Zf 2)) (Zaa 104) Zan (Zp ZE (Zp ZE (Zp ZE (Zf 0) (Zv 0)) (Zf 104)) (Zv 0))) (Zav (ZaM (Zf 3)) (Zaa 106) Zan (Zp ZE (Zp ZE (Zp ZE (Zf 0) (Zv 0)) (Zv 0)) (Zf 106))))) (Z1 (qIf (Z9 (Zp qIn (Zau) (Zf 4))) (Zaq (Zau)) ZaC) (Z1 (Zar 5 (Zp ZE (Zf 1) (Zv 0))) (Z1 (Zbh (ZaM (Zf 2)) (Zaa 6) (Zar 5 (Zp Zap (Zf 5) (Zp ZbV (Zp ZE (Zf 1) (Zf 6)) (Zp ZE (Zp ZE (Zp ZE (Zf 0) (Zv 0)) (Zf 6)) (Zv 0)))))) (Z1 (Zbh (ZaM (Zf 3)) (Zaa 6) (Zar 5 (Zp Zck (Zf 5) (Zp ZbV (Zp ZE (Zf 1) (Zf 6)) (Zp ZE (Zp ZE (Zp ZE (Zf 0) (Zv 0)) (Zv 0)) (Zf 6)))))) (Zaq (Zf 5)))))))) σ) (fun t=>t=oT (grt n G c)) N:=by
 by_cases h:Df n c
 ·obtain⟨u,d,eu,ed,hcu,hcd,hu,hd,_,_,iu,id_,_,_⟩:=Zho h
  have hg:grt n G c=Z3 (G u d) (some (c 0)):=by unfold grt;rw[ZaH h,iu,id_];rfl
  rw[hg]
  rw[eu]at e2
  rw[ed]at e3
  simp only[List.map_cons,List.map_nil]at e2 e3
  walk_at "z"
  cases hx:G u d with
  | none=>
   rw[ZaO]
   walk_at "z"
   rfl
  | some y=>
   rw[Z8]
   walk_at "z"
   rw[hx,Z8]
   walk_at "z"
   rfl
 ·have hg:grt n G c=(ZbY c (S40 G) n).2:=by unfold grt;rw[Zbo h];rfl
  rw[hg]
  refine Zb7 (fun σ'=>σ'=σ) ?_ ?_
  ·by_cases l1:(Zag c n).length=1
   ·obtain⟨u,eu⟩:=List.length_eq_one_iff.mp l1
    have hu:u<n+1:=by have:=ups_mem.mp (show u∈Zag c n by rw[eu];simp);omega
    by_cases l2:(Zah c n).length=1
    ·obtain⟨d,ed⟩:=List.length_eq_one_iff.mp l2
     have hd:d<n+1:=by have:=dns_mem.mp (show d∈Zah c n by rw[ed];simp);omega
     have hno:¬(c u=1∧c d = -1):=fun q=>h (df_iff.mpr ⟨by rw[eu];simp[q.1],by rw[ed];simp[q.2]⟩)
     rw[eu]at e2
     rw[ed]at e3
     simp only[List.map_cons,List.map_nil]at e2 e3
     by_cases q1:c u=1
     ·have q2:c d≠-1:=fun q=>hno ⟨q1,q⟩
      walk_at "z"
      rfl
     ·walk_at "z"
      rfl
    ·rw[eu]at e2
     simp only[List.map_cons,List.map_nil]at e2
     have l3:((((Zah c n).map fun i=>T.int (i:Nat)).length:Nat):Int)≠1:=by rw[List.length_map];omega
     walk_at "z"
     rfl
   ·have l3:((((Zag c n).map fun i=>T.int (i:Nat)).length:Nat):Int)≠1:=by rw[List.length_map];omega
    walk_at "z"
    rfl
  ·rintro _ rfl
   exact Zp3 hn hb hG bc e0 e1 e2 e3
theorem ZgN(hn:n≤60)(hb:b≤100000)(hG:GB b n G)(bc:∀i,i<n+1→Bd b (c i)): ZiA [ZK n G R,ZT n c]=some (oT (grt n G c)):=by
 apply Pk.eq
 unfold ZiA Ziz
 have ht:ZK n G R=.tup [.lst (tab (n+1) fun i=>.lst (tab (n+1) fun j=>oT (G i j))),.lst (tab n fun i=>ZX (R i))]:=rfl
 rw[ht]
 unfold ZT
 refine ZkQ rfl ?_
 have rg:∀{σ:TL} {j:Nat},σ 1=some (.lst (tab (n+1) fun i=>.int (c i)))→Pl (Zbw (Zq (Zv 1) (Zq (ZW Zbg (Zq (Zf 1) ZF)) ZF)) σ) fun us=>us=tab n fun i=>T.int ((1+i:Nat):Int):=fun {σ} {j} e=>by
  refine Zhv (a:=1) (m:=n) (by omega) (by omega) ?_ rfl
  simp only[Zq,Zv,ZF,ZW,Zf,e,Option.bind_some,Zbg,Zae]
  congr 3
  congr 1
  omega
 refine Zb7 (fun σ'=>σ' 0=some (.tup [.lst (tab (n+1) fun i=>.lst (tab (n+1) fun j=>oT (G i j))),.lst (tab n fun i=>ZX (R i))])∧σ' 1=some (.lst (tab (n+1) fun i=>.int (c i)))∧σ' 2=some (.lst ((Zag c n).map fun i=>T.int (i:Nat)))) ?_ ?_
 ·refine ZhV ?_
  refine Zka (ts:=tab n fun i=>T.int ((1+i:Nat):Int)) (P:=Zlt c) (by rw[Zae];omega) (rg (j:=0) rfl) (fun t m=>?_) ?_
  ·obtain⟨i,hi,rfl⟩:=Zc4 m
   have h1:1+i<n+1:=by omega
   walk_at "z"
   show decide (0<c (1+i))=decide (0<c ((1+i:Nat):Int).toNat)
   rw[Int.toNat_natCast]
  ·rw[Zn5]
   exact⟨rfl,rfl,Za1⟩
 rintro σ1 ⟨f0,f1,f2⟩
 refine Zb7 (fun σ'=>σ' 0=some (.tup [.lst (tab (n+1) fun i=>.lst (tab (n+1) fun j=>oT (G i j))),.lst (tab n fun i=>ZX (R i))])∧σ' 1=some (.lst (tab (n+1) fun i=>.int (c i)))∧σ' 2=some (.lst ((Zag c n).map fun i=>T.int (i:Nat)))∧σ' 3=some (.lst ((Zah c n).map fun i=>T.int (i:Nat)))) ?_ ?_
 ·refine ZhV ?_
  refine Zka (ts:=tab n fun i=>T.int ((1+i:Nat):Int)) (P:=Zlu c) (by rw[Zae];omega) (rg (j:=0) f1) (fun t m=>?_) ?_
  ·obtain⟨i,hi,rfl⟩:=Zc4 m
   have h1:1+i<n+1:=by omega
   walk_at "z"
   show decide (c (1+i)<0)=decide (c ((1+i:Nat):Int).toNat<0)
   rw[Int.toNat_natCast]
  ·rw[Zn6]
   exact⟨by walk_at "r",by walk_at "r",by walk_at "r",Za1⟩
 rintro σ2 ⟨g0,g1,g2,g3⟩
 exact ZqN hn hb hG bc g0 g1 g2 g3
theorem ZoM{b n:Nat}{c:Nat→Int}{S:Nat→Sp}(bc:∀i,i<n+1→Bd b (c i))(bS:∀i,i<n→SBd b (S i)): ∀j,j≤n→∀y,(ZbY c S j).2=some y→Bd (b+b+j+1) y
 | 0,_,y,e=>by cases e;exact(bc 0 (by omega)).mono (by omega)
 | j+1,h,y,e=>by
  obtain⟨p,q,h1,h2,rfl⟩:=addO_some.mp (show Z3 (ZbY c S j).2 (Zb8 (S j) (c (j+1))).2=some y from e)
  have ih:=ZoM bc bS j (by omega) p h1
  have hq:Bd (b+b) q:=by
   unfold Zb8 at h2
   split at h2
   ·cases h2;exact ZdA
   ·split at h2
    ·obtain⟨z,e1,rfl⟩:=Zz1.mp h2
     exact((bS j (by omega)).1 z e1).mul (bc (j+1) (by omega))
    ·obtain⟨z,e1,rfl⟩:=Zz1.mp h2
     exact((bS j (by omega)).2 z e1).mul (bc (j+1) (by omega))
  exact(ih.add (hq.mono (by omega))).mono (by omega)
theorem ZhP(bc:∀i,i<n+1→Bd b (c i)): ∀i,i<n+1→Bd b (-(c i)):=fun i hi=>by
 have:=bc i hi
 unfold Bd at *
 omega
noncomputable def ZaI(c:Nat→Int)(x:Nat→Int): Nat→Int
 | 0=>c 0
 | j+1=>ZaI c x j+c (j+1)*x j
theorem ZoN{c x:Nat→Int}: ∀n,c 0+(tab n fun i=>c (i+1)*x i).sum=ZaI c x n
 | 0=>by simp[tab,ZaI]
 | n+1=>by
  rw[←Zc3 (n:=n) (f:=fun i=>c (i+1)*x i),List.sum_append]
  have:=ZoN (c:=c) (x:=x) n
  simp only[List.sum_cons,List.sum_nil,ZaI]
  omega
theorem Zpk{c x:Nat→Int}{S:Nat→Sp}{n:Nat}(h:∀i,i<n→InS (S i) (x i)): ∀j,j≤n→InS (ZbY c S j) (ZaI c x j)
 | 0,_=>⟨fun l e=>by cases e;exact Int.le_refl _,fun l e=>by cases e;exact Int.le_refl _⟩
 | j+1,hj=>Zte (Zpk h j (by omega)) (Zsl (h j (by omega)))
theorem ZoO{c x:Nat→Int}: ∀n,ZaI (fun i=>-(c i)) x n = -(ZaI c x n)
 | 0=>rfl
 | n+1=>by
  simp only[ZaI,ZoO n,Int.neg_mul]
  omega
noncomputable def sV(c x:Nat→Int)(l:List Nat): Int:=(l.map fun i=>c i*x (i-1)).sum
theorem ZnA{c x:Nat→Int}: ∀n,ZaI c x n=c 0+sV c x (Zag c n)+sV c x (Zah c n)
 | 0=>by simp[ZaI,sV,Zag,Zah]
 | n+1=>by
  have ih:=ZnA (c:=c) (x:=x) n
  have sn:∀l,sV c x (l++[n+1])=sV c x l+c (n+1)*x n:=fun l=>by simp[sV]
  simp only[ZaI,Zag,Zah,ih]
  rcases Int.lt_trichotomy (c (n+1)) 0 with h | h | h
  ·rw[if_neg (by omega),if_pos h,List.append_nil,sn]
   omega
  ·rw[if_neg (by omega),if_neg (by omega),List.append_nil,List.append_nil,h]
   omega
  ·rw[if_pos h,if_neg (by omega),List.append_nil,sn]
   omega
theorem ZkY{x:Nat→Int}(h:Zbi n G R x)(e:grt n G c=some y): ZaI c x n≤y:=by
 unfold grt at e
 by_cases hd:Df n c
 ·rw[ZaH hd]at e
  obtain⟨u,d,eu,ed,hcu,hcd,hu,hdn,hu1,hd1,iu,id_,_,_⟩:=Zho hd
  rw[iu,id_]at e
  obtain⟨p,q,h1,h2,rfl⟩:=addO_some.mp (show Z3 (G u d) (some (c 0))=some y from e)
  cases h2
  have hb:=h.1 u d hu hdn p h1
  rw[ZnA,eu,ed]
  have f:∀i,1≤i→Zao x i=x (i-1):=fun i hi=>by
   cases i with
   | zero=>omega
   | succ i=>rfl
  rw[f u hu1,f d hd1]at hb
  simp only[sV,List.map_cons,List.map_nil,List.sum_cons,List.sum_nil,hcu,hcd]
  omega
 ·rw[Zbo hd]at e
  refine(Zpk (S:=S40 G) (n:=n) (fun i hi=>⟨fun l el=>?_,fun r er=>?_⟩) n (Zz10 n)).2 y e
  ·obtain⟨z,e1,rfl⟩:=Zz1.mp el
   have:=h.1 0 (i+1) (by omega) (by omega) z e1
   have f0:Zao x 0=0:=rfl
   have f1:Zao x (i+1)=x i:=rfl
   show z*(-1)≤x i
   omega
  ·have:=h.1 (i+1) 0 (by omega) (by omega) r er
   have f0:Zao x 0=0:=rfl
   have f1:Zao x (i+1)=x i:=rfl
   omega
theorem Ztl{x:Nat→Int}(hn:n≤60)(hb:b≤100000)(bc:∀i,i<n+1→Bd b (c i))(bx:∀i,i<n→Bd b (x i)): Zjg [ZT n c,Ziq n x]=some (.int (ZaI c x n)):=by
 apply Pk.eq
 unfold Zjg Zfz ZT Ziq
 have h0:0<n+1:=by omega
 walk_at "z"
 refine Zb1 (n:=n) (a:=fun i=>.int i) (b:=fun i=>.int (c (i+1)*x i)) (by omega) ?_ (fun i hi=>?_) ?_
 ·walk_at "z"
  rfl
 ·walk_at "z"
  rw[show((i:Int)+1).toNat=i+1 by omega]
  exact Zbx (ZbL (bc (i+1) (by omega)) (bx i hi) (by omega) (by omega)) rfl
 walk_at "z"
 refine⟨.int (tab n fun i=>c (i+1)*x i).sum,by simp only[Zlq,ZsQ,Option.map_some],?_⟩
 walk_at "z"
 rw[show(Int.toNat 0)=0 from rfl,ZoN]
def SumB(n:Nat)(c:Nat→Int)(K:Int): Prop:=Bd 140 (c 0)∧∀i,1≤i→i<n+1→-K≤c i∧c i≤K
theorem SumB.bd(h:SumB n c K)(hK:K≤4000000000): ∀i,i<n+1→Bd 140 (c i):=fun i hi=>by
 by_cases q:i=0
 ·subst q;exact h.1
 ·have:=h.2 i (by omega) hi
  exact ZaE (i:=33) (by omega) (by decide)
theorem SumB.mono(h:SumB n c K)(hK:K≤K'): SumB n c K':=⟨h.1,fun i h1 h2=>by have:=h.2 i h1 h2;omega⟩
theorem ZhQ{x:Nat}{v k:Int}(e:σ x=some (.lst (tab (n+1) fun i=>.int (c i))))(h0:1≤k)(h1:k<(n+1:Nat))(bc:SumB n c K)(hK:K≤K')(v0:-K'≤v)(v1:v≤K')(h:∀c',SumB n c' K'→N (ZN σ x (.lst (tab (n+1) fun i=>.int (c' i))))): PutP σ x (.int v) (.int k) N:=by
 refine Zr4 (n:=n+1) (f:=fun i=>.int (c i)) e (by omega) h1 ?_
 have:=h (fun i=>if i=k.toNat then v else c i) ⟨by show Bd 140 (if 0=k.toNat then v else c 0);rw[if_neg (by omega)];exact bc.1,fun i hi1 hi2=>by
  by_cases q:i=k.toNat
  ·simp only[q,if_true];exact⟨v0,v1⟩
  ·simp only[q,if_false];have:=bc.2 i hi1 hi2;omega⟩
 rw[show(tab (n+1) fun i=>if i=k.toNat then T.int v else T.int (c i))=tab (n+1) fun i=>T.int (if i=k.toNat then v else c i)from Zbj fun i _=>by split <;> rfl]
 exact this
noncomputable def unC(i:Nat): Nat→Int:=fun k=>if 0<i∧k=i then 1 else 0
theorem ZjJ(hn:n≤900): Zek [.int i,.int n]=some (ZT n (unC i)):=by
 apply Pk.eq
 unfold Zek Zf1 ZT
 walk_at "z"
 refine Zb1 (n:=n+1) (a:=fun k=>.int (k:Nat)) (b:=fun k=>.int (unC i k)) (by omega) ?_ (fun k hk=>?_) rfl
 ·walk_at "z"
  exact Zic (n+1) (by omega) (by omega) rfl
 ·walk_at "z"
  by_cases h:0<i
  ·refine⟨fun _=>?_,fun c=>absurd c (by simp;omega)⟩
   walk_at "z"
   by_cases q:k=i
   ·refine⟨fun _=>?_,fun c=>absurd c (by simp[q])⟩
    walk_at "z"
    show _=T.int (unC i k)
    unfold unC
    rw[if_pos ⟨h,q⟩]
   ·refine⟨fun c=>absurd c (by simp;omega),fun _=>?_⟩
    walk_at "z"
    show _=T.int (unC i k)
    unfold unC
    rw[if_neg (fun c=>q c.2)]
  ·refine⟨fun c=>absurd c (by simp;omega),fun _=>⟨fun c=>absurd c (by decide),fun _=>?_⟩⟩
   walk_at "z"
   show _=T.int (unC i k)
   unfold unC
   rw[if_neg (fun c=>h c.1)]
theorem Zq9(hn:n≤900): ZjB [ZT n c,ZT n d]=some (ZT n fun k=>c k+d k):=by
 apply Pk.eq
 unfold ZjB ZfL ZT
 walk_at "z"
 refine Zkg (n:=n+1) (a:=fun i=>.int (c i)) (b:=fun i=>.int (d i)) (c:=fun i=>.int (c i+d i)) (by omega) ?_ (fun i hi=>?_) rfl
 ·walk_at "z"
  rfl
 ·walk_at "z"
  rfl
theorem ZmE(hn:n≤900)(hb1:1≤b)(hb:b≤100000)(bd:∀i,i<n+1→Bd b (d i)): Zhe [ZT n c,ZT n d]=some (ZT n fun k=>c k-d k):=by
 apply Pk.eq
 unfold Zhe ZfM
 walk_at "z"
 refine Zy (Zg1 (by omega) hb bd (show Bd b (-1)by unfold Bd;have:=Zdi hb1;unfold Bd at this;simpa using this)) ?_
 walk_at "z"
 refine Zy (Zq9 hn) ?_
 walk_at "z"
 have:(fun k=>c k+d k * -1)=fun k=>c k-d k:=by funext k;omega
 rw[this]
theorem Zpx: unC 0=fun _=>0:=by funext k;unfold unC;rw[if_neg (by omega)]
theorem ZoP(hG:GB b n G)(bc:∀i,i<n+1→Bd b (c i)): ∀y,grt n G c=some y→Bd (b+b+n+1) y:=fun y e=>by
 unfold grt at e
 by_cases h:Df n c
 ·rw[ZaH h]at e
  obtain⟨u,d,_,_,_,_,hu,hd,_,_,iu,id_,_,_⟩:=Zho h
  rw[iu,id_]at e
  obtain⟨p,q,h1,h2,rfl⟩:=addO_some.mp (show Z3 (G u d) (some (c 0))=some y from e)
  cases h2
  exact((hG u d hu hd p h1).add (bc 0 (by omega))).mono (by omega)
 ·rw[Zbo h]at e
  exact(ZoM bc (Zpj hG) n (Zz10 n) y e).mono (by omega)
theorem ZhR{c d x:Nat→Int}: ∀n,ZaI (fun k=>c k-d k) x n=ZaI c x n-ZaI d x n
 | 0=>rfl
 | n+1=>by
  simp only[ZaI,ZhR n,Int.sub_mul]
  omega
theorem Zn8{x:Nat→Int}: ∀n,ZaI (fun _=>0) x n=0
 | 0=>rfl
 | n+1=>by simp only[ZaI,Zn8 n,Int.zero_mul];omega
theorem ZnB{kk:Int}{w at_ m lo:Int}(hk0:0≤kk)(hk9:kk≤1000)(hm:0<m)(hn:n≤9)(hK:K≤K')(hlo:-K'≤-lo)(hhi:m-1-lo≤K')(e0:σ 0=some (scr ns))(e1:σ 1=some (.int kk))(e2:σ 2=some (.int n))(e4:σ 4=some (.int w))(e5:σ 5=some (.int (1+at_)))(e3:σ 3=some (.lst (tab (n+1) fun i=>.int (c i))))(bc:SumB n c K)(h:∀σ' c',σ' 0=some (scr ns)→σ' 1=some (.int kk)→σ' 2=some (.int n)→σ' 4=some (.int w)→σ' 5=some (.int (1+at_))→σ' 3=some (.lst (tab (n+1) fun i=>.int (c' i)))→SumB n c' K'→N σ')(pm plo:PE)(epm:∀σ,pm σ=some (.int m))(eplo:∀σ,plo σ=some (.int lo)): Psk (Zbh (Zbw (Zq (Zf 2) ZF)) (Zaa 7) (ZbX 3 [] (Zp Zck (ZW Zcw (Zq (Zf 0) (Zq (Zp Zap (Zp Zap (Zf 1) (Zv 1)) (Zf 7)) (Zq pm ZF)))) plo) Zba (Zp Zap (Zf 7) (Zv 1))) σ) Q N:=by
 refine Zbl (n:=n) (a:=fun i=>.int i) (P:=fun _ σ'=>σ' 0=some (scr ns)∧σ' 1=some (.int kk)∧σ' 2=some (.int n)∧σ' 4=some (.int w)∧σ' 5=some (.int (1+at_))∧∃c',σ' 3=some (.lst (tab (n+1) fun i=>.int (c' i)))∧SumB n c' K') ?_ ⟨e0,e1,e2,e4,e5,c,e3,bc.mono hK⟩ ?_ ?_
 ·walk_at "z"
  rfl
 ·rintro i σ' hi ⟨f0,f1,f2,f4,f5,c',f3,bc'⟩
  obtain⟨k0,k1⟩:=ZbM ns (kk+1+(i:Int)) hm
  walk_at "z"
  refine⟨_,epm _,?_⟩
  walk_at "z"
  refine Zy (ZbN (by omega) (by omega) hm) ?_
  refine⟨_,eplo _,?_⟩
  walk_at "z"
  refine ZhQ (n:=n) (c:=c') (K:=K') (K':=K') (by walk_at "r") (by omega) (by omega) bc' (Int.le_refl _) (by omega) (by omega) fun c2 bc2=>?_
  exact⟨by walk_at "r",by walk_at "r",by walk_at "r",by walk_at "r",by walk_at "r",c2,Za1,bc2⟩
 ·rintro σ' ⟨f0,f1,f2,f4,f5,c',f3,bc'⟩
  exact h σ' c' f0 f1 f2 f4 f5 f3 bc'
theorem ZvK{kk:Int}(hk0:0≤kk)(hk9:kk≤1000)(hL:Lay ns)(hn:n≤9): Pk (ZjY [scr ns,.int kk,.int n]) fun t=>∃c,t=ZT n c∧SumB n c 1000000000:=by
 unfold ZjY ZjX
 have bn:Bd 140 (ZbB ns kk):=ZaE (Zgj ns kk) (by decide)
 obtain⟨p0,p1⟩:=ZbM ns kk (show(0:Int)<6 by decide)
 refine ZkQ rfl ?_
 refine Zb7 (fun σ'=>σ' 0=some (scr ns)∧σ' 1=some (.int kk)∧σ' 2=some (.int n)∧∃c,σ' 3=some (.lst (tab (n+1) fun i=>.int (c i)))∧SumB n c 0) ?_ ?_
 ·walk_at "z"
  refine Zy (Zem hL (by omega) (by omega)) ?_
  walk_at "z"
  refine Zum (by omega) ?_
  refine Zok (by omega) ?_
  rw[show cn (T.int (ZbB ns kk)) (fun _=>T.int 0)=fun i=>T.int (cn (ZbB ns kk) (fun _=>0) i)from by funext i;cases i <;> rfl]
  refine⟨ZmM fun _ _=>rfl,?_⟩
  refine⟨rfl,rfl,rfl,_,Za1,bn,fun i h1 h2=>?_⟩
  cases i with
  | zero=>omega
  | succ i=>exact⟨Int.le_refl 0,Int.le_refl 0⟩
 rintro σ1 ⟨e0,e1,e2,c,e3,bc⟩
 walk_at "z"
 refine Zy (ZbN (by omega) (by omega) (by decide)) ?_
 by_cases hz:ZaY ns kk 6=0∨n=0
 ·rcases hz with hz | hz
  ·walk_at "z"
   exact⟨c,rfl,bc.mono (by decide)⟩
  ·by_cases q:ZaY ns kk 6=0
   ·walk_at "z"
    exact⟨c,rfl,bc.mono (by decide)⟩
   ·have:(n:Int)=0:=by omega
    walk_at "z"
    exact⟨c,rfl,bc.mono (by decide)⟩
 have hz1:ZaY ns kk 6≠0:=fun q=>hz (.inl q)
 have hn0:(n:Int)≠0:=fun q=>hz (.inr (by omega))
 obtain⟨a0,a1⟩:=ZbM ns (kk+1) (show(0:Int)<n by omega)
 walk_at "z"
 refine Zy (ZbN (by omega) (by omega) (by omega)) ?_
 refine Zo1 ?_
 generalize ZaY ns kk 6=w at *
 generalize ZaY ns (kk+1) n=at_ at *
 let M:Int→TL→Prop:=fun K σ'=>σ' 0=some (scr ns)∧σ' 1=some (.int kk)∧σ' 2=some (.int n)∧σ' 4=some (.int w)∧σ' 5=some (.int (1+at_))∧∃c,σ' 3=some (.lst (tab (n+1) fun i=>.int (c i)))∧SumB n c K
 refine Zb7 (M 6) ?_ ?_
 ·walk_at "z"
  refine⟨fun q=>?_,fun q=>?_⟩
  ·obtain⟨k0,k1⟩:=ZbM ns (kk+2) (show(0:Int)<13 by decide)
   walk_at "z"
   refine Zy (ZbN (by omega) (by omega) (by decide)) ?_
   walk_at "z"
   refine ZhQ (n:=n) (c:=c) (K:=0) (K':=6) (by walk_at "r") (by omega) (by omega) bc (by decide) (by omega) (by omega) fun c' bc'=>?_
   exact⟨by walk_at "r",by walk_at "r",by walk_at "r",by walk_at "r",by walk_at "r",c',Za1,bc'⟩
  ·walk_at "z"
   exact⟨by walk_at "r",by walk_at "r",by walk_at "r",by walk_at "r",by walk_at "r",c,by walk_at "r",bc.mono (by decide)⟩
 clear bc e3 c
 rintro σ2 ⟨f0,f1,f2,f4,f5,c1,f3,bc1⟩
 refine Zb7 (M 7) ?_ ?_
 ·have go:Psk ((Z1 (Zar 6 (Zp Zap (Zv 1) (ZW Zcw (Zq (Zf 0) (Zq (Zp Zap (Zf 1) (Zv 2)) (Zq (Zf 2) ZF)))))) (Z1 (ZbX 3 [] (Zv 1) Zba (Zf 5)) (ZbX 3 [] (Zp Zck (Zp ZE (Zf 3) (Zf 6)) (Zv 1)) Zba (Zf 6)))) σ2) (fun t=>∃c,t=ZT n c∧SumB n c 1000000000) (M 7):=by
   obtain⟨k0,k1⟩:=ZbM ns (kk+2) (show(0:Int)<n by omega)
   walk_at "z"
   refine Zy (ZbN (by omega) (by omega) (by omega)) ?_
   generalize ZaY ns (kk+2) n=to_ at *
   walk_at "z"
   refine ZhQ (n:=n) (c:=c1) (K:=6) (K':=6) (by walk_at "r") (by omega) (by omega) bc1 (by decide) (by decide) (by decide) fun c' bc'=>?_
   have hto:=bc'.2 (1+to_).toNat (by omega) (by omega)
   walk_at "z"
   refine ZhQ (n:=n) (c:=c') (K:=6) (K':=7) (by walk_at "r") (by omega) (by omega) bc' (by decide) (by omega) (by omega) fun c2 bc2=>?_
   exact⟨by walk_at "r",by walk_at "r",by walk_at "r",by walk_at "r",by walk_at "r",c2,Za1,bc2⟩
  have no:M 7 σ2:=⟨f0,f1,f2,f4,f5,c1,f3,bc1.mono (by decide)⟩
  by_cases q2:w=2
  ·refine ZkP ?_
   refine⟨true,?_,fun _=>go,fun e=>by cases e⟩
   simp[bOr,Z9,Zp,Zf,f4,Zv,qEq,ZhD,Zbv,q2]
  ·by_cases q3:w=3
   ·refine ZkP ?_
    refine⟨true,?_,fun _=>go,fun e=>by cases e⟩
    simp[bOr,Z9,Zp,Zf,f4,Zv,qEq,ZhD,Zbv,q3]
   ·walk_at "z"
    exact no
 clear bc1 f3 c1
 clear f0 f1 f2 f4 f5
 rintro σ3 ⟨f0,f1,f2,f4,f5,c1,f3,bc1⟩
 refine Zb7 (M 7) ?_ ?_
 ·walk_at "z"
  refine⟨fun q=>?_,fun q=>?_⟩
  ·exact ZnB hk0 hk9 (m:=7) (lo:=3) (K:=7) (K':=7) (by decide) hn (by decide) (by decide) (by decide) f0 f1 f2 f4 f5 f3 bc1 (fun σ' c' g0 g1 g2 g4 g5 g3 bc'=>⟨g0,g1,g2,g4,g5,c',g3,bc'⟩) _ _ (fun _=>rfl) (fun _=>rfl)
  ·walk_at "z"
   exact⟨f0,f1,f2,f4,f5,c1,f3,bc1⟩
 clear bc1 f3 c1
 clear f0 f1 f2 f4 f5
 rintro σ4 ⟨f0,f1,f2,f4,f5,c1,f3,bc1⟩
 refine Zb7 (M 1000000000) ?_ ?_
 ·walk_at "z"
  refine⟨fun q=>?_,fun q=>?_⟩
  ·exact ZnB hk0 hk9 (m:=2000000001) (lo:=1000000000) (K:=7) (K':=1000000000) (by decide) hn (by decide) (by decide) (by decide) f0 f1 f2 f4 f5 f3 bc1 (fun σ' c' g0 g1 g2 g4 g5 g3 bc'=>⟨g0,g1,g2,g4,g5,c',g3,bc'⟩) _ _ (fun _=>rfl) (fun _=>rfl)
  ·walk_at "z"
   exact⟨f0,f1,f2,f4,f5,c1,f3,bc1.mono (by decide)⟩
 rintro σ5 ⟨g0,g1,g2,g4,g5,c2,g3,bc2⟩
 walk_at "z"
 exact⟨c2,rfl,bc2⟩
theorem Zpl{a:Nat}(h:1≤a): unC a a=1:=by unfold unC;rw[if_pos ⟨by omega,rfl⟩]
theorem ZkZ{a:Nat}(h:k≠a): unC a k=0:=by unfold unC;rw[if_neg (fun q=>h q.2)]
theorem Zpm{a:Nat}{x:Nat→Int}(h1:1≤a): ∀n,ZaI (unC a) x n=if a≤n then x (a-1)else 0
 | 0=>by rw[if_neg (by omega)];exact ZkZ (by omega)
 | n+1=>by
  show ZaI (unC a) x n+unC a (n+1)*x n=_
  rw[Zpm h1 n]
  by_cases q:n+1=a
  ·subst q
   rw[Zpl h1,if_neg (by omega),if_pos (by omega),Nat.add_sub_cancel];omega
  ·rw[ZkZ q,Int.zero_mul]
   by_cases g:a≤n
   ·rw[if_pos g,if_pos (by omega)];omega
   ·rw[if_neg g,if_neg (by omega)];rfl
theorem Zsu(hn:n≤100)(h:D=.none∨∃G R,D=ZK n G R): ∃t,Zfi [D]=some t:=by
 have key:Pk (Zfi [D]) fun _=>True:=by
  unfold Zfi ZiZ
  refine ZhH rfl ?_
  rcases h with rfl | ⟨G,R,rfl⟩
  ·walk_at "z"
   exact⟨_,rfl,trivial⟩
  ·have hne:∀{Q:T→Prop},Q (.bool true)→Pk (ZdO (ZK n G R) .none) Q:=fun h=>⟨_,rfl,h⟩
   walk_at "z"
   refine hne ?_
   refine ZmL ?_
   refine Zo0 rfl ?_
   obtain⟨l,hg,hl⟩:=ZvH (n:=n) (G:=G) (R:=R)
   obtain⟨u,hu⟩:=ZvJ (n:=n) (g:=.lst (l++[.lst [.int 7]])) (w:=.tup [.int 7,.int 7]) (R:=R) hn
   have ha:=ZvI (l:=l) (w:=.lst [.int 7]) (r:=ZaD n R) (by omega)
   have w1:ZcU (Zq (Zv 7) ZF)=fun _=>some (.lst [.int 7]):=rfl
   have w2:ZcX (Zq (Zv 7) (Zq (Zv 7) ZF))=fun _=>some (.tup [.int 7,.int 7]):=rfl
   have e:(fun i=>[ZK n G R][i]?:TL) 0=some (ZK n G R):=rfl
   refine⟨none,ZN (ZN (ZN (fun i=>[ZK n G R][i]?) 0 (.tup [.lst l,ZaD n R])) 0 (.tup [.lst (l++[.lst [.int 7]]),ZaD n R])) 0 u,?_,by simp,fun _=>⟨u,Za1,trivial⟩⟩
   simp only[Z1,ZbX,Zdh,Zba,Zc8,Zv,Option.bind_some,e,List.nil_append,List.cons_append,hg,Option.map_some,Zhj,w1,w2,Za1,ha,hu]
 obtain⟨t,e,_⟩:=key
 exact⟨t,e⟩
def DueOk(m:Nat)(D:T): Prop:=D=.none∨∃G R,D=ZK m G R∧(∀i,i<m+1→G i i=some 0)∧∀t,t<m→RestOk (R t)
theorem DueOk.same(hm:m≤100)(h:DueOk m D): Zc1 [D,D]=some (.bool true):=by
 rcases h with rfl | ⟨G,R,rfl,hd,ok⟩
 ·exact Zqp
 ·exact Zqq hm hd ok
theorem DueOk.sh(h:DueOk m D): D=.none∨∃G R,D=ZK m G R:=by
 rcases h with rfl | ⟨G,R,rfl,_,_⟩
 ·exact .inl rfl
 ·exact .inr ⟨G,R,rfl⟩
def Tn(n K:Nat)(P:(Nat→Int)→Prop)(D:T): Prop:=(D=.none∧∀x,¬P x)∨∃G R,D=ZK n G R∧(∀i,i<n+1→G i i=some 0)∧(∀t,t<n→RestOk (R t))∧SmG K n G∧SmR K n R∧∀x,P x→Zbi n G R x
theorem Tn.due{K:Nat}{P:(Nat→Int)→Prop}(h:Tn n K P D): DueOk n D:=by
 rcases h with⟨rfl,_⟩ | ⟨G,R,rfl,hd,ok,_⟩
 ·exact .inl rfl
 ·exact .inr ⟨G,R,rfl,hd,ok⟩
theorem Tn.sub{K K':Nat}{P P':(Nat→Int)→Prop}(h:Tn n K P D)(hK:K≤K')(hP:∀x,P' x→P x): Tn n K' P' D:=by
 rcases h with⟨rfl,q⟩ | ⟨G,R,rfl,hd,ok,sG,sR,q⟩
 ·exact .inl ⟨rfl,fun x p=>q x (hP x p)⟩
 ·exact .inr ⟨G,R,rfl,hd,ok,fun i j hi hj b e=>ZaE (sG i j hi hj b e) hK,fun t ht=>⟨ZaE (sR t ht).1 hK,ZaE (sR t ht).2 hK⟩,fun x p=>q x (hP x p)⟩
theorem ZrL{K:Nat}(hM:0<M)(bM:Bd K M)(bG:BdG (n+1) k G)(hk:k+n+1≤K)(s:Sharp n G R G2 R2 M K): BdG (n+1) (K+n+2) G2∧∀t,t<n→RBd K (R2 t):=by
 obtain⟨R1,_,h1,_,_,rfl,h2⟩:=s.go
 refine⟨?_,fun t ht=>(h2 t ht).1.bd hM bM⟩
 have b1:BdG (n+1) K (ZU G (n+1)):=fun a b c ha hb e=>(Zdt bG (n+1) (Zz10 _) a b c ha hb e).mono (by omega)
 have b2:=ZkX hM bM b1 fun t ht=>(h1 t ht).1
 exact fun a b c ha hb e=>(Zdt b2 (n+1) (Zz10 _) a b c ha hb e).mono (by omega)
theorem Zup{B:Nat}(hn:n≤20)(hB:1≤B)(hk:B*n+B+2*n+5≤7000)(hd:∀i,i<n+1→G i i=some 0)(ok:∀t,t<n→RestOk (R t))(sG:SmG B n G)(sR:SmR B n R): ∃D,Zgh [ZK n G R]=some D∧Zfw [ZK n G R]=some D∧Tn n (B*n+B+3*n+9) (Zbi n G R) D:=by
 have bM:Bd (B*n+B+1) (Zde R n):=(Zn1 hB (fun t ht=>(sR t ht).1) n (Zz10 n)).mono (by omega)
 have bG:BdG (n+1) (B*n+B+1) G:=fun a b c ha hb e=>(show Bd B c from sG a b ha hb c e).mono (by omega)
 have hR:∀t,t<n→RB (Zde R n) (B*n+B+1) (R t):=fun t ht=>⟨ok t ht,Znz n t ht,(show Bd B (R t).2 from(sR t ht).2).mono (by omega)⟩
 have hM:=Zny ok n (Zz10 n)
 obtain⟨D,et,hD⟩:=Ztf (k:=B*n+B+1) (by omega) (by omega) hM bM hd bG hR
 obtain⟨u,eu,hu⟩:=ZqL (k:=B*n+B+1) (by omega) (by omega) hM bM hd bG hR
 have:=ZrI hD hu
 subst this
 refine⟨D,et,eu,?_⟩
 rcases hD with⟨G2,R2,rfl,s⟩ | ⟨rfl,f⟩
 ·obtain⟨z1,z2⟩:=ZrL hM (bM.mono (by omega)) bG (by omega) s
  obtain⟨_,_,_,_,_,_,h6⟩:=s.go
  exact .inr ⟨G2,R2,rfl,(ZrK hd s).1,fun t ht=>(h6 t ht).1.1,fun i j hi hj b e=>ZaE (z1 i j b hi hj e) (by omega),fun t ht=>⟨ZaE (z2 t ht).1 (by omega),ZaE (z2 t ht).2 (by omega)⟩,fun x li=>ZrB li s⟩
 ·exact .inl ⟨rfl,fun x li=>absurd f (Zq7 li)⟩
theorem Zkb{a:Nat}(h:v=Γ a b): Zbr Γ a b v=Γ:=by
 funext i j
 by_cases c:i=a∧j=b
 ·obtain⟨rfl,rfl⟩:=c
  rw[ZhM,h]
 ·rw[Zgk c]
theorem Zvj{b:Option Int}: ZaB none b=b:=by
 unfold ZaB
 by_cases c:leO none b
 ·rw[ZaH c]
  cases b with
  | none=>rfl
  | some y=>exact absurd c ZhK
 ·rw[Zbo c];rfl
theorem Zuq(h:y<x): ZaB (some x) (some y)=some y:=by
 unfold ZaB
 rw[Zbo (by rw[leO_some];omega)]
 rfl
noncomputable def apC(c:Nat→Int)(i j:Nat): Nat→Int:=fun k=>unC i k-unC j k-c k
noncomputable def alC(c:Nat→Int)(i:Nat): Nat→Int:=fun k=>unC i k*c i-c k
theorem Zgs: unC i k=0∨unC i k=1:=by unfold unC;split;exact .inr rfl;exact .inl rfl
theorem Zlf(hb:1≤b)(bc:∀i,i<n+1→Bd b (c i))(i j:Nat): ∀k,k<n+1→Bd (b+2) (apC c i j k):=fun k hk=>by
 have h:=bc k hk
 have h1:=Zgs (i:=i) (k:=k)
 have h2:=Zgs (i:=j) (k:=k)
 have h3:2≤2 ^ b:=by
  have:2 ^ 1≤2 ^ b:=Nat.pow_le_pow_right (by decide) hb
  exact this
 unfold Bd apC at *
 rw[Nat.pow_add]
 omega
theorem Zlg(bc:∀i,i<n+1→Bd b (c i))(i:Nat)(hi:i<n+1): ∀k,k<n+1→Bd (b+2) (alC c i k):=fun k hk=>by
 have h:=bc k hk
 have g:=bc i hi
 unfold alC
 rcases Zgs (i:=i) (k:=k)with e | e
 ·rw[e,Int.zero_mul];unfold Bd at *;rw[Nat.pow_add];omega
 ·rw[e,Int.one_mul];unfold Bd at *;rw[Nat.pow_add];omega
theorem ZlY(hn:n≤60)(hb:b≤1000)(hb1:1≤b)(hG:GB b n G)(bc:∀i,i<n+1→Bd b (c i))(bd:∀i,i<n+1→Bd b (d i-c i)): Zfk [ZK n G R,ZT n d,ZT n c,.int top]=some (oT (Z3 (grt n G fun k=>d k-c k) (some top))):=by
 apply Pk.eq
 unfold Zfk Zfj
 walk_at "z"
 refine Zy (ZmE (by omega) hb1 (by omega) bc) ?_
 walk_at "z"
 refine Zy (ZmD hn (by omega) hb1 hG bd) ?_
 walk_at "z"
 exact Zy (Zeb (b:=some top)) rfl
theorem Znb{N:Nat}{G':Nat→Nat→Option Int}(h:∀i j,i<N→j<N→G i j=G' i j): ZO N G=ZO N G':=by
 unfold ZO Zab
 rw[show(tab N fun i=>T.lst (tab N fun j=>oT (G i j)))=tab N fun i=>T.lst (tab N fun j=>oT (G' i j))from Zbj fun i hi=>by rw[Zbj fun j hj=>by rw[h i j hi hj]]]
noncomputable def Wv(w G:Nat→Nat→Option Int)(i j:Nat): Nat→Nat→Option Int:=fun a b=>if a<i∨(a=i∧b<j)then w a b else G a b
theorem Zk0: Zbr (Wv w G i j) i j (w i j)=Wv w G i (j+1):=by
 funext a b
 unfold Zbr Wv
 by_cases h:a=i∧b=j
 ·rw[if_pos h,if_pos (by omega),h.1,h.2]
 ·rw[if_neg h]
  by_cases q:a<i∨(a=i∧b<j)
  ·rw[if_pos q,if_pos (by omega)]
  ·rw[if_neg q,if_neg (by omega)]
theorem Zlh: Wv w G i j i j=G i j:=by unfold Wv;rw[if_neg (by omega)]
theorem Wv_row{N:Nat}: ZO N (Wv w G i N)=ZO N (Wv w G (i+1) 0):=Znb fun a b ha hb=>by
 unfold Wv
 by_cases q:a<i∨(a=i∧b<N)
 ·rw[if_pos q,if_pos (by omega)]
 ·rw[if_neg q,if_neg (by omega)]
theorem ZpA: Wv w G 0 0=G:=by funext a b;unfold Wv;rw[if_neg (by omega)]
theorem Wv_all{N:Nat}: ZO N (Wv w G N 0)=ZO N w:=Znb fun a b ha hb=>by unfold Wv;rw[if_pos (.inl ha)]
noncomputable def apW(n:Nat)(G:Nat→Nat→Option Int)(c:Nat→Int)(top:Int)(a b:Nat): Option Int:=if a=b then G a b else ZaB (G a b) (Z3 (grt n G (apC c a b)) (some top))
theorem Zp4(hn:n≤60)(hb:b≤900)(hb1:1≤b)(hG:GB b n G)(bc:∀i,i<n+1→Bd b (c i))(hd:∀i,i<n+1→G i i=some 0)(hc:∀y,grt n G (fun k=>-(c k))=some y→-y≤top): ZiN [ZO (n+1) G,ZK n G R,ZT n c,.int top]=some (ZO (n+1) (apW n G c top)):=by
 apply Pk.eq
 unfold ZiN ZiM
 refine ZhH rfl ?_
 have ht:ZK n G R=.tup [ZO (n+1) G,.lst (tab n fun i=>ZX (R i))]:=rfl
 have bu:∀i k,k<n+1→Bd b (unC i k):=fun i k _=>by
  rcases Zgs (i:=i) (k:=k)with e | e <;> rw[e]
  ·exact ZdA
  ·exact Zdi hb1
 have hw:∀i j,i<n+1→ZaB (G i j) (Z3 (grt n G (apC c i j)) (some top))=apW n G c top i j:=fun i j hi=>by
  unfold apW
  split
  ·rename_i e
   subst e
   rw[hd i hi]
   refine Zdn ?_
   have:apC c i i=fun k=>-(c k):=by funext k;unfold apC;omega
   rw[this]
   cases e:grt n G fun k=>-(c k)with
   | none=>exact Zcz
   | some y=>exact leO_some.mpr (by have:=hc y e;omega)
  ·rfl
 rw[ht]
 walk_at "z"
 rw[←ht]
 refine Zbl (n:=n+1) (a:=fun i=>.int i) (P:=fun i σ=>σ 0=some (ZO (n+1) (Wv (apW n G c top) G i 0))∧σ 1=some (ZK n G R)∧σ 2=some (ZT n c)∧σ 3=some (.int top)∧σ 4=some (.int n)) ?_ ⟨by rw[ZpA];rfl,rfl,rfl,rfl,rfl⟩ ?_ ?_
 ·walk_at "z"
  exact Zic (n+1) (by omega) (by omega) rfl
 ·rintro i σ hi ⟨e0,e1,e2,e3,e4⟩
  refine Zbl (n:=n+1) (a:=fun j=>.int j) (P:=fun j σ=>σ 0=some (ZO (n+1) (Wv (apW n G c top) G i j))∧σ 1=some (ZK n G R)∧σ 2=some (ZT n c)∧σ 3=some (.int top)∧σ 4=some (.int n)∧σ 5=some (.int i)) ?_ ⟨by walk_at "r",by walk_at "r",by walk_at "r",by walk_at "r",by walk_at "r",by walk_at "r"⟩ ?_ ?_
  ·walk_at "z"
   exact Zic (n+1) (by omega) (by omega) rfl
  ·rintro j σ hj ⟨e0,e1,e2,e3,e4,e5⟩
   walk_at "z"
   refine Zy (ZjJ (by omega)) ?_
   walk_at "z"
   refine Zy (ZjJ (by omega)) ?_
   walk_at "z"
   refine Zy (ZmE (b:=b) (by omega) hb1 (by omega) (bu j)) ?_
   refine ZeI (t:=ZO (n+1) (Wv (apW n G c top) G i j)) (by walk_at "r") ?_
   walk_at "z"
   refine Zy (ZlY (b:=b+2) (d:=fun k=>unC i k-unC j k) hn (by omega) (by omega) (fun a b ha hb y e=>(hG a b ha hb y e).mono (by omega)) (fun k hk=>(bc k hk).mono (by omega)) (Zlf hb1 bc i j)) ?_
   walk_at "z"
   refine Zy (Zjj hi hj) ?_
   rw[Zlh,show(fun k=>unC i k-unC j k-c k)=apC c i j from rfl,hw i j hi,Zk0]
   exact⟨Za1,by walk_at "r",by walk_at "r",by walk_at "r",by walk_at "r",by walk_at "r"⟩
  ·rintro σ ⟨e0,e1,e2,e3,e4,e5⟩
   exact⟨by rw[←Wv_row];exact e0,e1,e2,e3,e4⟩
 ·rintro σ ⟨e0,e1,e2,e3,e4⟩
  exact⟨_,e0,Wv_all⟩
theorem ZlZ{k:Int}(hi:i≤9000)(hk0:k≠0)(hk:Bd i k): Zfm [oT a,.int k]=some (oT (a.map fun x=>x.fdiv k)):=by
 apply Pk.eq
 unfold Zfm Zfl
 cases a with
 | none=>
  simp only[ZaO]
  walk_at "z"
  rfl
 | some x=>
  rw[Z8]
  walk_at "z"
  refine Zcq hk0 (ZcR hk hi) ?_
  rfl
noncomputable def prt(n:Nat)(G:Nat→Nat→Option Int)(c:Nat→Int)(top:Int)(i:Nat): Option Int:=(Z3 (grt n G (alC c i)) (some top)).map fun y=>y.fdiv (if c i<0 then -(c i)else c i)
noncomputable def alW(n:Nat)(G:Nat→Nat→Option Int)(c:Nat→Int)(top:Int)(Γ:Nat→Nat→Option Int)(m:Nat): Nat→Nat→Option Int:=fun a b=>if b=0∧1≤a∧a≤m∧0<c a then ZaB (Γ a 0) (prt n G c top a)else if a=0∧1≤b∧b≤m∧c b<0 then ZaB (Γ 0 b) (prt n G c top b)else Γ a b
theorem Zpy: alW n G c top Γ 0=Γ:=by
 funext a b
 unfold alW
 rw[if_neg (by omega),if_neg (by omega)]
theorem ZkD(h:0<c (m+1)): Zbr (alW n G c top Γ m) (m+1) 0 (ZaB (alW n G c top Γ m (m+1) 0) (prt n G c top (m+1)))=alW n G c top Γ (m+1):=by
 have e:alW n G c top Γ m (m+1) 0=Γ (m+1) 0:=by unfold alW;rw[if_neg (by omega),if_neg (by omega)]
 rw[e]
 funext a b
 unfold Zbr alW
 by_cases q:a=m+1∧b=0
 ·obtain⟨rfl,rfl⟩:=q
  rw[if_pos ⟨rfl,rfl⟩,if_pos ⟨rfl,by omega,by omega,h⟩]
 ·have i1:(b=0∧1≤a∧a≤m+1∧0<c a)↔(b=0∧1≤a∧a≤m∧0<c a):=by omega
  have i2:(a=0∧1≤b∧b≤m+1∧c b<0)↔(a=0∧1≤b∧b≤m∧c b<0):=by
   by_cases g:b=m+1
   ·subst g;omega
   ·omega
  rw[if_neg q]
  simp only[i1,i2]
theorem ZkE(h:c (m+1)<0): Zbr (alW n G c top Γ m) 0 (m+1) (ZaB (alW n G c top Γ m 0 (m+1)) (prt n G c top (m+1)))=alW n G c top Γ (m+1):=by
 have e:alW n G c top Γ m 0 (m+1)=Γ 0 (m+1):=by unfold alW;rw[if_neg (by omega),if_neg (by omega)]
 rw[e]
 funext a b
 unfold Zbr alW
 by_cases q:a=0∧b=m+1
 ·obtain⟨rfl,rfl⟩:=q
  rw[if_pos ⟨rfl,rfl⟩,if_neg (by omega),if_pos ⟨rfl,by omega,by omega,h⟩]
 ·have i1:(b=0∧1≤a∧a≤m+1∧0<c a)↔(b=0∧1≤a∧a≤m∧0<c a):=by
   by_cases g:a=m+1
   ·subst g;omega
   ·omega
  have i2:(a=0∧1≤b∧b≤m+1∧c b<0)↔(a=0∧1≤b∧b≤m∧c b<0):=by omega
  rw[if_neg q]
  simp only[i1,i2]
theorem Zn9(h:c (m+1)=0): alW n G c top Γ m=alW n G c top Γ (m+1):=by
 funext a b
 unfold alW
 have i1:(b=0∧1≤a∧a≤m+1∧0<c a)↔(b=0∧1≤a∧a≤m∧0<c a):=by
  by_cases g:a=m+1
  ·subst g;omega
  ·omega
 have i2:(a=0∧1≤b∧b≤m+1∧c b<0)↔(a=0∧1≤b∧b≤m∧c b<0):=by
  by_cases g:b=m+1
  ·subst g;omega
  ·omega
 simp only[i1,i2]
theorem Zp5(hn:n≤60)(hb:b≤900)(hb1:1≤b)(hG:GB b n G)(bc:∀i,i<n+1→Bd b (c i)): ZiQ [ZO (n+1) Γ,ZK n G R,ZT n c,.int top]=some (ZO (n+1) (alW n G c top Γ n)):=by
 apply Pk.eq
 unfold ZiQ ZiO
 refine ZhH rfl ?_
 have ht:ZK n G R=.tup [ZO (n+1) G,.lst (tab n fun i=>ZX (R i))]:=rfl
 have bu:∀i k,k<n+1→Bd b (unC i k):=fun i k _=>by
  rcases Zgs (i:=i) (k:=k)with e | e <;> rw[e]
  ·exact ZdA
  ·exact Zdi hb1
 rw[ht]
 walk_at "z"
 rw[←ht]
 refine Zbl (n:=n) (a:=fun i=>.int ((1+i:Nat):Int)) (P:=fun i σ=>σ 0=some (ZO (n+1) (alW n G c top Γ i))∧σ 1=some (ZK n G R)∧σ 2=some (ZT n c)∧σ 3=some (.int top)∧σ 4=some (.int n)) ?_ ⟨by rw[Zpy];rfl,rfl,rfl,rfl,rfl⟩ ?_ ?_
 ·refine Zhv (a:=1) (m:=n) (by omega) (by omega) ?_ rfl
  simp only[Zq,Zv,ZF,Zp,Zf,ZN,Option.bind_some,if_true,Zap]
  congr 3
  congr 1
  omega
 ·rintro i σ hi ⟨e0,e1,e2,e3,e4⟩
  have h1:1+i<n+1:=by omega
  have hs:ZT n c=.lst (tab (n+1) fun k=>.int (c k)):=rfl
  rw[hs]at e2
  walk_at "z"
  rw[←hs]at e2
  have ci:=bc (1+i) h1
  have hG2:GB (b+2) n G:=fun a b ha hb y e=>(hG a b ha hb y e).mono (by omega)
  have bc2:∀k,k<n+1→Bd (b+2) (c k):=fun k hk=>(bc k hk).mono (by omega)
  refine Zy (ZjJ (by omega)) ?_
  walk_at "z"
  refine Zy (Zg1 (b:=b) (by omega) (by omega) (bu (1+i)) ci) ?_
  walk_at "z"
  refine Zy (ZlY (b:=b+2) (d:=fun k=>unC (1+i) k*c (1+i)) hn (by omega) (by omega) hG2 bc2 (Zlg bc (1+i) h1)) ?_
  rw[show(fun k=>unC (1+i) k*c (1+i)-c k)=alC c (1+i)from rfl]
  have hp:∀k,k=(if c (1+i)<0 then -(c (1+i))else c (1+i))→(Z3 (grt n G (alC c (1+i))) (some top)).map (fun y=>y.fdiv k)=prt n G c top (1+i):=fun k e=>by unfold prt;rw[e]
  rw[Nat.add_comm 1 i]at *
  rcases Int.lt_trichotomy (c (i+1)) 0 with q | q | q
  ·have q':¬0<c (i+1):=by omega
   walk_at "z"
   refine ZeI (t:=ZO (n+1) (alW n G c top Γ i)) (by walk_at "r") ?_
   walk_at "z"
   refine Zy (ZlZ (i:=b) (by omega) (by omega) (show Bd b (-(c (i+1)))by unfold Bd at *;omega)) ?_
   walk_at "z"
   refine Zy (Zjj (a:=0) (by omega) h1) ?_
   rw[hp _ (by rw[if_pos q]),ZkE q]
   exact⟨Za1,by walk_at "r",by walk_at "r",by walk_at "r",by walk_at "r"⟩
  ·have q':¬0<c (i+1):=by omega
   have q'':¬c (i+1)<0:=by omega
   walk_at "z"
   rw[←Zn9 q]
   exact⟨by walk_at "r",by walk_at "r",by walk_at "r",by walk_at "r",by walk_at "r"⟩
  ·have q':¬c (i+1)<0:=by omega
   walk_at "z"
   refine ZeI (t:=ZO (n+1) (alW n G c top Γ i)) (by walk_at "r") ?_
   walk_at "z"
   refine Zy (ZlZ (i:=b) (by omega) (by omega) ci) ?_
   walk_at "z"
   refine Zy (Zjj (b:=0) h1 (by omega)) ?_
   rw[hp _ (by rw[if_neg q']),ZkD q]
   walk_at "z"
   exact⟨by walk_at "r",by walk_at "r",by walk_at "r",by walk_at "r",by walk_at "r"⟩
 ·rintro σ ⟨e0,e1,e2,e3,e4⟩
  exact⟨_,e0,rfl⟩
theorem Zjk{k:Int}(hn:n≤60)(hi:i<n+1): ZjE [ZT n c,.int i,.int k]=some (ZT n fun a=>c a+unC i a*k):=by
 apply Pk.eq
 unfold ZjE ZfN ZT
 by_cases h:(0:Int)<(i:Int)
 ·walk_at "z"
  show T.lst _=T.lst _
  congr 1
  refine Zbj fun a _=>?_
  show _=T.int (c a+unC i a*k)
  by_cases q:a=i
  ·rw[if_pos q,q,Zpl (by omega),Int.one_mul]
  ·rw[if_neg q,ZkZ q,Int.zero_mul,Int.add_zero]
 ·walk_at "z"
  show T.lst _=T.lst _
  congr 1
  refine Zbj fun a _=>?_
  have:i=0:=by omega
  show T.int (c a)=T.int (c a+unC i a*k)
  rw[this,Zpx,Int.zero_mul,Int.add_zero]
theorem ZgS{b:Option Int}: ZgY [oT a,oT b]=some (oT (ZaB a b)):=by
 apply Pk.eq
 unfold ZgY Zfn
 cases a with
 | none=>
  simp only[ZaO]
  walk_at "z"
  rw[Zvj]
 | some x=>
  rw[Z8]
  cases b with
  | none=>
   rw[ZaO]
   walk_at "z"
   rw[Zdn Zcz,Z8]
  | some y=>
   rw[Z8]
   walk_at "z"
   by_cases h:y<x
   ·rw[if_pos h,Zuq h,Z8]
   ·rw[if_neg h,Zdn (leO_some.mpr (by omega)),Z8]
noncomputable def amG(n:Nat)(G:Nat→Nat→Option Int)(c:Nat→Int)(top:Int): Nat→Nat→Option Int:=alW n G c top (apW n G c top) n
noncomputable def gT(N:Nat)(Γ:Nat→Nat→Option Int): T:=.lst (tab N fun a=>.lst (tab N fun b=>oT (Γ a b)))
theorem Zp6(hn:n≤60)(hb:b≤900)(hb1:1≤b)(hG:GB b n G)(bc:∀i,i<n+1→Bd b (c i))(hc:∀y,grt n G (fun k=>-(c k))=some y→-y≤top)(h:Zfw [ZK n (amG n G c top) R]=some D): ZbZ [ZK n G R,ZT n c,.int top]=some D:=by
 apply Pk.eq
 unfold ZbZ ZdC
 have ht:ZK n G R=.tup [gT (n+1) G,.lst (tab n fun i=>ZX (R i))]:=rfl
 have hs:ZT n c=.lst (tab (n+1) fun k=>.int (c k)):=rfl
 have hG2:GB (b+2) n G:=fun a b ha hb y e=>(hG a b ha hb y e).mono (by omega)
 have cp:∀{σ:TL} {N:TL→Prop},σ 0=some (ZK n G R)→(∀t,t=gT (n+1) G→N (ZN σ 5 t))→Psk (Zar 5 (Zav (ZaM (Zp ZE (Zf 0) (Zv 0))) (Zaa 102) Zan (pFl (ZW ZcE (Zq (Zf 102) ZF)))) σ) (fun t=>t=D) N:=fun e k=>by
  rw[ht]at e
  unfold gT at e
  walk_at "z"
  refine Zb1 (n:=n+1) (a:=fun a=>.lst (tab (n+1) fun b=>oT (G a b))) (b:=fun a=>.lst (tab (n+1) fun b=>oT (G a b))) (by omega) ?_ (fun a ha=>?_) ?_
  ·walk_at "z"
   rfl
  ·walk_at "z"
   rfl
  ·exact k _ rfl
 have hne:∀{Q:T→Prop},Q (.bool false)→Pk (qIs (ZK n G R) .none) Q:=fun h=>⟨_,by rw[ht];rfl,h⟩
 rw[hs]
 walk_at "z"
 refine hne ?_
 walk_at "z"
 refine Zb1 (n:=n+1) (a:=fun k=>.int (c k)) (b:=fun k=>.int (-(c k))) (by omega) ?_ (fun k hk=>?_) ?_
 ·walk_at "z"
  rfl
 ·walk_at "z"
  rfl
 rw[show(T.lst (tab (n+1) fun k=>T.int (-(c k))))=ZT n (fun k=>-(c k))from rfl]
 walk_at "z"
 refine Zy (ZgN (b:=b) hn (by omega) hG (ZhP bc)) ?_
 refine Zb7 (fun σ'=>σ' 0=some (ZK n G R)∧σ' 1=some (.lst (tab (n+1) fun k=>.int (c k)))∧σ' 2=some (.int top)∧σ' 3=some (ZT n (fun k=>-(c k)))) ?_ ?_
 ·cases e:grt n G (fun k=>-(c k))with
  | none=>
   rw[ZaO]
   walk_at "z"
   exact⟨by walk_at "r",by walk_at "r",by walk_at "r",by walk_at "r"⟩
  | some y=>
   have hy:=hc y e
   have hy':¬-y>top:=by omega
   rw[Z8]
   walk_at "z"
   exact⟨by walk_at "r",by walk_at "r",by walk_at "r",by walk_at "r"⟩
 rintro σ1 ⟨e0,e1,e2,e3⟩
 have hli:∀{a b:Option Int},Pk (ZgY [oT a,oT b]) fun t=>t=oT (ZaB a b):=Zy ZgS rfl
 refine Zgn ?_
 refine cp e0 fun t et=>?_
 subst et
 refine Zb7 (fun σ'=>σ' 0=some (ZK n G R)∧σ' 1=some (.lst (tab (n+1) fun k=>.int (c k)))∧σ' 2=some (.int top)∧σ' 3=some (ZT n (fun k=>-(c k)))∧σ' 5=some (gT (n+1) (apW n G c top))) ?_ ?_
 ·refine Zbl (n:=n+1) (a:=fun i=>.int i) (P:=fun i σ'=>σ' 0=some (ZK n G R)∧σ' 1=some (.lst (tab (n+1) fun k=>.int (c k)))∧σ' 2=some (.int top)∧σ' 3=some (ZT n (fun k=>-(c k)))∧σ' 5=some (gT (n+1) (Wv (apW n G c top) G i 0))) ?_ ⟨by walk_at "r",by walk_at "r",by walk_at "r",by walk_at "r",by rw[ZpA];exact Za1⟩ ?_ ?_
  ·unfold gT
   walk_at "z"
   rfl
  ·rintro i σ hi ⟨f0,f1,f2,f3,f5⟩
   refine Zbl (n:=n+1) (a:=fun j=>.int j) (P:=fun j σ'=>σ' 0=some (ZK n G R)∧σ' 1=some (.lst (tab (n+1) fun k=>.int (c k)))∧σ' 2=some (.int top)∧σ' 3=some (ZT n (fun k=>-(c k)))∧σ' 5=some (gT (n+1) (Wv (apW n G c top) G i j))∧σ' 6=some (.int i)) ?_ ⟨by walk_at "r",by walk_at "r",by walk_at "r",by walk_at "r",by walk_at "r",by walk_at "r"⟩ ?_ ?_
   ·unfold gT at f5
    walk_at "z"
    rfl
   ·rintro j σ hj ⟨g0,g1,g2,g3,g5,g6⟩
    have ea:(fun a=>-(c a)+unC i a*1+unC j a * -1)=apC c i j:=by funext a;unfold apC;omega
    have same:apW n G c top i j=G i j→Wv (apW n G c top) G i (j+1)=Wv (apW n G c top) G i j:=fun e=>by rw[←Zk0,Zkb (by rw[Zlh,e])]
    walk_at "z"
    refine Zy (Zjk hn hi) ?_
    walk_at "z"
    refine Zy (Zjk hn hj) ?_
    rw[ea]
    walk_at "z"
    refine Zy (ZgN (b:=b+2) hn (by omega) hG2 (Zlf hb1 bc i j)) ?_
    by_cases q:(i:Int)=j
    ·have q2:i=j:=by omega
     walk_at "z"
     rw[same (by unfold apW;rw[if_pos q2])]
     exact⟨by walk_at "r",by walk_at "r",by walk_at "r",by walk_at "r",by walk_at "r",by walk_at "r"⟩
    ·have q2:¬i=j:=by omega
     cases e:grt n G (apC c i j)with
     | none=>
      rw[ZaO]
      walk_at "z"
      rw[same (by unfold apW;rw[if_neg q2,e];exact Zdn Zcz)]
      exact⟨by walk_at "r",by walk_at "r",by walk_at "r",by walk_at "r",by walk_at "r",by walk_at "r"⟩
     | some y=>
      rw[Z8]
      unfold gT at g5
      walk_at "z"
      refine Zy (ZgS (b:=some (y+top))) ?_
      refine⟨ZdJ,?_⟩
      walk_at "z"
      rw[Zj9 (w:=oT (ZaB (Wv (apW n G c top) G i j i j) (some (y+top)))) (v:=apW n G c top i j) (by rw[Zlh];unfold apW;rw[if_neg q2,e];rfl),Zk0]
      exact⟨by walk_at "r",by walk_at "r",by walk_at "r",by walk_at "r",Za1,by walk_at "r"⟩
   ·rintro σ ⟨g0,g1,g2,g3,g5,g6⟩
    exact⟨g0,g1,g2,g3,by rw[show gT (n+1) (Wv (apW n G c top) G (i+1) 0)=gT (n+1) (Wv (apW n G c top) G i (n+1))from Wv_row.symm];exact g5⟩
  ·rintro σ ⟨g0,g1,g2,g3,g5⟩
   exact⟨g0,g1,g2,g3,by rw[show gT (n+1) (apW n G c top)=gT (n+1) (Wv (apW n G c top) G (n+1) 0)from Wv_all.symm];exact g5⟩
 clear e0 e1 e2 e3
 rintro σ2 ⟨e0,e1,e2,e3,e5⟩
 refine Zb7 (fun σ'=>σ' 0=some (ZK n G R)∧σ' 5=some (gT (n+1) (amG n G c top))) ?_ ?_
 ·refine Zbl (n:=n) (a:=fun i=>.int ((1+i:Nat):Int)) (P:=fun i σ'=>σ' 0=some (ZK n G R)∧σ' 1=some (.lst (tab (n+1) fun k=>.int (c k)))∧σ' 2=some (.int top)∧σ' 3=some (ZT n (fun k=>-(c k)))∧σ' 5=some (gT (n+1) (alW n G c top (apW n G c top) i))) ?_ ⟨by walk_at "r",by walk_at "r",by walk_at "r",by walk_at "r",by rw[Zpy];exact e5⟩ ?_ ?_
  ·refine Zhv (a:=1) (m:=n) (by omega) (by omega) ?_ rfl
   simp only[Zq,Zv,ZF,Zf,ZW,e5,gT,Zbg,Zae,Option.bind_some]
   congr 3
   congr 1
   omega
  ·rintro i σ hi ⟨g0,g1,g2,g3,g5⟩
   have h1:1+i<n+1:=by omega
   have ci:=bc (1+i) h1
   have ea:(fun a=>-(c a)+unC (1+i) a*c (1+i))=alC c (1+i):=by funext a;unfold alC;omega
   walk_at "z"
   refine Zy (Zjk hn h1) ?_
   rw[ea]
   walk_at "z"
   refine Zy (ZgN (b:=b+2) hn (by omega) hG2 (Zlg bc (1+i) h1)) ?_
   rw[Nat.add_comm 1 i]at *
   have no:grt n G (alC c (i+1))=none→c (i+1)≠0→alW n G c top (apW n G c top) (i+1)=alW n G c top (apW n G c top) i:=fun e q=>by
    have ep:prt n G c top (i+1)=none:=by unfold prt;rw[e];rfl
    rcases Int.lt_trichotomy (c (i+1)) 0 with w | w | w
    ·rw[←ZkE w,ep,Zkb (Zdn Zcz)]
    ·exact absurd w q
    ·rw[←ZkD w,ep,Zkb (Zdn Zcz)]
   rcases Int.lt_trichotomy (c (i+1)) 0 with q | q | q
   ·have q':¬0<c (i+1):=by omega
    cases e:grt n G (alC c (i+1))with
    | none=>
     rw[ZaO]
     walk_at "z"
     rw[no e (by omega)]
     exact⟨by walk_at "r",by walk_at "r",by walk_at "r",by walk_at "r",by walk_at "r"⟩
    | some y=>
     rw[Z8]
     unfold gT at g5
     walk_at "z"
     refine Zcq (by omega) (ZcR (i:=b) (show Bd b _ by unfold Bd at *;omega) (by omega)) ?_
     walk_at "z"
     have ep:prt n G c top (i+1)=some ((y+top).fdiv (if c (i+1)<0 then -(c (i+1))else c (i+1))):=by unfold prt;rw[e];rfl
     refine Zy (ZgS (b:=some _)) ?_
     refine⟨ZdJ,?_⟩
     walk_at "z"
     rw[←ep,show Int.toNat 0=0 from rfl]
     refine ZoG (n:=n+1) (m:=n+1) (i:=0) (j:=i+1) (f:=fun a b=>oT (alW n G c top (apW n G c top) i a b)) (by walk_at "r") rfl (by omega) (by omega) (by omega) ?_
     rw[Zj9 (v:=ZaB (alW n G c top (apW n G c top) i 0 (i+1)) (prt n G c top (i+1))) rfl,ZkE q]
     exact⟨by walk_at "r",by walk_at "r",by walk_at "r",by walk_at "r",Za1⟩
   ·have q':¬0<c (i+1):=by omega
    have q'':¬c (i+1)<0:=by omega
    walk_at "z"
    rw[←Zn9 q]
    exact⟨by walk_at "r",by walk_at "r",by walk_at "r",by walk_at "r",by walk_at "r"⟩
   ·have q':¬c (i+1)<0:=by omega
    cases e:grt n G (alC c (i+1))with
    | none=>
     rw[ZaO]
     walk_at "z"
     rw[no e (by omega)]
     exact⟨by walk_at "r",by walk_at "r",by walk_at "r",by walk_at "r",by walk_at "r"⟩
    | some y=>
     rw[Z8]
     unfold gT at g5
     walk_at "z"
     refine Zcq (by omega) (ZcR (i:=b) ci (by omega)) ?_
     walk_at "z"
     have ep:prt n G c top (i+1)=some ((y+top).fdiv (c (i+1))):=by unfold prt;rw[e,if_neg q'];rfl
     refine Zy (ZgS (b:=some _)) ?_
     refine⟨ZdJ,?_⟩
     walk_at "z"
     rw[←ep,show Int.toNat 0=0 from rfl]
     refine ZoG (n:=n+1) (m:=n+1) (i:=i+1) (j:=0) (f:=fun a b=>oT (alW n G c top (apW n G c top) i a b)) (by walk_at "r") (by omega) rfl (by omega) (by omega) ?_
     rw[Zj9 (v:=ZaB (alW n G c top (apW n G c top) i (i+1) 0) (prt n G c top (i+1))) rfl,ZkD q]
     rw[show(T.lst (tab (n+1) fun a=>T.lst (tab (n+1) fun b=>oT (alW n G c top (apW n G c top) (i+1) a b))))=gT (n+1) (alW n G c top (apW n G c top) (i+1))from rfl]
     walk_at "z"
     exact⟨by walk_at "r",by walk_at "r",by walk_at "r",by walk_at "r",by walk_at "r"⟩
  ·rintro σ ⟨g0,g1,g2,g3,g5⟩
   exact⟨g0,g5⟩
 rintro σ3 ⟨f0,f5⟩
 rw[ht]at f0
 walk_at "z"
 exact Zy h rfl
theorem ZkF{b:Option Int}(ha:∀y,a=some y→Bd k y)(hb:∀y,b=some y→Bd k y): ∀y,ZaB a b=some y→Bd k y:=fun y e=>by
 rcases ZdK a b with q | q
 ·exact ha y (q▸e)
 ·exact hb y (q▸e)
theorem Ztm{k:Int}(hk:0<k): (x.fdiv k).natAbs≤x.natAbs:=by
 rw[Int.fdiv_eq_ediv_of_nonneg x (by omega)]
 have e1:x / k*k≤x:=Int.ediv_mul_le x (by omega)
 have e2:x<(x / k+1)*k:=Int.lt_ediv_add_one_mul_self x hk
 generalize x / k=q at *
 rcases Int.lt_trichotomy q 0 with h | h | h
 ·-- q≤-1,x<(q+1) k≤q+1
  have:(q+1)*k≤q+1:=by
   have:=Int.mul_le_mul_of_nonpos_left (a:=q+1) (b:=k) (c:=1) (by omega) (by omega)
   simpa using this
  omega
 ·omega
 ·have:q*1≤q*k:=Int.mul_le_mul_of_nonneg_left (by omega) (by omega)
  omega
theorem Zur{k:Int}(h:Bd i x)(hk:0<k): Bd i (x.fdiv k):=Nat.lt_of_le_of_lt (Ztm hk) h
theorem ZvL{B:Nat}(hb1:1≤b)(hG:GB b n G)(bc:∀i,i<n+1→Bd b (c i))(bt:Bd b top)(hB:b+b+n+6≤B): SmG B n (amG n G c top):=by
 have hG2:GB (b+2) n G:=fun a b ha hb y e=>(hG a b ha hb y e).mono (by omega)
 have s1:∀{d:Nat→Int},(∀k,k<n+1→Bd (b+2) (d k))→∀y,Z3 (grt n G d) (some top)=some y→Bd B y:=fun bd y e=>by
  obtain⟨p,q,h1,h2,rfl⟩:=addO_some.mp e
  cases h2
  exact((ZoP hG2 bd p h1).add (bt.mono (by omega))).mono (by omega)
 have sG:∀i j,i<n+1→j<n+1→∀y,G i j=some y→Bd B y:=fun i j hi hj y e=>(hG i j hi hj y e).mono (by omega)
 have sA:∀i j,i<n+1→j<n+1→∀y,apW n G c top i j=some y→Bd B y:=fun i j hi hj y e=>by
  unfold apW at e
  split at e
  ·exact sG i j hi hj y e
  ·exact ZkF (sG i j hi hj) (s1 (Zlf hb1 bc i j)) y e
 have sP:∀i,i<n+1→c i≠0→∀y,prt n G c top i=some y→Bd B y:=fun i hi h0 y e=>by
  unfold prt at e
  obtain⟨z,h1,rfl⟩:=Zz1.mp e
  exact Zur (s1 (Zlg bc i hi) z h1) (by split <;> omega)
 intro i j hi hj y e
 show Bd B y
 unfold amG alW at e
 split at e
 ·rename_i q
  exact ZkF (sA i 0 hi (by omega)) (sP i hi (by omega)) y e
 ·split at e
  ·rename_i q
   exact ZkF (sA 0 j (by omega) hj) (sP j hj (by omega)) y e
  ·exact sA i j hi hj y e
theorem ZvS(hd:∀i,i<n+1→G i i=some 0): ∀i,i<n+1→amG n G c top i i=some 0:=fun i hi=>by
 unfold amG alW
 rw[if_neg (by omega),if_neg (by omega)]
 unfold apW
 rw[if_pos rfl,hd i hi]
theorem ZkG{x:Nat→Int}: ∀i,i<n+1→ZaI (unC i) x n=Zao x i
 | 0,_=>by rw[Zpx,Zn8];rfl
 | i+1,hi=>by rw[Zpm (by omega),if_pos (by omega)];rfl
theorem ZnC{u x:Nat→Int}{k:Int}: ∀n,ZaI (fun a=>u a*k) x n=ZaI u x n*k
 | 0=>rfl
 | n+1=>by
  show ZaI (fun a=>u a*k) x n+u (n+1)*k*x n=(ZaI u x n+u (n+1)*x n)*k
  rw[ZnC n,Int.add_mul,Int.mul_assoc,Int.mul_comm k,←Int.mul_assoc]
theorem Zkc{b:Option Int}(h:ZaB a b=some y)(ha:∀z,a=some z→x≤z)(hb:∀z,b=some z→x≤z): x≤y:=by
 rcases ZdK a b with q | q
 ·exact ha y (q▸h)
 ·exact hb y (q▸h)
theorem Zus{x:Nat→Int}(h:Zbi n G R x)(ht:ZaI c x n≤top): Zbi n (amG n G c top) R x:=by
 have f1:∀i j,i<n+1→j<n+1→∀y,apW n G c top i j=some y→Zao x i-Zao x j≤y:=fun i j hi hj y e=>by
  unfold apW at e
  split at e
  ·exact h.1 i j hi hj y e
  ·refine Zkc e (h.1 i j hi hj) fun z ez=>?_
   obtain⟨p,q,h1,h2,rfl⟩:=addO_some.mp ez
   cases h2
   have:=ZkY h h1
   rw[show apC c i j=fun k=>(fun a=>unC i a-unC j a) k-c k from rfl,ZhR,ZhR,ZkG i hi,ZkG j hj]at this
   omega
 have f2:∀i,i<n+1→∀z,Z3 (grt n G (alC c i)) (some top)=some z→Zao x i*c i≤z:=fun i hi z ez=>by
  obtain⟨p,q,h1,h2,rfl⟩:=addO_some.mp ez
  cases h2
  have:=ZkY h h1
  rw[show alC c i=fun k=>(fun a=>unC i a*c i) k-c k from rfl,ZhR,ZnC,ZkG i hi]at this
  omega
 refine⟨fun i j hi hj y e=>?_,h.2⟩
 unfold amG alW at e
 split at e
 ·rename_i q
  obtain⟨rfl,q1,q2,q3⟩:=q
  refine Zkc e (f1 i 0 hi hj) fun z ez=>?_
  unfold prt at ez
  obtain⟨p,h1,rfl⟩:=Zz1.mp ez
  have:=f2 i hi p h1
  rw[if_neg (by omega),show Zao x 0=0 from rfl,Int.sub_zero]
  exact by rw[Int.fdiv_eq_ediv_of_nonneg _ (by omega)];exact(Int.le_ediv_iff_mul_le q3).mpr this
 ·split at e
  ·rename_i q
   obtain⟨rfl,q1,q2,q3⟩:=q
   refine Zkc e (f1 0 j hi hj) fun z ez=>?_
   unfold prt at ez
   obtain⟨p,h1,rfl⟩:=Zz1.mp ez
   have:=f2 j hj p h1
   rw[if_pos q3,show Zao x 0=0 from rfl,Int.zero_sub]
   rw[Int.fdiv_eq_ediv_of_nonneg _ (by omega)];refine(Int.le_ediv_iff_mul_le (by omega)).mpr ?_
   rw[Int.neg_mul_neg]
   exact this
  ·exact f1 i j hi hj y e
theorem Zut(hn:n≤100): Dp 8 (ZO (n+1) G):=by
 refine .lst (fun t m=>?_) (by rw[Zae];omega)
 obtain⟨i,hi,rfl⟩:=Zc4 m
 refine .lst (fun t m=>?_) (by rw[Zae];omega)
 obtain⟨j,hj,rfl⟩:=Zc4 m
 exact ZvG
theorem ZqO{c:T}: Zcc [.none,c,t]=some .none:=by
 apply Pk.eq
 unfold Zcc ZdG
 walk_at "z"
 rfl
theorem Zir{c:T}: ZbZ [.none,c,t]=some .none:=by
 apply Pk.eq
 unfold ZbZ ZdC
 walk_at "z"
 rfl
theorem Zoa(hn:n≤60)(hb:b≤900)(hb1:1≤b)(hG:GB b n G)(bc:∀i,i<n+1→Bd b (c i)): ZhJ [ZK n G R,ZT n c]=some (oT ((grt n G fun i=>-(c i)).map fun y=>y * -1)):=Ztk hn (by omega) hb1 hG bc fun y e=>(ZoP hG (ZhP bc) y e).mono (by omega)
theorem ZrM(hn:n≤60)(hb:b≤900)(hb1:1≤b)(hG:GB b n G)(bc:∀i,i<n+1→Bd b (c i))(hd:∀i,i<n+1→G i i=some 0)(hc:∀y,grt n G (fun k=>-(c k))=some y→-y≤top)(h:Zgh [ZK n (amG n G c top) R]=some D): Zcc [ZK n G R,ZT n c,.int top]=some D:=by
 apply Pk.eq
 unfold Zcc ZdG
 have ht:ZK n G R=.tup [ZO (n+1) G,.lst (tab n fun i=>ZX (R i))]:=rfl
 have hne:∀{Q:T→Prop},Q (.bool false)→Pk (qIs (ZK n G R) .none) Q:=fun h=>⟨_,by rw[ht];rfl,h⟩
 have hx:ZfY [oT ((grt n G fun i=>-(c i)).map fun y=>y * -1),.int top]=some (.bool false):=by
  rw[show T.int top=oT (some top)from rfl,Zm8,Zbo]
  rintro⟨x,y,h1,h2,h3⟩
  cases h2
  obtain⟨z,e1,rfl⟩:=Zz1.mp h1
  have:=hc z e1
  omega
 have hg:∀{Q:T→Prop},Q (ZO (n+1) G)→Pk (ZE (ZK n G R) (.int 0)) Q:=fun h=>⟨_,by rw[ht];rfl,h⟩
 walk_at "z"
 refine hne ?_
 walk_at "z"
 refine Zy (Zoa hn hb hb1 hG bc) ?_
 walk_at "z"
 refine Zy hx ?_
 walk_at "z"
 refine hg ?_
 walk_at "z"
 refine Zy (Ztj (Zut (by omega))) ?_
 walk_at "z"
 refine ZeI (t:=ZO (n+1) G) (by walk_at "r") ?_
 walk_at "z"
 refine Zy (Zp4 hn hb hb1 hG bc hd hc) ?_
 walk_at "z"
 refine ZeI (t:=ZO (n+1) (apW n G c top)) (by walk_at "r") ?_
 walk_at "z"
 refine Zy (Zp5 hn hb hb1 hG bc) ?_
 rw[ht]
 walk_at "z"
 exact Zy h rfl
theorem Zra(hn:n≤60)(hb:b≤900)(hb1:1≤b)(hG:GB b n G)(bc:∀i,i<n+1→Bd b (c i))(e:grt n G (fun k=>-(c k))=some y)(hy:top < -y): Zcc [ZK n G R,ZT n c,.int top]=some .none∧ZbZ [ZK n G R,ZT n c,.int top]=some .none:=by
 have ht:ZK n G R=.tup [ZO (n+1) G,.lst (tab n fun i=>ZX (R i))]:=rfl
 have hne:∀{Q:T→Prop},Q (.bool false)→Pk (qIs (ZK n G R) .none) Q:=fun h=>⟨_,by rw[ht];rfl,h⟩
 have hx:ZfY [oT ((grt n G fun i=>-(c i)).map fun y=>y * -1),.int top]=some (.bool true):=by
  rw[show T.int top=oT (some top)from rfl,Zm8,ZaH]
  exact⟨y * -1,top,by rw[e];rfl,rfl,by omega⟩
 constructor
 ·apply Pk.eq
  unfold Zcc ZdG
  walk_at "z"
  refine hne ?_
  walk_at "z"
  refine Zy (Zoa hn hb hb1 hG bc) ?_
  walk_at "z"
  refine Zy hx ?_
  walk_at "z"
  rfl
 ·apply Pk.eq
  unfold ZbZ ZdC
  have hs:ZT n c=.lst (tab (n+1) fun k=>.int (c k)):=rfl
  rw[hs]
  walk_at "z"
  refine hne ?_
  walk_at "z"
  refine Zb1 (n:=n+1) (a:=fun k=>.int (c k)) (b:=fun k=>.int (-(c k))) (by omega) ?_ (fun k hk=>?_) ?_
  ·walk_at "z"
   rfl
  ·walk_at "z"
   rfl
  rw[show(T.lst (tab (n+1) fun k=>T.int (-(c k))))=ZT n (fun k=>-(c k))from rfl]
  walk_at "z"
  refine Zy (ZgN (b:=b) hn (by omega) hG (ZhP bc)) ?_
  have hy':-y>top:=hy
  rw[e,Z8]
  walk_at "z"
  rfl
theorem Zsv{B:Nat}(hn:n≤20)(hb1:1≤b)(hb:b≤900)(hB:b+b+n+6≤B)(hk:B*n+B+2*n+5≤7000)(hd:∀i,i<n+1→G i i=some 0)(sG:SmG b n G)(sR:SmR b n R)(ok:∀t,t<n→RestOk (R t))(bc:∀i,i<n+1→Bd b (c i))(bt:Bd b top): ∃D,Zcc [ZK n G R,ZT n c,.int top]=some D∧ZbZ [ZK n G R,ZT n c,.int top]=some D∧Tn n (B*n+B+3*n+9) (fun x=>Zbi n G R x∧ZaI c x n≤top) D:=by
 by_cases hc:∀y,grt n G (fun k=>-(c k))=some y→-y≤top
 ·obtain⟨D,e1,e2,hD⟩:=Zup (B:=B) hn (by omega) hk (ZvS (c:=c) (top:=top) hd) ok (ZvL hb1 sG bc bt hB) (fun t ht=>⟨ZaE (sR t ht).1 (by omega),ZaE (sR t ht).2 (by omega)⟩)
  exact⟨D,ZrM (by omega) hb hb1 sG bc hd hc e1,Zp6 (by omega) hb hb1 sG bc hc e2,hD.sub (Zz10 _) fun x h=>Zus h.1 h.2⟩
 ·have:∃y,grt n G (fun k=>-(c k))=some y∧top < -y:=by
   refine Classical.byContradiction fun q=>hc fun y e=>?_
   refine Classical.byContradiction fun z=>q ⟨y,e,by omega⟩
  obtain⟨y,e,hy⟩:=this
  obtain⟨a1,a2⟩:=Zra (R:=R) (b:=b) (by omega) hb hb1 sG bc e hy
  refine⟨.none,a1,a2,.inl ⟨rfl,fun x h=>?_⟩⟩
  have:=ZkY h.1 e
  rw[ZoO]at this
  omega
theorem Zpn{n b:Nat}{c x:Nat→Int}(bc:∀i,i<n+1→Bd b (c i))(bx:∀i,i<n→Bd b (x i)): ∀j,j≤n→Bd (b+b+j) (ZaI c x j)
 | 0,_=>(bc 0 (by omega)).mono (by omega)
 | j+1,hj=>by
  have h1:=Zpn bc bx j (by omega)
  have h2:=((bc (j+1) (by omega)).mul (bx j (by omega))).mono (show b+b≤b+b+j by omega)
  exact h1.add h2
noncomputable def ZbJ(c:Nat→Int)(top:Int): Nat→Int:=fun k=>if k=0 then c 0-top else c k
theorem Zvk(bc:∀i,i<n+1→Bd b (c i))(bt:Bd b top): ∀i,i<n+1→Bd (b+1) (ZbJ c top i):=fun i hi=>by
 unfold ZbJ
 split
 ·exact(bc 0 (by omega)).sub bt
 ·exact(bc i hi).mono (by omega)
theorem su: PyData.strOk (Str.ofString "under")=true:=by decide +kernel
noncomputable def unT(n:Nat)(c:Nat→Int): T:=.tup [.str (Str.ofString "under"),ZT n c]
theorem Zsw: (fun k=>c k * -1)=fun k=>-(c k):=by funext k;omega
theorem Zp7(h:Zcc [T0,ZT n c,.int (-1)]=some D): Zd9 [T0,ZT n c,.bool true]=some D:=by
 apply Pk.eq
 unfold Zd9 Zd8
 walk_at "z"
 exact Zy h rfl
theorem Zqr(hn:n≤900)(hb1:1≤b)(hb:b≤1000)(bc:∀i,i<n+1→Bd b (c i))(h:Zcc [T0,ZT n fun k=>-(c k),.int 0]=some D): Zd9 [T0,ZT n c,.bool false]=some D:=by
 apply Pk.eq
 unfold Zd9 Zd8
 walk_at "z"
 refine Zy (Zg1 (b:=b) (by omega) (by omega) bc (show Bd b (-1)by unfold Bd;have:=Zdi hb1;unfold Bd at this;simpa using this)) ?_
 rw[Zsw]
 walk_at "z"
 exact Zy h rfl
theorem ZoQ{b:Bool}(hT:T0=.none∨∃G R,T0=ZK n G R)(h0:T0=.none→D=.none)(h:Zd9 [T0,ZT n c,.bool b]=some D): Zc9 [T0,unT n c,.bool b]=some D:=by
 apply Pk.eq
 unfold Zc9 ZeJ
 rcases hT with rfl | ⟨G,R,rfl⟩
 ·rw[h0 rfl]
  walk_at "z"
  rfl
 ·have ht:ZK n G R=.tup [ZO (n+1) G,.lst (tab n fun i=>ZX (R i))]:=rfl
  have hne:∀{Q:T→Prop},Q (.bool false)→Pk (qIs (ZK n G R) .none) Q:=fun h=>⟨_,by rw[ht];rfl,h⟩
  unfold unT
  walk_at "z"
  refine hne ?_
  walk_at "z"
  refine ZdP (n:=1) (m:=1) (.str su) (.str su) ?_
  rw[ZaH rfl]
  walk_at "z"
  exact Zy h rfl
theorem ZnD{a b:T}: Zc9 [.none,a,b]=some .none:=by
 apply Pk.eq
 unfold Zc9 ZeJ
 walk_at "z"
 rfl
structure F44(n:Nat)(T0:T)(c:Nat→Int)(top:Int): Prop where
 a:∃D,Zcc [T0,ZT n c,.int top]=some D∧ZbZ [T0,ZT n c,.int top]=some D∧DueOk n D
 t:∃D,Zc9 [T0,unT n (ZbJ c top),.bool true]=some D∧ZbZ [T0,ZT n (ZbJ c top),.int (-1)]=some D∧DueOk n D
 f:∃D,Zc9 [T0,unT n (ZbJ c top),.bool false]=some D∧ZbZ [T0,ZT n (fun k=>-(ZbJ c top k)),.int 0]=some D∧DueOk n D
 p:Pln 3 T0
 k:ZdF [T0]=some T0
theorem Ztn(hn:n≤4)(bc:∀i,i<n+1→Bd 290 (c i))(bt:Bd 290 top)(hT:T0=.none∨∃(G:Nat→Nat→Option Int) (R:Nat→Int×Int),T0=ZK n G R∧(∀i,i<n+1→G i i=some 0)∧(∀t,t<n→RestOk (R t))∧SmG 137 n G∧SmR 137 n R): F44 n T0 c top:=by
 rcases hT with rfl | ⟨G,R,rfl,hd,ok,sG,sR⟩
 ·exact⟨⟨.none,ZqO,Zir,.inl rfl⟩,⟨.none,ZnD,Zir,.inl rfl⟩,⟨.none,ZnD,Zir,.inl rfl⟩,.none,Zsg⟩
 ·have sG2:SmG 291 n G:=fun i j hi hj b e=>ZaE (sG i j hi hj b e) (by decide)
  have sR2:SmR 291 n R:=fun t ht=>⟨ZaE (sR t ht).1 (by decide),ZaE (sR t ht).2 (by decide)⟩
  have hm:600*n≤600*4:=Nat.mul_le_mul (Zz10 _) hn
  have bl:=Zvk bc bt
  have go:∀{d:Nat→Int} {u:Int},(∀i,i<n+1→Bd 291 (d i))→Bd 291 u→∃D,Zcc [ZK n G R,ZT n d,.int u]=some D∧ZbZ [ZK n G R,ZT n d,.int u]=some D∧DueOk n D:=fun bd bu=>by
   obtain⟨D,e1,e2,hD⟩:=Zsv (b:=291) (B:=600) (by omega) (by decide) (by decide) (by omega) (by omega) hd sG2 sR2 ok bd bu
   exact⟨D,e1,e2,hD.due⟩
  refine⟨go (fun i hi=>(bc i hi).mono (by decide)) (bt.mono (by decide)),?_,?_,Zki,Zub (by omega)⟩
  ·obtain⟨D,e1,e2,hD⟩:=go (u:=-1) bl ((show Bd 1 (-1)by unfold Bd;decide).mono (by decide))
   exact⟨D,ZoQ (.inr ⟨G,R,rfl⟩) (fun h=>by cases h) (Zp7 e1),e2,hD⟩
  ·obtain⟨D,e1,e2,hD⟩:=go (u:=0) (ZhP bl) ZdA
   exact⟨D,ZoQ (.inr ⟨G,R,rfl⟩) (fun h=>by cases h) (Zqr (b:=291) (by omega) (by decide) (by decide) bl e1),e2,hD⟩
theorem ZoR: Pln 1 (ZT n c):=by
 have:=ZkC (tab (n+1) c)
 rw[tab_map]at this
 exact this
theorem Zpo: Pln 2 (unT n c):=.tup fun t m=>by
 simp at m
 rcases m with rfl | rfl
 ·exact .str su
 ·exact ZoR
theorem Zuu: [T.int (c 0-top)]++(tab (n+1) fun i=>T.int (c i)).drop 1=tab (n+1) fun i=>T.int (ZbJ c top i):=by
 apply List.ext_getElem
 ·simp[tab]
 ·intro i h1 h2
  cases i with
  | zero=>simp[tab,ZbJ]
  | succ i=>simp[tab,ZbJ]
theorem Zuv(hn:n≤4)(e3:σ 3=some T0)(e4:σ 4=some (ZT n c))(e5:σ 5=some (.int top))(F:F44 n T0 c top): Psk ((Z1 (Zar 7 (ZW ZdF (Zq (Zf 3) ZF))) (Z1 (Zar 8 (ZW ZcE (Zq (Zf 4) ZF))) (Z1 (Zar 9 (ZW Zcc (Zq (Zf 3) (Zq (Zf 8) (Zq (Zf 5) ZF))))) (Z1 (qIf (bOr (Z9 (Zp qNe (Zf 3) (Zf 7))) (bOr (Z9 (Zp qNe (Zf 8) (Zf 4))) (bOr (ZeP (Z9 (ZW Zc1 (Zq (Zf 9) (Zq (ZW ZbZ (Zq (Zf 7) (Zq (Zf 4) (Zq (Zf 5) ZF)))) ZF))))) Zgm))) (Zaq (ZdT false)) ZaC) (Z1 (Zd5 9 Zfi ZF) (Z1 (Zar 10 (Zp Zap (ZcU (Zq (Zp Zck (Zp ZE (Zf 4) (Zv 0)) (Zf 5)) ZF)) (Zdr (Zf 4) 1))) (Z1 (Zar 8 (ZcX (Zq (Zik (Str.ofString "under")) (Zq (ZW ZcE (Zq (Zf 10) ZF)) ZF)))) (Z1 (qIf (ZeP (Z9 (ZW Zc1 (Zq (ZW Zc9 (Zq (Zf 3) (Zq (Zf 8) (Zq (ZdT true) ZF)))) (Zq (ZW ZbZ (Zq (Zf 7) (Zq (Zf 10) (Zq (pUn Zdg (Zv 1)) ZF)))) ZF))))) (Zaq (ZdT false)) ZaC) (Z1 (qIf (ZeP (Z9 (ZW Zc1 (Zq (ZW Zc9 (Zq (Zf 3) (Zq (Zf 8) (Zq (ZdT false) ZF)))) (Zq (ZW ZbZ (Zq (Zf 7) (Zq (Zav (ZaM (Zf 10)) (Zaa 102) Zan (pUn Zdg (Zf 102))) (Zq (Zv 0) ZF)))) ZF))))) (Zaq (ZdT false)) ZaC) (Zaq ((ZgF (Zp qEq (Zf 3) (Zf 7)) (Zp qEq (Zf 8) (ZcX (Zq (Zik (Str.ofString "under")) (Zq (Zf 10) ZF)))))))))))))))) σ) (fun t=>t=.bool true) N:=by
 obtain⟨⟨D1,a1,b1,d1⟩,⟨D2,a2,b2,d2⟩,⟨D3,a3,b3,d3⟩,pl,cp⟩:=F
 have s1:=d1.same (by omega)
 have s2:=d2.same (by omega)
 have s3:=d3.same (by omega)
 obtain⟨t,et⟩:=Zsu (n:=n) (by omega) d1.sh
 clear d1 d2 d3
 have hs:∀{d:Nat→Int},(T.lst (tab (n+1) fun i=>T.int (d i)))=ZT n d:=rfl
 have ps:∀{d:Nat→Int},Pln 1 (ZT n d):=ZoR
 have hcp:∀{σ:TL},σ 10=some (ZT n (ZbJ c top))→Pk (Zav (ZaM (Zf 10)) (Zaa 102) Zan (pUn Zdg (Zf 102)) σ) fun t=>t=ZT n fun k=>-(ZbJ c top k):=fun e=>by
  unfold ZT at e
  refine Zb1 (n:=n+1) (a:=fun k=>.int (ZbJ c top k)) (b:=fun k=>.int (-(ZbJ c top k))) (by omega) ?_ (fun k hk=>?_) rfl
  ·walk_at "z"
   rfl
  ·walk_at "z"
   rfl
 have hle:∀{σ:TL},σ 4=some (ZT n c)→σ 5=some (.int top)→Pk (Zp Zap (ZcU (Zq (Zp Zck (Zp ZE (Zf 4) (Zv 0)) (Zf 5)) ZF)) (Zdr (Zf 4) 1) σ) fun t=>t=ZT n (ZbJ c top):=fun e f=>by
  unfold ZT at e
  walk_at "z"
  refine Zj1 ?_
  walk_at "z"
  refine⟨_,rfl,?_⟩
  refine ZoF (by simp[tab];omega) ?_
  rw[show Int.toNat 0=0 from rfl,Zuu]
  rfl
 have hl1:∀{d:Nat→Int} {Q:T→Prop},Q (ZT n d)→Pk (ZcE [ZT n d]) Q:=fun h=>⟨_,rfl,h⟩
 walk_at "z"
 refine Zy cp ?_
 walk_at "z"
 refine hl1 ?_
 walk_at "z"
 refine Zy a1 ?_
 walk_at "z"
 refine Zo4 pl pl ?_
 rw[ZaH rfl]
 walk_at "z"
 refine Zo4 ps ps ?_
 rw[ZaH rfl]
 walk_at "z"
 refine Zy b1 ?_
 walk_at "z"
 refine Zy s1 ?_
 walk_at "z"
 refine ZeI (t:=D1) (by walk_at "r") ?_
 walk_at "z"
 refine Zy et ?_
 refine Zgn ?_
 refine ZhV ?_
 refine(hle (by walk_at "r") (by walk_at "r")).mono ?_
 rintro _ rfl
 walk_at "z"
 refine hl1 ?_
 walk_at "z"
 rw[show T.tup [T.str (Str.ofString "under"),ZT n (ZbJ c top)]=unT n (ZbJ c top)from rfl]
 walk_at "z"
 refine Zy a2 ?_
 walk_at "z"
 refine Zy b2 ?_
 walk_at "z"
 refine Zy s2 ?_
 walk_at "z"
 refine Zy a3 ?_
 walk_at "z"
 refine(hcp (by walk_at "r")).mono ?_
 rintro _ rfl
 walk_at "z"
 refine Zy b3 ?_
 walk_at "z"
 refine Zy s3 ?_
 walk_at "z"
 refine ZdP pl pl ?_
 rw[ZaH rfl]
 walk_at "z"
 rw[show T.tup [T.str (Str.ofString "under"),ZT n (ZbJ c top)]=unT n (ZbJ c top)from rfl]
 refine ZdP Zpo Zpo ?_
 rw[ZaH rfl]
theorem Zrb(hL:Lay ns): Zkl [scr ns]=some (.bool true):=by
 apply Pk.eq
 unfold Zkl Zf8
 obtain⟨p0,p1⟩:=ZbM ns 0 (show(0:Int)<9 by decide)
 obtain⟨w,ew,hw⟩:=Zh7 p0 (show ZaY ns 0 9<(9:Nat)by omega)
 walk_at "z"
 refine Zy (ZbN (by decide) (by decide) (by decide)) ?_
 rw[ew]
 obtain⟨n,hn,hidx⟩:∃n:Nat,n≤4∧[T.int 0,.int 1,.int 2,.int 1,.int 2,.int 1,.int 2,.int 3,.int 4][w]?=some (.int n):=by
  match w,hw with
  | 0,_=>exact⟨0,by decide,rfl⟩
  | 1,_=>exact⟨1,by decide,rfl⟩
  | 2,_=>exact⟨2,by decide,rfl⟩
  | 3,_=>exact⟨1,by decide,rfl⟩
  | 4,_=>exact⟨2,by decide,rfl⟩
  | 5,_=>exact⟨1,by decide,rfl⟩
  | 6,_=>exact⟨2,by decide,rfl⟩
  | 7,_=>exact⟨3,by decide,rfl⟩
  | 8,_=>exact⟨4,by decide,rfl⟩
 refine ZhE (t:=.int n) (by omega) (by rw[Int.toNat_natCast];exact hidx) ?_
 walk_at "z"
 refine Zb1 (n:=n) (a:=fun i=>.int i) (b:=fun i=>.int (ZbB ns (2+i))) (by omega) ?_ (fun t ht=>?_) ?_
 ·walk_at "z"
  rfl
 ·walk_at "z"
  exact Zy (Zem hL (by omega) (by omega)) rfl
 generalize hx:(fun i:Nat=>ZbB ns (2+i))=x
 have sx:∀i,i<n→(x i).natAbs<2 ^ 134:=fun i _=>by rw[←hx];exact Zgj ns _
 rw[show(fun i:Nat=>T.int (ZbB ns (2+i)))=fun i=>T.int (x i)by rw[←hx]]
 walk_at "z"
 refine Zy (Zua (x:=x) hL (by decide) (by decide) (by omega)) ?_
 have gd:=Zse ns 14 n x
 have smG:SmG 136 n (ZbU ns 14 n x):=Ztc sx
 have smR:SmR 136 n (ZeM ns 14 n x):=fun t ht=>⟨ZaE (ZnV (ns:=ns) (k:=14) sx t ht).1 (by decide),ZaE (ZnV (ns:=ns) (k:=14) sx t ht).2 (by decide)⟩
 generalize ZbU ns 14 n x=G at *
 generalize ZeM ns 14 n x=R at *
 walk_at "z"
 refine(ZvK (n:=n) (kk:=8) (by decide) (by decide) hL (by omega)).mono ?_
 rintro _ ⟨c,rfl,hc⟩
 have bc:=hc.bd (by decide)
 have bx:∀i,i<n→Bd 140 (x i):=fun i hi=>ZaE (sx i hi) (by decide)
 have hv:=Ztl (n:=n) (b:=140) (c:=c) (x:=x) (by omega) (by decide) bc bx
 have bv:=(Zpn bc bx n (Zz10 n)).mono (show 140+140+n≤285 by omega)
 walk_at "z"
 refine Zy (Zem hL (by decide) (by decide)) ?_
 have b6:Bd 290 (ZbB ns 6):=(show Bd 134 (ZbB ns 6)from Zgj ns 6).mono (by decide)
 generalize ZbB ns 6=nu at *
 refine Zb7 (fun σ'=>σ' 0=some (scr ns)∧σ' 1=some (.int n)∧σ' 3=some (ZK n G R)∧σ' 4=some (ZT n c)∧∃top,σ' 5=some (.int top)∧Bd 290 top) ?_ ?_
 ·walk_at "z"
  refine Zy (ZbN (by decide) (by decide) (by decide)) ?_
  walk_at "z"
  refine⟨fun q=>?_,fun q=>?_⟩
  ·walk_at "z"
   refine Zy hv ?_
   walk_at "z"
   refine Zy (ZbN (by decide) (by decide) (by decide)) ?_
   walk_at "z"
   obtain⟨z0,z1⟩:=ZbM ns 6 (show(0:Int)<7 by decide)
   generalize ZaY ns 6 7=pp at *
   refine⟨by walk_at "r",by walk_at "r",by walk_at "r",by walk_at "r",_,Za1,?_⟩
   have h1:Bd 285 (pp-3):=(show Bd 3 (pp-3)by unfold Bd;omega).mono (by decide)
   rw[show ZaI c x n+pp-3=ZaI c x n+(pp-3)by omega]
   exact(bv.add h1).mono (by decide)
  ·walk_at "z"
   exact⟨by walk_at "r",by walk_at "r",by walk_at "r",by walk_at "r",nu,by walk_at "r",b6⟩
 rintro σ1 ⟨e0,e1,e3,e4,top,e5,bt⟩
 walk_at "z"
 refine Zy (ZbN (by decide) (by decide) (by decide)) ?_
 generalize ZaY ns 1 55=wy at *
 refine Zb7 (fun σ'=>σ' 0=some (scr ns)∧σ' 4=some (ZT n c)∧σ' 5=some (.int top)∧σ' 6=some (.int wy)∧∃(G:Nat→Nat→Option Int) (R:Nat→Int×Int),σ' 3=some (ZK n G R)∧(∀i,i<n+1→G i i=some 0)∧(∀t,t<n→RestOk (R t))∧SmG 137 n G∧SmR 137 n R) ?_ ?_
 ·walk_at "z"
  refine⟨fun q=>?_,fun q=>?_⟩
  ·walk_at "z"
   refine(Zst (B:=136) hL (by decide) (by decide) (by omega) (by decide) gd.2 smR smG).mono ?_
   rintro _ ⟨G2,R2,rfl,d2,r2,g2,s2⟩
   exact⟨by walk_at "r",by walk_at "r",by walk_at "r",by walk_at "r",G2,R2,Za1,fun i hi=>by rw[d2 i hi];exact gd.1 i hi,r2,g2,s2⟩
  ·walk_at "z"
   exact⟨by walk_at "r",by walk_at "r",by walk_at "r",by walk_at "r",G,R,by walk_at "r",gd.1,gd.2,fun a b ha hb c e=>ZaE (smG a b ha hb c e) (by decide),fun t ht=>⟨ZaE (smR t ht).1 (by decide),ZaE (smR t ht).2 (by decide)⟩⟩
 clear smG smR gd e0 e1 e3 e4 e5
 rintro σ2 ⟨e0,e4,e5,e6,G1,R1,e3,hd1,ok1,sG1,sR1⟩
 refine Zb7 (fun σ'=>σ' 4=some (ZT n c)∧σ' 5=some (.int top)∧∃T0,σ' 3=some T0∧(T0=.none∨∃(G:Nat→Nat→Option Int) (R:Nat→Int×Int),T0=ZK n G R∧(∀i,i<n+1→G i i=some 0)∧(∀t,t<n→RestOk (R t))∧SmG 137 n G∧SmR 137 n R)) ?_ ?_
 ·walk_at "z"
  refine⟨fun q=>?_,fun q=>?_⟩
  ·walk_at "z"
   exact⟨by walk_at "r",by walk_at "r",.none,Za1,.inl rfl⟩
  ·walk_at "z"
   exact⟨e4,e5,_,e3,.inr ⟨G1,R1,rfl,hd1,ok1,sG1,sR1⟩⟩
 rintro σ3 ⟨f4,f5,T0,f3,hT⟩
 exact Zuv hn f3 f4 f5 (Ztn hn (fun i hi=>(bc i hi).mono (by decide)) bt hT)
theorem ZqP(hlen:ns.length≤63)(hL:PyData.layable0 (.list (ns.map .int))=true): ∃H',ZnQ [.ref 0] [ns.map V.int]=some (.bool true,H'):=Zr2 Zs7 ns (Zrb hL)
end L
end
section
open PySem PySem.W PyProof.Rows
namespace PySem.W.Fast
def tw13698048360955963301:=0
def tw8005766506721756608:=0
def tw10667965978278278033:=0
def tw3520363519792060846:=0
def tw12048056826642495367:=0
def tw6684487512316482741:=0
def tw10609323587221475018:=0
def tw13436231055378572716:=0
def tw5055051069096525434:=0
def tw12533650973541477374:=0
def tw14048895322960730393:=0
def tw2496939508604703423:=0
def tw9435018134839604537:=0
def tw16550838102048051623:=0
def tw15622835117965313283:=0
def tw3414106826494052011:=0
def tw1944925098504758534:=0
def tw3094701115853657799:=0
def tw16279701975793424917:=0
def tw15213048550514571353:=0
def tw1165732905965986049:=0
def tw17334881123488906936:=0
def tw6459200953577825518:=0
def tw1147522009701800784:=0
def tw12565002596728077416:=0
def tw8646929664414959583:=0
def tw1880258362356491002:=0
def tw14439765378166140033:=0
def tw13432873828021710899:=0
def tw12059592832596718669:=0
def tw10188337973796604112:=0
def tw5488966160659634681:=0
def tw15809405329383528182:=0
def tw12221415409051222339:=0
def tw9685044298169568939:=0
def tw3241244739717862871:=0
def tw6951939212644042833:=0
def tw4218939439129018664:=0
def tw5759927347364260171:=0
def tw11973505968982382900:=0
def tw1712973634487312807:=0
def tw10042499479572932358:=0
def tw13305670439411429421:=0
def tw931956834028986255:=0
def tw1157979631877120646:=0
def tw15740581520725410121:=0
def tw16406923672382228973:=0
def tw17093224777342109595:=0
def tw1611551182742943237:=0
def tw5764117369366255280:=0
def tw14987661418082201831:=0
def tw2923001932562327482:=0
def tw1901531775752417231:=0
def tw5266450434754204200:=0
def tw10069975712529536831:=0
def tw2912592304959361012:=0
def tw2337977823195543630:=0
def tw17698735102306075112:=0
def tw4227517698962585424:=0
def tw1647960591809683682:=0
def tw4185518321428705831:=0
def tw13991396874942911051:=0
def tw142340057281662541:=0
def tw8667492640987031791:=0
def tw6905212232875527693:=0
def tw10378583025934500588:=0
def tw12674656310777702994:=0
def tw3934833063311361131:=0
def tw6999419289813526679:=0
def tw8578992014432634108:=0
def tw11469360237664420825:=0
def tw7950223703418521501:=0
def tw15261137711255440680:=0
def tw3665838584753200986:=0
def tw16699019767340423185:=0
def tw18182889222666715495:=0
def tw7894344252036594922:=0
def tw17338234738716814015:=0
def tw9161490523856799436:=0
def tw15226832943710054940:=0
def tw6429450841261186155:=0
def tw3133745999044795564:=0
def tw1061639710858884176:=0
def tw670427922429333600:=0
def tw3302770140995672700:=0
def tw16884622931589843948:=0
def tw11586196018267737339:=0
def tw8249347019533418915:=0
def tw3321576952164483024:=0
def tw1173414789623836638:=0
def tw3903891618737965568:=0
def tw7834740603555865465:=0
def tw7945405709010385892:=0
def tw12694112234171929671:=0
def tw5674458297940323589:=0
def tw16970792351503237766:=0
def tw1620389302784492585:=0
def tw3478894487363246031:=0
def tw9835382159548102362:=0
def tw1833547357909804662:=0
end PySem.W.Fast
set_option maxRecDepth 100000 in
set_option maxHeartbeats 8000000 in
open_top head for PySem.Challenge.rw_seer_k44_held_and_under
end
section
open PySem PySem.W PySem.Calls PyProof.Rows PM
seal PM.J PM.Js PM.JT PM.JA PM.JF PM.JI PM.JI2 PM.JP PM.S1 PM.Ss PM.Sto PM.Rd PM.Nm PM.OpN PM.Op2 PM.Def
namespace L
noncomputable abbrev DD(w:World)(s₀:Shared)(mg mb:Str→Option Value)(f:Addr)(r:Nat)(F:List V→Hp→Option (V×Hp)): Prop:=Def PySem.Challenge.rw_seer_k44_held_and_under.row.prog w (head.heap_39 w.params) head.view_39 (looseW head.view_39 []) (ExcName.means s₀.heap) mg mb f r F
section
variable {w:World} {s₀:Shared} {mg mb:Str→Option Value}
theorem ZmF: DD w s₀ mg mb 414 1 Zmh:=by
 unfold DD;k_fill
 refine ZV (names:=["_law_script","_law_k","_law_number_here"]) (g:=(TM.XS.g Zfo)) ?_
 exact fun _ _ _ _ _ _ _ c _ _=>(Zh (ZC sL (Zu (Zu (Zu vL vL ZaQ) jI ZaQ) jI Z4)) (Zh (ZG (Zz (Zac (nB c) (jc vL Ze) ZaA) jI ZcG) (Zm (ZC sL (Zu vL (Zg vL (Zu vL (Zac (nB c) (jc vL Ze) ZaA) ZaV)) Z4))) ZI) (Zm (Zr vL))))
theorem law_pick_d: DD w s₀ mg mb 421 2 Zdk:=by
 unfold DD;k_fill
 refine ZV (names:=["_law_script","_law_k","_law_many"]) (g:=(TM.XS.g ZfB)) ?_
 exact fun _ _ _ _ _ _ _ c _ _=>(Zm (Zr (Zu (Zu (Zu (cF c ZmF (jc vL (jc vL Ze))) jI ZaQ) jI ZaV) vL ZaV)))
theorem Zea: DD w s₀ mg mb 428 2 ZiT:=by
 unfold DD;k_fill
 refine ZV (names:=["_law_script","_law_k","_law_number_here","_law_reach"]) (g:=(TM.XS.g Zfd)) ?_
 exact fun _ _ _ _ _ _ _ c _ _=>(Zh (ZC sL (cF c ZmF (jc vL (jc vL Ze)))) (Zh (ZC sL (Zg (J.list (jc jI (jc jI (jc (Zu jI jI ZkI) (jc (Zu jI jI ZkI) Ze))))) (Zu (Zu (Zu vL jI ZaQ) jI ZaV) jI ZaV))) (Zm (Zr (Zu (Zu (Zu vL (Zu jI jI ZkI) ZaQ) (Zu (Zu jI vL ZaQ) jI Z4) ZaV) vL Za2)))))
theorem Zrc: DD w s₀ mg mb 435 3 Zmj:=by
 unfold DD;k_fill
 refine ZV (names:=["_law_script","_law_k","_law_way"]) (g:=(TM.XS.g Zfp)) ?_
 exact fun _ _ _ _ _ _ _ c _ _=>(Zh (ZC sL (cF c law_pick_d (jc vL (jc vL (jc jI Ze))))) (Zh (ZG (Zz (Zu vL jI ZaV) jI ZbO) (Zm (Zr jN)) ZI) (Zh (ZG (Zz (Zu vL jI ZaV) jI ZbO) (Zm (Zr jI)) ZI) (Zh (ZG (Zz (Zu vL jI ZaV) jI Zal) (Zm (Zr (Zu vL jI Zcp))) ZI) (Zm (Zr (Zac (nB c) (jc (cF c Zea (jc vL (jc vL Ze))) Ze) Zc7)))))))
theorem Zfc: DD w s₀ mg mb 442 1 ZlO:=by
 unfold DD;k_fill
 refine ZV (names:=["_law_m","_law_r"]) (g:=(TM.XS.g Ze3)) ?_
 exact fun _ _ _ _ _ _ _ c _ _=>(Zh (ZG (Zz vL jI Zal) (Zm (Zr (J.tup (jc jI (jc vL Ze))))) ZI) (Zm (Zr (J.tup (jc vL (jc (Zu vL vL ZaV) Ze))))))
theorem ZrN: DD w s₀ mg mb 449 3 ZmP:=by
 unfold DD;k_fill
 refine ZV (names:=["_law_script","_law_k","_law_number_here","_law_way"]) (g:=(TM.XS.g ZfC)) ?_
 exact fun _ _ _ _ _ _ _ c _ _=>(Zh (ZC sL (cF c law_pick_d (jc vL (jc vL (jc jI Ze))))) (Zh (ZG (Zz (Zu vL jI ZaV) jI ZbO) (Zm (Zr (J.tup (jc jI (jc jI Ze))))) ZI) (Zh (ZG (Zz (Zu vL jI ZaV) jI Zal) (Zm (Zr (J.tup (jc jI (jc vL Ze))))) ZI) (Zh (ZG (Zz (Zu vL jI ZaV) jI Zal) (Zm (Zr (cF c Zfc (jc (Zu (Zu vL jI Zcp) jI Z4) (jc vL Ze))))) ZI) (Zm (Zr (cF c Zfc (jc (Zac (nB c) (jc (cF c Zea (jc vL (jc vL Ze))) Ze) Zc7) (jc vL Ze)))))))))
theorem ZrO: DD w s₀ mg mb 454 4 ZmQ:=by
 unfold DD;k_fill
 refine ZV (names:=["_law_script","_law_k","_law_boxes","_law_full","_law_size","_law_bounds","_law_i","_law_row","_law_j","_law_top"]) (g:=(TM.XS.g ZfD)) ?_
 exact fun _ _ _ _ _ _ _ c _ _=>(Zh (ZC sL (Zu (J.list (jc jI Ze)) vC Z4)) (Zh (ZC sC (Zac (nB c) (jc vL Ze) ZaA)) (Zh (ZC sL (J.list Ze)) (Zh (Za3 sL (JI.range (nB c) (jc vC Ze)) (Zh (ZC sL (J.list Ze)) (Zh (Za3 sL (JI.range (nB c) (jc vC Ze)) (Zh (ZC sL (cF c Zrc (jc vC (jc (Zu (Zu vC (Zu vL vC ZaQ) Z4) vL Z4) Ze)))) (Zh (ZG (Zz vL jN Zbt) (Zm (ZC sL (Zu (Zu (Zg vL vL) (Zg vL vL) Za2) vL Z4))) ZI) (Zm (ZcD (J.append vL vL)))))) (Zh (S1.put jI vL vL) (Zm (ZcD (J.append vL vL))))))) (Zm (Zr (J.tup (jc vL (jc (by refine cO ?_ ?_ ?_;(exact(JI.range (nB c) (jc (Zu vC jI Za2) Ze)));(exact fun _ _=>(cF (ZbK c) ZrN (jc vD (jc (Zu (Zu vD (Zu vD vD ZaQ) Z4) vO Z4) (jc (Zg vD vO) Ze)))));(exact fun _ _=>JF.nil)) Ze)))))))))
theorem Zsx: DD w s₀ mg mb 537 3 Znp:=by
 unfold DD;k_fill
 refine ZV (names:=["_law_script","_law_k","_law_many","_law_one","_law_way","_law_at","_law_to","_law_i"]) (g:=ZjW) ?_
 exact fun _ _ _ _ _ _ _ c _ _=>(Zh (ZC sL (Zu (J.list (jc (cF c Zea (jc vL (jc vL Ze))) Ze)) (Zu (J.list (jc jI Ze)) vL ZaQ) Z4)) (Zh (ZC sL (cF c law_pick_d (jc vL (jc vL (jc jI Ze))))) (Zh (ZG (ZaF (ZaN (Zz vL jI Zal) (ZaN (Zz vL jI Zal) Zcd))) (Zm (Zr vL)) ZI) (Zh (ZC sL (Zu jI (cF c law_pick_d (jc vL (jc (Zu vL jI Z4) (jc vL Ze)))) Z4)) (Zh (ZG (Zz vL jI Zal) (Zm (S1.put (Zu (cF c law_pick_d (jc vL (jc (Zu vL jI Z4) (jc jI Ze)))) jI Za2) vL vL)) ZI) (Zh (ZG (ZaF (ZaN (Zz vL jI Zal) (ZaN (Zz vL jI Zal) Zcd))) (Zh (ZC sL (Zu jI (cF c law_pick_d (jc vL (jc (Zu vL jI Z4) (jc vL Ze)))) Z4)) (Zh (S1.put jI vL vL) (Zm (S1.put (Zu (Zg vL vL) jI Za2) vL vL)))) ZI) (Zh (ZG (Zz vL jI Zal) (Zm (Za3 sL (JI.range (nB c) (jc vL Ze)) (Zm (S1.put (Zu (cF c law_pick_d (jc vL (jc (Zu (Zu vL jI Z4) vL Z4) (jc jI Ze)))) jI Za2) vL (Zu vL jI Z4))))) ZI) (Zh (ZG (Zz vL jI Zal) (Zm (Za3 sL (JI.range (nB c) (jc vL Ze)) (Zm (S1.put (Zu (cF c law_pick_d (jc vL (jc (Zu (Zu vL jI Z4) vL Z4) (jc jI Ze)))) jI Za2) vL (Zu vL jI Z4))))) ZI) (Zm (Zr vL))))))))))
theorem ZrP: DD w s₀ mg mb 459 1 ZmR:=by
 unfold DD;k_fill
 refine ZV (names:=["_law_told_here"]) (g:=Zjr) ?_
 exact fun _ _ _ _ _ _ _ c _ _=>(Zh (ZG (Zz vL jN ZaR) (Zm (Zr jN)) ZI) (Zm (Zr (J.tup (jc (by refine cO ?_ ?_ ?_;(exact(JI.seq (Zg vL jI)));(exact fun _ _=>(Zco (nB (ZbK c)) (jc vO Ze) Zcy));(exact fun _ _=>JF.nil)) (jc (Zco (nB c) (jc (Zg vL jI) Ze) Zcy) Ze))))))
theorem Zob: ∀n:Nat,Def PySem.Challenge.rw_seer_k44_held_and_under.row.prog w (head.heap_39 w.params) head.view_39 (looseW head.view_39 []) (ExcName.means s₀.heap) mg mb 19 (n) (Zet n)
 | 0=>Zs5
 | n+1=>by
  have ih:=Zob n
  k_fill
  refine' ZoU (names:=["thing"]) (n:=1) (room:=n) (g:=Zkz (Zet n)) (ho:=?ho) (hcd:=?hcd) (nd:=by decide) (hn:=by decide) (hbind:=?hb) (hkinds:=?hk) (hone:=?h1) (hco:=?z1) (hgen:=?z2) (hk:=?z3) (hbody:=?hbody)
  case ho=>k_is
  case z1=>rfl
  case z2=>rfl
  case z3=>rfl
  case hcd=>k_is
  case hb=>intro s xs hx;match xs,hx with | [x0],_=>exact BindsTo.of_eq rfl
  case hk=>decide
  case h1=>decide +kernel
  case hbody=>
   intro dp un gd L outer h₀ hu clr hd1 hu1
   exact(Zh (ZG (ZaU (Zc2 (nB clr) (nB clr) (.inr (.inr (.inl rfl))) vL)) (Zm (Zr (by refine cO ?_ ?_ ?_;(exact(JI.seq vL));(exact fun _ _=>(cF (ZbK clr) ih (jc vO Ze)));(exact fun _ _=>JF.nil)))) ZI) (Zh (ZG (ZaU (Zc2 (nB clr) (nB clr) (.inr (.inr (.inr rfl))) vL)) (Zm (Zr (Zco (nB clr) (jc (by refine cO ?_ ?_ ?_;(exact(JI.seq vL));(exact fun _ _=>(cF (ZbK clr) ih (jc vO Ze)));(exact fun _ _=>JF.nil)) Ze) ZrZ))) ZI) (Zm (Zr vL))))
theorem ZkH: Def PySem.Challenge.rw_seer_k44_held_and_under.row.prog w (head.heap_39 w.params) head.view_39 (looseW head.view_39 []) (ExcName.means s₀.heap) mg mb 19 9 Zov:=Zob 9
theorem ZrQ: DD w s₀ mg mb 209 1 Zm1:=by
 unfold DD;k_fill
 refine ZV (names:=["one","other"]) (g:=(TM.XS.g ZfL)) ?_
 exact fun _ _ _ _ _ _ _ c _ _=>(Zm (Zr (by refine cT ?_ ?_;(exact(JI2.zip (nB c) vL vL));(exact fun _ _=>(Zu vO vO Z4)))))
theorem ZdE: DD w s₀ mg mb 214 1 Zjf:=by
 unfold DD;k_fill
 refine ZV (names:=["one","k"]) (g:=(TM.XS.g Zfy)) ?_
 exact fun _ _ _ _ _ _ _ c _ _=>(Zm (Zr (by refine cO ?_ ?_ ?_;(exact(JI.seq vL));(exact fun _ _=>(Zu vO vD ZaQ));(exact fun _ _=>JF.nil))))
theorem ZjK: DD w s₀ mg mb 221 2 ZjC:=by
 unfold DD;k_fill
 refine ZV (names:=["one","other"]) (g:=(TM.XS.g ZfM)) ?_
 exact fun _ _ _ _ _ _ _ c _ _=>(Zm (Zr (cF c ZrQ (jc vL (jc (cF c ZdE (jc vL (jc (Zbp jI Zbk) Ze))) Ze)))))
theorem ZmG: DD w s₀ mg mb 93 1 Zmk:=by
 unfold DD;k_fill
 refine ZV (names:=["one","other"]) (g:=(TM.XS.g Zfq)) ?_
 exact fun _ _ _ _ _ _ _ c _ _=>(Zm (Zr (ZvM (ZbS vL jN ZaR) (ZeL (ZbS vL jN Zbt) (ZbS vL vL Zk1)))))
theorem Zoc: DD w s₀ mg mb 100 2 Zkj:=by
 unfold DD;k_fill
 refine ZV (names:=["one","other"]) (g:=(TM.XS.g Zf5)) ?_
 exact fun _ _ _ _ _ _ _ c _ _=>(Zm (Zr (ZdS (ZaU (cF c ZmG (jc vL (jc vL Ze)))) vL vL)))
theorem ZjL: DD w s₀ mg mb 107 3 ZfJ:=by
 unfold DD;k_fill
 refine ZV (names:=["bounds","i","j","bound"]) (g:=Zhd) ?_
 exact fun _ _ _ _ _ _ _ c _ _=>(Zm (S1.put (cF c Zoc (jc (Zg (Zg vL vL) vL) (jc vL Ze))) (Zg vL vL) vL))
theorem Zhp: DD w s₀ mg mb 204 1 Zf2:=by
 unfold DD;k_fill
 refine ZV (names:=["i","n"]) (g:=(TM.XS.g Zf1)) ?_
 exact fun _ _ _ _ _ _ _ c _ _=>(Zm (Zr (by refine cO ?_ ?_ ?_;(exact(JI.range (nB c) (jc (Zu vL jI Z4) Ze)));(exact fun _ _=>(ZdS (ZaF (Zaj (Zz vD jI ZcG) (Zaj (Zz vO vD Zal) ZbG))) jI jI));(exact fun _ _=>JF.nil))))
theorem Zeh: DD w s₀ mg mb 65 1 ZmV:=by
 unfold DD;k_fill
 refine ZV (names:=["one","other"]) (g:=(TM.XS.g ZfH)) ?_
 exact fun _ _ _ _ _ _ _ c _ _=>(Zh (ZG (ZaF (ZaN (Zz vL jN ZaR) (ZaN (Zz vL jN ZaR) Zcd))) (Zm (Zr jN)) ZI) (Zm (Zr (Zu vL vL Z4))))
theorem ZpR: DD w s₀ mg mb 311 1 ZlB:=by
 unfold DD;k_fill
 refine ZV (names:=["one"]) (g:=(TM.XS.g ZeX)) ?_
 exact fun _ _ _ _ _ _ _ c _ _=>(Zm (Zr (ZbS (Zac (nB c) (jc (by refine cO ?_ ?_ ?_;(exact(JI.seq (ZeB vL jI)));(exact fun _ _=>vO);(exact fun _ _=>JF.one (Zz vO jI Za8))) Ze) Zr7) (J.list (jc (Zbp jI Zbk) (jc jI Ze))) Zal)))
theorem Zp8: DD w s₀ mg mb 58 2 ZlJ:=by
 unfold DD;k_fill
 refine ZV (names:=["one","other"]) (g:=(TM.XS.g ZeZ)) ?_
 exact fun _ _ _ _ _ _ _ c _ _=>(Zm (Zr (J.tup (jc (cF c Zeh (jc (Zg vL jI) (jc (Zg vL jI) Ze))) (jc (cF c Zeh (jc (Zg vL jI) (jc (Zg vL jI) Ze))) Ze)))))
theorem Zg8: DD w s₀ mg mb 79 1 Zmp:=by
 unfold DD;k_fill
 refine ZV (names:=["end","k"]) (g:=(TM.XS.g Zfu)) ?_
 exact fun _ _ _ _ _ _ _ c _ _=>(Zh (ZG (Zz vL jN ZaR) (Zm (Zr jN)) ZI) (Zm (Zr (Zu vL vL ZaQ))))
theorem ZpS: DD w s₀ mg mb 72 2 ZlA:=by
 unfold DD;k_fill
 refine ZV (names:=["one","k","lo","hi"]) (g:=(TM.XS.g ZeV)) ?_
 exact fun _ _ _ _ _ _ _ c _ _=>(Zh (ZG (Zz vL jI Zal) (Zm (Zr (J.tup (jc jI (jc jI Ze))))) ZI) (Zh (ZC sL (cF c Zg8 (jc (Zg vL jI) (jc vL Ze)))) (Zh (ZC sL (cF c Zg8 (jc (Zg vL jI) (jc vL Ze)))) (Zh (ZG (Zz vL jI ZbO) (Zm (Zr (J.tup (jc vL (jc vL Ze))))) ZI) (Zm (Zr (J.tup (jc vL (jc vL Ze)))))))))
theorem Zqs: DD w s₀ mg mb 228 3 ZlQ:=by
 unfold DD;k_fill
 refine ZV (names:=["one","stretches","whole","k","part"]) (g:=(TM.XS.g Ze5)) ?_
 exact fun _ _ _ _ _ _ _ c _ _=>(Zh (ZC sL (J.tup (jc (Zg vL jI) (jc (Zg vL jI) Ze)))) (Zh (Zhx sL sL (JI2.zip (nB c) (ZeB vL jI) vL) (Zm (ZC sL (cF c Zp8 (jc vL (jc (cF c ZpS (jc vL (jc vL Ze))) Ze)))))) (Zm (Zr vL))))
theorem Zp9: DD w s₀ mg mb 299 2 ZlM:=by
 unfold DD;k_fill
 refine ZV (names:=["told","bounds"]) (g:=(TM.XS.g Ze2)) ?_
 exact fun _ _ _ _ _ _ _ c _ _=>(Zh (ZC sC (Zg vL jI)) (Zm (Zr (by refine cO ?_ ?_ ?_;(exact(JI.range (nB c) (jc jI (jc (Zac (nB c) (jc vC Ze) ZaA) Ze))));(exact fun _ _=>(J.tup (jc (cF (ZbK c) Zg8 (jc (Zg (Zg vD jI) vO) (jc (Zbp jI Zbk) Ze))) (jc (Zg (Zg vD vO) jI) Ze))));(exact fun _ _=>JF.nil)))))
theorem ZjM: DD w s₀ mg mb 306 4 Zm0:=by
 unfold DD;k_fill
 refine ZV (names:=["told","one"]) (g:=(TM.XS.g ZfK)) ?_
 exact fun _ _ _ _ _ _ _ c _ _=>(Zh (ZG (ZaU (cF c ZpR (jc vL Ze))) (Zm (Zr (cF c Zeh (jc (Zg (Zg (Zg vL jI) (J.index vL jI jI)) (J.index vL (Zbp jI Zbk) jI)) (jc (Zg vL jI) Ze))))) ZI) (Zm (Zr (Zg (cF c Zqs (jc vL (jc (cF c Zp9 (jc vL Ze)) Ze))) jI))))
theorem Zmb: DD w s₀ mg mb 346 5 ZgW:=by
 unfold DD;k_fill
 refine ZV (names:=["told","part","one","top"]) (g:=(TM.XS.g Zfj)) ?_
 exact fun _ _ _ _ _ _ _ c _ _=>(Zm (Zr (cF c Zeh (jc (cF c ZjM (jc vL (jc (cF c ZjK (jc vL (jc vL Ze))) Ze))) (jc vL Ze)))))
theorem Zqt: DD w s₀ mg mb 332 6 ZlT:=by
 unfold DD;k_fill
 refine ZV (names:=["bounds","told","one","top","n","i","j","apart"]) (g:=ZgP) ?_
 exact fun _ _ _ _ _ _ _ c _ _=>(Zh (ZC sL (Zac (nB c) (jc (Zg vL jI) Ze) ZaA)) (Zm (Za3 sL (JI.range (nB c) (jc (Zu vL jI Z4) Ze)) (Zm (Za3 sL (JI.range (nB c) (jc (Zu vL jI Z4) Ze)) (Zh (ZC sL (cF c ZjK (jc (cF c Zhp (jc vL (jc vL Ze))) (jc (cF c Zhp (jc vL (jc vL Ze))) Ze)))) (Zm (ZcD (cF c ZjL (jc vL (jc vL (jc vL (jc (cF c Zmb (jc vL (jc vL (jc vL (jc vL Ze))))) Ze)))))))))))))
theorem Zmc: DD w s₀ mg mb 86 1 ZgX:=by
 unfold DD;k_fill
 refine ZV (names:=["end","k"]) (g:=(TM.XS.g Zfl)) ?_
 exact fun _ _ _ _ _ _ _ c _ _=>(Zh (ZG (Zz vL jN ZaR) (Zm (Zr jN)) ZI) (Zm (Zr (Zu vL vL Zcp))))
theorem Zqu: DD w s₀ mg mb 339 6 ZlU:=by
 unfold DD;k_fill
 refine ZV (names:=["bounds","told","one","top","n","i","k","bound"]) (g:=ZgQ) ?_
 exact fun _ _ _ _ _ _ _ c _ _=>(Zh (ZC sL (Zac (nB c) (jc (Zg vL jI) Ze) ZaA)) (Zm (Za3 sL (JI.range (nB c) (jc jI (jc (Zu vL jI Z4) Ze))) (Zh (ZC sL (Zg vL vL)) (Zh (ZC sL (cF c Zmb (jc vL (jc (cF c ZdE (jc (cF c Zhp (jc vL (jc vL Ze))) (jc vL Ze))) (jc vL (jc vL Ze)))))) (Zh (ZG (Zz vL jI ZcG) (Zm (ZcD (cF c ZjL (jc vL (jc vL (jc jI (jc (cF c Zmc (jc vL (jc vL Ze))) Ze))))))) ZI) (Zm (ZG (Zz vL jI ZbO) (Zm (ZcD (cF c ZjL (jc vL (jc jI (jc vL (jc (cF c Zmc (jc vL (jc (Zbp vL Zbk) Ze))) Ze))))))) ZI))))))))
theorem Zl0: DD w s₀ mg mb 268 1 Ze7:=by
 unfold DD;k_fill
 refine ZV (names:=["rests"]) (g:=(TM.XS.g Ze6)) ?_
 exact fun _ _ _ _ _ _ _ c _ _=>(Zm (Zr (Zu (J.list (jc (J.tup (jc jI (jc jI Ze))) Ze)) vL Z4)))
theorem Zkd: DD w s₀ mg mb 136 1 Znj:=by
 unfold DD;k_fill
 refine ZV (names:=["one","other","left","right","over"]) (g:=(TM.XS.g ZfV)) ?_
 exact fun _ _ _ _ _ _ _ c _ _=>(Zh (ZC sL (Zac (nB c) (jc vL Ze) Zc7)) (Zh (ZC sL (Zac (nB c) (jc vL Ze) Zc7)) (Zh (Zf4 1000000 (Zz vL jI Za8) (Zh (ZC sL (Zu vL vL ZaV)) (Zh (ZC sL vL) (Zm (ZC sL vL))))) (Zm (Zr vL)))))
theorem Zh8: DD w s₀ mg mb 150 1 Zo7:=by
 unfold DD;k_fill
 refine ZV (names:=["m","r"]) (g:=(TM.XS.g Zgp)) ?_
 exact fun _ _ _ _ _ _ _ c _ _=>(Zh (ZG (Zz vL jI ZbO) (Zm (ZvC)) ZI) (Zh (ZG (Zz vL jI Zal) (Zm (Zr (J.tup (jc jI (jc vL Ze))))) ZI) (Zm (Zr (J.tup (jc vL (jc (Zu vL vL ZaV) Ze)))))))
theorem Zsy: DD w s₀ mg mb 143 1 Znk:=by
 unfold DD;k_fill
 refine ZV (names:=["one","by","left","right","left_turns","right_turns","part","over","over_turns"]) (g:=(TM.XS.g ZfW)) ?_
 exact fun _ _ _ _ _ _ _ c _ _=>(Zh (ZC sL (Zu vL vL ZaV)) (Zh (ZC sL vL) (Zh (ZC sL jI) (Zh (ZC sL jI) (Zh (Zf4 1000000 (Zz vL jI Za8) (Zh (ZC sL (Zu vL vL Zcp)) (Zh (ZC sL (Zu vL (Zu vL vL ZaQ) Za2)) (Zh (ZC sL (Zu vL (Zu vL vL ZaQ) Za2)) (Zh (ZC sL vL) (Zh (ZC sL vL) (Zh (ZC sL vL) (Zm (ZC sL vL))))))))) (Zm (Zr (Zu vL vL ZaV))))))))
theorem ZfR: DD w s₀ mg mb 157 1 ZmS:=by
 unfold DD;k_fill
 refine ZV (names:=["one","number"]) (g:=(TM.XS.g ZfE)) ?_
 exact fun _ _ _ _ _ _ _ c _ _=>(Zh (ZG (Zz (Zg vL jI) jI Zal) (Zm (Zr (ZbS vL (Zg vL jI) Zal))) ZI) (Zm (Zr (ZbS (Zu vL (Zg vL jI) ZaV) (Zg vL jI) Zal))))
theorem Znc: DD w s₀ mg mb 171 2 ZmT:=by
 unfold DD;k_fill
 refine ZV (names:=["one","other","common","apart","width","turns"]) (g:=(TM.XS.g ZfG)) ?_
 exact fun _ _ _ _ _ _ _ c _ _=>(Zh (ZG (Zz (Zg vL jI) jI Zal) (Zm (Zr (ZdS (ZaU (cF c ZfR (jc vL (jc (Zg vL jI) Ze)))) vL jN))) ZI) (Zh (ZG (Zz (Zg vL jI) jI Zal) (Zm (Zr (ZdS (ZaU (cF c ZfR (jc vL (jc (Zg vL jI) Ze)))) vL jN))) ZI) (Zh (ZC sL (cF c Zkd (jc (Zg vL jI) (jc (Zg vL jI) Ze)))) (Zh (ZC sL (Zu (Zg vL jI) (Zg vL jI) Za2)) (Zh (ZG (Zz (Zu vL vL ZaV) jI Za8) (Zm (Zr jN)) ZI) (Zh (ZC sL (Zu (Zg vL jI) vL Zcp)) (Zh (ZC sL (Zu (Zu vL vL Zcp) (cF c Zsy (jc (Zu (Zg vL jI) vL Zcp) (jc vL Ze))) ZaQ)) (Zm (Zr (cF c Zh8 (jc (Zu (Zg vL jI) vL ZaQ) (jc (Zu (Zg vL jI) (Zu (Zg vL jI) vL ZaQ) Z4) Ze))))))))))))
theorem Zjl: DD w s₀ mg mb 178 2 Zi8:=by
 unfold DD;k_fill
 refine ZV (names:=["one","other"]) (g:=(TM.XS.g Zfr)) ?_
 exact fun _ _ _ _ _ _ _ c _ _=>(Zm (Zr (cF c Zh8 (jc (cF c Zkd (jc (Zg vL jI) (jc (Zg vL jI) Ze))) (jc (Zu (Zg vL jI) (Zg vL jI) Z4) Ze)))))
theorem Zqa: DD w s₀ mg mb 275 3 Ze1:=by
 unfold DD;k_fill
 refine ZV (names:=["bounds","rests","i","met","j","other"]) (g:=(TM.XS.g Ze0)) ?_
 exact fun _ _ _ _ _ _ _ c _ _=>(Zh (ZC sL (Zg vL vL)) (Zh (Zhx sL sL (ZsX (nB c) vL) (Zm (ZG (ZaF (Zaj (Zz vL jN Zbt) (Zaj (Zz (cF c Zeh (jc (Zg (Zg vL vL) vL) (jc (Zg (Zg vL vL) vL) Ze))) jI Zal) ZbG))) (Zm (ZC sL (cF c Znc (jc vL (jc (cF c Zjl (jc vL (jc (J.tup (jc jI (jc (Zg (Zg vL vL) vL) Ze))) Ze))) Ze))))) ZI))) (Zm (Zr vL))))
theorem Zqv: DD w s₀ mg mb 261 4 Zdj:=by
 unfold DD;k_fill
 refine ZV (names:=["told","rests","met"]) (g:=Ze9) ?_
 exact fun _ _ _ _ _ _ _ c _ _=>(Zh (ZG (Zz vC jN ZaR) (Zm (Zr jN)) ZI) (Zh (ZC sC (cF c Zl0 (jc (Zg vC jI) Ze))) (Zh (by refine sO sL ?_ ?_ ?_;(exact(JI.range (nB c) (jc jI (jc (Zac (nB c) (jc vC Ze) ZaA) Ze))));(exact fun _ _=>(cF (ZbK c) Zqa (jc (Zg vD jI) (jc vD (jc vO Ze)))));(exact fun _ _=>JF.nil)) (Zh (ZG (Zz jN vL Zgz) (Zm (Zr jN)) ZI) (Zm (Zr (J.tup (jc (Zg vC jI) (jc vL Ze)))))))))
theorem ZpT: DD w s₀ mg mb 124 3 Zlz:=by
 unfold DD;k_fill
 refine ZV (names:=["row","there","further"]) (g:=(TM.XS.g ZeU)) ?_
 exact fun _ _ _ _ _ _ _ c _ _=>(Zm (Zr (by refine cT ?_ ?_;(exact(JI2.zip (nB c) vL vL));(exact fun _ _=>(cF (ZbK c) Zoc (jc vO (jc (cF (ZbK c) Zeh (jc vD (jc vO Ze))) Ze)))))))
theorem Zrd: DD w s₀ mg mb 119 4 Zmm:=by
 unfold DD;k_fill
 refine ZV (names:=["bounds","mid"]) (g:=(TM.XS.g Zfs)) ?_
 exact fun _ _ _ _ _ _ _ c _ _=>(Zm (Zr (by refine cO ?_ ?_ ?_;(exact(JI.seq vC));(exact fun _ _=>(cF (ZbK c) ZpT (jc vO (jc (Zg vO vD) (jc (Zg vD vD) Ze)))));(exact fun _ _=>JF.nil))))
theorem Zqb: DD w s₀ mg mb 129 1 ZlH:=by
 unfold DD;k_fill
 refine ZV (names:=["bounds"]) (g:=(TM.XS.g ZeY)) ?_
 exact fun _ _ _ _ _ _ _ c _ _=>(Zm (Zr (Zac (nB c) (jc (by refine cO ?_ ?_ ?_;(exact(JI.range (nB c) (jc (Zac (nB c) (jc vC Ze) ZaA) Ze)));(exact fun _ _=>(ZbS (Zg (Zg vD vO) vO) jI ZbO));(exact fun _ _=>JF.nil)) Ze) ZuD)))
theorem Zto: DD w s₀ mg mb 114 5 Zes:=by
 unfold DD;k_fill
 refine ZV (names:=["bounds","near","mid"]) (g:=(TM.XS.g Zf6)) ?_
 exact fun _ _ _ _ _ _ _ c _ _=>(Zh (ZC sL vL) (Zh (Za3 sL (JI.range (nB c) (jc (Zac (nB c) (jc vL Ze) ZaA) Ze)) (Zh (ZC sL (cF c Zrd (jc vL (jc vL Ze)))) (Zm (ZG (ZaU (cF c Zqb (jc vL Ze))) (Zm (Zr jN)) ZI)))) (Zm (Zr vL))))
theorem Zvl: DD w s₀ mg mb 256 6 Zdp:=by
 unfold DD;k_fill
 refine ZV (names:=["told","bounds"]) (g:=Zh3) ?_
 exact fun _ _ _ _ _ _ _ c _ _=>(Zh (ZG (Zz vL jN ZaR) (Zm (Zr jN)) ZI) (Zh (ZC sL (cF c Zto (jc (Zg vL jI) Ze))) (Zh (ZG (Zz vL jN ZaR) (Zm (Zr jN)) ZI) (Zm (Zr (J.tup (jc vL (jc (Zg vL jI) Ze))))))))
theorem Zpp: DD w s₀ mg mb 249 7 Zh5:=by
 unfold DD;k_fill
 refine ZV (names:=["told"]) (g:=ZkU) ?_
 exact fun _ _ _ _ _ _ _ c _ _=>(Zm (Zr (cF c Zqv (jc (cF c Zvl (jc vL Ze)) Ze))))
theorem ZqQ: DD w s₀ mg mb 199 1 Zl2:=by
 unfold DD;k_fill
 refine ZV (names:=["one","top"]) (g:=(TM.XS.g Zfg)) ?_
 exact fun _ _ _ _ _ _ _ c _ _=>(Zh (ZG (Zz (Zg vL jI) jI Zal) (Zm (Zr (ZdS (Zz (Zg vL jI) vL Zk1) (Zg vL jI) jN))) ZI) (Zm (Zr (Zu vL (Zu (Zu vL (Zg vL jI) Za2) (Zg vL jI) ZaV) Za2))))
theorem ZpU: DD w s₀ mg mb 294 2 Ziu:=by
 unfold DD;k_fill
 refine ZV (names:=["bound","left"]) (g:=(TM.XS.g ZeW)) ?_
 exact fun _ _ _ _ _ _ _ c _ _=>(Zh (ZG (Zz vL jN Zbt) (Zm (Zr (cF c ZqQ (jc vL (jc vL Ze))))) ZI) (Zh (ZG (Zz (Zg vL jI) jI Zal) (Zm (Zr (Zg vL jI))) ZI) (Zm (Zr jN))))
theorem Zi3: DD w s₀ mg mb 185 2 ZiV:=by
 unfold DD;k_fill
 refine ZV (names:=["one","k"]) (g:=(TM.XS.g Zff)) ?_
 exact fun _ _ _ _ _ _ _ c _ _=>(Zm (Zr (cF c Zh8 (jc (Zu (Zg vL jI) (Zac (nB c) (jc vL Ze) Zc7) ZaQ) (jc (Zu (Zg vL jI) vL ZaQ) Ze)))))
theorem Zqw: DD w s₀ mg mb 287 3 ZlR:=by
 unfold DD;k_fill
 refine ZV (names:=["row","left","rests","new","bound","other","low"]) (g:=ZiI) ?_
 exact fun _ _ _ _ _ _ _ c _ _=>(Zh (ZC sL (J.list Ze)) (Zh (Zhx sL sL (JI2.zip (nB c) vL vL) (Zh (ZC sL (cF c ZpU (jc vL (jc (cF c Zjl (jc vL (jc (cF c Zi3 (jc vL (jc (Zbp jI Zbk) Ze))) Ze))) Ze)))) (Zh (ZG (ZaF (Zaj (Zz vL jN ZaR) (Zaj (Zz vL jN Zbt) ZbG))) (Zm (Zr jN)) ZI) (Zm (ZcD (J.append vL vL)))))) (Zm (Zr vL))))
theorem Zsz: DD w s₀ mg mb 280 4 Znn:=by
 unfold DD;k_fill
 refine ZV (names:=["told","rests","bounds"]) (g:=(TM.XS.g Zej)) ?_
 exact fun _ _ _ _ _ _ _ c _ _=>(Zh (ZG (Zz vL jN ZaR) (Zm (Zr jN)) ZI) (Zh (ZC sC (cF c Zl0 (jc (Zg vL jI) Ze))) (Zh (by refine sT sL ?_ ?_;(exact(JI2.zip (nB c) (Zg vL jI) vC));(exact fun _ _=>(cF (ZbK c) Zqw (jc vO (jc vO (jc vD Ze)))))) (Zh (ZG (Zz jN vL Zgz) (Zm (Zr jN)) ZI) (Zm (Zr (J.tup (jc vL (jc (Zg vL jI) Ze)))))))))
theorem ZoS: DD w s₀ mg mb 242 8 Zot:=by
 unfold DD;k_fill
 refine ZV (names:=["told"]) (g:=(TM.XS.g Zgg)) ?_
 exact fun _ _ _ _ _ _ _ c _ _=>(Zm (Zr (cF c Zpp (jc (cF c Zsz (jc (cF c Zpp (jc vL Ze)) Ze)) Ze))))
theorem ZsA: DD w s₀ mg mb 51 1 Znl:=by
 unfold DD;k_fill
 refine ZV (names:=["lo","hi"]) (g:=(TM.XS.g ZfX)) ?_
 exact fun _ _ _ _ _ _ _ c _ _=>(Zm (Zr (Zvd (ZbS vL jN Zbt) (ZeL (ZbS vL jN Zbt) (ZbS vL vL ZcG)))))
theorem Zuw: DD w s₀ mg mb 318 5 Zox:=by
 unfold DD;k_fill
 refine ZV (names:=["told","one"]) (g:=(TM.XS.g Zgi)) ?_
 exact fun _ _ _ _ _ _ _ c _ _=>(Zm (Zr (cF c Zg8 (jc (cF c ZjM (jc vL (jc (cF c ZdE (jc vL (jc (Zbp jI Zbk) Ze))) Ze))) (jc (Zbp jI Zbk) Ze)))))
theorem Zep: DD w s₀ mg mb 325 10 Znq:=by
 unfold DD;k_fill
 refine ZV (names:=["told","one","top","bounds"]) (g:=(TM.XS.g ZdG)) ?_
 exact fun _ _ _ _ _ _ _ c _ _=>(Zh (ZG (ZaF (ZaN (Zz vL jN ZaR) (ZaN (ZaU (cF c ZsA (jc (cF c Zuw (jc vL (jc vL Ze))) (jc vL Ze)))) Zcd))) (Zm (Zr jN)) ZI) (Zh (ZC sL (cF c ZkH (jc (Zg vL jI) Ze))) (Zh (ZcD (cF c Zqt (jc vL (jc vL (jc vL (jc vL Ze)))))) (Zh (ZcD (cF c Zqu (jc vL (jc vL (jc vL (jc vL Ze)))))) (Zm (Zr (cF c ZoS (jc (J.tup (jc vL (jc (Zg vL jI) Ze))) Ze))))))))
theorem ZqR: DD w s₀ mg mb 573 1 Zl5:=by
 unfold DD;k_fill
 refine ZV (names:=["_law_told_here"]) (g:=ZgV) ?_
 exact fun _ _ _ _ _ _ _ c _ _=>(Zm (ZG (Zz vL jN Zbt) (Zh (S1.put jI (Zg (Zg vL jI) jI) jI) (Zh (ZcD (J.append (Zg vL jI) (J.list (jc jI Ze)))) (Zm (ZcD (J.append (Zg vL jI) (J.tup (jc jI (jc jI Ze)))))))) ZI))
theorem ZqS: DD w s₀ mg mb 464 3 Zl1:=by
 unfold DD;k_fill
 refine ZV (names:=["_law_script","_law_k","_law_told_here","_law_bounds","_law_rests","_law_i","_law_j","_law_way","_law_t","_law_one"]) (g:=(TM.XS.g Zfe)) ?_
 exact fun _ _ _ _ _ _ _ c _ _=>(Zh (by refine sO sL ?_ ?_ ?_;(exact(JI.seq (Zg vL jI)));(exact fun _ _=>(Zco (nB (ZbK c)) (jc vO Ze) Zcy));(exact fun _ _=>JF.nil)) (Zh (ZC sL (Zco (nB c) (jc (Zg vL jI) Ze) Zcy)) (Zh (ZC sL (cF c law_pick_d (jc vL (jc vL (jc (Zac (nB c) (jc vL Ze) ZaA) Ze))))) (Zh (ZC sL (cF c law_pick_d (jc vL (jc (Zu vL jI Z4) (jc (Zac (nB c) (jc vL Ze) ZaA) Ze))))) (Zh (ZC sL (cF c law_pick_d (jc vL (jc (Zu vL jI Z4) (jc jI Ze))))) (Zh (ZG (ZaF (Zaj (Zz vL jI ZbO) (Zaj (Zz vL vL Za8) (Zaj (Zz (Zg (Zg vL vL) vL) jN ZaR) ZbG)))) (Zm (S1.put (cF c Zea (jc vL (jc (Zu vL jI Z4) Ze))) (Zg vL vL) vL)) (Zm (ZG (ZaF (Zaj (Zz vL jI ZbO) (Zaj (Zz vL vL Za8) ZbG))) (Zm (S1.put (Zu (Zu (Zg (Zg vL vL) vL) jI Za2) (cF c law_pick_d (jc vL (jc (Zu vL jI Z4) (jc jI Ze)))) Za2) (Zg vL vL) vL)) (Zm (ZG (Zz (Zac (nB c) (jc vL Ze) ZaA) jI ZcG) (Zh (ZC sL (cF c law_pick_d (jc vL (jc vL (jc (Zac (nB c) (jc vL Ze) ZaA) Ze))))) (Zh (ZC sL (Zg vL vL)) (Zm (S1.put (cF c Zfc (jc (Zu (Zg vL jI) (Zu jI (Zu vL jI ZaV) Z4) ZaQ) (jc (Zu (Zg vL jI) (cF c law_pick_d (jc vL (jc (Zu vL jI Z4) (jc jI Ze)))) Z4) Ze))) vL vL)))) ZI))))) (Zm (Zr (J.tup (jc vL (jc vL Ze)))))))))))
theorem Zjm: DD w s₀ mg mb 471 1 Zmo:=by
 unfold DD;k_fill
 refine ZV (names:=["_law_thing"]) (g:=(TM.XS.g Zft)) ?_
 exact fun _ _ _ _ _ _ _ c _ _=>(Zm (Zr (ZeL (Zc2 (nB c) (nB c) (.inl rfl) vL) (Zvm (Zc2 (nB c) (nB c) (.inr (.inl rfl)) vL)))))
theorem ZrR: DD w s₀ mg mb 478 2 ZmW:=by
 unfold DD;k_fill
 refine ZV (names:=["_law_thing","_law_size","_law_i","_law_top"]) (g:=(TM.XS.g ZfI)) ?_
 exact fun _ _ _ _ _ _ _ c _ _=>(Zh (ZG (ZaF (ZaN (Zb2 (ZaU (Zc2 (nB c) (nB c) (.inr (.inr (.inl rfl))) vL))) (ZaN (Zz (Zac (nB c) (jc vL Ze) ZaA) vL Za8) Zcd))) (Zm (Zr jB)) ZI) (Zh (Za3 sL (JI.range (nB c) (jc vL Ze)) (Zh (ZG (ZaF (ZaN (Zb2 (ZaU (Zc2 (nB c) (nB c) (.inr (.inr (.inl rfl))) (Zg vL vL)))) (ZaN (Zz (Zac (nB c) (jc (Zg vL vL) Ze) ZaA) vL Za8) Zcd))) (Zm (Zr jB)) ZI) (Zh (Za3 sL (JI.seq (Zg vL vL)) (Zm (ZG (ZaF (Zaj (Zz vL jN Zbt) (Zaj (Zb2 (ZaU (cF c Zjm (jc vL Ze)))) ZbG))) (Zm (Zr jB)) ZI))) (Zm (ZG (Zz (Zg (Zg vL vL) vL) jI Za8) (Zm (Zr jB)) ZI))))) (Zm (Zr jB))))
theorem Zre: DD w s₀ mg mb 485 3 Zmr:=by
 unfold DD;k_fill
 refine ZV (names:=["_law_thing","_law_many","_law_pair"]) (g:=(TM.XS.g Zfx)) ?_
 exact fun _ _ _ _ _ _ _ c _ _=>(Zh (ZG (ZaF (ZaN (Zb2 (ZaU (Zc2 (nB c) (nB c) (.inr (.inr (.inr rfl))) vL))) (ZaN (Zz (Zac (nB c) (jc vL Ze) ZaA) jI Za8) (ZaN (Zb2 (ZaU (cF c ZrR (jc (Zg vL jI) (jc (Zu vL jI Z4) Ze))))) Zcd)))) (Zm (Zr jB)) ZI) (Zh (ZG (ZaF (ZaN (Zb2 (ZaU (Zc2 (nB c) (nB c) (.inr (.inr (.inl rfl))) (Zg vL jI)))) (ZaN (Zz (Zac (nB c) (jc (Zg vL jI) Ze) ZaA) vL Za8) Zcd))) (Zm (Zr jB)) ZI) (Zh (Za3 sL (JI.seq (Zg vL jI)) (Zh (ZG (ZaF (ZaN (Zb2 (ZaU (Zc2 (nB c) (nB c) (.inr (.inr (.inr rfl))) vL))) (ZaN (Zz (Zac (nB c) (jc vL Ze) ZaA) jI Za8) Zcd))) (Zm (Zr jB)) ZI) (Zh (ZG (ZaF (ZaN (Zb2 (ZaU (cF c Zjm (jc (Zg vL jI) Ze)))) (ZaN (Zb2 (ZaU (cF c Zjm (jc (Zg vL jI) Ze)))) Zcd))) (Zm (Zr jB)) ZI) (Zm (ZG (ZaF (ZaN (Zz (Zg vL jI) jI ZbO) (ZaN (ZaF (Zaj (Zz (Zg vL jI) jI ZcG) (Zaj (Zb2 (Zs0 jI (Zg vL jI) (Zg vL jI) Zk1 ZbO)) ZbG))) Zcd))) (Zm (Zr jB)) ZI))))) (Zm (Zr jB)))))
theorem ZjN: DD w s₀ mg mb 492 4 ZmZ:=by
 unfold DD;k_fill
 refine ZV (names:=["_law_found","_law_due"]) (g:=(TM.XS.g Zed)) ?_
 exact fun _ _ _ _ _ _ _ c _ _=>(Zh (ZG (Zz vL jN ZaR) (Zm (Zr (ZbS vL jN ZaR))) ZI) (Zm (Zr (ZeL (cF c Zre (jc vL (jc (Zac (nB c) (jc (Zg vL jI) Ze) ZaA) Ze))) (ZbS vL vL Zal)))))
theorem ZqT: DD w s₀ mg mb 360 11 Zl8:=by
 unfold DD;k_fill
 refine ZV (names:=["told","one","truth"]) (g:=(TM.XS.g Zd8)) ?_
 exact fun _ _ _ _ _ _ _ c _ _=>(Zh (ZG (ZaU vL) (Zm (Zr (cF c Zep (jc vL (jc vL (jc (Zbp jI Zbk) Ze)))))) ZI) (Zm (Zr (cF c Zep (jc vL (jc (cF c ZdE (jc vL (jc (Zbp jI Zbk) Ze))) (jc jI Ze)))))))
theorem ZlG: DD w s₀ mg mb 192 2 ZlC:=by
 unfold DD;k_fill
 refine ZV (names:=["one","k"]) (g:=(TM.XS.g ZgK)) ?_
 exact fun _ _ _ _ _ _ _ c _ _=>(Zm (Zr (cF c Zh8 (jc (cF c Zkd (jc (Zg vL jI) (jc vL Ze))) (jc (Zg vL jI) Ze)))))
theorem Zhh: DD w s₀ mg mb 235 3 ZmX:=by
 unfold DD;k_fill
 refine ZV (names:=["one","rests","whole","k","part"]) (g:=(TM.XS.g Zhb)) ?_
 exact fun _ _ _ _ _ _ _ c _ _=>(Zh (ZC sL (J.tup (jc jI (jc (Zg vL jI) Ze)))) (Zh (Zhx sL sL (JI2.zip (nB c) (ZeB vL jI) vL) (Zm (ZC sL (cF c Zjl (jc vL (jc (cF c Zi3 (jc vL (jc vL Ze))) Ze)))))) (Zm (Zr vL))))
theorem Zqx: DD w s₀ mg mb 407 4 ZlV:=by
 unfold DD;k_fill
 refine ZV (names:=["rests","one","d","i","k","left","others"]) (g:=(TM.XS.g ZgR)) ?_
 exact fun _ _ _ _ _ _ _ c _ _=>(Zh (ZC sL (Zg vL vL)) (Zh (ZC sL (Zg vL (Zu vL jI Za2))) (Zh (ZG (Zz (Zac (nB c) (jc vL Ze) Zc7) jI Za8) (Zm (Zr vL)) ZI) (Zh (ZC sL (cF c ZjK (jc vL (jc (cF c ZdE (jc (cF c Zhp (jc vL (jc (Zac (nB c) (jc vL Ze) ZaA) Ze))) (jc vL Ze))) Ze)))) (Zm (Zr (cF c Znc (jc vL (jc (cF c ZlG (jc (cF c Zi3 (jc (cF c Zhh (jc vL (jc vL Ze))) (jc (Zbp vL Zbk) Ze))) (jc vL Ze))) Ze)))))))))
theorem ZmH: DD w s₀ mg mb 400 9 Zmt:=by
 unfold DD;k_fill
 refine ZV (names:=["told","one","d","rests"]) (g:=(TM.XS.g Zg5)) ?_
 exact fun _ _ _ _ _ _ _ c _ _=>(Zh (ZG (Zz vC jN ZaR) (Zm (Zr jN)) ZI) (Zh (by refine sO sL ?_ ?_ ?_;(exact(JI.range (nB c) (jc jI (jc (Zac (nB c) (jc vC Ze) ZaA) Ze))));(exact fun _ _=>(cF (ZbK c) Zqx (jc (Zg vD jI) (jc vD (jc vD (jc vO Ze))))));(exact fun _ _=>JF.nil)) (Zh (ZG (Zz jN vL Zgz) (Zm (Zr jN)) ZI) (Zm (Zr (cF c ZoS (jc (J.tup (jc (Zg vC jI) (jc vL Ze))) Ze)))))))
theorem ZmI: DD w s₀ mg mb 388 10 Zmv:=by
 unfold DD;k_fill
 refine ZV (names:=["told","one","d"]) (g:=(TM.XS.g Zg6)) ?_
 exact fun _ _ _ _ _ _ _ c _ _=>(Zh (ZG (Zb2 (ZaU (cF c ZfR (jc (cF c ZlG (jc (cF c Zhh (jc vL (jc (Zg vL jI) Ze))) (jc vL Ze))) (jc jI Ze))))) (Zm (Zr jN)) ZI) (Zm (Zr (cF c ZmH (jc vL (jc vL (jc vL Ze)))))))
theorem Zqy: DD w s₀ mg mb 164 2 ZlP:=by
 unfold DD;k_fill
 refine ZV (names:=["one","other"]) (g:=(TM.XS.g ZgO)) ?_
 exact fun _ _ _ _ _ _ _ c _ _=>(Zh (ZG (Zz (Zg vL jI) jI Zal) (Zm (Zr (ZbS vL vL Zal))) ZI) (Zm (Zr (ZeL (ZbS (Zu (Zg vL jI) (Zg vL jI) ZaV) jI Zal) (cF c ZfR (jc vL (jc (Zg vL jI) Ze)))))))
theorem ZpV: DD w s₀ mg mb 395 11 ZlE:=by
 unfold DD;k_fill
 refine ZV (names:=["told","one","d"]) (g:=(TM.XS.g ZgL)) ?_
 exact fun _ _ _ _ _ _ _ c _ _=>(Zh (ZG (ZaU (cF c Zqy (jc (cF c Zhh (jc vL (jc (Zg vL jI) Ze))) (jc (J.tup (jc vL (jc jI Ze))) Ze)))) (Zm (Zr jN)) ZI) (Zh (ZG (Zz vL jI Zal) (Zm (Zr (cF c ZmI (jc vL (jc (Zu (J.list (jc (Zu (Zg vL jI) jI Z4) Ze)) (ZeB vL jI) Z4) (jc jI Ze)))))) ZI) (Zm (Zr (cF c ZkH (jc vL Ze))))))
theorem Zrf: DD w s₀ mg mb 367 11 Zmx:=by
 unfold DD;k_fill
 refine ZV (names:=["told","one","held"]) (g:=(TM.XS.g Zg7)) ?_
 exact fun _ _ _ _ _ _ _ c _ _=>(Zh (ZG (Zb2 (ZaU (cF c ZfR (jc (cF c Zhh (jc vL (jc (Zg vL jI) Ze))) (jc jI Ze))))) (Zm (Zr jN)) ZI) (Zh (ZC sL (cF c Zep (jc (cF c Zep (jc vL (jc vL (jc jI Ze)))) (jc (cF c ZdE (jc vL (jc (Zbp jI Zbk) Ze))) (jc jI Ze))))) (Zm (Zr (cF c ZmH (jc vL (jc vL (jc jI Ze))))))))
theorem Znd: DD w s₀ mg mb 381 11 Zm2:=by
 unfold DD;k_fill
 refine ZV (names:=["told","one"]) (g:=(TM.XS.g Zhf)) ?_
 exact fun _ _ _ _ _ _ _ c _ _=>(Zh (ZG (ZaF (Zaj (Zz vL jN Zbt) (Zaj (ZaU (cF c ZmG (jc (cF c ZjM (jc vL (jc vL Ze))) (jc jI Ze)))) ZbG))) (Zm (Zr (cF c Zep (jc vL (jc vL (jc (Zbp jI Zbk) Ze)))))) ZI) (Zm (Zr vL)))
theorem ZpW: DD w s₀ mg mb 374 12 ZlF:=by
 unfold DD;k_fill
 refine ZV (names:=["told","one"]) (g:=(TM.XS.g ZgM)) ?_
 exact fun _ _ _ _ _ _ _ c _ _=>(Zm (Zr (cF c ZkH (jc (cF c Znd (jc (cF c Znd (jc vL (jc vL Ze))) (jc (cF c ZdE (jc vL (jc (Zbp jI Zbk) Ze))) Ze))) Ze))))
theorem Zpq: DD w s₀ mg mb 353 13 Zpa:=by
 unfold DD;k_fill
 refine ZV (names:=["told","claim","truth"]) (g:=(TM.XS.g ZeJ)) ?_
 exact fun _ _ _ _ _ _ _ c _ _=>(Zh (ZG (Zz vL jN ZaR) (Zm (Zr jN)) ZI) (Zh (ZG (Zz (Zg vL jI) jS Zal) (Zm (Zr (cF c ZqT (jc vL (jc (Zg vL jI) (jc vL Ze)))))) ZI) (Zh (ZG (Zz (Zg vL jI) jS Zal) (Zm (Zr (ZdS (ZaU vL) (cF c Zrf (jc vL (jc (Zg vL jI) Ze))) (cF c ZpW (jc vL (jc (Zg vL jI) Ze)))))) ZI) (Zm (Zr (ZdS (ZaU vL) (cF c ZmI (jc vL (jc (Zg vL jI) (jc (Zg vL jI) Ze)))) (cF c ZpV (jc vL (jc (Zg vL jI) (jc (Zg vL jI) Ze))))))))))
theorem ZiD: DD w s₀ mg mb 542 1 ZlL:=by
 unfold DD;k_fill
 refine ZV (names:=["_law_told_here","_law_one","_law_ups","_law_downs","_law_ends","_law_total","_law_i"]) (g:=Ziy) ?_
 exact fun _ _ _ _ _ _ _ c _ _=>(Zh (by refine sO sL ?_ ?_ ?_;(exact(JI.range (nB c) (jc jI (jc (Zac (nB c) (jc vC Ze) ZaA) Ze))));(exact fun _ _=>vO);(exact fun _ _=>JF.one (Zz (Zg vD vO) jI ZcG))) (Zh (by refine sO sL ?_ ?_ ?_;(exact(JI.range (nB c) (jc jI (jc (Zac (nB c) (jc vC Ze) ZaA) Ze))));(exact fun _ _=>vO);(exact fun _ _=>JF.one (Zz (Zg vD vO) jI ZbO))) (Zh (ZG (ZaF (Zaj (Zz (Zac (nB c) (jc vL Ze) ZaA) jI Zal) (Zaj (Zz (Zac (nB c) (jc vL Ze) ZaA) jI Zal) (Zaj (Zz (Zg vC (Zg vL jI)) jI Zal) (Zaj (Zz (Zg vC (Zg vL jI)) (Zbp jI Zbk) Zal) ZbG))))) (Zh (ZG (Zz (Zg (Zg (Zg vC jI) (Zg vL jI)) (Zg vL jI)) jN ZaR) (Zm (Zr jN)) ZI) (Zm (Zr (Zu (Zg (Zg (Zg vC jI) (Zg vL jI)) (Zg vL jI)) (Zg vC jI) Z4)))) ZI) (Zh (ZC sL (Zu (by refine cO ?_ ?_ ?_;(exact(JI.seq vL));(exact fun _ _=>(Zg (Zg (Zg vD jI) vO) jI));(exact fun _ _=>JF.nil)) (by refine cO ?_ ?_ ?_;(exact(JI.seq vL));(exact fun _ _=>(Zg (Zg (Zg vD jI) jI) vO));(exact fun _ _=>JF.nil)) Z4)) (Zh (ZG (Zz jN vL Zgz) (Zm (Zr jN)) ZI) (Zh (ZC sL (Zg vC jI)) (Zh (Za3 sL (JI.seq vL) (Zm (ZC sL (Zu vL (Zu (Zg vC vL) (Zg (Zg (Zg vC jI) vL) jI) ZaQ) Z4)))) (Zh (Za3 sL (JI.seq vL) (Zm (ZC sL (Zu vL (Zu (Zg vC vL) (Zg (Zg (Zg vC jI) jI) vL) ZaQ) Za2)))) (Zm (Zr vL))))))))))
theorem Zly: DD w s₀ mg mb 511 1 Zlv:=by
 unfold DD;k_fill
 refine ZV (names:=["_law_bounds","_law_size","_law_found","_law_reach","_law_before","_law_i","_law_j","_law_k","_law_by"]) (g:=(TM.XS.g ZeT)) ?_
 exact fun _ _ _ _ _ _ _ c _ _=>(Zh (ZC sL (Zac (nB c) (jc vL Ze) ZaA)) (Zh (by refine sO sL ?_ ?_ ?_;(exact(JI.seq vL));(exact fun _ _=>(Zco (nB (ZbK c)) (jc vO Ze) Zcy));(exact fun _ _=>JF.nil)) (Zh (ZC sL jI) (Zh (Zf4 1000000 (Zz vL vL ZbO) (Zh (by refine sO sL ?_ ?_ ?_;(exact(JI.seq vL));(exact fun _ _=>(Zco (nB (ZbK c)) (jc vO Ze) Zcy));(exact fun _ _=>JF.nil)) (Zh (Za3 sL (JI.range (nB c) (jc vL Ze)) (Zm (Za3 sL (JI.range (nB c) (jc vL Ze)) (Zm (Za3 sL (JI.range (nB c) (jc vL Ze)) (Zm (ZG (ZaF (Zaj (Zz (Zg (Zg vL vL) vL) jN Zbt) (Zaj (Zz (Zg (Zg vL vL) vL) jN Zbt) ZbG))) (Zh (ZC sL (Zu (Zg (Zg vL vL) vL) (Zg (Zg vL vL) vL) Z4)) (Zm (ZG (ZaF (ZaN (Zz (Zg (Zg vL vL) vL) jN ZaR) (ZaN (Zz vL (Zg (Zg vL vL) vL) ZbO) Zcd))) (Zm (S1.put vL (Zg vL vL) vL)) ZI))) ZI))))))) (Zm (ZC sL (Zu jI vL ZaQ)))))) (Zh (Za3 sL (JI.range (nB c) (jc vL Ze)) (Zm (ZG (Zz (Zg (Zg vL vL) vL) jI ZbO) (Zm (Zr jN)) ZI))) (Zm (Zr vL)))))))
theorem ZsB: DD w s₀ mg mb 506 2 Zno:=by
 unfold DD;k_fill
 refine ZV (names:=["_law_one","_law_other","_law_high","_law_low","_law_now","_law_then","_law_times","_law_over","_law_apart"]) (g:=(TM.XS.g Zf0)) ?_
 exact fun _ _ _ _ _ _ _ c _ _=>(Zh (ZC sL (Zg vL jI)) (Zh (ZC sL (Zg vL jI)) (Zh (ZC sL jI) (Zh (ZC sL jI) (Zh (Zf4 1000000 (Zz vL jI Za8) (Zh (ZC sL (Zu vL vL Zcp)) (Zh (ZC sL (Zu vL (Zu vL vL ZaQ) Za2)) (Zh (ZC sL vL) (Zh (ZC sL vL) (Zh (ZC sL (Zu vL (Zu vL vL ZaQ) Za2)) (Zh (ZC sL vL) (Zm (ZC sL vL))))))))) (Zh (ZC sL (Zu (Zg vL jI) (Zg vL jI) Za2)) (Zh (ZG (Zz vL jI Zal) (Zh (ZG (Zz vL jI Za8) (Zm (Zr jN)) ZI) (Zm (Zr vL))) ZI) (Zh (ZG (Zz (Zu vL vL ZaV) jI Za8) (Zm (Zr jN)) ZI) (Zm (Zr (cF c Zfc (jc (Zu (Zu (Zg vL jI) vL Zcp) (Zg vL jI) ZaQ) (jc (Zu (Zg vL jI) (Zu (Zu (Zg vL jI) vL ZaQ) (Zu vL vL Zcp) ZaQ) Z4) Ze)))))))))))))
theorem Zmd: DD w s₀ mg mb 518 3 Zl3:=by
 unfold DD;k_fill
 refine ZV (names:=["_law_bounds","_law_rests","_law_full","_law_new","_law_i","_law_j","_law_gap"]) (g:=(TM.XS.g Zfh)) ?_
 exact fun _ _ _ _ _ _ _ c _ _=>(Zh (ZC sL (Zu (J.list (jc (J.tup (jc jI (jc jI Ze))) Ze)) vL Z4)) (Zh (ZC sL (Zu (J.list (jc (J.tup (jc jI (jc jI Ze))) Ze)) vL Z4)) (Zh (Za3 sL (JI.range (nB c) (jc jI (jc (Zac (nB c) (jc vL Ze) ZaA) Ze))) (Zm (Za3 sL (JI.range (nB c) (jc (Zac (nB c) (jc vL Ze) ZaA) Ze)) (Zh (ZC sL (Zg (Zg vL vL) vL)) (Zm (ZG (ZaF (Zaj (Zz vL vL Za8) (Zaj (Zz vL jN Zbt) (Zaj (Zz (Zg (Zg vL vL) vL) (Zbp vL Zbk) Zal) (Zaj (Zz (Zg vL vL) jN Zbt) ZbG))))) (Zm (S1.put (cF c ZsB (jc (Zg vL vL) (jc (cF c Zfc (jc (Zg (Zg vL vL) jI) (jc (Zu (Zg (Zg vL vL) jI) vL Z4) Ze))) Ze))) vL vL)) ZI)))))) (Zh (ZG (Zz jN vL Zgz) (Zm (Zr jN)) ZI) (Zm (Zr (ZeB vL jI)))))))
theorem ZsC: DD w s₀ mg mb 499 1 Zni:=by
 unfold DD;k_fill
 refine ZV (names:=["_law_one","_law_other","_law_over"]) (g:=(TM.XS.g ZfU)) ?_
 exact fun _ _ _ _ _ _ _ c _ _=>(Zh (ZC sL (Zac (nB c) (jc vL Ze) Zc7)) (Zh (ZC sL (Zac (nB c) (jc vL Ze) Zc7)) (Zh (Zf4 1000000 (Zz vL jI Za8) (Zh (ZC sL (Zu vL vL ZaV)) (Zh (ZC sL vL) (Zm (ZC sL vL))))) (Zm (Zr vL)))))
theorem Zqz: DD w s₀ mg mb 523 2 ZlS:=by
 unfold DD;k_fill
 refine ZV (names:=["_law_bounds","_law_rests","_law_full","_law_new","_law_i","_law_j","_law_m","_law_r","_law_top"]) (g:=(TM.XS.g Zfb)) ?_
 exact fun _ _ _ _ _ _ _ c _ _=>(Zh (ZC sL (Zu (J.list (jc (J.tup (jc jI (jc jI Ze))) Ze)) vL Z4)) (Zh (by refine sO sL ?_ ?_ ?_;(exact(JI.seq vL));(exact fun _ _=>(Zco (nB (ZbK c)) (jc vO Ze) Zcy));(exact fun _ _=>JF.nil)) (Zh (Za3 sL (JI.range (nB c) (jc (Zac (nB c) (jc vL Ze) ZaA) Ze)) (Zm (Za3 sL (JI.range (nB c) (jc (Zac (nB c) (jc vL Ze) ZaA) Ze)) (Zh (ZC sL (cF c ZsC (jc (Zg (Zg vL vL) jI) (jc (Zg (Zg vL vL) jI) Ze)))) (Zh (ZC sL (Zu (Zg (Zg vL vL) jI) (Zg (Zg vL vL) jI) Za2)) (Zh (ZC sL (Zg (Zg vL vL) vL)) (Zm (ZG (ZaF (Zaj (Zz vL vL Za8) (Zaj (Zz vL jI Zal) ZbG))) (Zh (ZG (ZaF (Zaj (Zz vL jN Zbt) (Zaj (Zz vL vL ZbO) ZbG))) (Zm (Zr jN)) ZI) (Zm (S1.put vL (Zg vL vL) vL))) (Zm (ZG (ZaF (Zaj (Zz vL vL Za8) (Zaj (Zz vL jN Zbt) ZbG))) (Zm (S1.put (Zu vL (Zu (Zu vL vL Za2) vL ZaV) Za2) (Zg vL vL) vL)) ZI)))))))))) (Zm (Zr vL)))))
theorem Zrg: DD w s₀ mg mb 530 4 Zmq:=by
 unfold DD;k_fill
 refine ZV (names:=["_law_told_here","_law_bounds","_law_rests"]) (g:=(TM.XS.g Zfv)) ?_
 exact fun _ _ _ _ _ _ _ c _ _=>(Zh (ZG (Zz vL jN ZaR) (Zm (Zr jN)) ZI) (Zh (ZC sL (cF c Zly (jc (Zg vL jI) Ze))) (Zh (ZG (Zz vL jN ZaR) (Zm (Zr jN)) ZI) (Zh (ZC sL (cF c Zmd (jc vL (jc (Zg vL jI) Ze)))) (Zh (ZG (Zz vL jN ZaR) (Zm (Zr jN)) ZI) (Zh (ZC sL (cF c Zqz (jc vL (jc vL Ze)))) (Zh (ZG (Zz vL jN ZaR) (Zm (Zr jN)) ZI) (Zh (ZC sL (cF c Zly (jc vL Ze))) (Zh (ZG (Zz vL jN ZaR) (Zm (Zr jN)) ZI) (Zh (ZC sL (cF c Zmd (jc vL (jc vL Ze)))) (Zh (ZG (Zz vL jN ZaR) (Zm (Zr jN)) ZI) (Zm (Zr (J.tup (jc vL (jc vL Ze))))))))))))))))
theorem ZjO: DD w s₀ mg mb 554 1 Zm4:=by
 unfold DD;k_fill
 refine ZV (names:=["_law_one","_law_i","_law_k","_law_new"]) (g:=(TM.XS.g ZfN)) ?_
 exact fun _ _ _ _ _ _ _ c _ _=>(Zh (ZC sL (Zco (nB c) (jc vL Ze) Zcy)) (Zh (ZG (Zz vL jI ZcG) (Zm (S1.put (Zu (Zg vL vL) vL Z4) vL vL)) ZI) (Zm (Zr vL))))
theorem Zi4: DD w s₀ mg mb 561 1 Zl9:=by
 unfold DD;k_fill
 refine ZV (names:=["_law_one","_law_other"]) (g:=(TM.XS.g Zfn)) ?_
 exact fun _ _ _ _ _ _ _ c _ _=>(Zh (ZG (Zz vL jN ZaR) (Zm (Zr vL)) ZI) (Zh (ZG (Zz vL jN ZaR) (Zm (Zr vL)) ZI) (Zm (Zr (Zac (nB c) (jc vL (jc vL Ze)) Ztr)))))
theorem ZiS: DD w s₀ mg mb 566 5 ZlW:=by
 unfold DD;k_fill
 refine ZV (names:=["_law_told_here","_law_one","_law_top","_law_away","_law_most","_law_bounds","_law_i","_law_j"]) (g:=(TM.XS.g ZdC)) ?_
 exact fun _ _ _ _ _ _ _ c _ _=>(Zh (ZG (Zz vL jN ZaR) (Zm (Zr jN)) ZI) (Zh (by refine sO sL ?_ ?_ ?_;(exact(JI.seq vL));(exact fun _ _=>(Zbp vO Zbk));(exact fun _ _=>JF.nil)) (Zh (ZC sL (cF c ZiD (jc vL (jc vL Ze)))) (Zh (ZG (ZaF (Zaj (Zz vL jN Zbt) (Zaj (Zz (Zbp vL Zbk) vL ZcG) ZbG))) (Zm (Zr jN)) ZI) (Zh (by refine sO sL ?_ ?_ ?_;(exact(JI.seq (Zg vL jI)));(exact fun _ _=>(Zco (nB (ZbK c)) (jc vO Ze) Zcy));(exact fun _ _=>JF.nil)) (Zh (Za3 sL (JI.range (nB c) (jc (Zac (nB c) (jc vL Ze) ZaA) Ze)) (Zm (Za3 sL (JI.range (nB c) (jc (Zac (nB c) (jc vL Ze) ZaA) Ze)) (Zh (ZC sL (cF c ZiD (jc vL (jc (cF c ZjO (jc (cF c ZjO (jc vL (jc vL (jc jI Ze)))) (jc vL (jc (Zbp jI Zbk) Ze)))) Ze)))) (Zm (ZG (ZaF (Zaj (Zz vL vL Za8) (Zaj (Zz vL jN Zbt) ZbG))) (Zm (S1.put (cF c Zi4 (jc (Zg (Zg vL vL) vL) (jc (Zu vL vL Z4) Ze))) (Zg vL vL) vL)) ZI)))))) (Zh (Za3 sL (JI.range (nB c) (jc jI (jc (Zac (nB c) (jc vL Ze) ZaA) Ze))) (Zh (ZC sL (cF c ZiD (jc vL (jc (cF c ZjO (jc vL (jc vL (jc (Zg vL vL) Ze)))) Ze)))) (Zh (ZG (ZaF (Zaj (Zz (Zg vL vL) jI ZcG) (Zaj (Zz vL jN Zbt) ZbG))) (Zm (S1.put (cF c Zi4 (jc (Zg (Zg vL vL) jI) (jc (Zu (Zu vL vL Z4) (Zg vL vL) Zcp) Ze))) (Zg vL vL) jI)) ZI) (Zm (ZG (ZaF (Zaj (Zz (Zg vL vL) jI ZbO) (Zaj (Zz vL jN Zbt) ZbG))) (Zm (S1.put (cF c Zi4 (jc (Zg (Zg vL jI) vL) (jc (Zu (Zu vL vL Z4) (Zac (nB c) (jc (Zg vL vL) Ze) Zc7) Zcp) Ze))) (Zg vL jI) vL)) ZI))))) (Zm (Zr (cF c Zrg (jc (J.tup (jc vL (jc (Zg vL jI) Ze))) Ze)))))))))))
theorem Zrh: DD w s₀ mg mb 547 1 Zms:=by
 unfold DD;k_fill
 refine ZV (names:=["_law_one","_law_boxes"]) (g:=(TM.XS.g Zfz)) ?_
 exact fun _ _ _ _ _ _ _ c _ _=>(Zm (Zr (Zu (Zg vC jI) (Zac (nB c) (jc (by refine cO ?_ ?_ ?_;(exact(JI.range (nB c) (jc (Zac (nB c) (jc vC Ze) ZaA) Ze)));(exact fun _ _=>(Zu (Zg vD (Zu vO jI Z4)) (Zg vD vO) ZaQ));(exact fun _ _=>JF.nil)) Ze) Zux) Z4)))
end
end L
end
section
open PySem PySem.W PySem.Calls PyProof.Rows PM
open L
seal PySem.wpAny PM.J PM.Js PM.JT PM.JA PM.JF PM.JI PM.JI2 PM.JP PM.S1 PM.Ss PM.Sto PM.Rd PM.Nm PM.OpN PM.Op2 PM.Def
theorem PySem.Challenge.cw_seer_k44_held_and_under_holds : PySem.Challenge.rw_seer_k44_held_and_under.Holds :=
 head (by
  w_strict (k_go0;(rename Well _ _ _ _=>w9);(rename Frag.In _ _=>kx9);(rename Top _ _ _ _ _ _=>t9);(rename Fr _ _ _ _=>f9);(rename News _ _ _ _=>n9);(rename CellsAre _ _ _=>x9);(rename (PyData.layable0 _=true)=>hl9);(obtain⟨H9,e9⟩:=L.ZqP (by omega) hl9);(refine' PM.Ztx (names:=["_law_script","_law_many","_law_boxes","_law_told_here","_law_one","_law_top","_law_way","_law_kept","_law_handed_here","_law_found","_law_less"]) (g:=(TM.XS.g Zf8)) (room:=13) ?hb ?h1 ?h2 ?h3 ?h4 kx9 t9 w9 ?len f9 n9 x9 e9 ?post);(case h1=>decide);(case h2=>decide);(case h3=>rfl);(case h4=>rfl);(case len=>(rw[PM.ZaP];omega));(case hb=>(intro dp un gd L a ccd outer h₀ hu clr hd1 hu1;exact(Zh (ZC sL (Zg (J.list (jc jI (jc jI (jc jI (jc jI (jc jI (jc jI (jc jI (jc jI (jc jI Ze)))))))))) (cF clr law_pick_d (jc vC (jc jI (jc jI Ze)))))) (Zh (by refine sO sL ?_ ?_ ?_;(exact(JI.range (nB clr) (jc vL Ze)));(exact fun _ _=>(cF (ZbK clr) Zea (jc vD (jc (Zu jI vO Z4) Ze))));(exact fun _ _=>JF.nil)) (Zh (ZC sL (cF clr ZrO (jc vC (jc jI (jc vL Ze))))) (Zh (ZC sL (cF clr Zsx (jc vC (jc jI (jc vL Ze))))) (Zh (ZC sL (cF clr Zea (jc vC (jc jI Ze)))) (Zh (ZG (Zz (cF clr law_pick_d (jc vC (jc jI (jc jI Ze)))) jI ZcG) (Zm (ZC sL (Zu (Zu (cF clr Zrh (jc vL (jc vL Ze))) (cF clr law_pick_d (jc vC (jc jI (jc jI Ze)))) Z4) jI Za2))) ZI) (Zh (ZC sL (cF clr law_pick_d (jc vC (jc jI (jc jI Ze))))) (Zh (ZG (Zz (Zu vL jI ZaV) jI Zal) (Zm (ZC sL (cF clr ZqS (jc vC (jc jI (jc vL Ze)))))) ZI) (Zh (ZG (Zz (Zu vL jI ZaV) jI Zal) (Zm (ZC sL jN)) ZI) (Zh (ZC sL (cF clr ZrP (jc vL Ze))) (Zh (ZC sL (Zco (nB clr) (jc vL Ze) Zcy)) (Zh (ZC sL (cF clr Zep (jc vL (jc vL (jc vL Ze))))) (Zh (ZG (ZaF (ZaN (Zz vL vL Za8) (ZaN (Zz vL vL Za8) (ZaN (Zb2 (ZaU (cF clr ZjN (jc vL (jc (cF clr ZiS (jc vL (jc vL (jc vL Ze)))) Ze))))) Zcd)))) (Zm (Zr jB)) ZI) (Zh (ZcD (cF clr ZqR (jc vL Ze))) (Zh (ZC sL (Zu (J.list (jc (Zu (Zg vL jI) vL Za2) Ze)) (ZeB vL jI) Z4)) (Zh (ZC sL (J.tup (jc jS (jc (Zco (nB clr) (jc vL Ze) Zcy) Ze)))) (Zh (ZG (Zb2 (ZaU (cF clr ZjN (jc (cF clr Zpq (jc vL (jc vL (jc jB Ze)))) (jc (cF clr ZiS (jc vL (jc vL (jc (Zbp jI Zbk) Ze)))) Ze))))) (Zm (Zr jB)) ZI) (Zh (ZG (Zb2 (ZaU (cF clr ZjN (jc (cF clr Zpq (jc vL (jc vL (jc jB Ze)))) (jc (cF clr ZiS (jc vL (jc (by refine cO ?_ ?_ ?_;(exact(JI.seq vL));(exact fun _ _=>(Zbp vO Zbk));(exact fun _ _=>JF.nil)) (jc jI Ze)))) Ze))))) (Zm (Zr jB)) ZI) (Zm (Zr (ZeL (ZbS vL vL Zal) (ZbS vL (J.tup (jc jS (jc vL Ze))) Zal))))))))))))))))))))))));(case post=>(intro h' tk' m' F';k_steps)))
  )
end
