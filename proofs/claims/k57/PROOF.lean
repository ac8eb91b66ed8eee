import PyProof.Rows.All
import Wide.All
import OpenK.AllK
import Wide.FinOn
import PySem.Challenge.RW_seer_k57_wider_stays_wider
import PyProof.Rows.News
import PyProof.Rows.Nodes
import PyProof.Rows.Chain
import PyProof.Rows.TupSub
import PyProof.PureInt
import PyProof.Rules2
import PyProof.Rules3
import PyProof.Rows.Globals
import PyProof.Rows.RuleB_mod
import PyProof.Rows.RuleB_floordiv
import PyProof.Rows.RuleB_small
import PyProof.NoPylong
import PyProof.Rows.RuleB_pow
import PyProof.Rows.EqDataRows
import PyProof.Rows.StrTemp
import PyProof.Rows.TupAdd
import PyProof.Rows.ListMul
import PyProof.ListIndexNeg
import PyProof.SliceList
import PyProof.Methods
import PyProof.Rows.Tup
import PyProof.IsiPairs
import PyProof.IsiHeapPairs
import PyProof.IsiNone
import PyProof.Rows.RuleN_abs
import PyProof.Rows.SumAny
import PyProof.WalkInts
import PyProof.PvWalk
import PyProof.RulesRaise
import PyProof.Raises
import PyProof.Dict
import PyProof.Seq
import PyProof.Rows.ListAppend
import PyProof.ForAppend
import PyProof.ForAny
import PyProof.Walks
import PyProof.WalksT
import KE.KItem
import PyProof.WalksMore
import PyProof.RangeFor
import PyProof.Rows.Range3
import OpenK.KCell
import KE.KTree
import KE.RegLcTurns
import KE.KCompFold
import KE.KLcPair
import KE.LcTurns
import PyProof.CompUse
import PyProof.Rows.ZipGen
import OpenK.KLine
import KE.KState
import Wide.Well
import PyProof.ListCopy
import PyProof.Rows.TupleOfSeqD
import KE.LcSums
import KE.KCellOne
import PyProof.FitsBits
import KE.KEqDeep
import PyProof.Rows.TupMore
import PyProof.Rows.NestLooks
import PyProof.EnumMake
import PyProof.WalksEnum
import PyProof.Rows.SortWalk
import PyProof.DictStraight
import PyProof.EqAt
import PyProof.Rows.SeqMore2
import PyProof.ListRange
import PyProof.LongRange
import KE.KAnyBase
import PyProof.Rows.SeqSlice
set_option linter.all false
set_option maxRecDepth 100000
set_option maxHeartbeats 8000000
abbrev Zz0:=@Option.bind_eq_some_iff
abbrev Zz1:=@Option.map_eq_some_iff
abbrev Zz2:=@List.mem_cons_of_mem
abbrev Zz3:=@List.mem_append_right
abbrev Zz4:=@List.mem_append_left
abbrev Zz5:=@List.mem_cons_self
abbrev Zz6:=@List.getElem?_eq_some_iff
abbrev Zz7:=@List.mem_cons
abbrev Zz8:=@List.mem_append
abbrev Zz9:=@List.mem_singleton
abbrev Zz10:=@Nat.le_refl
abbrev Zz11:=@List.mem_map
set_option Elab.async false
set_option compiler.extract_closed false
section
/-! The plain machine: values as trees, lists as places; and how it stands for the model's heap. -/
namespace PM
open PySem PyProof.Rows
inductive V where
 | none
 | bool (b:Bool)
 | int (i:Int)
 | str (s:Str)
 | tup (vs:List V)
 | ref (a:Nat)
noncomputable abbrev Hp:=List (List V)
noncomputable abbrev Lc:=Nat→Option V
noncomputable def LEN: Nat:=100000
theorem ZaZ: LEN=100000:=rfl
theorem ZcD{n:Nat}(h:n≤LEN): n≤sizeLine:=by
 have:sizeLine=2 ^ 24:=rfl
 rw[this];rw[ZaZ]at h;omega
noncomputable abbrev Ze6(xs:List Value)(k:Nat): Obj:={ cls:=.type "tuple",data:=.seq xs.toArray k }
noncomputable abbrev ZbB(xs:List Value)(k:Nat): Obj:={ cls:=.type "list",data:=.seq xs.toArray k }
structure Wd where
 pi:List Addr
 tups:List (Addr×Obj)
 sc:Addr×Obj
structure Wd.Le(W W':Wd): Prop where
 pi:W.pi <+: W'.pi
 tups:∀q∈W.tups,q∈W'.tups
 sc:W'.sc=W.sc
theorem Wd.Le.refl(W:Wd): W.Le W:=⟨List.prefix_refl _,fun _ h=>h,rfl⟩
theorem Wd.Le.trans{W W' W'':Wd}(a:W.Le W')(b:W'.Le W''): W.Le W'':=⟨a.pi.trans b.pi,fun q h=>b.tups q (a.tups q h),b.sc.trans a.sc⟩
theorem Wd.Le.at{W W':Wd}(h:W.Le W'){i:Nat}{a:Addr}(e:W.pi[i]?=some a): W'.pi[i]?=some a:=by
 obtain⟨t,ht⟩:=h.pi
 have hi:i<W.pi.length:=(Zz6.mp e).1
 rw[←ht,List.getElem?_append_left hi]
 exact e
mutual
inductive VR(W:Wd): V→Value→Prop where
 | none:VR W .none .none
 | bool (b:Bool):VR W (.bool b) (.bool b)
 | int (i:Int) (t:Tok):VR W (.int i) (.int i t)
 | str (s:Str) (t:Tok):VR W (.str s) (.str s t)
 | tup {vs:List V} {a:Addr} {xs:List Value} {k:Nat}:(a,Ze6 xs k)∈W.tups→vs.length≤LEN→VRs W vs xs→VR W (.tup vs) (.ref a)
 | ref {i:Nat} {a:Addr}:W.pi[i]?=some a→VR W (.ref i) (.ref a)
inductive VRs(W:Wd): List V→List Value→Prop where
 | nil:VRs W [] []
 | cons {v:V} {x:Value} {vs:List V} {xs:List Value}:VR W v x→VRs W vs xs→VRs W (v::vs) (x::xs)
end
mutual
theorem VR.mono{W W':Wd}(h:W.Le W'){v:V}{x:Value}(r:VR W v x): VR W' v x:=by
 cases r with
 | none=>exact .none
 | bool b=>exact .bool b
 | int i t=>exact .int i t
 | str s t=>exact .str s t
 | tup hm hl hs=>exact .tup (h.tups _ hm) hl (VRs.mono h hs)
 | ref e=>exact .ref (h.at e)
theorem VRs.mono{W W':Wd}(h:W.Le W'){vs:List V}{xs:List Value}(r:VRs W vs xs): VRs W' vs xs:=by
 cases r with
 | nil=>exact .nil
 | cons a b=>exact .cons (VR.mono h a) (VRs.mono h b)
end
theorem VRs.length{W:Wd}: ∀{vs:List V} {xs:List Value},VRs W vs xs→xs.length=vs.length
 | _,_,.nil=>rfl
 | _,_,.cons _ r=>by rw[List.length_cons,List.length_cons,r.length]
theorem VRs.at{W:Wd}: ∀{vs:List V} {xs:List Value} {i:Nat} {v:V},VRs W vs xs→vs[i]?=some v→∃x,xs[i]?=some x∧VR W v x
 | _,_,_,_,.nil,e=>by simp at e
 | _,_,0,_,.cons a _,e=>by
  simp at e
  exact⟨_,by simp,e▸a⟩
 | _,_,i+1,_,.cons _ r,e=>by
  simp at e
  obtain⟨x,hx,hr⟩:=r.at e
  exact⟨x,by simpa using hx,hr⟩
theorem VRs.append{W:Wd}: ∀{vs us:List V} {xs ys:List Value},VRs W vs xs→VRs W us ys→VRs W (vs++us) (xs++ys)
 | _,_,_,_,.nil,h=>h
 | _,_,_,_,.cons a r,h=>.cons a (r.append h)
theorem VRs.snoc{W:Wd}{vs:List V}{xs:List Value}{v:V}{x:Value}(h:VRs W vs xs)(r:VR W v x): VRs W (vs++[v]) (xs++[x]):=h.append (.cons r .nil)
theorem VRs.set{W:Wd}: ∀{vs:List V} {xs:List Value} {v:V} {x:Value} (i:Nat),VRs W vs xs→VR W v x→VRs W (vs.set i v) (xs.set i x)
 | _,_,_,_,_,.nil,_=>.nil
 | _,_,_,_,0,.cons _ r,h=>.cons h r
 | _,_,_,_,i+1,.cons a r,h=>.cons a (r.set i h)
theorem VRs.drop{W:Wd}: ∀{vs:List V} {xs:List Value} (i:Nat),VRs W vs xs→VRs W (vs.drop i) (xs.drop i)
 | _,_,0,h=>h
 | _,_,_+1,.nil=>.nil
 | _,_,i+1,.cons _ r=>r.drop i
structure HR(W:Wd)(H:Hp)(led:List (Addr×Obj)): Prop where
 len:W.pi.length=H.length
 nd:W.pi.Nodup
 lists:∀(i:Nat) (vs:List V),H[i]?=some vs→vs.length≤LEN∧∃a xs k,W.pi[i]?=some a∧(a,ZbB xs k)∈led∧VRs W vs xs
 tups:∀q∈W.tups,q∈led
 kind:∀q∈W.tups,∃xs k,q.2=Ze6 xs k
theorem HR.mono{W:Wd}{H:Hp}{led led':List (Addr×Obj)}(R:HR W H led)(h:∀q∈led,q∈led'): HR W H led':=
 ⟨R.len,R.nd,fun i vs e=>by
  obtain⟨l,a,xs,k,h1,h2,h3⟩:=R.lists i vs e
  exact⟨l,a,xs,k,h1,h _ h2,h3⟩,fun q hq=>h q (R.tups q hq),R.kind⟩
structure Cx where
 A:Around
 env:Env
 h₀:Heap
 L:Addr
 hh:A.handled=none
 hu:A.units+200<cLine
 Own:Wd→Lc→(Str→Option Value)→List (Addr×Obj)→Prop
 mono:∀{W W':Wd} {ρ:Lc} {m:Str→Option Value} {c:List (Addr×Obj)},W.Le W'→Own W ρ m c→Own W' ρ m c
structure Rep'(Γ:Cx)(W:Wd)(ρ:Lc)(H:Hp)(fr:List (Addr×Obj))(h:Heap)(m:Str→Option Value)(cells led:List (Addr×Obj)): Prop where
 F:Fr Γ.h₀ Γ.L h m
 N:News Γ.h₀ Γ.L h led
 R:HR W H (W.sc::led)
 sc:Γ.h₀.get? W.sc.1=some W.sc.2
 sc0:W.pi[0]?=some W.sc.1
 frIn:∀q∈fr,q∈led
 frOff:∀q∈fr,q.1∉W.pi
 clIn:∀q∈cells,q∈led
 clOff:∀q∈cells,q.1∉W.pi
 apart:∀q∈cells,∀r∈fr,q.1≠r.1
 frTup:∀q∈fr,∀t∈W.tups,q.1≠t.1
 clTup:∀q∈cells,∀t∈W.tups,q.1≠t.1
 own:Γ.Own W ρ m cells
def Rep(Γ:Cx)(W:Wd)(ρ:Lc)(H:Hp)(fr:List (Addr×Obj))(h:Heap): Prop:=∃m cells led,Rep' Γ W ρ H fr h m cells led
theorem Rep.grown{Γ:Cx}{W:Wd}{ρ:Lc}{H:Hp}{fr:List (Addr×Obj)}{h h':Heap}(r:Rep Γ W ρ H fr h)(up:∀b o,h.get? b=some o→h'.get? b=some o): Rep Γ W ρ H fr h':=by
 obtain⟨m,c,led,r⟩:=r
 refine⟨m,c,led,⟨⟨?_,fun b o e=>up b o (r.F.keep b o e),r.F.above⟩,fun q hq=>⟨up _ _ (r.N q hq).1,(r.N q hq).2⟩,r.R,r.sc,r.sc0,r.frIn,r.frOff,r.clIn,r.clOff,r.apart,r.frTup,r.clTup,r.own⟩⟩
 obtain⟨o,es,ep,h1,h2⟩:=r.F.ns
 exact⟨o,es,ep,up _ _ h1,h2⟩
theorem Rep.push{Γ:Cx}{W:Wd}{ρ:Lc}{H:Hp}{fr:List (Addr×Obj)}{h:Heap}(r:Rep Γ W ρ H fr h)(o:Obj): Rep Γ W ρ H fr (h.push o):=r.grown fun _ _ e=>Heap.get?_push_of_some _ e
theorem Zee{q s:Addr×Obj}{l l':List (Addr×Obj)}(h:q∈s::l)(m:q∈l→q∈l'): q∈s::l':=by
 rcases Zz7.mp h with e | h
 ·exact e▸List.mem_cons_self
 ·exact Zz2 _ (m h)
theorem Zf6{q s:Addr×Obj}{l l':List (Addr×Obj)}(h:q∈s::l)(m:∀x∈l,x∈l'): q∈s::l':=by
 rcases Zz7.mp h with e | h
 ·exact e▸List.mem_cons_self
 ·exact Zz2 _ (m q h)
theorem Rep'.get{Γ:Cx}{W:Wd}{ρ:Lc}{H:Hp}{fr:List (Addr×Obj)}{h:Heap}{m:Str→Option Value}{c led:List (Addr×Obj)}(r:Rep' Γ W ρ H fr h m c led){q:Addr×Obj}(hq:q∈W.sc::led): h.get? q.1=some q.2:=by
 rcases Zz7.mp hq with e | hq
 ·rw[e]
  exact r.F.keep _ _ r.sc
 ·exact(r.N q hq).1
theorem Rep'.off{Γ:Cx}{W:Wd}{ρ:Lc}{H:Hp}{fr:List (Addr×Obj)}{h:Heap}{m:Str→Option Value}{c led:List (Addr×Obj)}(r:Rep' Γ W ρ H fr h m c led): ∀q∈W.sc::led,q.1≠h.objs.size:=fun q hq=>Nat.ne_of_lt (Heap.lt_size (r.get hq))
theorem Rep'.same{Γ:Cx}{W:Wd}{ρ:Lc}{H:Hp}{fr:List (Addr×Obj)}{h h':Heap}{m:Str→Option Value}{c led:List (Addr×Obj)}(r:Rep' Γ W ρ H fr h m c led)(F':Fr Γ.h₀ Γ.L h' m)(N':News Γ.h₀ Γ.L h' led): Rep Γ W ρ H fr h':=
 ⟨m,c,led,F',N',r.R,r.sc,r.sc0,r.frIn,r.frOff,r.clIn,r.clOff,r.apart,r.frTup,r.clTup,r.own⟩
theorem Rep'.piIn{Γ:Cx}{W:Wd}{ρ:Lc}{H:Hp}{fr:List (Addr×Obj)}{h:Heap}{m:Str→Option Value}{c led:List (Addr×Obj)}(r:Rep' Γ W ρ H fr h m c led): ∀a∈W.pi,∃o,(a,o)∈W.sc::led:=by
 intro a ha
 obtain⟨i,hi,e⟩:=List.getElem_of_mem ha
 have hi':i<H.length:=r.R.len▸hi
 obtain⟨_,b,xs,k,h1,h2,_⟩:=r.R.lists i H[i] (List.getElem?_eq_getElem hi')
 have:b=a:=by rw[List.getElem?_eq_getElem hi,e]at h1;exact(Option.some.inj h1).symm
 exact⟨_,this▸h2⟩
theorem Rep'.inLed{Γ:Cx}{W:Wd}{ρ:Lc}{H:Hp}{fr:List (Addr×Obj)}{h:Heap}{m:Str→Option Value}{c led:List (Addr×Obj)}(r:Rep' Γ W ρ H fr h m c led){i:Nat}{a:Addr}{o:Obj}(hi:i≠0)(ea:W.pi[i]?=some a)(hm:(a,o)∈W.sc::led): (a,o)∈led:=by
 rcases Zz7.mp hm with e | hm
 ·have e1:a=W.sc.1:=congrArg (·.1) e
  have hl:i<W.pi.length:=(Zz6.mp ea).1
  have:i=0:=(List.getElem?_inj hl r.R.nd).mp (by rw[ea,r.sc0,e1])
  exact absurd this hi
 ·exact hm
theorem Rep'.notSc{Γ:Cx}{W:Wd}{ρ:Lc}{H:Hp}{fr:List (Addr×Obj)}{h:Heap}{m:Str→Option Value}{c led:List (Addr×Obj)}(r:Rep' Γ W ρ H fr h m c led): ∀q∈led,q.1≠W.sc.1:=fun q hq e=>by
 have:=(r.N q hq).2.2
 rw[e,r.sc]at this
 cases this
theorem Rep'.newTup{Γ:Cx}{W:Wd}{ρ:Lc}{H:Hp}{fr:List (Addr×Obj)}{h h':Heap}{m:Str→Option Value}{c led:List (Addr×Obj)}{vs:List V}{xs:List Value}{k:Nat}{n:Addr}(r:Rep' Γ W ρ H fr h m c led)(F':Fr Γ.h₀ Γ.L h' m)(N':News Γ.h₀ Γ.L h' ((n,Ze6 xs k)::led))(hn:∀q∈W.sc::led,q.1≠n)(hv:VRs W vs xs)(hl:vs.length≤LEN):
  ∃W',W.Le W'∧Rep Γ W' ρ H fr h'∧VR W' (.tup vs) (.ref n):=by
 have le:W.Le ⟨W.pi,(n,Ze6 xs k)::W.tups,W.sc⟩:=⟨List.prefix_refl _,fun q hq=>List.mem_cons_of_mem _ hq,rfl⟩
 refine⟨⟨W.pi,(n,Ze6 xs k)::W.tups,W.sc⟩,le,⟨m,c,(n,Ze6 xs k)::led,⟨F',N',?_,r.sc,r.sc0,fun q hq=>List.mem_cons_of_mem _ (r.frIn q hq),r.frOff,fun q hq=>List.mem_cons_of_mem _ (r.clIn q hq),r.clOff,r.apart,fun q hq t ht=>?_,fun q hq t ht=>?_,Γ.mono le r.own⟩⟩,.tup Zz5 hl (hv.mono le)⟩
 ·refine⟨r.R.len,r.R.nd,fun i us e=>?_,fun q hq=>?_,fun q hq=>?_⟩
  ·obtain⟨l,a,ys,j,h1,h2,h3⟩:=r.R.lists i us e
   exact⟨l,a,ys,j,h1,Zf6 h2 fun x hx=>List.mem_cons_of_mem _ hx,h3.mono le⟩
  ·rcases Zz7.mp hq with e | hq
   ·exact e▸List.mem_cons_of_mem _ Zz5
   ·exact Zf6 (r.R.tups q hq) fun x hx=>List.mem_cons_of_mem _ hx
  ·rcases Zz7.mp hq with e | hq
   ·exact⟨xs,k,by rw[e]⟩
   ·exact r.R.kind q hq
 ·rcases Zz7.mp ht with e | ht
  ·rw[e]
   exact hn q (Zz2 _ (r.frIn q hq))
  ·exact r.frTup q hq t ht
 ·rcases Zz7.mp ht with e | ht
  ·rw[e]
   exact hn q (Zz2 _ (r.clIn q hq))
  ·exact r.clTup q hq t ht
theorem Rep.tuple{Γ:Cx}{W:Wd}{ρ:Lc}{H:Hp}{fr:List (Addr×Obj)}{h:Heap}{vs:List V}{xs:List Value}{k:Nat}(r:Rep Γ W ρ H fr h)(hv:VRs W vs xs)(hl:vs.length≤LEN):
  ∃W',W.Le W'∧Rep Γ W' ρ H fr (h.push (Ze6 xs k))∧VR W' (.tup vs) (.ref h.objs.size):=by
 obtain⟨m,c,led,r⟩:=r
 exact r.newTup (r.F.push _) (News.push r.F r.N _) r.off hv hl
theorem Rep'.newList{Γ:Cx}{W:Wd}{ρ:Lc}{H:Hp}{fr:List (Addr×Obj)}{h h':Heap}{m:Str→Option Value}{c led:List (Addr×Obj)}{vs:List V}{xs:List Value}{k:Nat}{n:Addr}(r:Rep' Γ W ρ H fr h m c led)(F':Fr Γ.h₀ Γ.L h' m)(N':News Γ.h₀ Γ.L h' ((n,ZbB xs k)::led))(hn:∀q∈W.sc::led,q.1≠n)(hv:VRs W vs xs)(hl:vs.length≤LEN):
  ∃W',W.Le W'∧Rep Γ W' ρ (H++[vs]) fr h'∧VR W' (.ref H.length) (.ref n):=by
 have le:W.Le ⟨W.pi++[n],W.tups,W.sc⟩:=⟨List.prefix_append _ _,fun q hq=>hq,rfl⟩
 have h0:0<W.pi.length:=(Zz6.mp r.sc0).1
 have at_n:(W.pi++[n])[H.length]?=some n:=by rw[←r.R.len];simp
 refine⟨⟨W.pi++[n],W.tups,W.sc⟩,le,⟨m,c,(n,ZbB xs k)::led,⟨F',N',?_,r.sc,(List.getElem?_append_left h0).trans r.sc0,fun q hq=>List.mem_cons_of_mem _ (r.frIn q hq),fun q hq=>?_,fun q hq=>List.mem_cons_of_mem _ (r.clIn q hq),fun q hq=>?_,r.apart,r.frTup,r.clTup,Γ.mono le r.own⟩⟩,.ref at_n⟩
 ·refine⟨by simp[r.R.len],?_,fun i us e=>?_,fun q hq=>Zf6 (r.R.tups q hq) fun x hx=>List.mem_cons_of_mem _ hx,r.R.kind⟩
  ·show(W.pi++[n]).Nodup
   rw[List.nodup_append]
   refine⟨r.R.nd,by simp,fun a ha b hb=>?_⟩
   rw[List.mem_singleton.mp hb]
   obtain⟨o,ho⟩:=r.piIn a ha
   exact hn _ ho
  ·by_cases hi:i<H.length
   ·rw[List.getElem?_append_left hi]at e
    obtain⟨l,a,ys,j,h1,h2,h3⟩:=r.R.lists i us e
    exact⟨l,a,ys,j,le.at h1,Zf6 h2 fun x hx=>List.mem_cons_of_mem _ hx,h3.mono le⟩
   ·have:i=H.length:=by
     have:=(Zz6.mp e).1
     simp at this
     omega
    subst this
    simp at e
    subst e
    exact⟨hl,n,xs,k,at_n,List.mem_cons_of_mem _ Zz5,hv.mono le⟩
 ·intro hm
  rcases Zz8.mp hm with hm | hm
  ·exact r.frOff q hq hm
  ·exact hn q (Zz2 _ (r.frIn q hq)) (Zz9.mp hm)
 ·intro hm
  rcases Zz8.mp hm with hm | hm
  ·exact r.clOff q hq hm
  ·exact hn q (Zz2 _ (r.clIn q hq)) (Zz9.mp hm)
theorem Rep.list{Γ:Cx}{W:Wd}{ρ:Lc}{H:Hp}{fr:List (Addr×Obj)}{h:Heap}{vs:List V}{xs:List Value}{k:Nat}(r:Rep Γ W ρ H fr h)(hv:VRs W vs xs)(hl:vs.length≤LEN):
  ∃W',W.Le W'∧Rep Γ W' ρ (H++[vs]) fr (h.push (ZbB xs k))∧VR W' (.ref H.length) (.ref h.objs.size):=by
 obtain⟨m,c,led,r⟩:=r
 exact r.newList (r.F.push _) (News.push r.F r.N _) r.off hv hl
theorem Rep.at{Γ:Cx}{W:Wd}{ρ:Lc}{H:Hp}{fr:List (Addr×Obj)}{h:Heap}{i:Nat}{a:Addr}{vs:List V}(r:Rep Γ W ρ H fr h)(e:H[i]?=some vs)(ea:W.pi[i]?=some a): vs.length≤LEN∧∃xs k,h.get? a=some (ZbB xs k)∧VRs W vs xs:=by
 obtain⟨m,c,led,r⟩:=r
 obtain⟨l,b,xs,k,h1,h2,h3⟩:=r.R.lists i vs e
 rw[ea]at h1
 cases h1
 exact⟨l,xs,k,r.get h2,h3⟩
theorem Rep.tupAt{Γ:Cx}{W:Wd}{ρ:Lc}{H:Hp}{fr:List (Addr×Obj)}{h:Heap}{q:Addr×Obj}(r:Rep Γ W ρ H fr h)(e:q∈W.tups): h.get? q.1=some q.2:=by
 obtain⟨m,c,led,r⟩:=r
 exact r.get (r.R.tups _ e)
theorem Rep'.changed{Γ:Cx}{W:Wd}{ρ:Lc}{H:Hp}{fr:List (Addr×Obj)}{h h':Heap}{m:Str→Option Value}{c led:List (Addr×Obj)}{i:Nat}{a:Addr}{vs us:List V}{ys:List Value}{k:Nat}(r:Rep' Γ W ρ H fr h m c led)(i0:i≠0)(e:H[i]?=some vs)(ea:W.pi[i]?=some a)(F':Fr Γ.h₀ Γ.L h' m)(N':News Γ.h₀ Γ.L h' ((a,ZbB ys k)::led.filter (fun q=>decide (q.1≠a))))(hv:VRs W us ys)(hl:us.length≤LEN):
  Rep Γ W ρ (H.set i us) fr h':=by
 obtain⟨_,b,xs,j,h1,h2,h3⟩:=r.R.lists i vs e
 rw[ea]at h1
 cases h1
 have h2:=r.inLed i0 ea h2
 have hN:=r.N _ h2
 have hm:a∈W.pi:=List.mem_of_getElem? ea
 have hi:i<H.length:=(Zz6.mp e).1
 refine⟨m,c,(a,ZbB ys k)::led.filter (fun q=>decide (q.1≠a)),⟨F',N',?_,r.sc,r.sc0,fun q hq=>?_,r.frOff,fun q hq=>?_,r.clOff,r.apart,r.frTup,r.clTup,r.own⟩⟩
 ·refine⟨by simp[r.R.len],r.R.nd,fun n ws en=>?_,fun q hq=>?_,r.R.kind⟩
  ·by_cases hn:n=i
   ·subst hn
    rw[List.getElem?_set_self hi]at en
    cases en
    exact⟨hl,a,ys,k,ea,List.mem_cons_of_mem _ Zz5,hv⟩
   ·rw[List.getElem?_set_ne (Ne.symm hn)]at en
    obtain⟨l,d,zs,j',g1,g2,g3⟩:=r.R.lists n ws en
    refine⟨l,d,zs,j',g1,Zee g2 fun g2=>List.mem_cons_of_mem _ (List.mem_filter.mpr ⟨g2,?_⟩),g3⟩
    have:d≠a:=fun e=>by
     subst e
     exact hn ((List.getElem?_inj (Zz6.mp g1).1 r.R.nd).mp (g1.trans ea.symm))
    simpa using this
  ·refine Zee (r.R.tups q hq) fun g2=>List.mem_cons_of_mem _ (List.mem_filter.mpr ⟨g2,?_⟩)
   have:q.1≠a:=fun e=>by
    obtain⟨zs,j',hk⟩:=r.R.kind q hq
    have g:=r.get (r.R.tups q hq)
    rw[e,hN.1,hk]at g
    have c:=congrArg Obj.cls (Option.some.inj g)
    exact absurd c (by simp)
   simpa using this
 ·refine Zz2 _ (List.mem_filter.mpr ⟨r.frIn q hq,?_⟩)
  have:q.1≠a:=fun e=>r.frOff q hq (e▸hm)
  simpa using this
 ·refine Zz2 _ (List.mem_filter.mpr ⟨r.clIn q hq,?_⟩)
  have:q.1≠a:=fun e=>r.clOff q hq (e▸hm)
  simpa using this
theorem Rep.change{Γ:Cx}{W:Wd}{ρ:Lc}{H:Hp}{fr:List (Addr×Obj)}{h h':Heap}{i:Nat}{a:Addr}{vs us:List V}{ys:List Value}{k:Nat}(r:Rep Γ W ρ H fr h)(i0:i≠0)(e:H[i]?=some vs)(ea:W.pi[i]?=some a)(sb:Heap.SameBut a h h')(ha:h'.get? a=some (ZbB ys k))(hv:VRs W us ys)(hl:us.length≤LEN):
  Rep Γ W ρ (H.set i us) fr h':=by
 obtain⟨m,c,led,r⟩:=r
 obtain⟨_,b,xs,j,h1,h2,h3⟩:=r.R.lists i vs e
 rw[ea]at h1
 cases h1
 have h2:=r.inLed i0 ea h2
 have hN:=r.N _ h2
 have keep:∀q∈led,q.1≠a→h'.get? q.1=some q.2:=fun q hq hn=>sb.extBut _ _ hn (r.N q hq).1
 refine r.changed (k:=k) i0 e ea ⟨r.F.ns.sameBut sb (Ne.symm hN.2.1),fun b o eb=>sb.extBut b o (fun q=>?_) (r.F.keep b o eb),r.F.above⟩ (fun q hq=>?_) hv hl
 ·subst q
  rw[hN.2.2]at eb
  cases eb
 ·rcases Zz7.mp hq with e | hq
  ·subst e
   exact⟨ha,hN.2⟩
  ·obtain⟨h1,h2⟩:=List.mem_filter.mp hq
   exact⟨keep q h1 (by simpa using h2),(r.N q h1).2⟩
theorem Rep.swap{Γ:Cx}{W:Wd}{ρ:Lc}{H:Hp}{fs fs' fr:List (Addr×Obj)}{h h':Heap}(r:Rep Γ W ρ H (fs++fr) h)(ap:∀q∈fs,∀t∈fr,q.1≠t.1)(keep:∀b o,b∉fs.map (·.1)→h.get? b=some o→h'.get? b=some o)(new:∀q∈fs',h'.get? q.1=some q.2∧q.1∈fs.map (·.1)): Rep Γ W ρ H (fs'++fr) h':=by
 obtain⟨m,c,led,r⟩:=r
 have inF:∀q∈fs,q∈fs++fr:=fun q hq=>List.mem_append_left _ hq
 have nL:∀a∈fs.map (·.1),a≠Γ.L∧Γ.h₀.get? a=none:=fun a ha=>by
  obtain⟨q,hq,e⟩:=Zz11.mp ha
  exact e▸(r.N q (r.frIn q (inF q hq))).2
 have kp:∀q∈led,q.1∉fs.map (·.1)→h'.get? q.1=some q.2:=fun q hq hn=>keep _ _ hn (r.N q hq).1
 refine⟨m,c,fs'++led.filter (fun q=>decide (q.1∉fs.map (·.1))),⟨⟨?_,fun b o e=>?_,r.F.above⟩,fun q hq=>?_,⟨r.R.len,r.R.nd,fun i vs e=>?_,fun q hq=>?_,r.R.kind⟩,r.sc,r.sc0,fun q hq=>?_,fun q hq=>?_,fun q hq=>?_,r.clOff,fun q hq t ht=>?_,fun q hq t ht=>?_,r.clTup,r.own⟩⟩
 ·obtain⟨o,es,ep,h1,h2⟩:=r.F.ns
  exact⟨o,es,ep,keep _ _ (fun q=>(nL _ q).1 rfl) h1,h2⟩
 ·refine keep b o (fun q=>?_) (r.F.keep b o e)
  rw[(nL b q).2]at e
  cases e
 ·rcases Zz8.mp hq with hq | hq
  ·obtain⟨h1,h2⟩:=new q hq
   exact⟨h1,nL _ h2⟩
  ·obtain⟨h1,h2⟩:=List.mem_filter.mp hq
   exact⟨kp q h1 (by simpa using h2),(r.N q h1).2⟩
 ·obtain⟨l,a,xs,k,h1,h2,h3⟩:=r.R.lists i vs e
  refine⟨l,a,xs,k,h1,Zee h2 fun h2=>List.mem_append_right _ (List.mem_filter.mpr ⟨h2,?_⟩),h3⟩
  have:a∉fs.map (·.1):=fun q=>by
   obtain⟨t,ht,e⟩:=Zz11.mp q
   exact r.frOff t (inF t ht) (e▸List.mem_of_getElem? h1)
  simpa using this
 ·refine Zee (r.R.tups q hq) fun h2=>List.mem_append_right _ (List.mem_filter.mpr ⟨h2,?_⟩)
  have:q.1∉fs.map (·.1):=fun z=>by
   obtain⟨t,ht,e⟩:=Zz11.mp z
   exact r.frTup t (inF t ht) q hq e
  simpa using this
 ·rcases Zz8.mp hq with hq | hq
  ·exact Zz4 _ hq
  ·refine Zz3 _ (List.mem_filter.mpr ⟨r.frIn q (Zz3 _ hq),?_⟩)
   have:q.1∉fs.map (·.1):=fun z=>by
    obtain⟨t,ht,e⟩:=Zz11.mp z
    exact ap t ht q hq e
   simpa using this
 ·rcases Zz8.mp hq with hq | hq
  ·obtain⟨t,ht,e⟩:=Zz11.mp (new q hq).2
   exact e▸r.frOff t (inF t ht)
  ·exact r.frOff q (Zz3 _ hq)
 ·refine Zz3 _ (List.mem_filter.mpr ⟨r.clIn q hq,?_⟩)
  have:q.1∉fs.map (·.1):=fun z=>by
   obtain⟨t,ht,e⟩:=Zz11.mp z
   exact r.apart q hq t (inF t ht) e.symm
  simpa using this
 ·rcases Zz8.mp ht with ht | ht
  ·obtain⟨u,hu,e⟩:=Zz11.mp (new t ht).2
   exact e▸r.apart q hq u (inF u hu)
  ·exact r.apart q hq t (Zz3 _ ht)
 ·rcases Zz8.mp hq with hq | hq
  ·obtain⟨u,hu,e⟩:=Zz11.mp (new q hq).2
   exact e▸r.frTup u (inF u hu) t ht
  ·exact r.frTup q (Zz3 _ hq) t ht
theorem Rep.more{Γ:Cx}{W:Wd}{ρ:Lc}{H:Hp}{fs fr:List (Addr×Obj)}{h h':Heap}(r:Rep Γ W ρ H fr h)(up:∀b o,h.get? b=some o→h'.get? b=some o)(new:∀q∈fs,h'.get? q.1=some q.2∧h.objs.size≤q.1): Rep Γ W ρ H (fs++fr) h'∧∀q∈fs,∀t∈fr,q.1≠t.1:=by
 have r':=r.grown up
 obtain⟨m,c,led,r⟩:=r
 have lt:∀q∈W.sc::led,q.1<h.objs.size:=fun q hq=>Heap.lt_size (r.get hq)
 have ne:∀q∈fs,∀t∈W.sc::led,q.1≠t.1:=fun q hq t ht=>Nat.ne_of_gt (Nat.lt_of_lt_of_le (lt t ht) (new q hq).2)
 refine⟨⟨m,c,fs++led,⟨⟨?_,fun b o e=>up b o (r.F.keep b o e),r.F.above⟩,fun q hq=>?_,r.R.mono fun q hq=>Zf6 hq fun x hx=>List.mem_append_right _ hx,r.sc,r.sc0,fun q hq=>?_,fun q hq=>?_,fun q hq=>List.mem_append_right _ (r.clIn q hq),r.clOff,fun q hq t ht=>?_,fun q hq t ht=>?_,r.clTup,r.own⟩⟩,fun q hq t ht=>ne q hq t (Zz2 _ (r.frIn t ht))⟩
 ·obtain⟨o,es,ep,h1,h2⟩:=r.F.ns
  exact⟨o,es,ep,up _ _ h1,h2⟩
 ·rcases Zz8.mp hq with hq | hq
  ·obtain⟨h1,h2⟩:=new q hq
   refine⟨h1,fun e=>?_,?_⟩
   ·exact absurd (e▸r.F.ns.lt) (Nat.not_lt.mpr h2)
   ·cases e:Γ.h₀.get? q.1 with
    | none=>rfl
    | some o=>exact absurd (Heap.lt_size (r.F.keep _ _ e)) (Nat.not_lt.mpr h2)
  ·exact⟨up _ _ (r.N q hq).1,(r.N q hq).2⟩
 ·rcases Zz8.mp hq with hq | hq
  ·exact Zz4 _ hq
  ·exact Zz3 _ (r.frIn q hq)
 ·rcases Zz8.mp hq with hq | hq
  ·intro hm
   obtain⟨o,ho⟩:=r.piIn _ hm
   exact ne q hq _ ho rfl
  ·exact r.frOff q hq
 ·rcases Zz8.mp ht with ht | ht
  ·exact(ne t ht q (Zz2 _ (r.clIn q hq))).symm
  ·exact r.apart q hq t ht
 ·rcases Zz8.mp hq with hq | hq
  ·exact ne q hq t (r.R.tups t ht)
  ·exact r.frTup q hq t ht
theorem Rep.less{Γ:Cx}{W:Wd}{ρ:Lc}{H:Hp}{fs fr:List (Addr×Obj)}{h:Heap}(r:Rep Γ W ρ H fs h)(sub:∀q∈fr,q∈fs): Rep Γ W ρ H fr h:=by
 obtain⟨m,c,led,r⟩:=r
 exact⟨m,c,led,⟨r.F,r.N,r.R,r.sc,r.sc0,fun q hq=>r.frIn q (sub q hq),fun q hq=>r.frOff q (sub q hq),r.clIn,r.clOff,fun q hq t ht=>r.apart q hq t (sub t ht),fun q hq=>r.frTup q (sub q hq),r.clTup,r.own⟩⟩
theorem Rep.frAt{Γ:Cx}{W:Wd}{ρ:Lc}{H:Hp}{fr:List (Addr×Obj)}{h:Heap}{q:Addr×Obj}(r:Rep Γ W ρ H fr h)(hq:q∈fr): h.get? q.1=some q.2:=by
 obtain⟨m,c,led,r⟩:=r
 exact(r.N q (r.frIn q hq)).1
end PM
end
section
namespace PM
open PySem PyProof.Rows PyProof
noncomputable abbrev Ex:=Lc→Hp→Option (V×Hp)
noncomputable abbrev Exs:=Lc→Hp→Option (List V×Hp)
noncomputable abbrev Ts:=Lc→Hp→Option (Bool×Hp)
noncomputable abbrev ZiK(Γ:Cx)(W:Wd)(ρ:Lc)(H:Hp)(fr:List (Addr×Obj))(s:Shared)(Q:Value→Shared→Prop)(v:V): Prop:=
 ∀(W':Wd) (h':Heap) (tk':Nat) (x:Value),W.Le W'→Rep Γ W' ρ H fr h'→VR W' v x→Q x { s with heap:=h',toks:=tk' }
noncomputable abbrev Zky(Γ:Cx)(W:Wd)(ρ:Lc)(H:Hp)(fr:List (Addr×Obj))(s:Shared)(Q:Bool→Shared→Prop)(b:Bool): Prop:=
 ∀(W':Wd) (h':Heap) (tk':Nat),W.Le W'→Rep Γ W' ρ H fr h'→Q b { s with heap:=h',toks:=tk' }
section
variable (prog:Program) (w:World)
def J(Γ:Cx)(e:Expr)(f:Ex): Prop:=∀(W:Wd) (ρ:Lc) (H:Hp) (fr:List (Addr×Obj)) (s:Shared) (Q E:Value→Shared→Prop) (v:V) (H':Hp),
 Rep Γ W ρ H fr s.heap→f ρ H=some (v,H')→ZiK Γ W ρ H' fr s Q v→wpAny (model prog w) Γ.A (eval e Γ.env) Q E s
def Js(Γ:Cx)(es:List Expr)(f:Exs): Prop:=∀(pos:Pos) (W:Wd) (ρ:Lc) (H:Hp) (fr:List (Addr×Obj)) (s:Shared) (Q:List Value→Shared→Prop) (E:Value→Shared→Prop) (vs:List V) (H':Hp),
 Rep Γ W ρ H fr s.heap→f ρ H=some (vs,H')→(∀(W':Wd) (h':Heap) (tk':Nat) (xs:List Value),W.Le W'→Rep Γ W' ρ H' fr h'→VRs W' vs xs→Q xs { s with heap:=h',toks:=tk' })→wpAny (model prog w) Γ.A (spliced (backTo pos (starEach es Γ.env))) Q E s
def JT(Γ:Cx)(e:Expr)(f:Ts): Prop:=∀(W:Wd) (ρ:Lc) (H:Hp) (fr:List (Addr×Obj)) (s:Shared) (Q:Bool→Shared→Prop) (E:Value→Shared→Prop) (b:Bool) (H':Hp),
 Rep Γ W ρ H fr s.heap→f ρ H=some (b,H')→Zky Γ W ρ H' fr s Q b→wpAny (model prog w) Γ.A (isTrue e Γ.env (eval e Γ.env)) Q E s
def Op2(m:Value→Value→Sem Value)(o:V→V→Hp→Option (V×Hp)): Prop:=∀(Γ:Cx) (W:Wd) (ρ:Lc) (H:Hp) (fr:List (Addr×Obj)) (s:Shared) (Q E:Value→Shared→Prop) (a b:V) (x y:Value) (v:V) (H':Hp),
 Rep Γ W ρ H fr s.heap→VR W a x→VR W b y→o a b H=some (v,H')→ZiK Γ W ρ H' fr s Q v→wpAny (model prog w) Γ.A (m x y) Q E s
def Op1(m:Value→Sem Value)(o:V→Hp→Option (V×Hp)): Prop:=∀(Γ:Cx) (W:Wd) (ρ:Lc) (H:Hp) (fr:List (Addr×Obj)) (s:Shared) (Q E:Value→Shared→Prop) (a:V) (x:Value) (v:V) (H':Hp),
 Rep Γ W ρ H fr s.heap→VR W a x→o a H=some (v,H')→ZiK Γ W ρ H' fr s Q v→wpAny (model prog w) Γ.A (m x) Q E s
def OpT(m:Value→Sem Bool)(o:V→Hp→Option Bool): Prop:=∀(Γ:Cx) (W:Wd) (ρ:Lc) (H:Hp) (fr:List (Addr×Obj)) (s:Shared) (Q:Bool→Shared→Prop) (E:Value→Shared→Prop) (a:V) (x:Value) (b:Bool),
 Rep Γ W ρ H fr s.heap→VR W a x→o a H=some b→Zky Γ W ρ H fr s Q b→wpAny (model prog w) Γ.A (m x) Q E s
end
noncomputable def ZR(k:Int): Ex:=fun _ H=>some (.int k,H)
noncomputable def Zaq: Ex:=fun _ H=>some (.none,H)
noncomputable def Zkz(b:Bool): Ex:=fun _ H=>some (.bool b,H)
noncomputable def Ze7(x:Str): Ex:=fun _ H=>some (.str x,H)
noncomputable def Zp(i:Nat): Ex:=fun ρ H=>(ρ i).map fun v=>(v,H)
noncomputable def ZA(o:V→V→Hp→Option (V×Hp))(f g:Ex): Ex:=fun ρ H=>(f ρ H).bind fun p=>(g ρ p.2).bind fun q=>o p.1 q.1 q.2
noncomputable def eUn(o:V→Hp→Option (V×Hp))(f:Ex): Ex:=fun ρ H=>(f ρ H).bind fun p=>o p.1 p.2
noncomputable def eIf(t:Ts)(f g:Ex): Ex:=fun ρ H=>(t ρ H).bind fun p=>if p.1 then f ρ p.2 else g ρ p.2
noncomputable def ZO: Exs:=fun _ H=>some ([],H)
noncomputable def Zt(f:Ex)(g:Exs): Exs:=fun ρ H=>(f ρ H).bind fun p=>(g ρ p.2).bind fun q=>some (p.1::q.1,q.2)
noncomputable def Zcw(g:Exs): Ex:=fun ρ H=>(g ρ H).bind fun p=>if p.1.length≤LEN then some (.tup p.1,p.2)else none
noncomputable def ZeX(g:Exs): Ex:=fun ρ H=>(g ρ H).bind fun p=>if p.1.length≤LEN then some (.ref p.2.length,p.2++[p.1])else none
noncomputable def Zcq: V→Hp→Option Bool
 | .bool b,_=>some b
 | .int i,_=>some (i != 0)
 | .none,_=>some false
 | _,_=>none
noncomputable def Zap(f:Ex): Ts:=fun ρ H=>(f ρ H).bind fun p=>(Zcq p.1 p.2).map fun b=>(b,p.2)
noncomputable def ZnQ(t:Ts): Ts:=fun ρ H=>(t ρ H).map fun p=>(!p.1,p.2)
noncomputable def ZbP: Ts:=fun _ H=>some (true,H)
noncomputable def ZfT: Ts:=fun _ H=>some (false,H)
noncomputable def Zga(t u:Ts): Ts:=fun ρ H=>(t ρ H).bind fun p=>if p.1 then u ρ p.2 else some (false,p.2)
noncomputable def tOr(t u:Ts): Ts:=fun ρ H=>(t ρ H).bind fun p=>if p.1 then some (true,p.2)else u ρ p.2
noncomputable def tIf(t u v:Ts): Ts:=fun ρ H=>(t ρ H).bind fun p=>if p.1 then u ρ p.2 else v ρ p.2
noncomputable def ZnR(f:Ex): Ex:=fun ρ H=>(f ρ H).bind fun p=>(Zcq p.1 p.2).map fun b=>(.bool (!b),p.2)
noncomputable def ZiL(f g:Ex): Ex:=fun ρ H=>(f ρ H).bind fun p=>(Zcq p.1 p.2).bind fun b=>if b then g ρ p.2 else some p
noncomputable def eOr(f g:Ex): Ex:=fun ρ H=>(f ρ H).bind fun p=>(Zcq p.1 p.2).bind fun b=>if b then some p else g ρ p.2
section
variable {prog:Program} {w:World} {Γ:Cx}
theorem J.int(k:Int)(n:Nat)(pos:Pos): J prog w Γ (.Constant (.int k) n pos) (ZR k):=fun W ρ H fr s Q E v H' r e post=>by
 cases e
 exact wpAny_Constant_int (post W s.heap _ _ (.refl W) r (.int k _))
theorem J.none(n:Nat)(pos:Pos): J prog w Γ (.Constant .none n pos) Zaq:=fun W ρ H fr s Q E v H' r e post=>by
 cases e
 exact wpAny_Constant_none (post W s.heap s.toks _ (.refl W) r .none)
theorem J.bool(b:Bool)(n:Nat)(pos:Pos): J prog w Γ (.Constant (.bool b) n pos) (Zkz b):=fun W ρ H fr s Q E v H' r e post=>by
 cases e
 exact wpAny_Constant_bool (post W s.heap s.toks _ (.refl W) r (.bool b))
theorem J.str(x:Str)(n:Nat)(pos:Pos): J prog w Γ (.Constant (.str x) n pos) (Ze7 x):=fun W ρ H fr s Q E v H' r e post=>by
 cases e
 exact wpAny_Constant_str (post W s.heap _ _ (.refl W) r (.str x _))
theorem Zv{e1 e2:Expr}{op:Operator}{pos:Pos}{f g:Ex}{o:V→V→Hp→Option (V×Hp)}(h1:J prog w Γ e1 f)(h2:J prog w Γ e2 g)(ho:Op2 prog w (binaryOp op) o): J prog w Γ (.BinOp e1 op e2 pos) (ZA o f g):=by
 intro W ρ H fr s Q E v H' r hf post
 obtain⟨p,e1,hf⟩:=Zz0.mp hf
 obtain⟨q,e2,e3⟩:=Zz0.mp hf
 refine wpAny_BinOp (h1 W ρ H fr s _ E _ _ r e1 fun W1 k1 t1 x l1 r1 x1=>?_)
 refine h2 W1 ρ _ fr _ _ E _ _ r1 e2 fun W2 k2 t2 y l2 r2 y2=>?_
 exact ho Γ W2 ρ _ fr _ Q E _ _ x y v H' r2 (x1.mono l2) y2 e3 fun W3 k3 t3 z l3 r3 z3=>post W3 k3 t3 z ((l1.trans l2).trans l3) r3 z3
theorem Zbz{e1 e2:Expr}{op:CmpOp}{pos:Pos}{f g:Ex}{o:V→V→Hp→Option (V×Hp)}(h1:J prog w Γ e1 f)(h2:J prog w Γ e2 g)(ho:Op2 prog w (compareOp op) o)(hm:behindInMarks op e2=false:=by with_unfolding_all rfl): J prog w Γ (.Compare e1 [op] [e2] pos) (ZA o f g):=by
 intro W ρ H fr s Q E v H' r hf post
 obtain⟨p,e1,hf⟩:=Zz0.mp hf
 obtain⟨q,e2,e3⟩:=Zz0.mp hf
 refine wpAny_Compare1 (h1 W ρ H fr s _ E _ _ r e1 fun W1 k1 t1 x l1 r1 x1=>?_) hm
 refine h2 W1 ρ _ fr _ _ E _ _ r1 e2 fun W2 k2 t2 y l2 r2 y2=>?_
 exact ho Γ W2 ρ _ fr _ Q E _ _ x y v H' r2 (x1.mono l2) y2 e3 fun W3 k3 t3 z l3 r3 z3=>post W3 k3 t3 z ((l1.trans l2).trans l3) r3 z3
theorem Zca{e1:Expr}{op:UnaryOp}{pos:Pos}{f:Ex}{o:V→Hp→Option (V×Hp)}(h1:J prog w Γ e1 f)(ho:Op1 prog w (unaryOp op) o): J prog w Γ (.UnaryOp op e1 pos) (eUn o f):=by
 intro W ρ H fr s Q E v H' r hf post
 obtain⟨p,e1,hf⟩:=Zz0.mp hf
 refine wpAny_UnaryOp (h1 W ρ H fr s _ E _ _ r e1 fun W1 k1 t1 x l1 r1 x1=>?_)
 exact ho Γ W1 ρ _ fr _ Q E _ x v H' r1 x1 hf fun W3 k3 t3 z l3 r3 z3=>post W3 k3 t3 z (l1.trans l3) r3 z3
theorem truth: OpT prog w truthy Zcq:=by
 intro Γ W ρ H fr s Q E a x b r hx ho post
 cases hx with
 | none=>cases ho;exact truthy_none (post W s.heap s.toks (.refl W) r)
 | bool c=>cases ho;exact fun _ _ _=>post W s.heap s.toks (.refl W) r
 | int i t=>cases ho;exact P.truthy_int (post W s.heap s.toks (.refl W) r)
 | str _ _=>cases ho
 | tup _ _ _=>cases ho
 | ref _=>cases ho
theorem ZzJ{e1:Expr}{pos:Pos}{f:Ex}(h1:J prog w Γ e1 f): J prog w Γ (.UnaryOp .Not e1 pos) (ZnR f):=by
 intro W ρ H fr s Q E v H' r hf post
 obtain⟨p,e1,hf⟩:=Zz0.mp hf
 obtain⟨b,e2,e3⟩:=Zz1.mp hf
 cases e3
 refine wpAny_UnaryOp (h1 W ρ H fr s _ E _ _ r e1 fun W1 k1 t1 x l1 r1 x1=>?_)
 exact not_of (truth Γ W1 ρ _ fr _ _ E _ x b r1 x1 e2 fun W2 k2 t2 l2 r2=>post W2 k2 t2 _ (l1.trans l2) r2 (.bool _))
theorem ZeY{e1 e2:Expr}{pos:Pos}{f g:Ex}(h1:J prog w Γ e1 f)(h2:J prog w Γ e2 g): J prog w Γ (.BoolOp .And [e1,e2] pos) (ZiL f g):=by
 intro W ρ H fr s Q E v H' r hf post
 obtain⟨p,e1,hf⟩:=Zz0.mp hf
 obtain⟨b,e2,e3⟩:=Zz0.mp hf
 refine wpAny_And2 (h1 W ρ H fr s _ E _ _ r e1 fun W1 k1 t1 x l1 r1 x1=>?_)
 refine truth Γ W1 ρ _ fr _ _ E _ x b r1 x1 e2 fun W2 k2 t2 l2 r2=>?_
 cases b with
 | true=>exact h2 W2 ρ _ fr _ Q E v H' r2 e3 fun W3 k3 t3 z l3 r3 z3=>post W3 k3 t3 z ((l1.trans l2).trans l3) r3 z3
 | false=>
  cases e3
  exact post W2 k2 t2 x (l1.trans l2) r2 (x1.mono l2)
theorem ZsR{e1 e2:Expr}{pos:Pos}{f g:Ex}(h1:J prog w Γ e1 f)(h2:J prog w Γ e2 g): J prog w Γ (.BoolOp .Or [e1,e2] pos) (eOr f g):=by
 intro W ρ H fr s Q E v H' r hf post
 obtain⟨p,e1,hf⟩:=Zz0.mp hf
 obtain⟨b,e2,e3⟩:=Zz0.mp hf
 refine wpAny_Or2 (h1 W ρ H fr s _ E _ _ r e1 fun W1 k1 t1 x l1 r1 x1=>?_)
 refine truth Γ W1 ρ _ fr _ _ E _ x b r1 x1 e2 fun W2 k2 t2 l2 r2=>?_
 cases b with
 | false=>exact h2 W2 ρ _ fr _ Q E v H' r2 e3 fun W3 k3 t3 z l3 r3 z3=>post W3 k3 t3 z ((l1.trans l2).trans l3) r3 z3
 | true=>
  cases e3
  exact post W2 k2 t2 x (l1.trans l2) r2 (x1.mono l2)
theorem Zd8{t e1 e2:Expr}{pos:Pos}{u:Ts}{f g:Ex}(ht:JT prog w Γ t u)(h1:J prog w Γ e1 f)(h2:J prog w Γ e2 g): J prog w Γ (.IfExp t e1 e2 pos) (eIf u f g):=by
 intro W ρ H fr s Q E v H' r hf post
 obtain⟨p,e1,hf⟩:=Zz0.mp hf
 refine wpAny_IfExp (ht W ρ H fr s _ E _ _ r e1 fun W1 k1 t1 l1 r1=>?_)
 obtain⟨b,H1⟩:=p
 cases b with
 | true=>exact h1 W1 ρ _ fr _ Q E v H' r1 hf fun W3 k3 t3 z l3 r3 z3=>post W3 k3 t3 z (l1.trans l3) r3 z3
 | false=>exact h2 W1 ρ _ fr _ Q E v H' r1 hf fun W3 k3 t3 z l3 r3 z3=>post W3 k3 t3 z (l1.trans l3) r3 z3
theorem Ze: Js prog w Γ [] ZO:=fun pos W ρ H fr s Q E vs H' r hf post=>by
 cases hf
 exact wpAny_items_nil (post W s.heap s.toks [] (.refl W) r .nil)
theorem Zxa{e:Expr}{es:List Expr}{f:Ex}{g:Exs}(h1:J prog w Γ e f)(h2:Js prog w Γ es g)(he:starEach (e::es) Γ.env=(false,eval e Γ.env)::starEach es Γ.env:=by rfl): Js prog w Γ (e::es) (Zt f g):=by
 intro pos W ρ H fr s Q E vs H' r hf post
 obtain⟨p,e1,hf⟩:=Zz0.mp hf
 obtain⟨q,e2,e3⟩:=Zz0.mp hf
 cases e3
 refine wpAny_items_cons (h1 W ρ H fr s _ E _ _ r e1 fun W1 k1 t1 x l1 r1 x1=>?_) he
 exact h2 pos W1 ρ _ fr _ _ E _ _ r1 e2 fun W2 k2 t2 ys l2 r2 y2=>post W2 k2 t2 _ (l1.trans l2) r2 (.cons (x1.mono l2) y2)
theorem J.tup{es:List Expr}{k:Nat}{pos:Pos}{g:Exs}(h:Js prog w Γ es g): J prog w Γ (.Tuple es k pos) (Zcw g):=by
 intro W ρ H fr s Q E v H' r hf post
 obtain⟨p,e1,hf⟩:=Zz0.mp hf
 by_cases hl:p.1.length≤LEN
 ·rw[if_pos hl]at hf
  cases hf
  refine wpAny_Tuple (h pos W ρ H fr s _ E _ _ r e1 fun W1 k1 t1 xs l1 r1 x1=>⟨ZcD (by rw[x1.length];exact hl),?_⟩)
  obtain⟨W2,l2,r2,v2⟩:=r1.tuple (k:=0) x1 hl
  exact post W2 _ _ _ (l1.trans l2) r2 v2
 ·rw[if_neg hl]at hf
  cases hf
theorem J.list{es:List Expr}{pos:Pos}{g:Exs}(h:Js prog w Γ es g): J prog w Γ (.List es pos) (ZeX g):=by
 intro W ρ H fr s Q E v H' r hf post
 obtain⟨p,e1,hf⟩:=Zz0.mp hf
 by_cases hl:p.1.length≤LEN
 ·rw[if_pos hl]at hf
  cases hf
  refine wpAny_List (h pos W ρ H fr s _ E _ _ r e1 fun W1 k1 t1 xs l1 r1 x1=>⟨ZcD (by rw[x1.length];exact hl),?_⟩)
  obtain⟨W2,l2,r2,v2⟩:=r1.list (k:=0) x1 hl
  exact post W2 _ _ _ (l1.trans l2) r2 v2
 ·rw[if_neg hl]at hf
  cases hf
theorem ZbR{e:Expr}{pos:Pos}{t:Ts}(h:JT prog w Γ e t): JT prog w Γ (.UnaryOp .Not e pos) (ZnQ t):=by
 intro W ρ H fr s Q E b H' r hf post
 obtain⟨p,e1,e2⟩:=Zz1.mp hf
 cases e2
 exact isTrue_not (h W ρ H fr s _ E _ _ r e1 post)
def JA(prog:Program)(w:World)(Γ:Cx)(op:BoolOp)(es:List Expr)(f:Ts): Prop:=∀(W:Wd) (ρ:Lc) (H:Hp) (fr:List (Addr×Obj)) (s:Shared) (Q:Bool→Shared→Prop) (E:Value→Shared→Prop) (b:Bool) (H':Hp),
 Rep Γ W ρ H fr s.heap→f ρ H=some (b,H')→Zky Γ W ρ H' fr s Q b→wpAny (model prog w) Γ.A (allTrue op es Γ.env) Q E s
theorem ZcU: JA prog w Γ .And [] ZbP:=fun W ρ H fr s Q E b H' r hf post=>by
 cases hf
 exact wpAny_allTrue_And_nil (post W s.heap s.toks (.refl W) r)
theorem Zb1: JA prog w Γ .Or [] ZfT:=fun W ρ H fr s Q E b H' r hf post=>by
 cases hf
 exact wpAny_allTrue_Or_nil (post W s.heap s.toks (.refl W) r)
theorem Zbf{e:Expr}{es:List Expr}{t u:Ts}(h1:JT prog w Γ e t)(h2:JA prog w Γ .And es u): JA prog w Γ .And (e::es) (Zga t u):=by
 intro W ρ H fr s Q E b H' r hf post
 obtain⟨p,e1,hf⟩:=Zz0.mp hf
 refine wpAny_allTrue_And_cons (h1 W ρ H fr s _ E _ _ r e1 fun W1 k1 t1 l1 r1=>?_)
 obtain⟨c,H1⟩:=p
 cases c with
 | true=>exact h2 W1 ρ _ fr _ Q E b H' r1 hf fun W3 k3 t3 l3 r3=>post W3 k3 t3 (l1.trans l3) r3
 | false=>
  cases hf
  exact post W1 k1 t1 l1 r1
theorem ZaE{e:Expr}{es:List Expr}{t u:Ts}(h1:JT prog w Γ e t)(h2:JA prog w Γ .Or es u): JA prog w Γ .Or (e::es) (tOr t u):=by
 intro W ρ H fr s Q E b H' r hf post
 obtain⟨p,e1,hf⟩:=Zz0.mp hf
 refine wpAny_allTrue_Or_cons (h1 W ρ H fr s _ E _ _ r e1 fun W1 k1 t1 l1 r1=>?_)
 obtain⟨c,H1⟩:=p
 cases c with
 | false=>exact h2 W1 ρ _ fr _ Q E b H' r1 hf fun W3 k3 t3 l3 r3=>post W3 k3 t3 (l1.trans l3) r3
 | true=>
  cases hf
  exact post W1 k1 t1 l1 r1
theorem ZaY{op:BoolOp}{es:List Expr}{pos:Pos}{t:Ts}(h:JA prog w Γ op es t): JT prog w Γ (.BoolOp op es pos) t:=fun W ρ H fr s Q E b H' r hf post=>wpAny_isTrue_BoolOp (h W ρ H fr s Q E b H' r hf post)
theorem ZaQ{e:Expr}{f:Ex}(h:J prog w Γ e f)(he:isTrue e Γ.env (eval e Γ.env)=(do let v ←eval e Γ.env;standAt e.pos;holding [v] (truthy v)):=by rfl): JT prog w Γ e (Zap f):=by
 intro W ρ H fr s Q E b H' r hf post
 obtain⟨p,e1,hf⟩:=Zz0.mp hf
 obtain⟨c,e2,e3⟩:=Zz1.mp hf
 cases e3
 refine isTrue_plain (h W ρ H fr s _ E _ _ r e1 fun W1 k1 t1 x l1 r1 x1=>?_) he
 exact truth Γ W1 ρ _ fr _ _ E _ x b r1 x1 e2 fun W2 k2 t2 l2 r2=>post W2 k2 t2 (l1.trans l2) r2
theorem ZE{e1 e2:Expr}{op:CmpOp}{pos:Pos}{f g:Ex}{o:V→V→Hp→Option (V×Hp)}(h1:J prog w Γ e1 f)(h2:J prog w Γ e2 g)(ho:Op2 prog w (compareOp op) o)(hm:behindInMarks op e2=false:=by with_unfolding_all rfl): JT prog w Γ (.Compare e1 [op] [e2] pos) (Zap (ZA o f g)):=by
 intro W ρ H fr s Q E b H' r hf post
 obtain⟨pp,e0,hf0⟩:=Zz0.mp hf
 obtain⟨c,e4,e5⟩:=Zz1.mp hf0
 cases e5
 obtain⟨p,e1,hf⟩:=Zz0.mp e0
 obtain⟨q,e2,e3⟩:=Zz0.mp hf
 refine wpAny_isTrue_Compare1 (h1 W ρ H fr s _ E _ _ r e1 fun W1 k1 t1 x l1 r1 x1=>?_) hm
 refine h2 W1 ρ _ fr _ _ E _ _ r1 e2 fun W2 k2 t2 y l2 r2 y2=>?_
 refine ho Γ W2 ρ _ fr _ _ E _ _ x y _ _ r2 (x1.mono l2) y2 e3 fun W3 k3 t3 z l3 r3 z3=>?_
 exact truth Γ W3 ρ _ fr _ _ E _ z b r3 z3 e4 fun W4 k4 t4 l4 r4=>post W4 k4 t4 (((l1.trans l2).trans l3).trans l4) r4
theorem ZAG{t e1 e2:Expr}{pos:Pos}{u f g:Ts}(ht:JT prog w Γ t u)(h1:JT prog w Γ e1 f)(h2:JT prog w Γ e2 g): JT prog w Γ (.IfExp t e1 e2 pos) (tIf u f g):=by
 intro W ρ H fr s Q E v H' r hf post
 obtain⟨p,e1,hf⟩:=Zz0.mp hf
 refine isTrue_IfExp (ht W ρ H fr s _ E _ _ r e1 fun W1 k1 t1 l1 r1=>?_)
 obtain⟨b,H1⟩:=p
 cases b with
 | true=>exact h1 W1 ρ _ fr _ Q E v H' r1 hf fun W3 k3 t3 l3 r3=>post W3 k3 t3 (l1.trans l3) r3
 | false=>exact h2 W1 ρ _ fr _ Q E v H' r1 hf fun W3 k3 t3 l3 r3=>post W3 k3 t3 (l1.trans l3) r3
end
end PM
end
section
namespace PM
open PySem PyProof.Rows PyProof
noncomputable def mulOk(a b:Int): Bool:=!(decide (Builtin.Int.intBits a>shortFactorBits) && decide (Builtin.Int.intBits b>shortFactorBits) && Builtin.Int.intTooBig (Builtin.Int.intBits a+Builtin.Int.intBits b))
theorem Zwi{a b:Int}(h:mulOk a b=true): IntMulOk a b:=by
 unfold mulOk at h
 unfold IntMulOk
 intro c
 rw[c]at h
 cases h
noncomputable def Ze8: V→V→Hp→Option (V×Hp)
 | .int a,.int b,H=>some (.int (a-b),H)
 | _,_,_=>none
noncomputable def oDiv: V→V→Hp→Option (V×Hp)
 | .int a,.int b,H=>if b≠0∧Builtin.divisionGoesByPylong a b=false then some (.int (a.fdiv b),H)else none
 | _,_,_=>none
noncomputable def oMod: V→V→Hp→Option (V×Hp)
 | .int a,.int b,H=>if b≠0 then some (.int (a.fmod b),H)else none
 | _,_,_=>none
noncomputable def oPow: V→V→Hp→Option (V×Hp)
 | .int a,.int b,H=>if 0≤b∧(Builtin.Int.intBits a:Int)*b≤2 ^ 27 then some (.int (a ^ b.toNat),H)else none
 | _,_,_=>none
noncomputable def ZiM: V→Hp→Option (V×Hp)
 | .int a,H=>some (.int (-a),H)
 | _,_=>none
noncomputable def ZkJ(p:Int→Int→Bool): V→V→Hp→Option (V×Hp)
 | .int a,.int b,H=>some (.bool (p a b),H)
 | _,_,_=>none
noncomputable def oLt:=ZkJ fun a b=>decide (a<b)
noncomputable def oLe:=ZkJ fun a b=>decide (a≤b)
noncomputable def oGt:=ZkJ fun a b=>decide (b<a)
section
variable {prog:Program} {w:World}
theorem Za7: Op2 prog w (binaryOp .Sub) Ze8:=by
 intro Γ W ρ H fr s Q E a b x y v H' r hx hy ho post
 cases hx <;> first | (cases ho;done) | skip
 cases hy <;> first | (cases ho;done) | skip
 cases ho
 exact PySem.P.sub_int (post W s.heap _ _ (.refl W) r (.int _ _))
theorem ZaA: Op2 prog w (binaryOp .Mod) oMod:=by
 intro Γ W ρ H fr s Q E a b x y v H' r hx hy ho post
 cases hx <;> first | (cases ho;done) | skip
 cases hy <;> first | (cases ho;done) | skip
 rename_i i t j u
 simp only[oMod]at ho
 by_cases hb:j≠0
 ·rw[if_pos hb]at ho
  cases ho
  exact mod_int' hb (post W s.heap _ _ (.refl W) r (.int _ _))
 ·rw[if_neg hb]at ho
  cases ho
theorem ZcH: Op2 prog w (binaryOp .FloorDiv) oDiv:=by
 intro Γ W ρ H fr s Q E a b x y v H' r hx hy ho post
 cases hx <;> first | (cases ho;done) | skip
 cases hy <;> first | (cases ho;done) | skip
 rename_i i t j u
 simp only[oDiv]at ho
 by_cases hb:j≠0∧Builtin.divisionGoesByPylong i j=false
 ·rw[if_pos hb]at ho
  cases ho
  exact floordiv_int hb.1 (post W s.heap _ _ (.refl W) r (.int _ _)) (.inl hb.2)
 ·rw[if_neg hb]at ho
  cases ho
theorem Znb: Op2 prog w (binaryOp .Pow) oPow:=by
 intro Γ W ρ H fr s Q E a b x y v H' r hx hy ho post
 cases hx <;> first | (cases ho;done) | skip
 cases hy <;> first | (cases ho;done) | skip
 rename_i i t j u
 simp only[oPow]at ho
 by_cases hb:0≤j∧(Builtin.Int.intBits i:Int)*j≤2 ^ 27
 ·rw[if_pos hb]at ho
  cases ho
  exact pow_int hb.1 hb.2 (post W s.heap _ _ (.refl W) r (.int _ _))
 ·rw[if_neg hb]at ho
  cases ho
theorem Zb4: Op1 prog w (unaryOp .USub) ZiM:=by
 intro Γ W ρ H fr s Q E a x v H' r hx ho post
 cases hx <;> first | (cases ho;done) | skip
 cases ho
 exact PySem.P.neg_int (post W s.heap _ _ (.refl W) r (.int _ _))
theorem Zc0: Op2 prog w (compareOp .Lt) oLt:=by
 intro Γ W ρ H fr s Q E a b x y v H' r hx hy ho post
 cases hx <;> first | (cases ho;done) | skip
 cases hy <;> first | (cases ho;done) | skip
 cases ho
 exact PySem.P.lt_int (post W s.heap s.toks _ (.refl W) r (.bool _))
theorem ZkA: Op2 prog w (compareOp .LtE) oLe:=by
 intro Γ W ρ H fr s Q E a b x y v H' r hx hy ho post
 cases hx <;> first | (cases ho;done) | skip
 cases hy <;> first | (cases ho;done) | skip
 cases ho
 exact PySem.P.le_int (post W s.heap s.toks _ (.refl W) r (.bool _))
theorem ZeZ: Op2 prog w (compareOp .Gt) oGt:=by
 intro Γ W ρ H fr s Q E a b x y v H' r hx hy ho post
 cases hx <;> first | (cases ho;done) | skip
 cases hy <;> first | (cases ho;done) | skip
 cases ho
 exact PySem.P.gt_int (post W s.heap s.toks _ (.refl W) r (.bool _))
end
end PM
end
section
namespace PM
open PySem PyProof.Rows PyProof
noncomputable def Zgb(f:V→Option PyData): List V→Option (List PyData)
 | []=>some []
 | v::vs=>(f v).bind fun d=>(Zgb f vs).bind fun ds=>some (d::ds)
noncomputable def toD(H:Hp): Nat→V→Option PyData
 | _,.none=>some .none
 | _,.bool b=>some (.bool b)
 | _,.int i=>some (.int i)
 | _,.str x=>some (.str x)
 | n+1,.tup vs=>(Zgb (toD H n) vs).map .tuple
 | n+1,.ref a=>H[a]?.bind fun vs=>(Zgb (toD H n) vs).map .list
 | 0,.tup _=>none
 | 0,.ref _=>none
theorem ZlQ{W:Wd}{h:Heap}{f:V→Option PyData}(ih:∀v x d,VR W v x→f v=some d→∃as,Reads h x d as): ∀{vs:List V} {xs:List Value} {ds:List PyData},VRs W vs xs→Zgb f vs=some ds→∃as,ReadsAll h xs ds as
 | _,_,_,.nil,e=>by
  cases e
  exact⟨_,.nil⟩
 | _,_,_,.cons a r,e=>by
  obtain⟨d,e1,e⟩:=Zz0.mp e
  obtain⟨ds,e2,e3⟩:=Zz0.mp e
  cases e3
  obtain⟨as,h1⟩:=ih _ _ _ a e1
  obtain⟨bs,h2⟩:=ZlQ ih r e2
  exact⟨_,.cons h1 h2⟩
theorem Zfu{Γ:Cx}{W:Wd}{ρ:Lc}{H:Hp}{fr:List (Addr×Obj)}{h:Heap}(r:Rep Γ W ρ H fr h): ∀(n:Nat) (v:V) (x:Value) (d:PyData),VR W v x→toD H n v=some d→∃as,Reads h x d as:=by
 intro n
 induction n with
 | zero=>
  intro v x d hv e
  cases hv with
  | none=>cases e;exact⟨_,.none⟩
  | bool b=>cases e;exact⟨_,.bool b⟩
  | int i t=>cases e;exact⟨_,.int i t⟩
  | str y t=>cases e;exact⟨_,.str y t⟩
  | tup _ _ _=>cases e
  | ref _=>cases e
 | succ n ih=>
  intro v x d hv e
  cases hv with
  | none=>cases e;exact⟨_,.none⟩
  | bool b=>cases e;exact⟨_,.bool b⟩
  | int i t=>cases e;exact⟨_,.int i t⟩
  | str y t=>cases e;exact⟨_,.str y t⟩
  | @tup vs a xs k hm hl hs=>
   obtain⟨ds,e1,e2⟩:=Zz1.mp e
   subst e2
   obtain⟨as,h1⟩:=ZlQ ih hs e1
   exact⟨_,.tuple (r.tupAt hm) rfl rfl (by simpa using h1)⟩
  | @ref i a ea=>
   obtain⟨vs,e0,e⟩:=Zz0.mp e
   obtain⟨ds,e1,e2⟩:=Zz1.mp e
   subst e2
   obtain⟨hl,xs,k,hg,hs⟩:=r.at e0 ea
   obtain⟨as,h1⟩:=ZlQ ih hs e1
   exact⟨_,.list hg rfl rfl (by simpa using h1)⟩
noncomputable def Zbu: Nat:=8
noncomputable def ZkK(a b:V)(H:Hp): Option Bool:=(toD H Zbu a).bind fun d=>(toD H Zbu b).bind fun e=>if SeqAt.shaped d=true∧SeqAt.shaped e=true then some (PyData.eqv d e)else none
noncomputable def oEq(a b:V)(H:Hp): Option (V×Hp):=(ZkK a b H).map fun c=>(.bool c,H)
noncomputable def oNe(a b:V)(H:Hp): Option (V×Hp):=(ZkK a b H).map fun c=>(.bool (!c),H)
noncomputable def oIs: V→V→Hp→Option (V×Hp)
 | .none,.none,H=>some (.bool true,H)
 | .bool _,.none,H=>some (.bool false,H)
 | .int _,.none,H=>some (.bool false,H)
 | .str _,.none,H=>some (.bool false,H)
 | .tup _,.none,H=>some (.bool false,H)
 | .ref _,.none,H=>some (.bool false,H)
 | _,_,_=>none
noncomputable def Znc(a b:V)(H:Hp): Option (V×Hp):=(oIs a b H).bind fun p=>match p.1 with | .bool c=>some (.bool (!c),p.2) | _=>none
section
variable {prog:Program} {w:World}
theorem Zac: Op2 prog w (compareOp .Eq) oEq:=by
 intro Γ W ρ H fr s Q E a b x y v H' r hx hy ho post
 obtain⟨c,e1,e2⟩:=Zz1.mp ho
 cases e2
 obtain⟨d,h1,e1⟩:=Zz0.mp e1
 obtain⟨e,h2,e1⟩:=Zz0.mp e1
 by_cases hs:SeqAt.shaped d=true∧SeqAt.shaped e=true
 ·rw[if_pos hs]at e1
  cases e1
  obtain⟨as,R1⟩:=Zfu r Zbu a x d hx h1
  obtain⟨bs,R2⟩:=Zfu r Zbu b y e hy h2
  exact eq_dataH R1 R2 hs.1 hs.2 (by have:=Γ.hu;omega) (post W s.heap s.toks _ (.refl W) r (.bool _))
 ·rw[if_neg hs]at e1
  cases e1
theorem ZbK: Op2 prog w (compareOp .NotEq) oNe:=by
 intro Γ W ρ H fr s Q E a b x y v H' r hx hy ho post
 obtain⟨c,e1,e2⟩:=Zz1.mp ho
 cases e2
 obtain⟨d,h1,e1⟩:=Zz0.mp e1
 obtain⟨e,h2,e1⟩:=Zz0.mp e1
 by_cases hs:SeqAt.shaped d=true∧SeqAt.shaped e=true
 ·rw[if_pos hs]at e1
  cases e1
  obtain⟨as,R1⟩:=Zfu r Zbu a x d hx h1
  obtain⟨bs,R2⟩:=Zfu r Zbu b y e hy h2
  exact ne_dataH R1 R2 hs.1 hs.2 (by have:=Γ.hu;omega) (post W s.heap s.toks _ (.refl W) r (.bool _))
 ·rw[if_neg hs]at e1
  cases e1
theorem ZaT: Op2 prog w (compareOp .Is) oIs:=by
 intro Γ W ρ H fr s Q E a b x y v H' r hx hy ho post
 cases hy <;> first | (cases hx <;> cases ho;done) | skip
 refine PySem.is_none ?_
 cases hx <;> (cases ho;exact post W s.heap s.toks _ (.refl W) r (.bool _))
theorem Zcg: Op2 prog w (compareOp .IsNot) Znc:=by
 intro Γ W ρ H fr s Q E a b x y v H' r hx hy ho post
 cases hy <;> first | (cases hx <;> cases ho;done) | skip
 refine PySem.isNot_none ?_
 cases hx <;> (cases ho;exact post W s.heap s.toks _ (.refl W) r (.bool _))
end
end PM
end
section
namespace PM
open PySem PyProof.Rows PyProof
noncomputable def Z4: V→V→Hp→Option (V×Hp)
 | .ref a,.int k,H=>H[a]?.bind fun vs=>(seqIndex? k vs.length).bind fun j=>vs[j]?.map fun v=>(v,H)
 | .tup vs,.int k,H=>(seqIndex? k vs.length).bind fun j=>vs[j]?.map fun v=>(v,H)
 | _,_,_=>none
theorem Zo0{k:Int}{n j:Nat}(h:seqIndex? k n=some j): j<n∧(k:Int)<n∧-(n:Int)≤k∧(0≤k→k.toNat=j)∧(k<0→(k+n).toNat=j):=by
 unfold seqIndex? at h
 by_cases c:k<0
 ·simp only[c,if_true]at h
  split at h
  ·rename_i d
   simp at d h
   omega
  ·cases h
 ·simp only[c,if_false]at h
  split at h
  ·rename_i d
   simp at d h
   omega
  ·cases h
section
variable {prog:Program} {w:World} {Γ:Cx}
theorem Zl{e1 e2:Expr}{pos:Pos}{f g:Ex}(h1:J prog w Γ e1 f)(h2:J prog w Γ e2 g)(hs:∀a k u,subscripted e2 false (.ref a) (.int k u)=operate [.ref a,.int k u] (getItem (.ref a) (.int k u)):=by intros;with_unfolding_all rfl): J prog w Γ (.Subscript e1 e2 pos) (ZA Z4 f g):=by
 intro W ρ H fr s Q E v H' r hf post
 obtain⟨p,e1,hf⟩:=Zz0.mp hf
 obtain⟨q,e2,e3⟩:=Zz0.mp hf
 refine Subscript_ (h1 W ρ H fr s _ E _ _ r e1 fun W1 k1 t1 x l1 r1 x1=>?_)
 refine h2 W1 ρ _ fr _ _ E _ _ r1 e2 fun W2 k2 t2 y l2 r2 y2=>?_
 have x2:=x1.mono l2
 obtain⟨v1,H1⟩:=p
 obtain⟨v2,H2⟩:=q
 simp only at e3 r2 x2 y2
 cases y2 <;> first | (cases x2 <;> cases e3;done) | skip
 rename_i k u
 cases x2 <;> first | (cases e3;done) | skip
 ·rename_i vs a xs kk hm hl hv
  obtain⟨j,hj,e4⟩:=Zz0.mp e3
  obtain⟨z,hz,e5⟩:=Zz1.mp e4
  cases e5
  obtain⟨z',hz',rz⟩:=hv.at hz
  have hx:xs.length=vs.length:=hv.length
  have hb:=Zo0 hj
  rw[ZaZ]at hl
  have it:IsTup k2 a xs.toArray:=⟨_,r2.tupAt hm,rfl,kk,rfl⟩
  exact item_tupleT it (by omega) (by omega) (by rw[hx];exact hj) hz' (post W2 k2 t2 z' (l1.trans l2) r2 rz) (hs _ _ _)
 ·rename_i i a ea
  obtain⟨vs,hvs,e3⟩:=Zz0.mp e3
  obtain⟨j,hj,e4⟩:=Zz0.mp e3
  obtain⟨z,hz,e5⟩:=Zz1.mp e4
  cases e5
  obtain⟨hl,xs,kk,hg,hv⟩:=r2.at hvs ea
  obtain⟨z',hz',rz⟩:=hv.at hz
  have hx:xs.length=vs.length:=hv.length
  have hb:=Zo0 hj
  rw[ZaZ]at hl
  have isl:k2.IsList a xs.toArray:=⟨_,hg,rfl,kk,rfl⟩
  refine tail_any (s:={ s with heap:=k2,toks:=t2 }) isl.typeIs slot_list_getitem.lookup ?_ (hs _ _ _)
  by_cases hk:0≤k
  ·exact wpAny_getItem_list isl hk (by omega) (by rw[hb.2.2.2.1 hk];simpa using hz') (post W2 k2 t2 z' (l1.trans l2) r2 rz)
  ·refine wpAny_getItem_list_neg isl (by omega) (by simp;omega) (by omega) ?_ (post W2 k2 t2 z' (l1.trans l2) r2 rz)
   have:=hb.2.2.2.2 (by omega)
   rw[←hx]at this
   simpa [this]using hz'
end
noncomputable def ZaL{α:Type}(vs:List α)(lo hi:Option Int): List α:=(sliceRange (sliceBounds lo hi none vs.length).1 (sliceBounds lo hi none vs.length).2.1 (sliceBounds lo hi none vs.length).2.2).filterMap fun i=>vs[i]?
theorem VRs.pick{W:Wd}{vs:List V}{xs:List Value}(h:VRs W vs xs)(l:List Nat): VRs W (l.filterMap fun i=>vs[i]?) (l.filterMap fun i=>xs[i]?):=by
 induction l with
 | nil=>exact .nil
 | cons i l ih=>
  simp only[List.filterMap_cons]
  have hl:=h.length
  cases e:vs[i]? with
  | none=>
   have:xs[i]?=none:=by rw[List.getElem?_eq_none_iff]at e ⊢;omega
   rw[this]
   exact ih
  | some v=>
   obtain⟨x,hx,hr⟩:=h.at e
   rw[hx]
   exact .cons hr ih
theorem ZqE{α:Type}(vs:List α)(lo hi:Option Int): (ZaL vs lo hi).length≤vs.length:=by
 unfold ZaL
 refine Nat.le_trans (List.length_filterMap_le _ _) ?_
 refine sliceRange_length_le _ _ _ _ (fun _=>?_) fun c=>?_
 ·unfold sliceBounds
  cases lo <;> cases hi <;> simp <;> omega
 ·exact absurd (by unfold sliceBounds;simp) c
theorem Zwj{α:Type}(vs:List α)(a:Nat): ∀m:Nat,a+m≤vs.length→((List.range m).map fun k=>a+k).filterMap (fun i=>vs[i]?)=(vs.drop a).take m:=by
 intro m
 induction m with
 | zero=>intro _;simp
 | succ m ih=>
  intro h
  rw[List.range_succ,List.map_append,List.filterMap_append,ih (by omega),List.take_add_one]
  congr 1
  simp only[List.map_cons,List.map_nil,List.filterMap_cons,List.filterMap_nil,List.getElem?_drop]
  cases e:vs[a+m]? with
  | none=>rw[List.getElem?_eq_none_iff]at e;omega
  | some v=>rfl
theorem Zif{α:Type}(vs:List α)(lo hi:Option Int){a b:Nat}(ha:(sliceBounds lo hi none vs.length).1=(a:Int))(hb:(sliceBounds lo hi none vs.length).2.1=(b:Int))(h:b≤vs.length): ZaL vs lo hi=(vs.drop a).take (b-a):=by
 have hc:(sliceBounds lo hi none vs.length).2.2=1:=by unfold sliceBounds;rfl
 unfold ZaL
 rw[ha,hb,hc]
 have e:sliceRange (a:Int) (b:Int) 1=(List.range (b-a)).map fun k=>a+k:=by
  unfold sliceRange
  simp only[show(1:Int)>0 from by decide,if_true]
  by_cases c:(a:Int)<b
  ·rw[if_pos c]
   have:((b:Int)-a+1-1) / 1=((b-a:Nat):Int):=by omega
   rw[this]
   simp only[Int.toNat_natCast]
   refine List.map_congr_left fun k _=>?_
   omega
  ·rw[if_neg c]
   have:b-a=0:=by omega
   rw[this]
   rfl
 rw[e]
 by_cases c:a≤b
 ·exact Zwj vs a (b-a) (by omega)
 ·have:b-a=0:=by omega
  rw[this]
  simp
theorem Zp9{α:Type}(vs:List α){k:Int}{a:Nat}(e:k=(a:Int)): ZaL vs (some k) none=vs.drop a:=by
 by_cases h:a≤vs.length
 ·rw[Zif vs (some k) none (a:=a) (b:=vs.length) (by unfold sliceBounds;simp;omega) (by unfold sliceBounds;simp) (Zz10 _)]
  rw[List.take_of_length_le (by simp)]
 ·rw[Zif vs (some k) none (a:=vs.length) (b:=vs.length) (by unfold sliceBounds;simp;omega) (by unfold sliceBounds;simp) (Zz10 _)]
  simp
  omega
theorem Zxb{α:Type}(vs:List α){k:Int}{a:Nat}(e:k=(a:Int)): ZaL vs none (some k)=vs.take a:=by
 by_cases h:a≤vs.length
 ·rw[Zif vs none (some k) (a:=0) (b:=a) (by unfold sliceBounds;simp) (by unfold sliceBounds;simp;omega) h]
  simp
 ·rw[Zif vs none (some k) (a:=0) (b:=vs.length) (by unfold sliceBounds;simp) (by unfold sliceBounds;simp;omega) (Zz10 _)]
  rw[List.drop_zero,Nat.sub_zero,List.take_of_length_le (Zz10 _),List.take_of_length_le (by omega)]
noncomputable def ZiD: Option V→Option (Option Int)
 | none=>some none
 | some (.int k)=>some (some k)
 | _=>none
noncomputable abbrev Pt:=Lc→Hp→Option (Option V×Hp)
noncomputable def Ze0: Pt:=fun _ H=>some (none,H)
noncomputable def Ze1(f:Ex): Pt:=fun ρ H=>(f ρ H).map fun p=>(some p.1,p.2)
noncomputable def ZcZ(f:Ex)(lo hi:Pt): Ex:=fun ρ H=>(f ρ H).bind fun p=>(lo ρ p.2).bind fun q=>(hi ρ q.2).bind fun u=>(ZiD q.1).bind fun a=>(ZiD u.1).bind fun b=>match p.1 with
 | .ref i=>u.2[i]?.bind fun vs=>some (.ref u.2.length,u.2++[ZaL vs a b])
 | _=>none
inductive VP(W:Wd): Option V→Value→Prop where
 | none:VP W none .none
 | some {v:V} {x:Value}:VR W v x→VP W (some v) x
theorem VP.mono{W W':Wd}{v:Option V}{x:Value}(l:W.Le W')(h:VP W v x): VP W' v x:=by
 cases h with
 | none=>exact .none
 | some h=>exact .some (h.mono l)
theorem VP.part{W:Wd}{v:Option V}{x:Value}{k:Option Int}(h:VP W v x)(e:ZiD v=Option.some k): IsPart x k:=by
 cases h with
 | none=>cases e;exact .none
 | some h=>cases h <;> cases e;exact .int _ _
def JP(prog:Program)(w:World)(Γ:Cx)(e:Option Expr)(f:Pt): Prop:=∀(W:Wd) (ρ:Lc) (H:Hp) (fr:List (Addr×Obj)) (s:Shared) (Q E:Value→Shared→Prop) (v:Option V) (H':Hp),
 Rep Γ W ρ H fr s.heap→f ρ H=some (v,H')→(∀(W':Wd) (h':Heap) (tk':Nat) (x:Value),W.Le W'→Rep Γ W' ρ H' fr h'→VP W' v x→Q x { s with heap:=h',toks:=tk' })→wpAny (model prog w) Γ.A (evalPart e Γ.env) Q E s
section
variable {prog:Program} {w:World} {Γ:Cx}
theorem JP.none: JP prog w Γ none Ze0:=fun W ρ H fr s Q E v H' r hf post=>by
 cases hf
 exact wpAny_evalPart_none (post W s.heap s.toks _ (.refl W) r .none)
theorem JP.some{e:Expr}{f:Ex}(h:J prog w Γ e f): JP prog w Γ (some e) (Ze1 f):=fun W ρ H fr s Q E v H' r hf post=>by
 obtain⟨p,e1,e2⟩:=Zz1.mp hf
 cases e2
 exact wpAny_evalPart_some (h W ρ H fr s _ E _ _ r e1 fun W1 k1 t1 x l1 r1 x1=>post W1 k1 t1 x l1 r1 (.some x1))
theorem ZmR{e:Expr}{lo hi:Option Expr}{p pos:Pos}{f:Ex}{a b:Pt}(h:J prog w Γ e f)(hlo:JP prog w Γ lo a)(hhi:JP prog w Γ hi b)(ht:∀o r,letTemporaryGo e o r=pure ():=by intro _ _;rfl): J prog w Γ (.Subscript e (.Slice lo hi Option.none p) pos) (ZcZ f a b):=by
 intro W ρ H fr s Q E v H' r hf post
 obtain⟨p,e1,hf⟩:=Zz0.mp hf
 obtain⟨q,e2,hf⟩:=Zz0.mp hf
 obtain⟨u,e3,hf⟩:=Zz0.mp hf
 obtain⟨ka,e4,hf⟩:=Zz0.mp hf
 obtain⟨kb,e5,hf⟩:=Zz0.mp hf
 refine wpAny_Subscript_list_slice (h W ρ H fr s _ E _ _ r e1 fun W1 k1 t1 x l1 r1 x1=>?_) ht
 refine hlo W1 ρ _ fr _ _ E _ _ r1 e2 fun W2 k2 t2 y l2 r2 y2=>?_
 refine hhi W2 ρ _ fr _ _ E _ _ r2 e3 fun W3 k3 t3 z l3 r3 z3=>?_
 have x3:=x1.mono (l2.trans l3)
 obtain⟨v1,H1⟩:=p
 simp only at hf x3
 cases x3 with
 | none=>cases hf
 | bool _=>cases hf
 | int _ _=>cases hf
 | str _ _=>cases hf
 | tup _ _ _=>cases hf
 | @ref i a ea=>
  obtain⟨vs,hvs,e6⟩:=Zz0.mp hf
  cases e6
  obtain⟨hl,xs,kk,hg,hv⟩:=r3.at hvs ea
  have isl:k3.IsList a xs.toArray:=⟨_,hg,rfl,kk,rfl⟩
  refine⟨a,xs.toArray,ka,kb,rfl,isl,ZcD (by simp[hv.length];exact hl),(y2.mono l3).part e4,z3.part e5,?_⟩
  have hp:VRs W3 (ZaL vs ka kb) (ZaL xs ka kb):=by
   unfold ZaL
   rw[hv.length]
   exact hv.pick _
  have hx:slicePick xs.toArray ka kb Option.none=(ZaL xs ka kb).toArray:=by
   unfold slicePick ZaL
   simp
  obtain⟨W4,l4,r4,v4⟩:=(r3.push { cls:=.type "slice",data:=.fields #[y,z,.none] }).list (k:=0) hp (Nat.le_trans (ZqE vs ka kb) hl)
  rw[hx]
  have:=post W4 _ t3 _ (((l1.trans l2).trans l3).trans l4) r4 v4
  rw[Heap.size_push]at this
  exact this
end
end PM
end
section
namespace PM
open PySem PyProof.Rows PyProof
def Nm(prog:Program)(w:World)(Γ:Cx)(x:Str)(v:Value): Prop:=∀(pos:Pos) (m:Str→Option Value) (s:Shared) (Q E:Value→Shared→Prop),Fr Γ.h₀ Γ.L s.heap m→Q v s→wpAny (model prog w) Γ.A (eval (.Name x pos) Γ.env) Q E s
theorem Nm.use{prog:Program}{w:World}{Γ:Cx}{x:Str}{y:Value}(h:Nm prog w Γ x y){pos:Pos}{W:Wd}{ρ:Lc}{H:Hp}{fr:List (Addr×Obj)}{s:Shared}{Q E:Value→Shared→Prop}(r:Rep Γ W ρ H fr s.heap)(q:Q y s): wpAny (model prog w) Γ.A (eval (.Name x pos) Γ.env) Q E s:=by
 obtain⟨m,c,led,r⟩:=r
 exact h pos m s Q E r.F q
def OpN(prog:Program)(w:World)(m:List Value→Sem Value)(o:List V→Hp→Option (V×Hp)): Prop:=∀(Γ:Cx) (W:Wd) (ρ:Lc) (H:Hp) (fr:List (Addr×Obj)) (s:Shared) (Q E:Value→Shared→Prop) (as:List V) (xs:List Value) (v:V) (H':Hp),
 Rep Γ W ρ H fr s.heap→VRs W as xs→o as H=some (v,H')→ZiK Γ W ρ H' fr s Q v→wpAny (model prog w) Γ.A (m xs) Q E s
noncomputable def ZU(o:List V→Hp→Option (V×Hp))(g:Exs): Ex:=fun ρ H=>(g ρ H).bind fun p=>o p.1 p.2
section
variable {prog:Program} {w:World} {Γ:Cx}
theorem Zaf{x:Str}{np pos:Pos}{id:String}{e:Expr}{es:List Expr}{g:Exs}{o:List V→Hp→Option (V×Hp)}(hn:Nm prog w Γ x (.builtin id))(h:Js prog w Γ (e::es) g)(ho:OpN prog w (fun xs=>call (.builtin id) xs) o)
  (he:starEach (e::es) Γ.env=(false,eval e Γ.env)::starEach es Γ.env:=by rfl) (hp:∀pos,(backTo pos (starEach es Γ.env)).any (·.1)=false:=by intro _;rfl):J prog w Γ (.Call (.Name x np) (e::es) [] pos) (ZU o g):=by
 intro W ρ H fr s Q E v H' r hf post
 obtain⟨p,e1,hf⟩:=Zz0.mp hf
 refine wpAny_Call_ofName (hn.use r ?_)
 refine callWith_builtin1 (h pos W ρ H fr s _ E _ _ r e1 fun W1 k1 t1 xs l1 r1 x1=>?_) he (hp pos)
 exact ho Γ W1 ρ _ fr _ Q E _ xs v H' r1 x1 hf fun W2 k2 t2 y l2 r2 y2=>post W2 k2 t2 y (l1.trans l2) r2 y2
theorem ZeD{x:Str}{np pos:Pos}{T:String}{e:Expr}{es:List Expr}{g:Exs}{o:List V→Hp→Option (V×Hp)}(hn:Nm prog w Γ x (.type T))(h:Js prog w Γ (e::es) g)(ho:OpN prog w (fun xs=>call (.type T) xs) o)
  (he:starEach (e::es) Γ.env=(false,eval e Γ.env)::starEach es Γ.env:=by rfl) (hp:∀pos,(backTo pos (starEach es Γ.env)).any (·.1)=false:=by intro _;rfl):J prog w Γ (.Call (.Name x np) (e::es) [] pos) (ZU o g):=by
 intro W ρ H fr s Q E v H' r hf post
 obtain⟨p,e1,hf⟩:=Zz0.mp hf
 refine wpAny_Call_ofName (hn.use r ?_)
 refine PySem.Pv.callWith_type1 (h pos W ρ H fr s _ E _ _ r e1 fun W1 k1 t1 xs l1 r1 x1=>?_) he (hp pos)
 exact ho Γ W1 ρ _ fr _ Q E _ xs v H' r1 x1 hf fun W2 k2 t2 y l2 r2 y2=>post W2 k2 t2 y (l1.trans l2) r2 y2
end
noncomputable def ZmS: V→String
 | .none=>"NoneType"
 | .bool _=>"bool"
 | .int _=>"int"
 | .str _=>"str"
 | .tup _=>"tuple"
 | .ref _=>"list"
noncomputable def Znd(T:String)(v:V): Bool:=ZmS v == T || (T == "int" && ZmS v == "bool")
noncomputable def eIs(T:String)(f:Ex): Ex:=fun ρ H=>(f ρ H).map fun p=>(.bool (Znd T p.1),p.2)
section
variable {prog:Program} {w:World} {Γ:Cx}
theorem isinst{T:String}(hT:T="int"∨T="bool"∨T="list"∨T="tuple"){W:Wd}{ρ:Lc}{H:Hp}{fr:List (Addr×Obj)}{s:Shared}{Q E:Value→Shared→Prop}{a:V}{x:Value}(r:Rep Γ W ρ H fr s.heap)(hx:VR W a x)(hin:∀i,a=.ref i→i<H.length)
  (post:∀tk,Q (.bool (Znd T a)) { s with toks:=tk }):wpAny (model prog w) Γ.A (call (.builtin "isinstance") [x,.type T]) Q E s:=by
 cases hx with
 | none=>
      rcases hT with e | e | e | e <;> subst e
      ·exact call_isinstance (isinstance_false_none (by decide +kernel) F.isi_meta_int (by rw[isSubtype_type];kernel_rfl)) (post _)
      ·exact call_isinstance (isinstance_false_none (by decide +kernel) F.isi_meta_bool (by rw[isSubtype_type];kernel_rfl)) (post _)
      ·exact call_isinstance (isinstance_false_none (by decide +kernel) F.isi_meta_list (by rw[isSubtype_type];kernel_rfl)) (post _)
      ·exact call_isinstance (isinstance_false_none (by decide +kernel) F.isi_meta_tuple (by rw[isSubtype_type];kernel_rfl)) (post _)
 | bool b=>
       rcases hT with e | e | e | e <;> subst e
       ·exact IsiPair.bool_int (post s.toks)
       ·exact IsiPair.bool_bool (post s.toks)
       ·exact IsiPair.bool_list (post _)
       ·exact IsiPair.bool_tuple (post _)
 | int i t=>
       rcases hT with e | e | e | e <;> subst e
       ·exact IsiPair.int_int (post s.toks)
       ·exact IsiPair.int_bool (post _)
       ·exact IsiPair.int_list (post _)
       ·exact IsiPair.int_tuple (post _)
 | str y t=>
       rcases hT with e | e | e | e <;> subst e
       ·exact IsiPair.str_int (post _)
       ·exact IsiPair.str_bool (post _)
       ·exact IsiPair.str_list (post _)
       ·exact IsiPair.str_tuple (post _)
 | tup hm hl hs=>
  have hg:=r.tupAt hm
  rcases hT with e | e | e | e <;> subst e
  ·exact IsiPair.tuple_int hg rfl (post _)
  ·exact IsiPair.tuple_bool hg rfl (post _)
  ·exact IsiPair.tuple_list hg rfl (post _)
  ·exact IsiPair.tuple_tuple hg rfl (post s.toks)
 | @ref i a ea=>
  obtain⟨hl,xs,k,hg,hv⟩:=r.at (List.getElem?_eq_getElem (hin i rfl)) ea
  rcases hT with e | e | e | e <;> subst e
  ·exact IsiPair.list_int hg rfl (post _)
  ·exact IsiPair.list_bool hg rfl (post _)
  ·exact IsiPair.list_list hg rfl (post s.toks)
  ·exact IsiPair.list_tuple hg rfl (post _)
end
theorem Rep.refIn{Γ:Cx}{W:Wd}{ρ:Lc}{H:Hp}{fr:List (Addr×Obj)}{h:Heap}{i:Nat}{x:Value}(r:Rep Γ W ρ H fr h)(hx:VR W (.ref i) x): i<H.length:=by
 obtain⟨m,c,led,r⟩:=r
 cases hx with
 | ref e=>rw[←r.R.len];exact(Zz6.mp e).1
section
variable {prog:Program} {w:World} {Γ:Cx}
theorem Zds{np tp pos:Pos}{x y:Str}{T:String}{e:Expr}{f:Ex}(hn:Nm prog w Γ x (.builtin "isinstance"))(hy:Nm prog w Γ y (.type T))(hT:T="int"∨T="bool"∨T="list"∨T="tuple")(h:J prog w Γ e f)
  (he:starEach [e,.Name y tp] Γ.env=(false,eval e Γ.env)::starEach [.Name y tp] Γ.env:=by rfl) (hp:∀pos,(backTo pos (starEach [.Name y tp] Γ.env)).any (·.1)=false:=by intro _;rfl):J prog w Γ (.Call (.Name x np) [e,.Name y tp] [] pos) (eIs T f):=by
 intro W ρ H fr s Q E v H' r hf post
 obtain⟨p,e1,e2⟩:=Zz1.mp hf
 cases e2
 refine wpAny_Call_ofName (hn.use r ?_)
 refine callWith_builtin1 (wpAny_items_cons (h W ρ H fr s _ E _ _ r e1 fun W1 k1 t1 z l1 r1 z1=>?_) he) he (hp pos)
 refine wpAny_items_cons (hy.use (s:={ s with heap:=k1,toks:=t1 }) r1 ?_)
 refine wpAny_items_nil ?_
 exact PM.isinst hT r1 z1 (fun i e=>by rw[e]at z1;exact r1.refIn z1) fun tk=>post W1 k1 tk _ l1 r1 (.bool _)
end
noncomputable def Zcx: List V→Hp→Option (V×Hp)
 | [.ref a],H=>H[a]?.map fun vs=>(.int vs.length,H)
 | [.tup vs],H=>some (.int vs.length,H)
 | _,_=>none
noncomputable def ZnS: List V→Hp→Option (V×Hp)
 | [.int a],H=>some (.int (if a<0 then -a else a),H)
 | _,_=>none
noncomputable def Zde: List V→Option (List Int)
 | []=>some []
 | .int k::vs=>(Zde vs).map fun ks=>k::ks
 | _::_=>none
noncomputable def ZkL: List V→Hp→Option (V×Hp)
 | [.ref a],H=>H[a]?.bind fun vs=>(Zde vs).map fun ks=>(.int ks.sum,H)
 | _,_=>none
theorem VRs.one{W:Wd}{v:V}{xs:List Value}(h:VRs W [v] xs): ∃x,xs=[x]∧VR W v x:=by
 cases h with
 | cons a b=>cases b;exact⟨_,rfl,a⟩
theorem VRs.two{W:Wd}{v u:V}{xs:List Value}(h:VRs W [v,u] xs): ∃x y,xs=[x,y]∧VR W v x∧VR W u y:=by
 cases h with
 | cons a b=>obtain⟨y,e,r⟩:=b.one;subst e;exact⟨_,_,rfl,a,r⟩
theorem Zt6{W:Wd}: ∀{vs:List V} {xs:List Value} {ks:List Int},VRs W vs xs→Zde vs=some ks→∃ts:Array (Int×Tok),xs.toArray=intItems ts∧preSum (numAt ts) ts.size=ks.sum:=by
 have key:∀{vs:List V} {xs:List Value} {ks:List Int},VRs W vs xs→Zde vs=some ks→∃ts:List (Int×Tok),xs=ts.map (fun p=>Value.int p.1 p.2)∧ts.map (·.1)=ks:=by
  intro vs
  induction vs with
  | nil=>intro xs ks h e;cases h;cases e;exact⟨[],rfl,rfl⟩
  | cons v vs ih=>
   intro xs ks h e
   cases h with
   | cons a b=>
    cases v with
    | int i=>
     obtain⟨js,e1,e2⟩:=Zz1.mp e
     subst e2
     cases a with
     | int _ t=>
      obtain⟨ts,h1,h2⟩:=ih b e1
      exact⟨(i,t)::ts,by rw[h1];rfl,by rw[List.map_cons,h2]⟩
    | none=>cases e
    | bool _=>cases e
    | str _=>cases e
    | tup _=>cases e
    | ref _=>cases e
 intro vs xs ks h e
 obtain⟨ts,h1,h2⟩:=key h e
 refine⟨ts.toArray,by rw[h1];simp[intItems],?_⟩
 rw[preSum_eq,List.take_of_length_le (by simp),←h2]
noncomputable def Zaz: V→V→Hp→Option (V×Hp)
 | .int a,.int b,H=>some (.int (a+b),H)
 | .ref a,.ref b,H=>H[a]?.bind fun vs=>H[b]?.bind fun us=>if(vs++us).length≤LEN then some (.ref H.length,H++[vs++us])else none
 | .tup vs,.tup us,H=>if(vs++us).length≤LEN then some (.tup (vs++us),H)else none
 | _,_,_=>none
noncomputable def Ze9(vs:List V): Nat→List V
 | 0=>[]
 | n+1=>Ze9 vs n++vs
noncomputable def Zgc: V→V→Hp→Option (V×Hp)
 | .int a,.int b,H=>if mulOk a b=true then some (.int (a*b),H)else none
 | .ref a,.int k,H=>H[a]?.bind fun vs=>if vs.length*k.toNat≤LEN∧-(2 ^ 63:Int)≤k∧k<2 ^ 63 then some (.ref H.length,H++[Ze9 vs k.toNat])else none
 | _,_,_=>none
section
variable {prog:Program} {w:World}
theorem Zav: OpN prog w (fun xs=>call (.builtin "len") xs) Zcx:=by
 intro Γ W ρ H fr s Q E as xs v H' r hx ho post
 unfold Zcx at ho
 split at ho
 ·rename_i a
  obtain⟨vs,e1,e2⟩:=Zz1.mp ho
  cases e2
  obtain⟨x,ex,rx⟩:=hx.one
  subst ex
  cases rx with
  | ref ea=>
   obtain⟨hl,ys,k,hg,hv⟩:=r.at e1 ea
   have isl:s.heap.IsList _ ys.toArray:=⟨_,hg,rfl,k,rfl⟩
   have e3:(ys.toArray.size:Int)=vs.length:=by simp[hv.length]
   rw[ZaZ]at hl
   refine Calls.call_len_list isl (by rw[e3];omega) ?_
   rw[e3]
   exact post W s.heap _ _ (.refl W) r (.int _ _)
 ·rename_i vs
  cases ho
  obtain⟨x,ex,rx⟩:=hx.one
  subst ex
  cases rx with
  | @tup _ a ys k hm hl hs=>
   have it:IsTup s.heap a ys.toArray:=⟨_,r.tupAt hm,rfl,k,rfl⟩
   have e3:(ys.toArray.size:Int)=vs.length:=by simp[hs.length]
   rw[ZaZ]at hl
   refine len_tuple it (by rw[e3];omega) ?_
   rw[e3]
   exact post W s.heap _ _ (.refl W) r (.int _ _)
 ·cases ho
theorem Zd3: OpN prog w (fun xs=>call (.builtin "abs") xs) ZnS:=by
 intro Γ W ρ H fr s Q E as xs v H' r hx ho post
 unfold ZnS at ho
 split at ho
 ·cases ho
  obtain⟨x,ex,rx⟩:=hx.one
  subst ex
  cases rx with
  | int i t=>exact call_abs_int fun u tk=>post W s.heap tk _ (.refl W) r (.int _ _)
 ·cases ho
theorem Zyz: OpN prog w (fun xs=>call (.builtin "sum") xs) ZkL:=by
 intro Γ W ρ H fr s Q E as xs v H' r hx ho post
 unfold ZkL at ho
 split at ho
 ·obtain⟨vs,e1,e2⟩:=Zz0.mp ho
  obtain⟨ks,e3,e4⟩:=Zz1.mp e2
  cases e4
  obtain⟨x,ex,rx⟩:=hx.one
  subst ex
  cases rx with
  | ref ea=>
   obtain⟨hl,ys,k,hg,hv⟩:=r.at e1 ea
   obtain⟨ts,h1,h2⟩:=Zt6 hv e3
   have isl:s.heap.IsList _ (intItems ts):=⟨_,hg,rfl,k,by rw[←h1]⟩
   refine sum_intListG Γ.hh isl fun h' tk t' up=>?_
   rw[h2]
   exact post W h' tk _ (.refl W) (r.grown up) (.int _ _)
 ·cases ho
theorem Z0: Op2 prog w (binaryOp .Add) Zaz:=by
 intro Γ W ρ H fr s Q E a b x y v H' r hx hy ho post
 unfold Zaz at ho
 split at ho
 ·cases ho
  cases hx;cases hy
  exact PySem.P.add_int (post W s.heap _ _ (.refl W) r (.int _ _))
 ·obtain⟨vs,e1,ho⟩:=Zz0.mp ho
  obtain⟨us,e2,ho⟩:=Zz0.mp ho
  by_cases hl:(vs++us).length≤LEN
  ·rw[if_pos hl]at ho
   cases ho
   cases hx with
   | ref ea=>
   cases hy with
   | ref eb=>
   obtain⟨l1,ys,k,hg,hv⟩:=r.at e1 ea
   obtain⟨l2,zs,k2,hg2,hv2⟩:=r.at e2 eb
   obtain⟨m,c,led,r'⟩:=r
   have i1:s.heap.IsList _ ys.toArray:=⟨_,hg,rfl,k,rfl⟩
   have i2:s.heap.IsList _ zs.toArray:=⟨_,hg2,rfl,k2,rfl⟩
   refine add_lists (hsz:=ZcD (by rw[hv.length,hv2.length,←List.length_append];exact hl)) r'.F r'.N i1 i2 fun h' F' N'=>?_
   obtain⟨W2,le2,r2,v2⟩:=r'.newList F' N' r'.off (hv.append hv2) hl
   exact post W2 h' s.toks _ le2 r2 v2
  ·rw[if_neg hl]at ho
   cases ho
 ·rename_i vs us
  by_cases hl:(vs++us).length≤LEN
  ·rw[if_pos hl]at ho
   cases ho
   cases hx with
   | @tup _ a ys k hm h1 hv=>
   cases hy with
   | @tup _ b zs k2 hm2 h2 hv2=>
   have t1:IsTup s.heap a ys.toArray:=⟨_,r.tupAt hm,rfl,k,rfl⟩
   have t2:IsTup s.heap b zs.toArray:=⟨_,r.tupAt hm2,rfl,k2,rfl⟩
   have r0:=r
   obtain⟨m,c,led,r'⟩:=r
   refine add_tuples (hsz:=ZcD (by rw[hv.length,hv2.length,←List.length_append];exact hl)) r'.F r'.N t1 t2 (fun e=>?_) (fun _ e=>?_) fun _ _ h' F' N'=>?_
   ·have:vs=[]:=List.length_eq_zero_iff.mp (by rw[←hv.length,e];rfl)
    subst this
    exact post W s.heap s.toks _ (.refl W) r0 (.tup hm2 h2 hv2)
   ·have:us=[]:=List.length_eq_zero_iff.mp (by rw[←hv2.length,e];rfl)
    subst this
    rw[List.append_nil]at post
    exact post W s.heap s.toks _ (.refl W) r0 (.tup hm h1 hv)
   ·obtain⟨W2,le2,r2,v2⟩:=r'.newTup F' N' r'.off (hv.append hv2) hl
    exact post W2 h' s.toks _ le2 r2 v2
  ·rw[if_neg hl]at ho
   cases ho
 ·cases ho
theorem ZqF(vs:List V): ∀n,(Ze9 vs n).length=vs.length*n
 | 0=>rfl
 | n+1=>by rw[Ze9,List.length_append,ZqF vs n,Nat.mul_succ]
theorem Zvx(xs:List Value)(n:Nat): ∀acc:Array Value,(List.foldl (fun x1 x2=>x1++x2) acc (List.replicate n xs.toArray))=acc++(List.replicate n xs).flatten.toArray:=by
 induction n with
 | zero=>intro acc;simp
 | succ n ih=>
  intro acc
  rw[List.replicate_succ,List.foldl_cons,ih,List.replicate_succ,List.flatten_cons]
  simp[Array.append_assoc]
theorem Zrh{W:Wd}{vs:List V}{xs:List Value}(h:VRs W vs xs): ∀n,VRs W (Ze9 vs n) (List.replicate n xs).flatten
 | 0=>.nil
 | n+1=>by
  rw[Ze9,List.replicate_succ',List.flatten_append]
  simp only[List.flatten_cons,List.flatten_nil,List.append_nil]
  exact(Zrh h n).append h
theorem Zbc: Op2 prog w (binaryOp .Mult) Zgc:=by
 intro Γ W ρ H fr s Q E a b x y v H' r hx hy ho post
 unfold Zgc at ho
 split at ho
 ·rename_i i j
  by_cases hm:mulOk i j=true
  ·rw[if_pos hm]at ho
   cases ho
   cases hx;cases hy
   exact PySem.P.mul_int (post W s.heap _ _ (.refl W) r (.int _ _)) (Zwi hm)
  ·rw[if_neg hm]at ho
   cases ho
 ·rename_i i k
  obtain⟨vs,e1,ho⟩:=Zz0.mp ho
  by_cases hc:vs.length*k.toNat≤LEN∧-(2 ^ 63:Int)≤k∧k<2 ^ 63
  ·rw[if_pos hc]at ho
   cases ho
   cases hx with
   | ref ea=>
   cases hy with
   | int _ u=>
   obtain⟨l1,ys,kk,hg,hv⟩:=r.at e1 ea
   obtain⟨m,c,led,r'⟩:=r
   have hl:=hc.1
   rw[ZaZ]at hl
   refine mul_list r'.F r'.N hg hc.2.1 hc.2.2 (by rw[List.size_toArray,hv.length];omega) fun h' F' N'=>?_
   have e2:(List.foldl (fun x1 x2=>x1++x2) #[] (List.replicate (if ys.toArray.isEmpty=true then 0 else k.toNat) ys.toArray))=(List.replicate k.toNat ys).flatten.toArray:=by
    cases ys with
    | nil=>
     simp
    | cons y0 ys0=>
     have:((y0::ys0).toArray.isEmpty=true)=False:=by simp
     simp only[this,if_false]
     rw[Zvx]
     simp
   rw[e2]at N'
   obtain⟨W2,le2,r2,v2⟩:=r'.newList F' N' r'.off (Zrh hv k.toNat) (by rw[ZqF];exact hc.1)
   exact post W2 h' s.toks _ le2 r2 v2
  ·rw[if_neg hc]at ho
   cases ho
 ·cases ho
end
end PM
end
section
namespace PM
open PySem PyProof.Rows PyProof
noncomputable def upd(ρ:Lc)(i:Nat)(v:V): Lc:=fun j=>if j=i then some v else ρ j
noncomputable abbrev Sm:=Lc→Hp→Option (Option V×Lc×Hp)
noncomputable def ZaM: Sm:=fun ρ H=>some (none,ρ,H)
noncomputable def Z5(a b:Sm): Sm:=fun ρ H=>(a ρ H).bind fun p=>match p.1 with
 | some _=>some p
 | none=>b p.2.1 p.2.2
noncomputable def Zak(f:Ex): Sm:=fun ρ H=>(f ρ H).map fun p=>(some p.1,ρ,p.2)
noncomputable def Zar(i:Nat)(f:Ex): Sm:=fun ρ H=>(f ρ H).map fun p=>(none,upd ρ i p.1,p.2)
noncomputable def sIf(t:Ts)(a b:Sm): Sm:=fun ρ H=>(t ρ H).bind fun p=>if p.1 then a ρ p.2 else b ρ p.2
noncomputable def Zc5(f:Ex): Sm:=fun ρ H=>(f ρ H).map fun p=>(none,ρ,p.2)
noncomputable def ZnT: V→V→V→Hp→Option Hp
 | .ref a,.int k,v,H=>H[a]?.bind fun vs=>if a≠0∧0≤k∧k<vs.length then some (H.set a (vs.set k.toNat v))else none
 | _,_,_,_=>none
noncomputable def ZcQ(f o i:Ex): Sm:=fun ρ H=>(f ρ H).bind fun p=>(o ρ p.2).bind fun q=>(i ρ q.2).bind fun u=>(ZnT q.1 u.1 p.1 u.2).map fun K=>(none,ρ,K)
noncomputable def ZeL(t:Ts)(b:Sm): Nat→Sm
 | 0=>fun _ _=>none
 | n+1=>fun ρ H=>(t ρ H).bind fun p=>if p.1 then(b ρ p.2).bind fun q=>(match q.1 with
   | some _=>some q
   | none=>ZeL t b n q.2.1 q.2.2)else some (none,ρ,p.2)
noncomputable def PostS(Γ:Cx)(W:Wd)(fr:List (Addr×Obj))(s:Shared)(Q:Flow→Shared→Prop): Option V×Lc×Hp→Prop
 | (none,ρ',H')=>∀(W':Wd) (h':Heap) (tk':Nat),W.Le W'→Rep Γ W' ρ' H' fr h'→Q .next { s with heap:=h',toks:=tk' }
 | (some v,ρ',H')=>∀(W':Wd) (h':Heap) (tk':Nat) (x:Value),W.Le W'→Rep Γ W' ρ' H' fr h'→VR W' v x→Q (.ret x) { s with heap:=h',toks:=tk' }
theorem PostS.le{Γ:Cx}{W W':Wd}{fr:List (Addr×Obj)}{s:Shared}{h:Heap}{tk:Nat}{Q:Flow→Shared→Prop}{r:Option V×Lc×Hp}(l:W.Le W')(p:PostS Γ W fr s Q r): PostS Γ W' fr { s with heap:=h,toks:=tk } Q r:=by
 obtain⟨o,ρ',H'⟩:=r
 cases o with
 | none=>exact fun W2 h2 t2 l2 r2=>p W2 h2 t2 (l.trans l2) r2
 | some v=>exact fun W2 h2 t2 x l2 r2 x2=>p W2 h2 t2 x (l.trans l2) r2 x2
section
variable (prog:Program) (w:World)
def S1(Γ:Cx)(st:Stmt)(g:Sm): Prop:=∀(W:Wd) (ρ:Lc) (H:Hp) (fr:List (Addr×Obj)) (s:Shared) (Q:Flow→Shared→Prop) (E:Value→Shared→Prop) (r:Option V×Lc×Hp),
 Rep Γ W ρ H fr s.heap→g ρ H=some r→PostS Γ W fr s Q r→wpAny (model prog w) Γ.A (exec st Γ.env) Q E s
def Ss(Γ:Cx)(ss:List Stmt)(g:Sm): Prop:=∀(W:Wd) (ρ:Lc) (H:Hp) (fr:List (Addr×Obj)) (s:Shared) (Q:Flow→Shared→Prop) (E:Value→Shared→Prop) (r:Option V×Lc×Hp),
 Rep Γ W ρ H fr s.heap→g ρ H=some r→PostS Γ W fr s Q r→wpAny (model prog w) Γ.A (execs ss Γ.env) Q E s
def Sto(Γ:Cx)(x:Str)(i:Nat): Prop:=∀(W:Wd) (ρ:Lc) (H:Hp) (fr:List (Addr×Obj)) (s:Shared) (Q:Unit→Shared→Prop) (E:Value→Shared→Prop) (v:V) (y:Value),
 Rep Γ W ρ H fr s.heap→VR W v y→(∀(h':Heap) (tk':Nat),Rep Γ W (upd ρ i v) H fr h'→Q () { s with heap:=h',toks:=tk' })→wpAny (model prog w) Γ.A (storeName Γ.env x y) Q E s
def Rd(Γ:Cx)(x:Str)(i:Nat): Prop:=∀(W:Wd) (ρ:Lc) (H:Hp) (fr:List (Addr×Obj)) (s:Shared) (Q E:Value→Shared→Prop) (v:V) (pos:Pos),
 Rep Γ W ρ H fr s.heap→ρ i=some v→(∀y,VR W v y→Q y s)→wpAny (model prog w) Γ.A (eval (.Name x pos) Γ.env) Q E s
end
section
variable {prog:Program} {w:World} {Γ:Cx}
theorem ZkB{x:Str}{i:Nat}{pos:Pos}(h:Rd prog w Γ x i): J prog w Γ (.Name x pos) (Zp i):=by
 intro W ρ H fr s Q E v H' r hf post
 obtain⟨u,e1,e2⟩:=Zz1.mp hf
 cases e2
 exact h W ρ H fr s Q E v pos r e1 fun y hy=>post W s.heap s.toks y (.refl W) r hy
theorem ZL: Ss prog w Γ [] ZaM:=fun W ρ H fr s Q E r rp hf post=>by
 cases hf
 exact wpAny_execs_nil (post W s.heap s.toks (.refl W) rp)
theorem Zj{st:Stmt}{ss:List Stmt}{a b:Sm}(h1:S1 prog w Γ st a)(h2:Ss prog w Γ ss b): Ss prog w Γ (st::ss) (Z5 a b):=by
 intro W ρ H fr s Q E r rp hf post
 obtain⟨p,e1,hf⟩:=Zz0.mp hf
 refine wpAny_execs_cons (h1 W ρ H fr s _ E p rp e1 ?_)
 obtain⟨o,ρ1,H1⟩:=p
 cases o with
 | some v=>
  cases hf
  exact fun W1 k1 t1 x l1 r1 x1=>post W1 k1 t1 x l1 r1 x1
 | none=>exact fun W1 k1 t1 l1 r1=>h2 W1 ρ1 H1 fr _ Q E r r1 hf (post.le l1)
theorem Zk{st:Stmt}{a:Sm}(h1:S1 prog w Γ st a): Ss prog w Γ [st] a:=by
 intro W ρ H fr s Q E r rp hf post
 refine wpAny_execs_cons (h1 W ρ H fr s _ E r rp hf ?_)
 obtain⟨o,ρ1,H1⟩:=r
 cases o with
 | some v=>exact fun W1 k1 t1 x l1 r1 x1=>post W1 k1 t1 x l1 r1 x1
 | none=>exact fun W1 k1 t1 l1 r1=>wpAny_execs_nil (post W1 k1 t1 l1 r1)
theorem Zu{e:Expr}{pos:Pos}{f:Ex}(h:J prog w Γ e f): S1 prog w Γ (.Return (some e) pos) (Zak f):=by
 intro W ρ H fr s Q E r rp hf post
 obtain⟨p,e1,e2⟩:=Zz1.mp hf
 cases e2
 exact wpAny_Return_some (h W ρ H fr s _ E _ _ rp e1 post)
theorem ZJ{t:Expr}{a b:List Stmt}{pos:Pos}{u:Ts}{f g:Sm}(ht:JT prog w Γ t u)(h1:Ss prog w Γ a f)(h2:Ss prog w Γ b g): S1 prog w Γ (.If t a b pos) (sIf u f g):=by
 intro W ρ H fr s Q E r rp hf post
 obtain⟨p,e1,hf⟩:=Zz0.mp hf
 refine wpAny_If (ht W ρ H fr s _ E _ _ rp e1 fun W1 k1 t1 l1 r1=>?_)
 obtain⟨c,H1⟩:=p
 cases c with
 | true=>exact h1 W1 ρ H1 fr _ Q E r r1 hf (post.le l1)
 | false=>exact h2 W1 ρ H1 fr _ Q E r r1 hf (post.le l1)
theorem Zdf{e:Expr}{pos:Pos}{f:Ex}(h:J prog w Γ e f)(hi:interactive Γ.env=false:=by rfl)(hs:swapsWith e none pos.line Γ.env=pure false:=by rfl): S1 prog w Γ (.Expr e pos) (Zc5 f):=by
 intro W ρ H fr s Q E r rp hf post
 obtain⟨p,e1,e2⟩:=Zz1.mp hf
 cases e2
 exact wpAny_Expr_any (h W ρ H fr s _ E _ _ rp e1 fun W1 k1 t1 x l1 r1 x1=>post W1 k1 t1 l1 r1) hi hs
theorem ZC{x:Str}{i:Nat}{e:Expr}{pos' pos:Pos}{f:Ex}(hx:Sto prog w Γ x i)(h:J prog w Γ e f)(hs:swapsWith e (some (.Name x pos')) pos.line Γ.env=pure false:=by rfl): S1 prog w Γ (.Assign [.Name x pos'] e pos) (Zar i f):=by
 intro W ρ H fr s Q E r rp hf post
 obtain⟨p,e1,e2⟩:=Zz1.mp hf
 cases e2
 refine wpAny_Assign_Name (h W ρ H fr s _ E _ _ rp e1 fun W1 k1 t1 y l1 r1 y1=>?_) hs
 exact hx W1 ρ _ fr _ _ E _ y r1 y1 fun h' tk' r2=>post W1 h' tk' l1 r2
theorem Zmx{t:Expr}{a:List Stmt}{pos:Pos}{u:Ts}{f:Sm}(n:Nat)(ht:JT prog w Γ t u)(h1:Ss prog w Γ a f): S1 prog w Γ (.While t a [] pos) (ZeL u f n):=by
 intro W ρ H fr s Q E r rp hf post
 refine wpAny_While ?_
 refine codeAny_whileLoop (fun k s'=>∃W' ρ' H' h' tk',s' = { s with heap:=h',toks:=tk' }∧W.Le W'∧Rep Γ W' ρ' H' fr h'∧ZeL u f k ρ' H'=some r) ?_ n ⟨W,ρ,H,s.heap,s.toks,rfl,.refl W,rp,hf⟩
 rintro k s' ⟨W1,ρ1,H1,k1,t1,rfl,l1,r1,e⟩
 cases k with
 | zero=>cases e
 | succ k=>
  obtain⟨p,e1,e⟩:=Zz0.mp e
  refine ht W1 ρ1 H1 fr _ _ _ _ _ r1 e1 fun W2 k2 t2 l2 r2=>?_
  obtain⟨c,H2⟩:=p
  cases c with
  | false=>
   cases e
   exact wpAny_execs_nil (post W2 k2 t2 (l1.trans l2) r2)
  | true=>
   obtain⟨q,e2,e⟩:=Zz0.mp e
   refine h1 W2 ρ1 H2 fr _ _ _ q r2 e2 ?_
   obtain⟨o,ρ3,H3⟩:=q
   cases o with
   | some v=>
    cases e
    exact fun W3 k3 t3 x l3 r3 x3=>post W3 k3 t3 x ((l1.trans l2).trans l3) r3 x3
   | none=>exact fun W3 k3 t3 l3 r3=>⟨k,Nat.lt_succ_self k,W3,ρ3,H3,k3,t3,rfl,(l1.trans l2).trans l3,r3,e⟩
end
noncomputable def Zig: List V→Hp→Option (V×Hp)
 | [.ref a,v],H=>H[a]?.bind fun vs=>if a≠0∧vs.length<LEN then some (.none,H.set a (vs++[v]))else none
 | _,_=>none
section
variable {prog:Program} {w:World} {Γ:Cx}
theorem Zvy: OpN prog w (fun xs=>call (.builtin "list.append") xs) Zig:=by
 intro Γ W ρ H fr s Q E as xs v H' r hx ho post
 unfold Zig at ho
 split at ho
 ·obtain⟨vs,e1,e2⟩:=Zz0.mp ho
  obtain⟨x,y,ex,rx,ry⟩:=hx.two
  subst ex
  split at e2
  ·rename_i hl
   cases e2
   cases rx with
   | @ref _ a0 ea=>
    obtain⟨_,ys,k,hg,hv⟩:=r.at e1 ea
    refine append_at (hsz:=ZcD (by rw[List.size_toArray,hv.length];omega)) hg fun h' sb hg'=>?_
    have hg2:h'.get? a0=some (ZbB (ys++[y]) (k+1)):=by rw[hg'];simp
    exact post W h' s.toks _ (.refl W) (r.change hl.1 e1 ea sb hg2 (hv.snoc ry) (by simp;omega)) .none
  ·cases e2
 ·cases ho
end
end PM
end
section
namespace PM
open PySem PySem.W PyProof.Rows PyProof
theorem Zri: ∀{l:List Value} {k:Nat} {v:Value},k<l.length→ki_setL l k v=some (l.set k v)
 | [],_,_,h=>by simp at h
 | x::r,0,v,_=>by simp[ki_setL]
 | x::r,k+1,v,h=>by
  have:=Zri (l:=r) (k:=k) (v:=v) (by simpa using h)
  simp[ki_setL,this]
theorem Zvz{a k v:V}{H K:Hp}(h:ZnT a k v H=some K): ∃i j vs,a=.ref i∧k=.int j∧H[i]?=some vs∧(i≠0∧0≤j∧j<vs.length)∧K=H.set i (vs.set j.toNat v):=by
 cases a <;> first | (cases h;done) | skip
 cases k <;> first | (cases h;done) | skip
 obtain⟨vs,e1,e2⟩:=Zz0.mp h
 split at e2
 ·rename_i c
  cases e2
  exact⟨_,_,vs,rfl,rfl,e1,c,rfl⟩
 ·cases e2
theorem Zt7{a v x:V}{H K:Hp}(h:Zig [a,v] H=some (x,K)): ∃i,a=.ref i:=by
 cases a <;> first | (cases h;done) | skip
 exact⟨_,rfl⟩
noncomputable def ZjN(o f:Ex): Ex:=fun ρ H=>(o ρ H).bind fun p=>(f ρ p.2).bind fun q=>Zig [p.1,q.1] q.2
section
variable {prog:Program} {w:World} {Γ:Cx}
theorem S1.put{o i value:Expr}{pos' pos:Pos}{f g k:Ex}(hf:J prog w Γ value f)(ho:J prog w Γ o g)(hi:J prog w Γ i k)(hs:swapsWith value (some (.Subscript o i pos')) pos.line Γ.env=pure false:=by rfl): S1 prog w Γ (.Assign [.Subscript o i pos'] value pos) (ZcQ f g k):=by
 intro W ρ H fr s Q E r rp hx post
 obtain⟨p,e1,hx⟩:=Zz0.mp hx
 obtain⟨q,e2,hx⟩:=Zz0.mp hx
 obtain⟨u,e3,hx⟩:=Zz0.mp hx
 obtain⟨K,e4,e5⟩:=Zz1.mp hx
 cases e5
 refine wpAny_Assign_Subscript (hf W ρ H fr s _ E _ _ rp e1 fun W1 k1 t1 x l1 r1 x1=>?_) hs
 refine ho W1 ρ _ fr _ _ E _ _ r1 e2 fun W2 k2 t2 y l2 r2 y2=>?_
 refine hi W2 ρ _ fr _ _ E _ _ r2 e3 fun W3 k3 t3 z l3 r3 z3=>?_
 have x3:=x1.mono (l2.trans l3)
 have y3:=y2.mono l3
 obtain⟨b,kk,vs,eb,ek,hvs,hc,e6⟩:=Zvz e4
 subst e6
 rw[eb]at y3
 rw[ek]at z3
 cases y3 with
 | @ref _ a ea=>
 cases z3 with
 | int _ tz=>
 obtain⟨hl,xs,n,hg,hv⟩:=r3.at hvs ea
 obtain⟨m,c,led,r'⟩:=r3
 have hll:=hl
 rw[ZaZ]at hll
 have hk:kk.toNat<xs.length:=by rw[hv.length];omega
 obtain⟨_,a',xs',n',h1,h2,h3⟩:=r'.R.lists b vs hvs
 rw[ea]at h1
 cases h1
 have h2:=r'.inLed hc.1 ea h2
 have N2:News Γ.h₀ Γ.L k3 ((a,ZbB xs n)::led.filter (fun q=>decide (q.1≠a))):=by
  intro q hq
  rcases Zz7.mp hq with e | hq
  ·subst e
   exact⟨hg,(r'.N _ h2).2⟩
  ·exact r'.N q (List.mem_filter.mp hq).1
 refine ki_set (its:=xs.toArray) (n:=n) (q:=xs.set kk.toNat x) r'.F N2 hc.2.1 (by omega) (by simpa using Zri hk) (Upd.head fun q hq=>by simpa using (List.mem_filter.mp hq).2) fun h' F' N'=>?_
 exact post W3 h' t3 ((l1.trans l2).trans l3) (r'.changed hc.1 hvs ea F' N' (hv.set _ x3) (by simpa using hl))
theorem J.append{o e:Expr}{apos pos:Pos}{f g:Ex}(ho:J prog w Γ o f)(he:J prog w Γ e g)(hbase:attributeBase o "append" Γ.env (eval o Γ.env)=eval o Γ.env:=by rfl)
  (hfew:((backTo pos (starEach [e] Γ.env)).all (fun x=>!x.1) && (backToKw pos (keywordEach [] Γ.env)).all (fun x=>x.1.isSome) && decide (([e]:List Expr).length+([]:List Keyword).length+(if([]:List Keyword).isEmpty then 0 else 1)<30))=true:=by rfl)
  (hline:(apos.endLine == pos.line)=true:=by rfl) (htrees:backTo pos (starEach [e] Γ.env)=[(false,eval e Γ.env)]:=by rfl):J prog w Γ (.Call (.Attribute o "append" apos) [e] [] pos) (ZjN f g):=by
 intro W ρ H fr s Q E v H' r hx post
 obtain⟨p,e1,hx⟩:=Zz0.mp hx
 obtain⟨q,e2,e3⟩:=Zz0.mp hx
 refine wpAny_Call_append hbase hfew hline htrees (ho W ρ H fr s _ E _ _ r e1 fun W1 k1 t1 x l1 r1 x1=>?_)
 obtain⟨v1,H1⟩:=p
 obtain⟨b,hb⟩:=Zt7 e3
 subst hb
 have hb:=r1.refIn x1
 cases x1 with
 | @ref _ a ea=>
 obtain⟨_,xs,n,hg,hv⟩:=r1.at (List.getElem?_eq_getElem hb) ea
 refine⟨a,xs.toArray,rfl,⟨_,n,hg,rfl,rfl,rfl⟩,?_⟩
 refine he W1 ρ _ fr _ _ E _ _ r1 e2 fun W2 k2 t2 y l2 r2 y2=>?_
 exact Zvy Γ W2 ρ _ fr _ Q E _ [.ref a,y] v H' r2 (.cons (.ref (l2.at ea)) (.cons y2 .nil)) e3 fun W3 k3 t3 z l3 r3 z3=>post W3 k3 t3 z ((l1.trans l2).trans l3) r3 z3
end
end PM
end
section
namespace PM
open PySem PySem.W PyProof.Rows PyProof
noncomputable abbrev Nx:=Nat→Hp→Option (Option V)
noncomputable def ZzK(Γ:Cx)(W:Wd)(ρ:Lc)(H:Hp)(fr:List (Addr×Obj))(s:Shared)(It:Nat→List (Addr×Obj)→Prop)(i:Nat)(Q:Option Value→Shared→Prop): Option V→Prop
 | none=>∀(h':Heap) (tk':Nat),Rep Γ W ρ H fr h'→Q none { s with heap:=h',toks:=tk' }
 | some v=>∀(fs':List (Addr×Obj)) (h':Heap) (tk':Nat) (x:Value),It (i+1) fs'→Rep Γ W ρ H (fs'++fr) h'→VR W v x→Q (some x) { s with heap:=h',toks:=tk' }
structure Itr(prog:Program)(w:World)(Γ:Cx)(W0:Wd)(it:Value)(as:List Addr)(It:Nat→List (Addr×Obj)→Prop)(nx:Nx): Prop where
 adr:∀i fs,It i fs→fs.map (·.1)=as
 next:∀(i:Nat) (W:Wd) (ρ:Lc) (H:Hp) (fr fs:List (Addr×Obj)) (s:Shared) (Q:Option Value→Shared→Prop) (E:Value→Shared→Prop) (o:Option V),W0.Le W→Rep Γ W ρ H (fs++fr) s.heap→(∀a∈as,∀t∈fr,a≠t.1)→It i fs→nx i H=some o →
  ZzK Γ W ρ H fr s It i Q o→wpAny (model prog w) Γ.A (pyNext it) Q E s
 self:∀(i:Nat) (W:Wd) (ρ:Lc) (H:Hp) (fr fs:List (Addr×Obj)) (s:Shared) (Q E:Value→Shared→Prop),W0.Le W→Rep Γ W ρ H (fs++fr) s.heap→It i fs→Q it s→wpAny (model prog w) Γ.A (pyIter it) Q E s
noncomputable abbrev Src:=Lc→Hp→Option (Nx×Nat×Hp)
def JI(prog:Program)(w:World)(Γ:Cx)(e:Expr)(g:Src): Prop:=∀(W:Wd) (ρ:Lc) (H:Hp) (fr:List (Addr×Obj)) (s:Shared) (Q E:Value→Shared→Prop) (nx:Nx) (n:Nat) (H':Hp),
 Rep Γ W ρ H fr s.heap→g ρ H=some (nx,n,H') →
 (∀(W':Wd) (h':Heap) (tk':Nat) (it:Value) (as:List Addr) (It:Nat→List (Addr×Obj)→Prop) (fs:List (Addr×Obj)),W.Le W'→It 0 fs→Rep Γ W' ρ H' (fs++fr) h'→(∀a∈as,∀t∈fr,a≠t.1)→Itr prog w Γ W' it as It nx→Q it { s with heap:=h',toks:=tk' }) →
 wpAny (model prog w) Γ.A (eval e Γ.env) (fun xv s₁=>wpAny (model prog w) Γ.A (pyIter xv) Q E s₁) E s
noncomputable def Zne(a:Nat): Nx:=fun i H=>H[a]?.map fun vs=>vs[i]?
noncomputable def ZrZ(vs:List V): Nx:=fun i _=>some vs[i]?
noncomputable def ZeE(a c:Int)(n:Nat): Nx:=fun i _=>some (if i<n then some (.int (a+i*c))else none)
noncomputable def Zfa(f:Ex): Src:=fun ρ H=>(f ρ H).bind fun p=>match p.1 with
 | .ref a=>p.2[a]?.map fun vs=>(Zne a,vs.length+1,p.2)
 | .tup vs=>some (ZrZ vs,vs.length+1,p.2)
 | _=>none
noncomputable def rngN(a b c:Int): Nat:=(Builtin.Range.rangeSize a b c).toNat
noncomputable def Zb3(a b c:Int)(H:Hp): Option (Nx×Nat×Hp):=if c≠0∧Builtin.Range.small a b c=true∧0≤Builtin.Range.rangeSize a b c∧rngN a b c≤LEN∧Builtin.divisionGoesByPylong (b-a) c=false then some (ZeE a c (rngN a b c),rngN a b c+1,H)else none
noncomputable def Zcr(g:Exs): Src:=fun ρ H=>(g ρ H).bind fun p=>match p.1 with
 | [.int b]=>Zb3 0 b 1 p.2
 | [.int a,.int b]=>Zb3 a b 1 p.2
 | [.int a,.int b,.int c]=>Zb3 a b c p.2
 | _=>none
section
variable {prog:Program} {w:World} {Γ:Cx}
theorem Znf{W0:Wd}{I:Addr}{nx:Nx}(P:Nat→Obj→Prop)
  (next:∀(i:Nat) (W:Wd) (ρ:Lc) (H:Hp) (fr:List (Addr×Obj)) (ob:Obj) (s:Shared) (Q:Option Value→Shared→Prop) (E:Value→Shared→Prop) (o:Option V),W0.Le W→Rep Γ W ρ H ((I,ob)::fr) s.heap→P i ob→nx i H=some o →
   (match o with
    | none=>∀(h':Heap) (tk':Nat),(∀b o,b≠I→s.heap.get? b=some o→h'.get? b=some o)→Q none { s with heap:=h',toks:=tk' }
    | some v=>∀(ob':Obj) (h':Heap) (tk':Nat) (x:Value),P (i+1) ob'→h'.get? I=some ob'→(∀b o,b≠I→s.heap.get? b=some o→h'.get? b=some o)→VR W v x→Q (some x) { s with heap:=h',toks:=tk' })→wpAny (model prog w) Γ.A (pyNext (.ref I)) Q E s)
  (self:∀(i:Nat) (W:Wd) (ρ:Lc) (H:Hp) (fr:List (Addr×Obj)) (ob:Obj) (s:Shared) (Q E:Value→Shared→Prop),W0.Le W→Rep Γ W ρ H ((I,ob)::fr) s.heap→P i ob→Q (.ref I) s→wpAny (model prog w) Γ.A (pyIter (.ref I)) Q E s):
  Itr prog w Γ W0 (.ref I) [I] (fun i fs=>∃ob,fs=[(I,ob)]∧P i ob) nx:=by
 refine⟨?_,?_,?_⟩
 ·rintro i fs ⟨ob,e,_⟩
  rw[e]
  rfl
 ·rintro i W ρ H fr fs s Q E o le r ap ⟨ob,e,hp⟩ hn post
  subst e
  refine next i W ρ H fr ob s Q E o le r hp hn ?_
  have ap':∀q∈[(I,ob)],∀t∈fr,q.1≠t.1:=fun q hq t ht=>by rw[List.mem_singleton.mp hq];exact ap I Zz5 t ht
  cases o with
  | none=>
   intro h' tk' keep
   have:=Rep.swap (fs:=[(I,ob)]) (fs':=[]) r ap' (fun b o hb e=>keep b o (fun q=>hb (by simp[q])) e) (fun q hq=>nomatch hq)
   exact post h' tk' this
  | some v=>
   intro ob' h' tk' x hp' hg keep hx
   have:=Rep.swap (fs:=[(I,ob)]) (fs':=[(I,ob')]) r ap' (fun b o hb e=>keep b o (fun q=>hb (by simp[q])) e) (fun q hq=>by rw[List.mem_singleton.mp hq];exact⟨hg,by simp⟩)
   exact post [(I,ob')] h' tk' x ⟨ob',rfl,hp'⟩ this hx
 ·rintro i W ρ H fr fs s Q E le r ⟨ob,e,hp⟩ q
  subst e
  exact self i W ρ H fr ob s Q E le r hp q
theorem JI.seq{e:Expr}{f:Ex}(h:J prog w Γ e f): JI prog w Γ e (Zfa f):=by
 intro W ρ H fr s Q E nx n H' r hf post
 obtain⟨p,e1,hf⟩:=Zz0.mp hf
 refine h W ρ H fr s _ E _ _ r e1 fun W1 k1 t1 x l1 r1 x1=>?_
 obtain⟨v,H1⟩:=p
 cases x1 with
 | none=>cases hf
 | bool _=>cases hf
 | int _ _=>cases hf
 | str _ _=>cases hf
 | @tup vs a xs k hm hl hs=>
  cases hf
  have it:k1.IsTuple a xs.toArray:=⟨_,r1.tupAt hm,rfl,k,rfl⟩
  refine wpAny_pyIter_tuple it ?_
  obtain⟨r2,ap⟩:=r1.more (fs:=[(k1.objs.size,{ cls:=.type "tuple_iterator",data:=.fields #[.ref a,.int 0 0] })]) (fun b o e=>Heap.get?_push_of_some { cls:=.type "tuple_iterator",data:=.fields #[.ref a,.int 0 0] } e) (fun q hq=>by rw[List.mem_singleton.mp hq];exact⟨Heap.get?_push_size _ rfl,Nat.le_refl _⟩)
  refine post W1 _ t1 _ [k1.objs.size] _ _ l1 ⟨_,rfl,?_⟩ r2 (fun b hb t ht=>by rw[List.mem_singleton.mp hb];exact ap _ Zz5 t ht)
   (Znf (fun i ob=>ob.cls=.type "tuple_iterator"∧ob.data=.fields #[.ref a,.int i 0]) ?_ ?_)
  ·intro i W ρ H fr ob s Q E o le r hp hn post
   have g1:s.heap.IsTupleIter k1.objs.size a i:=⟨ob,r.frAt Zz5,hp.1,hp.2⟩
   have g2:s.heap.IsTuple a xs.toArray:=⟨_,r.tupAt (le.tups _ hm),rfl,k,rfl⟩
   have ne:a≠k1.objs.size:=Nat.ne_of_lt (Heap.lt_size (r1.tupAt hm))
   have Wk:=Walks.tuple (prog:=prog) (w:=w) Γ.hh k1.objs.size a ne xs.toArray
   cases hn
   cases ev:vs[i]? with
   | none=>
    rw[ev]at post
    have hi:xs.toArray[i]?=none:=by have:=List.getElem?_eq_none_iff.mp ev;rw[←hs.length]at this;simpa using this
    exact wpAny_pyNext_tuple_end Γ.hh g1 g2 hi fun h' he'=>post h' s.toks fun b o hb e=>he' b o hb e
   | some v=>
    rw[ev]at post
    obtain⟨y,hy,ry⟩:=hs.at ev
    refine wpAny_pyNext_tuple_item g1 g2 (x:=y) (by simpa using hy) fun h' hit' hs'=>?_
    obtain⟨ob',h1,h2,h3⟩:=hit'
    exact post ob' h' s.toks y ⟨h2,h3⟩ h1 (fun b o hb e=>hs'.extBut b o hb e) (ry.mono le)
  ·intro i W ρ H fr ob s Q E le r hp q
   exact wpAny_pyIter_tupleiter (⟨ob,r.frAt Zz5,hp.1,hp.2⟩:s.heap.IsTupleIter k1.objs.size a i) q
  ·exact⟨rfl,rfl⟩
 | @ref i0 a ea=>
  obtain⟨vs,e2,e3⟩:=Zz1.mp hf
  cases e3
  obtain⟨hl,xs,k,hg,hv⟩:=r1.at e2 ea
  have isl:k1.IsList a xs.toArray:=⟨_,hg,rfl,k,rfl⟩
  refine wpAny_pyIter_list isl ?_
  obtain⟨r2,ap⟩:=r1.more (fs:=[(k1.objs.size,{ cls:=.type "list_iterator",data:=.fields #[.ref a,.int 0 0] })]) (fun b o e=>Heap.get?_push_of_some { cls:=.type "list_iterator",data:=.fields #[.ref a,.int 0 0] } e) (fun q hq=>by rw[List.mem_singleton.mp hq];exact⟨Heap.get?_push_size _ rfl,Nat.le_refl _⟩)
  refine post W1 _ t1 _ [k1.objs.size] _ _ l1 ⟨_,rfl,?_⟩ r2 (fun b hb t ht=>by rw[List.mem_singleton.mp hb];exact ap _ Zz5 t ht)
   (Znf (fun i ob=>ob.cls=.type "list_iterator"∧ob.data=.fields #[.ref a,.int i 0]) ?_ ?_)
  ·intro i W ρ H fr ob s Q E o le r hp hn post
   obtain⟨us,eu,e4⟩:=Zz1.mp hn
   subst e4
   obtain⟨hl2,ys,k2,hg2,hv2⟩:=r.at eu (le.at ea)
   have g1:s.heap.IsListIter k1.objs.size a i:=⟨ob,r.frAt Zz5,hp.1,hp.2⟩
   have g2:s.heap.IsList a ys.toArray:=⟨_,hg2,rfl,k2,rfl⟩
   cases ev:us[i]? with
   | none=>
    rw[ev]at post
    have hi:ys.toArray[i]?=none:=by have:=List.getElem?_eq_none_iff.mp ev;rw[←hv2.length]at this;simpa using this
    exact wpAny_pyNext_list_end Γ.hh g1 g2 hi fun h' he'=>post h' s.toks fun b o hb e=>he' b o hb e
   | some v=>
    rw[ev]at post
    obtain⟨y,hy,ry⟩:=hv2.at ev
    refine wpAny_pyNext_list_item g1 g2 (x:=y) (by simpa using hy) fun h' hit' hs'=>?_
    obtain⟨ob',h1,h2,h3⟩:=hit'
    exact post ob' h' s.toks y ⟨h2,h3⟩ h1 (fun b o hb e=>hs'.extBut b o hb e) ry
  ·intro i W ρ H fr ob s Q E le r hp q
   exact wpAny_pyIter_listiter (⟨ob,r.frAt Zz5,hp.1,hp.2⟩:s.heap.IsListIter k1.objs.size a i) q
  ·exact⟨rfl,rfl⟩
theorem Zt8{a b c:Int}{H:Hp}{z:Nx×Nat×Hp}(h:Zb3 a b c H=some z): c≠0∧Builtin.divisionGoesByPylong (b-a) c=false:=by
 unfold Zb3 at h
 split at h
 ·rename_i hc
  exact⟨hc.1,hc.2.2.2.2⟩
 ·cases h
theorem Zwk{W0:Wd}{I:Addr}{a c:Int}{n:Nat}: Itr prog w Γ W0 (.ref I) [I] (fun i fs=>∃ob,fs=[(I,ob)]∧(i≤n∧ob = { cls:=.type "range_iterator",dict:=none,data:=.fields #[rawInt (a+(i:Nat)*c),rawInt ((n:Int)-(i:Nat)),rawInt c],slots:=#[] })) (ZeE a c n):=by
 have Wk:=Walks.range (prog:=prog) (w:=w) Γ.hh I a c n
 refine Znf (fun i ob=>i≤n∧ob = { cls:=.type "range_iterator",dict:=none,data:=.fields #[rawInt (a+(i:Nat)*c),rawInt ((n:Int)-(i:Nat)),rawInt c],slots:=#[] }) ?_ ?_
 ·intro i W ρ H fr ob s Q E o le r hp hn post
  have g:IsRangeIter s.heap I (a+(i:Nat)*c) ((n:Int)-(i:Nat)) c:=(r.frAt Zz5).trans (congrArg some hp.2)
  cases hn
  by_cases hi:i<n
  ·rw[if_pos hi]at post
   refine Wk.item i s Q E hi g fun v h' tk hv st keep=>?_
   obtain⟨t,e⟩:=hv
   subst e
   exact post _ h' tk _ ⟨hi,rfl⟩ st (fun b o hb e=>keep b o (by simpa using hb) e) (.int _ _)
  ·rw[if_neg hi]at post
   have e:i=n:=by have:=hp.1;omega
   subst e
   exact Wk.done s Q E g fun h' tk keep=>post h' tk fun b o hb e=>keep b o (by simpa using hb) e
 ·intro i W ρ H fr ob s Q E le r hp q
  have g:IsRangeIter s.heap I (a+(i:Nat)*c) ((n:Int)-(i:Nat)) c:=(r.frAt Zz5).trans (congrArg some hp.2)
  exact Wk.self i s Q E g q
theorem ZlR{a b c:Int}{t u v:Tok}{W:Wd}{ρ:Lc}{H:Hp}{fr:List (Addr×Obj)}{s:Shared}{k:Heap}{tk:Nat}{Q E:Value→Shared→Prop}{nx:Nx}{n:Nat}{H':Hp}(r:Rep Γ W ρ H fr k)(hm:Zb3 a b c H=some (nx,n,H'))
  (post:∀(W':Wd) (h':Heap) (tk':Nat) (it:Value) (as:List Addr) (It:Nat→List (Addr×Obj)→Prop) (fs:List (Addr×Obj)),W.Le W'→It 0 fs→Rep Γ W' ρ H' (fs++fr) h'→(∀a∈as,∀t∈fr,a≠t.1)→Itr prog w Γ W' it as It nx→Q it { s with heap:=h',toks:=tk' }):
  wpAny (model prog w) Γ.A (pyIter (.ref k.objs.size)) Q E { s with heap:=k.push { cls:=.type "range",data:=.fields #[.int a t,.int b u,.int c v] },toks:=tk }:=by
 unfold Zb3 at hm
 split at hm
 ·rename_i hc
  cases hm
  have hr:IsRange (k.push { cls:=.type "range",data:=.fields #[.int a t,.int b u,.int c v] }) k.objs.size a b c t u v:=IsRange.new ..
  refine wpAny_pyIter_range hr hc.2.1 ?_
  have rp:=r.push { cls:=.type "range",data:=.fields #[.int a t,.int b u,.int c v] }
  have en:Builtin.Range.rangeSize a b c=((rngN a b c:Nat):Int):=(Int.toNat_of_nonneg hc.2.2.1).symm
  dsimp only
  generalize hk:k.push { cls:=.type "range",data:=.fields #[.int a t,.int b u,.int c v] } = k2 at rp ⊢
  obtain⟨r2,ap⟩:=rp.more (fs:=[(k2.objs.size,{ cls:=.type "range_iterator",data:=.fields #[rawInt a,rawInt (Builtin.Range.rangeSize a b c),rawInt c] })]) (fun b' o e=>Heap.get?_push_of_some { cls:=.type "range_iterator",data:=.fields #[rawInt a,rawInt (Builtin.Range.rangeSize a b c),rawInt c] } e) (fun q hq=>by rw[List.mem_singleton.mp hq];exact⟨Heap.get?_push_size _ rfl,Nat.le_refl _⟩)
  refine post W _ tk _ [k2.objs.size] _ _ (.refl W) ⟨_,rfl,Nat.zero_le _,?_⟩ r2 (fun b hb t ht=>by rw[List.mem_singleton.mp hb];exact ap _ Zz5 t ht) (Zwk (a:=a) (c:=c) (n:=rngN a b c))
  rw[en]
  simp
 ·cases hm
theorem JI.range{x:Str}{np pos:Pos}{e:Expr}{es:List Expr}{g:Exs}(hn:Nm prog w Γ x (.type "range"))(h:Js prog w Γ (e::es) g)
  (he:starEach (e::es) Γ.env=(false,eval e Γ.env)::starEach es Γ.env:=by rfl) (hp:∀pos,(backTo pos (starEach es Γ.env)).any (·.1)=false:=by intro _;rfl):JI prog w Γ (.Call (.Name x np) (e::es) [] pos) (Zcr g):=by
 intro W ρ H fr s Q E nx n H' r hf post
 obtain⟨p,e1,hf⟩:=Zz0.mp hf
 refine wpAny_Call_ofName (hn.use r ?_)
 refine PySem.Pv.callWith_type1 (h pos W ρ H fr s _ E _ _ r e1 fun W1 k1 t1 xs l1 r1 x1=>?_) he (hp pos)
 obtain⟨vs,H1⟩:=p
 dsimp only at hf x1 r1
 have post1:=fun W' h' tk' it as It fs (l:W1.Le W')=>post W' h' tk' it as It fs (l1.trans l)
 split at hf
 ·obtain⟨y,ex,ry⟩:=x1.one
  subst ex
  cases ry
  exact call_range_1 (ZlR r1 hf post1)
 ·obtain⟨y,z,ex,ry,rz⟩:=x1.two
  subst ex
  cases ry
  cases rz
  exact call_range_2 (ZlR r1 hf post1)
 ·cases x1 with
  | cons ry x1=>
  obtain⟨y,z,ex,rz,ru⟩:=x1.two
  subst ex
  cases ry
  cases rz
  cases ru
  have hc:=Zt8 hf
  exact call_range_3 hc.1 (ZlR r1 hf post1) (.inl hc.2)
 ·cases hf
end
noncomputable def Zc1(nx:Nx)(put:V→Lc→Option Lc)(b:Sm): Nat→Nat→Sm
 | 0,_=>fun _ _=>none
 | n+1,i=>fun ρ H=>(nx i H).bind fun o=>match o with
  | none=>some (none,ρ,H)
  | some v=>(put v ρ).bind fun ρ1=>(b ρ1 H).bind fun q=>match q.1 with
   | some _=>some q
   | none=>Zc1 nx put b n (i+1) q.2.1 q.2.2
noncomputable def Zcb(g:Src)(put:V→Lc→Option Lc)(b:Sm): Sm:=fun ρ H=>(g ρ H).bind fun z=>Zc1 z.1 put b z.2.1 0 ρ z.2.2
noncomputable def put1(i:Nat): V→Lc→Option Lc:=fun v ρ=>some (upd ρ i v)
section
variable {prog:Program} {w:World} {Γ:Cx}
theorem ZbS{x:Str}{i:Nat}{px pos:Pos}{it:Expr}{body:List Stmt}{g:Src}{b:Sm}(hx:Sto prog w Γ x i)(hg:JI prog w Γ it g)(hb:Ss prog w Γ body b)(hs:∀x,foldedSetIterable it Γ.env x=pure x:=by intro _;rfl): S1 prog w Γ (.For (.Name x px) it body [] pos) (Zcb g (put1 i) b):=by
 intro W ρ H fr s Q E r rp hf post
 obtain⟨z,e1,hf⟩:=Zz0.mp hf
 obtain⟨nx,n,H0⟩:=z
 refine wpAny_For (hg W ρ H fr s _ E nx n H0 rp e1 fun W1 k1 t1 itv as It fs l1 i1 r1 ap I1=>?_) hs
 refine codeAny_forLoop (fun k s'=>∃W' ρ' H' h' tk' j fs',s' = { s with heap:=h',toks:=tk' }∧W1.Le W'∧It j fs'∧Rep Γ W' ρ' H' (fs'++fr) h'∧Zc1 nx (put1 i) b k j ρ' H'=some r) ?_ n ⟨W1,ρ,H0,k1,t1,0,fs,rfl,.refl _,i1,r1,hf⟩
 rintro k s' ⟨W2,ρ2,H2,k2,t2,j,fs2,rfl,l2,i2,r2,e⟩
 cases k with
 | zero=>cases e
 | succ k=>
  obtain⟨o,e2,e⟩:=Zz0.mp e
  refine I1.next j W2 ρ2 H2 fr fs2 _ _ _ o l2 r2 ap i2 e2 ?_
  cases o with
  | none=>
   cases e
   intro h' tk' r3
   exact wpAny_execs_nil (post W2 h' tk' (l1.trans l2) r3)
  | some v=>
   intro fs3 k3 t3 y i3 r3 y3
   obtain⟨ρ3,e3,e⟩:=Zz0.mp e
   cases e3
   obtain⟨q,e4,e⟩:=Zz0.mp e
   refine wpAny_assign_Name (hx W2 ρ2 H2 (fs3++fr) _ _ _ v y r3 y3 fun k4 t4 r4=>?_)
   refine hb W2 _ H2 (fs3++fr) _ _ _ q r4 e4 ?_
   obtain⟨u,ρ5,H5⟩:=q
   cases u with
   | some u=>
    cases e
    exact fun W5 k5 t5 x5 l5 r5 v5=>post W5 k5 t5 x5 ((l1.trans l2).trans l5) (r5.less fun q hq=>List.mem_append_right _ hq) v5
   | none=>exact fun W5 k5 t5 l5 r5=>⟨k,Nat.lt_succ_self k,W5,ρ5,H5,k5,t5,j+1,fs3,rfl,l2.trans l5,i3,r5,e⟩
end
end PM
end
section
namespace PM
open PySem PySem.W PySem.Calls PyProof.Rows PyProof
structure OwnF(names:List Str)(cs:Scope)(cl:List (Str×Addr))(W:Wd)(ρ:Lc)(m:Str→Option Value)(cells:List (Addr×Obj)): Prop where
 loc:∀(i:Nat) (x:Str) (v:V),names[i]?=some x→cs.names.lookup x=some .local→ρ i=some v→∃y,m x=some y∧VR W v y
 cel:∀(i:Nat) (x:Str) (v:V),names[i]?=some x→cs.names.lookup x=some .cell→ρ i=some v→∃c o y,cl.lookup x=some c∧(c,o)∈cells∧o.data=.cell (some y)∧VR W v y
 all:∀(x:Str) (c:Addr),cl.lookup x=some c→∃o v₀,(c,o)∈cells∧o.data=.cell v₀
 one:∀(x y:Str) (c:Addr),cl.lookup x=some c→cl.lookup y=some c→x=y
theorem OwnF.mono{names:List Str}{cs:Scope}{cl:List (Str×Addr)}{W W':Wd}{ρ:Lc}{m:Str→Option Value}{cells:List (Addr×Obj)}(l:W.Le W')(h:OwnF names cs cl W ρ m cells): OwnF names cs cl W' ρ m cells:=
 ⟨fun i x v a b c=>by
  obtain⟨y,h1,h2⟩:=h.loc i x v a b c
  exact⟨y,h1,h2.mono l⟩,fun i x v a b c=>by
  obtain⟨d,o,y,h1,h2,h3,h4⟩:=h.cel i x v a b c
  exact⟨d,o,y,h1,h2,h3,h4.mono l⟩,h.all,h.one⟩
noncomputable def Zbv(dp un:Nat)(gd:Option (List Code))(cn:Str)(cs:Scope)(L a:Addr)(ccd:Value)(cl:List (Str×Addr))(outer:List Env)(h₀:Heap)(hu:un+200<cLine)(names:List Str): Cx where
 A:=ktrTop dp un gd cn cs L a ccd cl outer
 env:=envX cn cs L a ccd cl
 h₀:=h₀
 L:=L
 hh:=rfl
 hu:=hu
 Own:=OwnF names cs cl
 mono:=OwnF.mono
section
variable {prog:Program} {w:World} {dp un:Nat} {gd:Option (List Code)} {cn:Str} {cs:Scope} {L a:Addr} {ccd:Value} {cl:List (Str×Addr)} {outer:List Env} {h₀:Heap} {hu:un+200<cLine} {names:List Str}
theorem ZyA{x:Str}{i:Nat}(hi:names[i]?=some x)(hx:cs.names.lookup x=some .local)(hk:cs.kind=.function)(hd:(x == ("__debug__":Str))=false): Rd prog w (Zbv dp un gd cn cs L a ccd cl outer h₀ hu names) x i:=by
 intro W ρ H fr s Q E v pos r e q
 obtain⟨m,c,led,r⟩:=r
 obtain⟨y,h1,h2⟩:=r.own.loc i x v hi hx e
 exact nameX_L r.F h1 (q y h2) hk hx hd
theorem ZyB{x:Str}{i:Nat}(hi:names[i]?=some x)(hx:cs.names.lookup x=some .cell)(hk:cs.kind=.function)(hd:(x == ("__debug__":Str))=false): Rd prog w (Zbv dp un gd cn cs L a ccd cl outer h₀ hu names) x i:=by
 intro W ρ H fr s Q E v pos r e q
 obtain⟨m,c,led,r⟩:=r
 obtain⟨d,o,y,h1,h2,h3,h4⟩:=r.own.cel i x v hi hx e
 exact nameX_C r.N h1 (r.clIn _ h2) h3 (q y h4) hk hx hd
theorem Zxc{x:Str}{i:Nat}(nd:names.Nodup)(hi:names[i]?=some x)(hx:cs.names.lookup x=some .local)(hk:cs.kind=.function): Sto prog w (Zbv dp un gd cn cs L a ccd cl outer h₀ hu names) x i:=by
 intro W ρ H fr s Q E v y r vy q
 obtain⟨m,c,led,r⟩:=r
 have hi':i<names.length:=(Zz6.mp hi).1
 refine storeX_L r.F r.N (fun h' F' N'=>q h' _ ⟨_,c,led,⟨F',N',r.R,r.sc,r.sc0,r.frIn,r.frOff,r.clIn,r.clOff,r.apart,r.frTup,r.clTup,⟨fun j z u hj hz hu=>?_,fun j z u hj hz hu=>?_,r.own.all,r.own.one⟩⟩⟩) hk hx
 ·by_cases e:j=i
  ·subst e
   rw[hi]at hj
   cases hj
   simp only[upd,if_true]at hu
   cases hu
   exact⟨y,by simp,vy⟩
  ·have hzx:z≠x:=fun e'=>by
    subst e'
    exact e ((List.getElem?_inj (Zz6.mp hj).1 nd).mp (hj.trans hi.symm))
   simp only[upd,if_neg e]at hu
   obtain⟨y',h1,h2⟩:=r.own.loc j z u hj hz hu
   exact⟨y',by simp[hzx,h1],h2⟩
 ·by_cases e:j=i
  ·subst e
   rw[hi]at hj
   cases hj
   rw[hx]at hz
   cases hz
  ·simp only[upd,if_neg e]at hu
   exact r.own.cel j z u hj hz hu
theorem Zxd{x:Str}{i:Nat}(nd:names.Nodup)(hi:names[i]?=some x)(hx:cs.names.lookup x=some .cell)(hk:cs.kind=.function)(hcl:(cl.lookup x).isSome=true): Sto prog w (Zbv dp un gd cn cs L a ccd cl outer h₀ hu names) x i:=by
 intro W ρ H fr s Q E v y r vy q
 obtain⟨m,c,led,r⟩:=r
 obtain⟨d,hd⟩:=Option.isSome_iff_exists.mp hcl
 obtain⟨o,v₀,ho,hv₀⟩:=r.own.all x d hd
 have inl:=r.clIn _ ho
 have N2:News h₀ L s.heap ((d,o)::led.filter (fun q=>decide (q.1≠d))):=by
  intro q hq
  rcases Zz7.mp hq with e | hq
  ·subst e
   exact r.N _ inl
  ·exact r.N q (List.mem_filter.mp hq).1
 refine storeX_C r.F N2 hd (UpdF.head fun q hq=>by simpa using (List.mem_filter.mp hq).2) hv₀ (fun h' o' F' N' ho'=>?_) hk hx
 have keep:∀q∈led,q.1≠d→q∈(d,o')::led.filter (fun q=>decide (q.1≠d)):=fun q hq hn=>List.mem_cons_of_mem _ (List.mem_filter.mpr ⟨hq,by simpa using hn⟩)
 refine q h' s.toks ⟨m,(d,o')::c.filter (fun q=>decide (q.1≠d)),_,⟨F',N',⟨r.R.len,r.R.nd,fun j vs e=>?_,fun q hq=>Zee (r.R.tups q hq) fun z=>keep q z (r.clTup _ ho q hq).symm,r.R.kind⟩,r.sc,r.sc0,fun q hq=>keep q (r.frIn q hq) (r.apart _ ho q hq).symm,r.frOff,fun q hq=>?_,fun q hq=>?_,fun q hq t ht=>?_,r.frTup,fun q hq t ht=>?_,⟨fun j z u hj hz hu=>?_,fun j z u hj hz hu=>?_,fun z e hz=>?_,r.own.one⟩⟩⟩
 ·obtain⟨l,b,xs,k,h1,h2,h3⟩:=r.R.lists j vs e
  exact⟨l,b,xs,k,h1,Zee h2 fun z=>keep _ z fun e=>r.clOff _ ho (e▸List.mem_of_getElem? h1),h3⟩
 ·rcases Zz7.mp hq with e | hq
  ·exact e▸List.mem_cons_self
  ·obtain⟨h1,h2⟩:=List.mem_filter.mp hq
   exact keep q (r.clIn q h1) (by simpa using h2)
 ·rcases Zz7.mp hq with e | hq
  ·rw[e]
   exact(r.clOff _ ho:d∉W.pi)
  ·exact r.clOff q (List.mem_filter.mp hq).1
 ·rcases Zz7.mp hq with e | hq
  ·rw[e]
   exact(r.apart _ ho t ht:d≠t.1)
  ·exact r.apart q (List.mem_filter.mp hq).1 t ht
 ·rcases Zz7.mp hq with e | hq
  ·rw[e]
   exact(r.clTup _ ho t ht:d≠t.1)
  ·exact r.clTup q (List.mem_filter.mp hq).1 t ht
 ·by_cases e:j=i
  ·subst e
   rw[hi]at hj
   cases hj
   rw[hx]at hz
   cases hz
  ·simp only[upd,if_neg e]at hu
   exact r.own.loc j z u hj hz hu
 ·by_cases e:j=i
  ·subst e
   rw[hi]at hj
   cases hj
   simp only[upd,if_true]at hu
   cases hu
   exact⟨d,o',y,hd,List.mem_cons_self,ho',vy⟩
  ·have hzx:z≠x:=fun e'=>by
    subst e'
    exact e ((List.getElem?_inj (Zz6.mp hj).1 nd).mp (hj.trans hi.symm))
   simp only[upd,if_neg e]at hu
   obtain⟨b,ob,y',h1,h2,h3,h4⟩:=r.own.cel j z u hj hz hu
   have:b≠d:=fun e'=>by
    subst e'
    exact hzx (r.own.one z x b h1 hd)
   exact⟨b,ob,y',h1,List.mem_cons_of_mem _ (List.mem_filter.mpr ⟨h2,by simpa using this⟩),h3,h4⟩
 ·by_cases e':e=d
  ·subst e'
   exact⟨o',_,List.mem_cons_self,ho'⟩
  ·obtain⟨ob,v1,h1,h2⟩:=r.own.all z e hz
   exact⟨ob,v1,List.mem_cons_of_mem _ (List.mem_filter.mpr ⟨h1,by simpa using e'⟩),h2⟩
end
end PM
end
section
namespace PM
open PySem PySem.W PySem.Calls PyProof.Rows PyProof PyProof.Rows.LCg
theorem ZhM{Γ:Cx}{W:Wd}{ρ:Lc}{H:Hp}{fr:List (Addr×Obj)}{h:Heap}{D:Addr}{ys:List Value}{k:Nat}{vs:List V}(r:Rep Γ W ρ H ((D,ZbB ys k)::fr) h)(ap:∀t∈fr,D≠t.1)(hv:VRs W vs ys)(hl:vs.length≤LEN):
  ∃W',W.Le W'∧Rep Γ W' ρ (H++[vs]) fr h∧VR W' (.ref H.length) (.ref D):=by
 obtain⟨m,c,led,r⟩:=r
 have le:W.Le ⟨W.pi++[D],W.tups,W.sc⟩:=⟨List.prefix_append _ _,fun q hq=>hq,rfl⟩
 have h0:0<W.pi.length:=(Zz6.mp r.sc0).1
 have at_n:(W.pi++[D])[H.length]?=some D:=by rw[←r.R.len];simp
 have off:=r.frOff _ Zz5
 refine⟨⟨W.pi++[D],W.tups,W.sc⟩,le,⟨m,c,led,⟨r.F,r.N,⟨by simp[r.R.len],?_,fun i us e=>?_,r.R.tups,r.R.kind⟩,r.sc,(List.getElem?_append_left h0).trans r.sc0,fun q hq=>r.frIn q (Zz2 _ hq),fun q hq=>?_,r.clIn,fun q hq=>?_,fun q hq t ht=>r.apart q hq t (Zz2 _ ht),fun q hq=>r.frTup q (Zz2 _ hq),r.clTup,Γ.mono le r.own⟩⟩,.ref at_n⟩
 ·show(W.pi++[D]).Nodup
  rw[List.nodup_append]
  refine⟨r.R.nd,by simp,fun a ha b hb=>?_⟩
  rw[List.mem_singleton.mp hb]
  exact fun e=>off (e▸ha)
 ·by_cases hi:i<H.length
  ·rw[List.getElem?_append_left hi]at e
   obtain⟨l,a,zs,j,h1,h2,h3⟩:=r.R.lists i us e
   exact⟨l,a,zs,j,le.at h1,h2,h3.mono le⟩
  ·have:i=H.length:=by
    have:=(Zz6.mp e).1
    simp at this
    omega
   subst this
   simp at e
   subst e
   exact⟨hl,D,ys,k,at_n,List.mem_cons_of_mem _ (r.frIn _ Zz5),hv.mono le⟩
 ·intro hm
  rcases Zz8.mp hm with hm | hm
  ·exact r.frOff q (Zz2 _ hq) hm
  ·exact ap q hq (Zz9.mp hm).symm
 ·intro hm
  rcases Zz8.mp hm with hm | hm
  ·exact r.clOff q hq hm
  ·exact r.apart q hq _ Zz5 (Zz9.mp hm)
def ZAz(Γ:Cx)(C:Addr)(ts:List (Str×Nat))(ρ0:Lc)(W:Wd)(ρ:Lc)(m:Str→Option Value)(cells:List (Addr×Obj)): Prop:=
 ∃oC m₂ cs,cells=(C,oC)::cs∧(∀q∈cs,q.1≠C)∧NsObj oC m₂∧(∀p∈ts,∃v y,ρ p.2=some v∧m₂ p.1=some y∧VR W v y)∧(∀j,(∀p∈ts,p.2≠j)→ρ j=ρ0 j)∧Γ.Own W ρ0 m cs
noncomputable def Za3(Γ:Cx)(scope:Scope)(cl:List (Str×Addr))(C:Addr)(ts:List (Str×Nat))(ρ0:Lc): Cx where
 A:=Γ.A
 env:=compEnvC scope cl C Γ.env
 h₀:=Γ.h₀
 L:=Γ.L
 hh:=Γ.hh
 hu:=Γ.hu
 Own:=ZAz Γ C ts ρ0
 mono:=fun l h=>by
  obtain⟨oC,m₂,cs,e,h0,h1,h2,h3,h4⟩:=h
  exact⟨oC,m₂,cs,e,h0,h1,fun p hp=>by
   obtain⟨v,y,a,b,c⟩:=h2 p hp
   exact⟨v,y,a,b,c.mono l⟩,h3,Γ.mono l h4⟩
section
variable {Γ:Cx} {scope:Scope} {cl:List (Str×Addr)} {C:Addr} {ts:List (Str×Nat)} {ρ0:Lc} {W:Wd} {ρ:Lc} {H:Hp} {fr:List (Addr×Obj)} {h:Heap}
theorem Zrj{oC:Obj}{m₂:Str→Option Value}(r:Rep Γ W ρ0 H ((C,oC)::fr) h)(ap:∀t∈fr,C≠t.1)(hC:NsObj oC m₂)(ht:∀p∈ts,∃v y,ρ p.2=some v∧m₂ p.1=some y∧VR W v y)(hj:∀j,(∀p∈ts,p.2≠j)→ρ j=ρ0 j): Rep (Za3 Γ scope cl C ts ρ0) W ρ H fr h:=by
 obtain⟨m,c,led,r⟩:=r
 refine⟨m,(C,oC)::c,led,⟨r.F,r.N,r.R,r.sc,r.sc0,fun q hq=>r.frIn q (Zz2 _ hq),fun q hq=>r.frOff q (Zz2 _ hq),fun q hq=>?_,fun q hq=>?_,fun q hq t ht=>?_,fun q hq=>r.frTup q (Zz2 _ hq),fun q hq t ht=>?_,⟨oC,m₂,c,rfl,fun q hq=>r.apart q hq _ Zz5,hC,ht,hj,r.own⟩⟩⟩
 ·rcases Zz7.mp hq with e | hq
  ·exact e▸r.frIn _ Zz5
  ·exact r.clIn q hq
 ·rcases Zz7.mp hq with e | hq
  ·exact e▸r.frOff _ Zz5
  ·exact r.clOff q hq
 ·rcases Zz7.mp hq with e | hq
  ·exact e▸ap t ht
  ·exact r.apart q hq t (Zz2 _ ht)
 ·rcases Zz7.mp hq with e | hq
  ·exact e▸r.frTup _ Zz5 t ht
  ·exact r.clTup q hq t ht
theorem Rep.fromC(r:Rep (Za3 Γ scope cl C ts ρ0) W ρ H fr h): ∃oC m₂,NsObj oC m₂∧Rep Γ W ρ0 H ((C,oC)::fr) h:=by
 obtain⟨m,c,led,r⟩:=r
 obtain⟨oC,m₂,cs,e,h0,h1,h2,h3,h4⟩:=r.own
 subst e
 refine⟨oC,m₂,h1,m,cs,led,⟨r.F,r.N,r.R,r.sc,r.sc0,fun q hq=>?_,fun q hq=>?_,fun q hq=>r.clIn q (Zz2 _ hq),fun q hq=>r.clOff q (Zz2 _ hq),fun q hq t ht=>?_,fun q hq t ht=>?_,fun q hq=>r.clTup q (Zz2 _ hq),h4⟩⟩
 ·rcases Zz7.mp hq with e | hq
  ·exact e▸r.clIn _ Zz5
  ·exact r.frIn q hq
 ·rcases Zz7.mp hq with e | hq
  ·exact e▸r.clOff _ Zz5
  ·exact r.frOff q hq
 ·rcases Zz7.mp ht with e | ht
  ·rw[e]
   exact h0 q hq
  ·exact r.apart q (Zz2 _ hq) t ht
 ·rcases Zz7.mp hq with e | hq
  ·exact e▸r.clTup _ Zz5 t ht
  ·exact r.frTup q hq t ht
end
def JF(prog:Program)(w:World)(Γ:Cx)(ifs:List Expr)(f:Ts): Prop:=∀(W:Wd) (ρ:Lc) (H:Hp) (fr:List (Addr×Obj)) (s:Shared) (Q:Bool→Shared→Prop) (E:Value→Shared→Prop) (b:Bool) (H':Hp),
 Rep Γ W ρ H fr s.heap→f ρ H=some (b,H')→Zky Γ W ρ H' fr s Q b →
 wpAny (model prog w) Γ.A (forIn ifs true fun c r=>if r=true then do let ok ←isTrue c Γ.env (eval c Γ.env);pure (ForInStep.yield ok)else pure (ForInStep.yield r)) Q E s
section
variable {prog:Program} {w:World} {Γ:Cx}
theorem JF.nil: JF prog w Γ [] ZbP:=fun W ρ H fr s Q E b H' r hf post=>by
 cases hf
 exact wpAny_pure (post W s.heap s.toks (.refl W) r)
theorem JF.one{e:Expr}{t:Ts}(h:JT prog w Γ e t): JF prog w Γ [e] t:=fun W ρ H fr s Q E b H' r hf post=>by
 rw[List.forIn_cons]
 simp only[if_true,List.forIn_nil]
 refine wpAny_bind (wpAny_bind (h W ρ H fr s _ E b H' r hf fun W1 k1 t1 l1 r1=>wpAny_pure ?_))
 exact wpAny_pure (post W1 k1 t1 l1 r1)
end
end PM
end
section
namespace PM
open PySem PySem.W PySem.Calls PyProof.Rows PyProof PyProof.Rows.LCg
noncomputable def Zct(nx:Nx)(put:V→Lc→Option Lc)(c:Ts)(f:Ex)(ρ:Lc): Nat→Nat→List V→Hp→Option (List V×Hp)
 | 0,_,_,_=>none
 | n+1,i,acc,H=>(nx i H).bind fun o=>match o with
  | none=>some (acc,H)
  | some v=>(put v ρ).bind fun ρ1=>(c ρ1 H).bind fun b=>if b.1 then(f ρ1 b.2).bind fun p=>(if acc.length<LEN then Zct nx put c f ρ n (i+1) (acc++[p.1]) p.2 else none)else Zct nx put c f ρ n (i+1) acc b.2
noncomputable def ZbL(g:Src)(put:V→Lc→Option Lc)(c:Ts)(f:Ex): Ex:=fun ρ H=>(g ρ H).bind fun z=>(Zct z.1 put c f ρ z.2.1 0 [] z.2.2).map fun q=>(.ref q.2.length,q.2++[q.1])
def ZiN(Γ:Cx)(W0:Wd)(ρ:Lc)(fr:List (Addr×Obj))(C D:Addr)(It:Nat→List (Addr×Obj)→Prop)(nx:Nx)(put:V→Lc→Option Lc)(c:Ts)(f:Ex)(q:List V×Hp)(s:Shared)(k:Nat)(s':Shared): Prop:=
 ∃W' H' h' tk' j fs acc ys oC m₂,s' = { s with heap:=h',toks:=tk' }∧W0.Le W'∧It j fs∧NsObj oC m₂∧VRs W' acc ys∧acc.length≤LEN∧Rep Γ W' ρ H' ((C,oC)::(D,lst ys)::(fs++fr)) h'∧Zct nx put c f ρ k j acc H'=some q
section
variable {prog:Program} {w:World} {Γ:Cx}
theorem Zqa{scope:Scope}{cl:List (Str×Addr)}{elt:Expr}{ts:List (Str×Nat)}{W0 W:Wd}{ρ ρ1:Lc}{H:Hp}{fr fs:List (Addr×Obj)}{C D:Addr}{It:Nat→List (Addr×Obj)→Prop}{nx:Nx}{put:V→Lc→Option Lc}{c:Ts}{f:Ex}{q:List V×Hp}{s:Shared}{h:Heap}{tk:Nat}{k j:Nat}{acc:List V}{ys:List Value}{E:Value→Shared→Prop}
  (hel:J prog w (Za3 Γ scope cl C ts ρ) elt f) (aD:∀t∈fs++fr,D≠t.1) (cd:C≠D) (l0:W0.Le W) (hit:It (j+1) fs) (hv:VRs W acc ys) (r:Rep (Za3 Γ scope cl C ts ρ) W ρ1 H ((D,lst ys)::(fs++fr)) h)
  (e:((f ρ1 H).bind fun p=>(if acc.length<LEN then Zct nx put c f ρ k (j+1) (acc++[p.1]) p.2 else none))=some q):
  wpAny (model prog w) Γ.A (eval elt (compEnvC scope cl C Γ.env)) (fun x s₄=>wpAny (model prog w) Γ.A (call (.builtin "list.append") [.ref D,x]) (fun _ s₅=>∃m,m<k+1∧ZiN Γ W0 ρ fr C D It nx put c f q s m s₅) E s₄) E { s with heap:=h,toks:=tk }:=by
 obtain⟨p,e2,e⟩:=Zz0.mp e
 by_cases hlt:acc.length<LEN
 ·rw[if_pos hlt]at e
  refine hel W ρ1 H _ _ _ E _ _ r e2 fun W2 k2 t2 x l2 r2 x2=>?_
  obtain⟨oC',m₃,hC',r3⟩:=r2.fromC
  have hD:k2.get? D=some (lst ys):=r3.frAt (q:=(D,lst ys)) (Zz2 _ Zz5)
  refine append_at (hsz:=ZcD (by rw[List.size_toArray,hv.length];omega)) hD fun h' sb hg=>?_
  have hg':h'.get? D=some (lst (ys++[x])):=hg.trans (congrArg some (lst_snoc ys x))
  have r4:Rep Γ W2 ρ p.2 ([(D,lst ys)]++((C,oC')::(fs++fr))) k2:=r3.less fun q hq=>by
   rcases Zz8.mp hq with hq | hq
   ·rw[List.mem_singleton.mp hq]
    exact Zz2 _ Zz5
   ·rcases Zz7.mp hq with e | hq
    ·exact e▸List.mem_cons_self
    ·exact Zz2 _ (Zz2 _ hq)
  have r5:Rep Γ W2 ρ p.2 ([(D,lst (ys++[x]))]++((C,oC')::(fs++fr))) h':=by
   refine r4.swap (fun q hq t ht=>?_) (fun b o hb e=>sb.extBut b o (fun z=>hb (by simp[z])) e) fun q hq=>?_
   ·rw[List.mem_singleton.mp hq]
    rcases Zz7.mp ht with e | ht
    ·rw[e]
     exact cd.symm
    ·exact aD t ht
   ·rw[List.mem_singleton.mp hq]
    exact⟨hg',by simp⟩
  have r6:Rep Γ W2 ρ p.2 ((C,oC')::(D,lst (ys++[x]))::(fs++fr)) h':=r5.less fun q hq=>by
   rcases Zz7.mp hq with e | hq
   ·exact e▸List.mem_append_right _ Zz5
   ·rcases Zz7.mp hq with e | hq
    ·exact e▸List.mem_append_left _ Zz5
    ·exact Zz3 _ (Zz2 _ hq)
  exact⟨k,Nat.lt_succ_self k,W2,p.2,h',t2,j+1,fs,acc++[p.1],ys++[x],oC',m₃,rfl,l0.trans l2,hit,hC',(hv.mono l2).snoc x2,by simp;omega,r6,e⟩
 ·rw[if_neg hlt]at e
  cases e
theorem Zwl{scope:Scope}{cl:List (Str×Addr)}{elt:Expr}{ifs:List Expr}{ts:List (Str×Nat)}{W0 W:Wd}{ρ ρ1:Lc}{H:Hp}{fr fs:List (Addr×Obj)}{C D:Addr}{It:Nat→List (Addr×Obj)→Prop}{nx:Nx}{put:V→Lc→Option Lc}{c:Ts}{f:Ex}{q:List V×Hp}{s s1:Shared}{k j:Nat}{acc:List V}{ys:List Value}{oC:Obj}{m₂:Str→Option Value}{E:Value→Shared→Prop}
  (hel:J prog w (Za3 Γ scope cl C ts ρ) elt f) (hif:JF prog w (Za3 Γ scope cl C ts ρ) ifs c) (hs:∃h tk,s1 = { s with heap:=h,toks:=tk })
  (aC:∀t∈(D,lst ys)::(fs++fr),C≠t.1) (aD:∀t∈fs++fr,D≠t.1) (l0:W0.Le W) (hit:It (j+1) fs) (hC:NsObj oC m₂) (hv:VRs W acc ys) (hl:acc.length≤LEN) (r:Rep Γ W ρ H ((C,oC)::(D,lst ys)::(fs++fr)) s1.heap)
  (ht:∀p∈ts,∃v y,ρ1 p.2=some v∧m₂ p.1=some y∧VR W v y) (hj:∀i,(∀p∈ts,p.2≠i)→ρ1 i=ρ i)
  (e:((c ρ1 H).bind fun b=>if b.1 then(f ρ1 b.2).bind fun p=>(if acc.length<LEN then Zct nx put c f ρ k (j+1) (acc++[p.1]) p.2 else none)else Zct nx put c f ρ k (j+1) acc b.2)=some q):
  wpAny (model prog w) Γ.A (forIn ifs true fun c r=>if r=true then do let ok ←isTrue c (compEnvC scope cl C Γ.env) (eval c (compEnvC scope cl C Γ.env));pure (ForInStep.yield ok)else pure (ForInStep.yield r)) (fun ok s₃=>
   if ok=true then wpAny (model prog w) Γ.A (eval elt (compEnvC scope cl C Γ.env)) (fun x s₄=>wpAny (model prog w) Γ.A (call (.builtin "list.append") [.ref D,x]) (fun _ s₅=>∃m,m<k+1∧ZiN Γ W0 ρ fr C D It nx put c f q s m s₅) E s₄) E s₃
   else ∃m,m<k+1∧ZiN Γ W0 ρ fr C D It nx put c f q s m s₃) E s1:=by
 obtain⟨h,tk,rfl⟩:=hs
 obtain⟨b,e1,e⟩:=Zz0.mp e
 obtain⟨b,H1⟩:=b
 have rc:=Zrj (scope:=scope) (cl:=cl) r aC hC ht hj
 refine hif W ρ1 H _ _ _ E b H1 rc e1 fun W1 k1 t1 l1 r1=>?_
 cases b with
 | false=>
  obtain⟨oC',m₃,hC',r2⟩:=r1.fromC
  exact⟨k,Nat.lt_succ_self k,W1,H1,k1,t1,j+1,fs,acc,ys,oC',m₃,rfl,l0.trans l1,hit,hC',hv.mono l1,hl,r2,e⟩
 | true=>exact Zqa hel aD (aC (D,lst ys) Zz5) (l0.trans l1) hit (hv.mono l1) r1 e
theorem comp_core{elt iter:Expr}{x:Str}{px:Pos}{ifs:List Expr}{scope:Scope}{pos:Pos}{cl:List (Str×Addr)}{t:Nat}{g:Src}{c:Ts}{f:Ex}(hg:JI prog w Γ iter g)(hel:∀C ρ,J prog w (Za3 Γ scope cl C [(x,t)] ρ) elt f)(hif:∀C ρ,JF prog w (Za3 Γ scope cl C [(x,t)] ρ) ifs c)
  (hcell:∀y∈scope.names,y.2≠.cell) (hkind:scope.kind=.function) (hx:scope.names.lookup x=some .local)
  {W:Wd} {ρ:Lc} {H:Hp} {fr:List (Addr×Obj)} {s:Shared} {E:Value→Shared→Prop} {q:List V×Hp} {RR:Value→Addr→Result→Shared→Prop} (r:Rep Γ W ρ H fr s.heap) (hf:((g ρ H).bind fun z=>Zct z.1 (put1 t) c f ρ z.2.1 0 [] z.2.2)=some q)
  (hR:∀(W':Wd) (h':Heap) (tk':Nat) (C D:Addr) (oC:Obj) (m₂:Str→Option Value) (ys:List Value),W.Le W'→NsObj oC m₂→VRs W' q.1 ys→q.1.length≤LEN→(∀t∈fr,D≠t.1)→(∀t∈fr,C≠t.1)→C≠D→Rep Γ W' ρ q.2 ((C,oC)::(D,lst ys)::fr) h'→RR (.ref D) C (.ok .next) { s with heap:=h',toks:=tk' }):
  wpAny (model prog w) Γ.A (eval iter Γ.env) (fun xv s₁=>wpAny (model prog w) Γ.A (pyIter xv) (fun it s₂=>wpAny (model prog w) Γ.A (newList []) (fun acc s₃=>wpAny (model prog w) Γ.A (newFunctionEnv scope Γ.env.globals cl [] Γ.env.qual none .none (some Γ.env)) (fun cenv s₄=>
   codeAny (model prog w) Γ.A (.compStart (.ListComp elt [⟨.Name x px,iter,ifs,0⟩] scope pos) 0 it acc { cenv with scope:=relabel scope Γ.env }) (RR acc cenv.locals) s₄) E s₃) E s₂) E s₁) E s:=by
 obtain⟨z,e1,e2⟩:=Zz0.mp hf
 obtain⟨nx,n,H0⟩:=z
 refine hg W ρ H fr s _ E nx n H0 r e1 fun W1 k1 t1 itv as It fs l1 i1 r1 ap I1=>?_
 refine wpAny_newObj_type (wpAny_newFunctionEnv hcell (fun y hy=>by simp at hy) (fun h₂ hns hsb=>?_) hkind)
 dsimp only at hns hsb ⊢
 obtain⟨rD,aD⟩:=r1.more (fs:=[(k1.objs.size,lst [])]) (fun b o e=>Heap.get?_push_of_some (lst []) e) (fun q hq=>by rw[List.mem_singleton.mp hq];exact⟨Heap.get?_push_size _ rfl,Nat.le_refl _⟩)
 generalize eH:k1.push { cls:=.type "list",dict:=none,data:=.seq ([]:List Value).toArray } = K at hns hsb ⊢
 have eK:k1.push (lst [])=K:=eH
 rw[eK]at rD
 obtain⟨oC,gC,nC⟩:=ns_obj hns
 have up:∀b o,K.get? b=some o→h₂.get? b=some o:=fun b o e=>hsb.extBut b o (Nat.ne_of_lt (Heap.lt_size e)) (Heap.get?_push_of_some _ e)
 obtain⟨rC,aC⟩:=rD.more (fs:=[(K.objs.size,oC)]) up (fun q hq=>by rw[List.mem_singleton.mp hq];exact⟨gC,Nat.le_refl _⟩)
 have adr0:=I1.adr 0 fs i1
 have offs:∀b∈as,b≠k1.objs.size∧b≠K.objs.size:=fun b hb=>by
  rw[←adr0]at hb
  obtain⟨q,hq,e⟩:=Zz11.mp hb
  exact⟨e▸(aD _ Zz5 q (Zz4 _ hq)).symm,e▸(aC _ Zz5 q (Zz3 _ (Zz4 _ hq))).symm⟩
 have cd:K.objs.size≠k1.objs.size:=aC _ Zz5 (k1.objs.size,lst []) (Zz4 _ Zz5)
 have cfr:∀t∈fr,K.objs.size≠t.1:=fun t ht=>aC _ Zz5 t (Zz3 _ (Zz3 _ ht))
 have dfr:∀t∈fr,k1.objs.size≠t.1:=fun t ht=>aD _ Zz5 t (Zz3 _ ht)
 generalize k1.objs.size=D at *
 generalize K.objs.size=C at *
 have loop:∀s₃:Shared,s₃ = { s with heap:=h₂,toks:=t1+([]:List (Str×Value)).length } →
   codeAny (model prog w) Γ.A (.compLoop (.ListComp elt [⟨.Name x px,iter,ifs,0⟩] scope pos) 0 itv (.ref D) (compEnvC scope cl C Γ.env)) (RR (.ref D) C) s₃:=by
  intro s₃ hs₃
  subst hs₃
  refine codeAny_compLoop_tests (ZiN Γ W1 ρ fr C D It nx (put1 t) c f q s) ?_ n ⟨W1,H0,h₂,_,0,fs,[],[],oC,_,rfl,.refl _,i1,nC,.nil,Nat.zero_le _,rC,e2⟩
  rintro k s' ⟨W2,H2,k2,t2,j,fs2,acc,ys,oC2,m₂,rfl,l2,i2,hC2,hv2,hl2,r2,e⟩
  cases k with
  | zero=>cases e
  | succ k=>
   obtain⟨o,e4,e⟩:=Zz0.mp e
   have r2':Rep Γ W2 ρ H2 (fs2++((C,oC2)::(D,lst ys)::fr)) k2:=r2.less fun q hq=>by
    rcases Zz8.mp hq with hq | hq
    ·exact Zz2 _ (Zz2 _ (Zz4 _ hq))
    ·rcases Zz7.mp hq with e | hq
     ·exact e▸List.mem_cons_self
     ·rcases Zz7.mp hq with e | hq
      ·exact e▸List.mem_cons_of_mem _ Zz5
      ·exact Zz2 _ (Zz2 _ (Zz3 _ hq))
   have ap2:∀b∈as,∀t∈(C,oC2)::(D,lst ys)::fr,b≠t.1:=fun b hb t ht=>by
    rcases Zz7.mp ht with e | ht
    ·rw[e]
     exact(offs b hb).2
    ·rcases Zz7.mp ht with e | ht
     ·rw[e]
      exact(offs b hb).1
     ·exact ap b hb t ht
   refine I1.next j W2 ρ H2 _ fs2 _ _ _ o l2 r2' ap2 i2 e4 ?_
   cases o with
   | none=>
    cases e
    intro h' tk' r3
    exact hR W2 h' tk' C D oC2 m₂ ys (l1.trans l2) hC2 hv2 hl2 dfr cfr cd r3
   | some v=>
    intro fs3 k3 t3 y i3 r3 y3
    obtain⟨ρ3,e5,e⟩:=Zz0.mp e
    cases e5
    have a3:∀t∈fs3,t.1∈as:=fun t ht=>by
     rw[←I1.adr _ _ i3]
     exact List.mem_map_of_mem ht
    have gC3:k3.get? C=some oC2:=r3.frAt (q:=(C,oC2)) (Zz3 _ Zz5)
    have nC3:k3.Ns C m₂:=hC2.ns gC3
    refine wpAny_assign_Name (wpAny_storeName_local (lookup_relabel_local hx) nC3 (fun h4 hn4 sb4=>?_) (by simp[compEnvC,relabel,hkind]))
    obtain⟨oC4,gC4,nC4⟩:=ns_obj hn4
    have r3':Rep Γ W2 ρ H2 ([(C,oC2)]++((D,lst ys)::(fs3++fr))) k3:=r3.less fun q hq=>by
     rcases Zz8.mp hq with hq | hq
     ·rw[List.mem_singleton.mp hq]
      exact Zz3 _ Zz5
     ·rcases Zz7.mp hq with e | hq
      ·exact e▸List.mem_append_right _ (Zz2 _ Zz5)
      ·rcases Zz8.mp hq with hq | hq
       ·exact Zz4 _ hq
       ·exact Zz3 _ (Zz2 _ (Zz2 _ hq))
    have aC3:∀t∈(D,lst ys)::(fs3++fr),C≠t.1:=fun t ht=>by
     rcases Zz7.mp ht with e | ht
     ·rw[e]
      exact cd
     ·rcases Zz8.mp ht with ht | ht
      ·exact(offs _ (a3 t ht)).2.symm
      ·exact cfr t ht
    have aD3:∀t∈fs3++fr,D≠t.1:=fun t ht=>by
     rcases Zz8.mp ht with ht | ht
     ·exact(offs _ (a3 t ht)).1.symm
     ·exact dfr t ht
    have r4:Rep Γ W2 ρ H2 ([(C,oC4)]++((D,lst ys)::(fs3++fr))) h4:=by
     refine r3'.swap (fun q hq t ht=>?_) (fun b o hb e=>sb4.extBut b o (fun z=>hb (by simp[z,compEnvC])) e) fun q hq=>?_
     ·rw[List.mem_singleton.mp hq]
      exact aC3 t ht
     ·rw[List.mem_singleton.mp hq]
      exact⟨gC4,by simp⟩
    refine Zwl (hel C ρ) (hif C ρ) ⟨h4,_,rfl⟩ aC3 aD3 l2 i3 nC4 hv2 hl2 r4 (fun p hp=>?_) (fun i hi=>?_) e
    ·rw[List.mem_singleton.mp hp]
     exact⟨v,y,by simp[upd],by simp,y3⟩
    ·have:i≠t:=fun e=>hi (x,t) Zz5 e.symm
     simp[upd,this]
 refine codeAny_compStart_list (loop _ rfl) ?_
 exact I1.self 0 W1 ρ H0 (([(C,oC)]++[(D,lst [])])++fr) fs _ _ _ (.refl _) (rC.less fun q hq=>by
  rcases Zz8.mp hq with hq | hq
  ·exact Zz3 _ (Zz3 _ (Zz4 _ hq))
  ·rcases Zz8.mp hq with hq | hq
   ·rcases Zz8.mp hq with hq | hq
    ·exact Zz4 _ hq
    ·exact Zz3 _ (Zz4 _ hq)
   ·exact Zz3 _ (Zz3 _ (Zz3 _ hq))) i1 (loop _ rfl)
theorem ZqG{W:Wd}{ρ:Lc}{q:List V×Hp}{fr:List (Addr×Obj)}{C D:Addr}{oC:Obj}{ys:List Value}{h' h'':Heap}(hv:VRs W q.1 ys)(hl:q.1.length≤LEN)(aD:∀t∈fr,D≠t.1)(aC:∀t∈fr,C≠t.1)(cd:C≠D)(r:Rep Γ W ρ q.2 ((C,oC)::(D,lst ys)::fr) h')(sb:Heap.SameBut C h' h''):
  ∃W',W.Le W'∧Rep Γ W' ρ (q.2++[q.1]) fr h''∧VR W' (.ref q.2.length) (.ref D):=by
 have r4:Rep Γ W ρ q.2 ([]++((D,lst ys)::fr)) h'':=by
  refine Rep.swap (fs:=[(C,oC)]) (fs':=[]) r (fun q hq t ht=>?_) (fun b o hb e=>sb.extBut b o (fun z=>hb (by simp[z])) e) fun q hq=>nomatch hq
  rw[List.mem_singleton.mp hq]
  rcases Zz7.mp ht with e | ht
  ·rw[e]
   exact cd
  ·exact aC t ht
 exact ZhM r4 aD hv hl
theorem ZyC{elt iter:Expr}{x:Str}{px:Pos}{ifs:List Expr}{scope:Scope}{pos:Pos}{cl:List (Str×Addr)}{t:Nat}{g:Src}{c:Ts}{f:Ex}(hg:JI prog w Γ iter g)(hel:∀C ρ,J prog w (Za3 Γ scope cl C [(x,t)] ρ) elt f)(hif:∀C ρ,JF prog w (Za3 Γ scope cl C [(x,t)] ρ) ifs c)
  (hclos:closureFor scope Γ.env=pure cl) (hcell:∀y∈scope.names,y.2≠.cell) (hkind:scope.kind=.function) (hnames:∀y∈scope.names,y.2=.local→scope.names.lookup y.1=some .local) (hx:scope.names.lookup x=some .local) (hs:∀x,foldedSetIterable iter Γ.env x=pure x:=by intro _;rfl):
  J prog w Γ (.ListComp elt [⟨.Name x px,iter,ifs,0⟩] scope pos) (ZbL g (put1 t) c f):=by
 intro W ρ H fr s Q E v H' r hf post
 obtain⟨z,e1,hf⟩:=Zz0.mp hf
 obtain⟨q,e2,e3⟩:=Zz1.mp hf
 cases e3
 rw[eval_ListComp]
 refine wpAny_comprehension_free (use:=Option.none) rfl hs hclos hkind hnames ?_
 refine comp_core (RR:=fun acc C=>compPost (model prog w) Γ.A E Option.none Q acc C) hg hel hif hcell hkind hx r (q:=q) (by rw[e1];exact e2) fun W2 h' tk' C D oC m₂ ys l2 hC hv hl aD aC cd r3=>?_
 refine⟨m₂,hC.ns (r3.frAt (q:=(C,oC)) Zz5),fun h'' sb=>?_⟩
 obtain⟨W5,l5,r5,v5⟩:=ZqG hv hl aD aC cd r3 sb
 exact post W5 h'' tk' _ (l2.trans l5) r5 v5
theorem ZuR{elt iter:Expr}{x y:Str}{px py pos spos:Pos}{ifs:List Expr}{scope:Scope}{cl:List (Str×Addr)}{t i:Nat}{g:Src}{c:Ts}{f:Ex}(hy:Sto prog w Γ y i)(hg:JI prog w Γ iter g)(hel:∀C ρ,J prog w (Za3 Γ scope cl C [(x,t)] ρ) elt f)(hif:∀C ρ,JF prog w (Za3 Γ scope cl C [(x,t)] ρ) ifs c)
  (hsw:swapsWith (.ListComp elt [⟨.Name x px,iter,ifs,0⟩] scope pos) (some (.Name y py)) spos.line Γ.env=pure true)
  (hclos:closureFor scope Γ.env=pure cl) (hcell:∀y∈scope.names,y.2≠.cell) (hkind:scope.kind=.function) (hnames:∀y∈scope.names,y.2=.local→scope.names.lookup y.1=some .local) (hx:scope.names.lookup x=some .local) (hs:∀x,foldedSetIterable iter Γ.env x=pure x:=by intro _;rfl):
  S1 prog w Γ (.Assign [.Name y py] (.ListComp elt [⟨.Name x px,iter,ifs,0⟩] scope pos) spos) (Zar i (ZbL g (put1 t) c f)):=by
 intro W ρ H fr s Q E r rp hf post
 obtain⟨p,e0,e9⟩:=Zz1.mp hf
 cases e9
 obtain⟨z,e1,hf⟩:=Zz0.mp e0
 obtain⟨q,e2,e3⟩:=Zz1.mp hf
 cases e3
 rw[exec_Assign_Name_used _ _ _ _ hsw]
 refine wpAny_bind (wpAny_standAt (wpAny_bind ?_))
 show wpAny _ Γ.A (do let _ ←comprehension (.ListComp elt [⟨.Name x px,iter,ifs,0⟩] scope pos) scope Γ.env _ (newList []) false (eval iter Γ.env) (some (assign (.Name y py) Γ.env))) _ _ s
 refine wpAny_bind (wpAny_mono (wpAny_comprehension_free (use:=some (assign (.Name y py) Γ.env)) (Q:=fun _ s'=>Q .next s') rfl hs hclos hkind hnames ?_) (fun _ s' h'=>wpAny_pure (wpAny_pure h')) fun _ _ e=>e)
 refine comp_core (RR:=fun acc C=>compPost (model prog w) Γ.A E (some (assign (.Name y py) Γ.env)) (fun _ s'=>Q .next s') acc C) hg hel hif hcell hkind hx rp (q:=q) (by rw[e1];exact e2) fun W2 h' tk' C D oC m₂ ys l2 hC hv hl aD aC cd r3=>?_
 have r4:Rep Γ W2 ρ q.2 ((D,lst ys)::(C,oC)::fr) h':=r3.less fun t ht=>by
  rcases Zz7.mp ht with e | ht
  ·exact e▸List.mem_cons_of_mem _ Zz5
  ·rcases Zz7.mp ht with e | ht
   ·exact e▸List.mem_cons_self
   ·exact Zz2 _ (Zz2 _ ht)
 obtain⟨W5,l5,r5,v5⟩:=ZhM r4 (fun t ht=>by
  rcases Zz7.mp ht with e | ht
  ·rw[e]
   exact cd.symm
  ·exact aD t ht) hv hl
 refine wpAny_assign_Name (hy W5 ρ _ _ _ _ _ _ _ r5 v5 fun h6 t6 r6=>?_)
 refine⟨m₂,hC.ns (r6.frAt (q:=(C,oC)) Zz5),fun h'' sb=>?_⟩
 have r7:Rep Γ W5 (upd ρ i (.ref q.2.length)) (q.2++[q.1]) ([]++fr) h'':=
  Rep.swap (fs:=[(C,oC)]) (fs':=[]) r6 (fun q hq t ht=>by rw[List.mem_singleton.mp hq];exact aC t ht) (fun b o hb e=>sb.extBut b o (fun z=>hb (by simp[z])) e) fun q hq=>nomatch hq
 exact post W5 h'' t6 (l2.trans l5) r7
end
end PM
end
section
namespace PM
open PySem PySem.W PySem.Calls PyProof.Rows PyProof PyProof.Rows.LCg PyProof.Rows.LCp
theorem ZnU(h:Heap): ∀as:List Addr,(∀a∈as,∃o,h.get? a=some o)→∃fs:List (Addr×Obj),fs.map (·.1)=as∧∀q∈fs,h.get? q.1=some q.2
 | [],_=>⟨[],rfl,fun q hq=>nomatch hq⟩
 | a::as,d=>by
  obtain⟨o,ho⟩:=d a Zz5
  obtain⟨fs,h1,h2⟩:=ZnU h as fun b hb=>d b (Zz2 _ hb)
  refine⟨(a,o)::fs,by rw[List.map_cons,h1],fun q hq=>?_⟩
  rcases Zz7.mp hq with e | hq
  ·rw[e]
   exact ho
  ·exact h2 q hq
structure Itr2(prog:Program)(w:World)(Γ:Cx)(W0:Wd)(it:Value)(as:List Addr)(It:Nat→List (Addr×Obj)→Prop)(nx:Nx): Prop where
 adr:∀i fs,It i fs→fs.map (·.1)=as
 pair:∀i H v,nx i H=some (some v)→∃a b,v=.tup [a,b]
 item:∀(i:Nat) (W:Wd) (ρ:Lc) (H:Hp) (fr fs:List (Addr×Obj)) (s:Shared) (Q:Option Value→Shared→Prop) (E:Value→Shared→Prop) (a b:V),W0.Le W→Rep Γ W ρ H (fs++fr) s.heap→(∀a∈as,∀t∈fr,a≠t.1)→It i fs→nx i H=some (some (.tup [a,b])) →
  (∀(T:Addr) (h1:Heap) (t1:Nat),(∀(elts:List Expr) (k:Nat) (pos:Pos) (s1:Shared) (Q1:Unit→Shared→Prop) (E1:Value→Shared→Prop),s1 = { s with heap:=h1,toks:=t1 } →
    (∀(fs':List (Addr×Obj)) (h':Heap) (x y:Value),It (i+1) fs'→Rep Γ W ρ H (fs'++fr) h'→IsTup h' T #[x,y]→VR W a x→VR W b y→Q1 () { s with heap:=h',toks:=t1 })→wpAny (model prog w) Γ.A (letOwnedTupleGo (.Tuple elts k pos) it (.ref T)) Q1 E1 s1)→Q (some (.ref T)) { s with heap:=h1,toks:=t1 })→wpAny (model prog w) Γ.A (pyNext it) Q E s
 done:∀(i:Nat) (W:Wd) (ρ:Lc) (H:Hp) (fr fs:List (Addr×Obj)) (s:Shared) (Q:Option Value→Shared→Prop) (E:Value→Shared→Prop),W0.Le W→Rep Γ W ρ H (fs++fr) s.heap→(∀a∈as,∀t∈fr,a≠t.1)→It i fs→nx i H=some none →
  (∀(h':Heap) (tk':Nat),Rep Γ W ρ H fr h'→Q none { s with heap:=h',toks:=tk' })→wpAny (model prog w) Γ.A (pyNext it) Q E s
 self:∀(i:Nat) (W:Wd) (ρ:Lc) (H:Hp) (fr fs:List (Addr×Obj)) (s:Shared) (Q E:Value→Shared→Prop) (o:Option V),W0.Le W→Rep Γ W ρ H (fs++fr) s.heap→It i fs→nx i H=some o→Q it s→wpAny (model prog w) Γ.A (pyIter it) Q E s
def JI2(prog:Program)(w:World)(Γ:Cx)(e:Expr)(g:Src): Prop:=∀(W:Wd) (ρ:Lc) (H:Hp) (fr:List (Addr×Obj)) (s:Shared) (Q E:Value→Shared→Prop) (nx:Nx) (n:Nat) (H':Hp),
 Rep Γ W ρ H fr s.heap→g ρ H=some (nx,n,H') →
 (∀(W':Wd) (h':Heap) (tk':Nat) (it:Value) (as:List Addr) (It:Nat→List (Addr×Obj)→Prop) (fs:List (Addr×Obj)),W.Le W'→It 0 fs→Rep Γ W' ρ H' (fs++fr) h'→(∀a∈as,∀t∈fr,a≠t.1)→Itr2 prog w Γ W' it as It nx→(∃o,nx 0 H'=some o)→Q it { s with heap:=h',toks:=tk' }) →
 wpAny (model prog w) Γ.A (eval e Γ.env) (fun xv s₁=>wpAny (model prog w) Γ.A (pyIter xv) Q E s₁) E s
noncomputable def ZiE(a b:Nat): Nx:=fun i H=>H[a]?.bind fun vs=>H[b]?.bind fun us=>match vs[i]?,us[i]? with
 | some x,some y=>some (some (.tup [x,y]))
 | _,_=>if i=min vs.length us.length then some none else none
noncomputable def ZkM(f g:Ex): Src:=fun ρ H=>(f ρ H).bind fun p=>(g ρ p.2).bind fun q=>match p.1,q.1 with
 | .ref a,.ref b=>q.2[a]?.bind fun vs=>q.2[b]?.map fun us=>(ZiE a b,min vs.length us.length+1,q.2)
 | _,_=>none
noncomputable def Zdi(i j:Nat): V→Lc→Option Lc
 | .tup [a,b],ρ=>some (upd (upd ρ i a) j b)
 | _,_=>none
def ZS(z TI TO i1 i2 l1 l2:Addr)(i:Nat)(h:Heap): Prop:=IsZip h z TI TO .none∧PySem.IsPair h TI (.ref i1) (.ref i2)∧(∃a b,PySem.IsPair h TO a b)∧h.IsListIter i1 l1 i∧h.IsListIter i2 l2 i
theorem ZS.at{z TI TO i1 i2 l1 l2:Addr}{i:Nat}{h h':Heap}(x:ZS z TI TO i1 i2 l1 l2 i h)(e:∀a∈[z,TI,TO,i1,i2],∀o,h.get? a=some o→h'.get? a=some o): ZS z TI TO i1 i2 l1 l2 i h':=by
 obtain⟨h1,h2,⟨a,b,h3⟩,h4,h5⟩:=x
 exact⟨e z (by simp) _ h1,e TI (by simp) _ h2,⟨a,b,e TO (by simp) _ h3⟩,h4.at fun o x=>e i1 (by simp) o x,h5.at fun o x=>e i2 (by simp) o x⟩
theorem ZS.have{z TI TO i1 i2 l1 l2:Addr}{i:Nat}{h:Heap}(x:ZS z TI TO i1 i2 l1 l2 i h): ∀a∈[z,TI,TO,i1,i2],∃o,h.get? a=some o:=by
 obtain⟨h1,h2,⟨a,b,h3⟩,⟨o4,h4,_⟩,⟨o5,h5,_⟩⟩:=x
 intro c hc
 simp only[List.mem_cons,List.not_mem_nil,or_false]at hc
 rcases hc with e | e | e | e | e <;> subst e
 ·exact⟨_,h1⟩
 ·exact⟨_,h2⟩
 ·exact⟨_,h3⟩
 ·exact⟨_,h4⟩
 ·exact⟨_,h5⟩
def ZIt(z TI TO i1 i2 l1 l2:Addr)(i:Nat)(fs:List (Addr×Obj)): Prop:=fs.map (·.1)=[z,TI,TO,i1,i2]∧∀h:Heap,(∀q∈fs,h.get? q.1=some q.2)→ZS z TI TO i1 i2 l1 l2 i h
theorem Zrk{z TI TO i1 i2 l1 l2:Addr}{i:Nat}{h:Heap}(x:ZS z TI TO i1 i2 l1 l2 i h): ∃fs,ZIt z TI TO i1 i2 l1 l2 i fs∧∀q∈fs,h.get? q.1=some q.2:=by
 obtain⟨fs,h1,h2⟩:=ZnU h [z,TI,TO,i1,i2] x.have
 refine⟨fs,⟨h1,fun h' e=>x.at fun a ha o ho=>?_⟩,h2⟩
 rw[←h1]at ha
 obtain⟨q,hq,eq⟩:=Zz11.mp ha
 have:=h2 q hq
 rw[eq,ho]at this
 cases this
 exact eq▸e q hq
section
variable {prog:Program} {w:World} {Γ:Cx}
theorem ZyD{W0:Wd}{z TI TO i1 i2 l1 l2:Addr}{a b:Nat}(ea:W0.pi[a]?=some l1)(eb:W0.pi[b]?=some l2)(D:ZipApart z TI TO i1 i2 l1 l2):
  Itr2 prog w Γ W0 (.ref z) [z,TI,TO,i1,i2] (ZIt z TI TO i1 i2 l1 l2) (ZiE a b):=by
 refine⟨fun i fs h=>h.1,?_,?_,?_,?_⟩
 ·intro i H v e
  obtain⟨vs,e1,e⟩:=Zz0.mp e
  obtain⟨us,e2,e⟩:=Zz0.mp e
  split at e
  ·cases e
   exact⟨_,_,rfl⟩
  ·split at e <;> cases e
 ·intro i W ρ H fr fs s Q E va vb le r ap hit hn post
  obtain⟨vs,e1,e⟩:=Zz0.mp hn
  obtain⟨us,e2,e⟩:=Zz0.mp e
  have hvu:vs[i]?=some va∧us[i]?=some vb:=by
   split at e
   ·rename_i x y h1 h2
    cases e
    exact⟨h1,h2⟩
   ·split at e <;> cases e
  obtain⟨_,xs,k1,g1,v1⟩:=r.at e1 (le.at ea)
  obtain⟨_,ys,k2,g2,v2⟩:=r.at e2 (le.at eb)
  obtain⟨x,hx,rx⟩:=v1.at hvu.1
  obtain⟨y,hy,ry⟩:=v2.at hvu.2
  have st:ZS z TI TO i1 i2 l1 l2 i s.heap:=hit.2 _ fun q hq=>r.frAt (Zz4 _ hq)
  have Wk:=WalksT.zip2 (prog:=prog) (w:=w) (A:=Γ.A) Γ.hh z TI TO i1 i2 l1 l2 D xs.toArray ys.toArray
  have isl1:s.heap.IsList l1 xs.toArray:=⟨_,g1,rfl,k1,rfl⟩
  have isl2:s.heap.IsList l2 ys.toArray:=⟨_,g2,rfl,k2,rfl⟩
  have hi:i<min xs.toArray.size ys.toArray.size:=by
   have h1:=(Zz6.mp hx).1
   have h2:=(Zz6.mp hy).1
   simp
   omega
  refine Wk.item i s Q E hi ⟨st.1,st.2.1,st.2.2.1,st.2.2.2.1,st.2.2.2.2,isl1,isl2⟩ fun T vals h1 t1 hp hT hTup hmid keep1=>post T h1 t1 ?_
  intro elts k pos s1 Q1 E1 es1 q1
  subst es1
  have hTw:=Wk.apart i T _ hmid
  refine Wk.go elts k pos i T _ Q1 E1 hmid fun h2 st2 keep2=>?_
  obtain⟨x',y',hx',hy',ev⟩:=hp
  have ex:x'=x:=by
   have:xs[i]?=some x':=by simpa using hx'
   rw[hx]at this
   exact(Option.some.inj this).symm
  have ey:y'=y:=by
   have:ys[i]?=some y':=by simpa using hy'
   rw[hy]at this
   exact(Option.some.inj this).symm
  subst ex ey ev
  obtain⟨fs',hit',at'⟩:=Zrk (h:=h2) (⟨st2.1,st2.2.1,st2.2.2.1,st2.2.2.2.1,st2.2.2.2.2.1⟩:ZS z TI TO i1 i2 l1 l2 (i+1) h2)
  obtain⟨oT,gT,cT,nT,dT⟩:=hTup
  refine q1 fs' h2 x' y' hit' ?_ ⟨oT,keep2 T oT hTw gT,cT,nT,dT⟩ rx ry
  refine r.swap (fs':=fs') (fun q hq t ht=>?_) (fun c o hc e=>?_) fun q hq=>⟨at' q hq,?_⟩
  ·exact ap _ (hit.1▸List.mem_map_of_mem hq) t ht
  ·rw[hit.1]at hc
   have hcw:c∉[z,TO,i1,i2]:=fun h=>hc (by simp at h ⊢;rcases h with h | h | h | h <;> simp[h])
   exact keep2 c o hcw (keep1 c o hcw e)
  ·rw[hit.1,←hit'.1]
   exact List.mem_map_of_mem hq
 ·intro i W ρ H fr fs s Q E le r ap hit hn post
  obtain⟨vs,e1,e⟩:=Zz0.mp hn
  obtain⟨us,e2,e⟩:=Zz0.mp e
  obtain⟨_,xs,k1,g1,v1⟩:=r.at e1 (le.at ea)
  obtain⟨_,ys,k2,g2,v2⟩:=r.at e2 (le.at eb)
  have hi:i=min vs.length us.length:=by
   split at e
   ·cases e
   ·split at e
    ·assumption
    ·cases e
  have st:ZS z TI TO i1 i2 l1 l2 i s.heap:=hit.2 _ fun q hq=>r.frAt (Zz4 _ hq)
  have Wk:=WalksT.zip2 (prog:=prog) (w:=w) (A:=Γ.A) Γ.hh z TI TO i1 i2 l1 l2 D xs.toArray ys.toArray
  have hm:min xs.toArray.size ys.toArray.size=i:=by simp[v1.length,v2.length,hi]
  refine Wk.done s Q E (by rw[hm];exact⟨st.1,st.2.1,st.2.2.1,st.2.2.2.1,st.2.2.2.2,⟨_,g1,rfl,k1,rfl⟩,⟨_,g2,rfl,k2,rfl⟩⟩) fun h' tk keep=>post h' tk ?_
  have:=r.swap (fs':=[]) (fun q hq t ht=>ap _ (hit.1▸List.mem_map_of_mem hq) t ht) (fun c o hc e=>keep c o (fun h=>hc (by rw[hit.1];simp at h ⊢;rcases h with h | h | h | h <;> simp[h])) e) (fun q hq=>nomatch hq)
  exact this
 ·intro i W ρ H fr fs s Q E o le r hit hn q
  obtain⟨vs,e1,e⟩:=Zz0.mp hn
  obtain⟨us,e2,e⟩:=Zz0.mp e
  obtain⟨_,xs,k1,g1,v1⟩:=r.at e1 (le.at ea)
  obtain⟨_,ys,k2,g2,v2⟩:=r.at e2 (le.at eb)
  have st:ZS z TI TO i1 i2 l1 l2 i s.heap:=hit.2 _ fun q hq=>r.frAt (Zz4 _ hq)
  have Wk:=WalksT.zip2 (prog:=prog) (w:=w) (A:=Γ.A) Γ.hh z TI TO i1 i2 l1 l2 D xs.toArray ys.toArray
  exact Wk.self i s Q E ⟨st.1,st.2.1,st.2.2.1,st.2.2.2.1,st.2.2.2.2,⟨_,g1,rfl,k1,rfl⟩,⟨_,g2,rfl,k2,rfl⟩⟩ q
theorem JI2.zip{x:Str}{np pos:Pos}{e1 e2:Expr}{f g:Ex}(hn:Nm prog w Γ x (.type "zip"))(h1:J prog w Γ e1 f)(h2:J prog w Γ e2 g)
  (he:starEach [e1,e2] Γ.env=(false,eval e1 Γ.env)::starEach [e2] Γ.env:=by rfl) (he2:starEach [e2] Γ.env=(false,eval e2 Γ.env)::starEach [] Γ.env:=by rfl) (hp:∀pos,(backTo pos (starEach [e2] Γ.env)).any (·.1)=false:=by intro _;rfl):JI2 prog w Γ (.Call (.Name x np) [e1,e2] [] pos) (ZkM f g):=by
 intro W ρ H fr s Q E nx n H' r hf post
 obtain⟨p,a1,hf⟩:=Zz0.mp hf
 obtain⟨q,a2,hf⟩:=Zz0.mp hf
 refine wpAny_Call_ofName (hn.use r ?_)
 refine PySem.Pv.callWith_type1 (wpAny_items_cons (h1 W ρ H fr s _ E _ _ r a1 fun W1 k1 t1 y1 l1 r1 v1=>?_) he) he (hp pos)
 refine wpAny_items_cons (h2 W1 ρ _ fr _ _ E _ _ r1 a2 fun W2 k2 t2 y2 l2 r2 v2=>wpAny_items_nil ?_) he2
 have v1':=v1.mono l2
 obtain⟨u1,H1⟩:=p
 obtain⟨u2,H2⟩:=q
 simp only at hf v1' v2 r2
 cases u1 <;> first | (cases hf;done) | skip
 rename_i b1
 cases u2 <;> first | (cases hf;done) | skip
 rename_i b2
 obtain⟨vs,c1,hf⟩:=Zz0.mp hf
 obtain⟨us,c2,c3⟩:=Zz1.mp hf
 cases c3
 cases v1' with
 | @ref _ m1 ea=>
 cases v2 with
 | @ref _ m2 eb=>
 obtain⟨_,xs,n1,g1,w1⟩:=r2.at c1 ea
 obtain⟨_,ys,n2,g2,w2⟩:=r2.at c2 eb
 have isl1:k2.IsList m1 xs.toArray:=⟨_,g1,rfl,n1,rfl⟩
 have isl2:k2.IsList m2 ys.toArray:=⟨_,g2,rfl,n2,rfl⟩
 refine call_zip_2 (s:={ s with heap:=k2,toks:=t2 }) isl1 isl2 fun h₁ hz hTI hTO hi1 hi2 hsz up=>?_
 have ap:=zipApart_new (n:=k2.objs.size) (Heap.lt_size g1) (Heap.lt_size g2)
 have Wk:=WalksT.zip2 (prog:=prog) (w:=w) (A:=Γ.A) Γ.hh _ _ _ _ _ m1 m2 ap xs.toArray ys.toArray
 have zs:ZS (k2.objs.size+4) (k2.objs.size+2) (k2.objs.size+3) k2.objs.size (k2.objs.size+1) m1 m2 0 h₁:=⟨hz,hTI,⟨_,_,hTO⟩,hi1,hi2⟩
 refine Wk.self 0 _ _ _ ⟨hz,hTI,⟨_,_,hTO⟩,hi1,hi2,isl1.at fun o e=>up _ o e,isl2.at fun o e=>up _ o e⟩ ?_
 obtain⟨fs,hit,at'⟩:=Zrk zs
 obtain⟨r3,ap3⟩:=r2.more (fs:=fs) (h':=h₁) (fun b o e=>up b o e) (fun q hq=>⟨at' q hq,by
  have:q.1∈fs.map (·.1):=List.mem_map_of_mem hq
  rw[hit.1]at this
  simp at this
  rcases this with e | e | e | e | e <;> rw[e] <;> omega⟩)
 refine post W2 h₁ t2 _ _ _ fs (l1.trans l2) hit r3 (fun b hb t ht=>?_) (ZyD ea eb ap) ?_
 ·rw[←hit.1]at hb
  obtain⟨q,hq,e⟩:=Zz11.mp hb
  exact e▸ap3 q hq t ht
 ·simp only[ZiE,c1,c2,Option.bind_some]
  split
  ·exact⟨_,rfl⟩
  ·rename_i hno
   have:0=min vs.length us.length:=by
    rcases Nat.eq_zero_or_pos vs.length with z | z
    ·rw[z];simp
    ·rcases Nat.eq_zero_or_pos us.length with z' | z'
     ·rw[z'];simp
     ·exact(hno vs[0] us[0] (by simp[z]) (by simp[z'])).elim
   rw[if_pos this]
   exact⟨_,rfl⟩
theorem Zxe{x1 x2:Str}{i1 i2 kt:Nat}{p1 p2 tp:Pos}(h1:Sto prog w Γ x1 i1)(h2:Sto prog w Γ x2 i2){W:Wd}{ρ:Lc}{H:Hp}{fr:List (Addr×Obj)}{s:Shared}{Q:Unit→Shared→Prop}{E:Value→Shared→Prop}{T:Addr}{y1 y2:Value}{a b:V}(r:Rep Γ W ρ H fr s.heap)(ht:IsTup s.heap T #[y1,y2])(v1:VR W a y1)(v2:VR W b y2)
  (post:∀(h':Heap) (tk':Nat),Rep Γ W (upd (upd ρ i1 a) i2 b) H fr h'→Q () { s with heap:=h',toks:=tk' }):wpAny (model prog w) Γ.A (assign (.Tuple [.Name x1 p1,.Name x2 p2] kt tp) Γ.env (.ref T)) Q E s:=by
 refine assign_Tuple_tuple Γ.hh ht rfl rfl fun g₄ he=>?_
 have r4:=r.grown (h':=g₄) fun b o e=>he b o (Nat.ne_of_lt (Heap.lt_size e)) e
 refine assignInOrder_cons (wpAny_assign_Name (h1 W ρ H fr _ _ _ a y1 r4 v1 fun k5 t5 r5=>?_))
 refine assignInOrder_cons (wpAny_assign_Name (h2 W _ H fr _ _ _ b y2 r5 v2 fun k6 t6 r6=>?_))
 exact assignInOrder_nil (post k6 t6 r6)
theorem ZeF{x1 x2:Str}{i1 i2 kt:Nat}{p1 p2 tp pos:Pos}{it:Expr}{body:List Stmt}{g:Src}{b:Sm}(h1:Sto prog w Γ x1 i1)(h2:Sto prog w Γ x2 i2)(hg:JI2 prog w Γ it g)(hb:Ss prog w Γ body b)(hs:∀x,foldedSetIterable it Γ.env x=pure x:=by intro _;rfl):
  S1 prog w Γ (.For (.Tuple [.Name x1 p1,.Name x2 p2] kt tp) it body [] pos) (Zcb g (Zdi i1 i2) b):=by
 intro W ρ H fr s Q E r rp hf post
 obtain⟨z,e1,hf⟩:=Zz0.mp hf
 obtain⟨nx,n,H0⟩:=z
 refine wpAny_For (hg W ρ H fr s _ E nx n H0 rp e1 fun W1 k1 t1 itv as It fs l1 j1 r1 ap I1 _=>?_) hs
 refine codeAny_forLoop_any (fun k s'=>∃W' ρ' H' h' tk' j fs',s' = { s with heap:=h',toks:=tk' }∧W1.Le W'∧It j fs'∧Rep Γ W' ρ' H' (fs'++fr) h'∧Zc1 nx (Zdi i1 i2) b k j ρ' H'=some r) ?_ n ⟨W1,ρ,H0,k1,t1,0,fs,rfl,.refl _,j1,r1,hf⟩
 rintro k s' ⟨W2,ρ2,H2,k2,t2,j,fs2,rfl,l2,j2,r2,e⟩
 cases k with
 | zero=>cases e
 | succ k=>
  obtain⟨o,e2,e⟩:=Zz0.mp e
  cases o with
  | none=>
   cases e
   exact I1.done j W2 ρ2 H2 fr fs2 _ _ _ l2 r2 ap j2 e2 fun h' tk' r3=>wpAny_execs_nil (post W2 h' tk' (l1.trans l2) r3)
  | some v=>
   obtain⟨va,vb,ev⟩:=I1.pair j H2 v e2
   subst ev
   refine I1.item j W2 ρ2 H2 fr fs2 _ _ _ va vb l2 r2 ap j2 e2 fun T h3 t3 go=>?_
   obtain⟨ρ3,e3,e⟩:=Zz0.mp e
   cases e3
   obtain⟨q,e4,e⟩:=Zz0.mp e
   refine go _ _ _ _ _ _ rfl fun fs3 k3 y1 y2 j3 r3 ht w1 w2=>?_
   refine Zxe h1 h2 (s:={ s with heap:=k3,toks:=t3 }) r3 ht w1 w2 fun k4 t4 r4=>?_
   refine hb W2 _ H2 (fs3++fr) _ _ _ q r4 e4 ?_
   obtain⟨u,ρ5,H5⟩:=q
   cases u with
   | some u=>
    cases e
    exact fun W5 k5 t5 x5 l5 r5 v5=>post W5 k5 t5 x5 ((l1.trans l2).trans l5) (r5.less fun q hq=>List.mem_append_right _ hq) v5
   | none=>exact fun W5 k5 t5 l5 r5=>⟨k,Nat.lt_succ_self k,W5,ρ5,H5,k5,t5,j+1,fs3,rfl,l2.trans l5,j3,r5,e⟩
theorem ZpA{elt iter:Expr}{x x₂:Str}{px px₂ tp:Pos}{kt:Nat}{scope:Scope}{pos:Pos}{cl:List (Str×Addr)}{t t₂:Nat}{g:Src}{f:Ex}(hg:JI2 prog w Γ iter g)(hel:∀C ρ,J prog w (Za3 Γ scope cl C [(x,t),(x₂,t₂)] ρ) elt f)
  (hcell:∀y∈scope.names,y.2≠.cell) (hkind:scope.kind=.function) (hx:scope.names.lookup x=some .local) (hx₂:scope.names.lookup x₂=some .local) (hxx:x≠x₂) (htt:t≠t₂)
  {W:Wd} {ρ:Lc} {H:Hp} {fr:List (Addr×Obj)} {s:Shared} {E:Value→Shared→Prop} {q:List V×Hp} {RR:Value→Addr→Result→Shared→Prop} (r:Rep Γ W ρ H fr s.heap) (hf:((g ρ H).bind fun z=>Zct z.1 (Zdi t t₂) ZbP f ρ z.2.1 0 [] z.2.2)=some q)
  (hR:∀(W':Wd) (h':Heap) (tk':Nat) (C D:Addr) (oC:Obj) (m₂:Str→Option Value) (ys:List Value),W.Le W'→NsObj oC m₂→VRs W' q.1 ys→q.1.length≤LEN→(∀t∈fr,D≠t.1)→(∀t∈fr,C≠t.1)→C≠D→Rep Γ W' ρ q.2 ((C,oC)::(D,lst ys)::fr) h'→RR (.ref D) C (.ok .next) { s with heap:=h',toks:=tk' }):
  wpAny (model prog w) Γ.A (eval iter Γ.env) (fun xv s₁=>wpAny (model prog w) Γ.A (pyIter xv) (fun it s₂=>wpAny (model prog w) Γ.A (newList []) (fun acc s₃=>wpAny (model prog w) Γ.A (newFunctionEnv scope Γ.env.globals cl [] Γ.env.qual none .none (some Γ.env)) (fun cenv s₄=>
   codeAny (model prog w) Γ.A (.compStart (.ListComp elt [⟨.Tuple [.Name x px,.Name x₂ px₂] kt tp,iter,[],0⟩] scope pos) 0 it acc { cenv with scope:=relabel scope Γ.env }) (RR acc cenv.locals) s₄) E s₃) E s₂) E s₁) E s:=by
 obtain⟨z,e1,e2⟩:=Zz0.mp hf
 obtain⟨nx,n,H0⟩:=z
 refine hg W ρ H fr s _ E nx n H0 r e1 fun W1 k1 t1 itv as It fs l1 i1 r1 ap I1 hstart=>?_
 refine wpAny_newObj_type (wpAny_newFunctionEnv hcell (fun y hy=>by simp at hy) (fun h₂ hns hsb=>?_) hkind)
 dsimp only at hns hsb ⊢
 obtain⟨rD,aD⟩:=r1.more (fs:=[(k1.objs.size,lst [])]) (fun b o e=>Heap.get?_push_of_some (lst []) e) (fun q hq=>by rw[List.mem_singleton.mp hq];exact⟨Heap.get?_push_size _ rfl,Nat.le_refl _⟩)
 generalize eH:k1.push { cls:=.type "list",dict:=none,data:=.seq ([]:List Value).toArray } = K at hns hsb ⊢
 have eK:k1.push (lst [])=K:=eH
 rw[eK]at rD
 obtain⟨oC,gC,nC⟩:=ns_obj hns
 have up:∀b o,K.get? b=some o→h₂.get? b=some o:=fun b o e=>hsb.extBut b o (Nat.ne_of_lt (Heap.lt_size e)) (Heap.get?_push_of_some _ e)
 obtain⟨rC,aC⟩:=rD.more (fs:=[(K.objs.size,oC)]) up (fun q hq=>by rw[List.mem_singleton.mp hq];exact⟨gC,Nat.le_refl _⟩)
 have adr0:=I1.adr 0 fs i1
 have offs:∀b∈as,b≠k1.objs.size∧b≠K.objs.size:=fun b hb=>by
  rw[←adr0]at hb
  obtain⟨q,hq,e⟩:=Zz11.mp hb
  exact⟨e▸(aD _ Zz5 q (Zz4 _ hq)).symm,e▸(aC _ Zz5 q (Zz3 _ (Zz4 _ hq))).symm⟩
 have cd:K.objs.size≠k1.objs.size:=aC _ Zz5 (k1.objs.size,lst []) (Zz4 _ Zz5)
 have cfr:∀t∈fr,K.objs.size≠t.1:=fun t ht=>aC _ Zz5 t (Zz3 _ (Zz3 _ ht))
 have dfr:∀t∈fr,k1.objs.size≠t.1:=fun t ht=>aD _ Zz5 t (Zz3 _ ht)
 generalize k1.objs.size=D at *
 generalize K.objs.size=C at *
 have loop:∀s₃:Shared,s₃ = { s with heap:=h₂,toks:=t1+([]:List (Str×Value)).length } →
   codeAny (model prog w) Γ.A (.compLoop (.ListComp elt [⟨.Tuple [.Name x px,.Name x₂ px₂] kt tp,iter,[],0⟩] scope pos) 0 itv (.ref D) (compEnvC scope cl C Γ.env)) (RR (.ref D) C) s₃:=by
  intro s₃ hs₃
  subst hs₃
  refine codeAny_compLoop_pair (ZiN Γ W1 ρ fr C D It nx (Zdi t t₂) ZbP f q s) ?_ n ⟨W1,H0,h₂,_,0,fs,[],[],oC,_,rfl,.refl _,i1,nC,.nil,Nat.zero_le _,rC,e2⟩
  rintro k s' ⟨W2,H2,k2,t2,j,fs2,acc,ys,oC2,m₂,rfl,l2,i2,hC2,hv2,hl2,r2,e⟩
  cases k with
  | zero=>cases e
  | succ k=>
   obtain⟨o,e4,e⟩:=Zz0.mp e
   have r2':Rep Γ W2 ρ H2 (fs2++((C,oC2)::(D,lst ys)::fr)) k2:=r2.less fun q hq=>by
    rcases Zz8.mp hq with hq | hq
    ·exact Zz2 _ (Zz2 _ (Zz4 _ hq))
    ·rcases Zz7.mp hq with e | hq
     ·exact e▸List.mem_cons_self
     ·rcases Zz7.mp hq with e | hq
      ·exact e▸List.mem_cons_of_mem _ Zz5
      ·exact Zz2 _ (Zz2 _ (Zz3 _ hq))
   have ap2:∀b∈as,∀t∈(C,oC2)::(D,lst ys)::fr,b≠t.1:=fun b hb t ht=>by
    rcases Zz7.mp ht with e | ht
    ·rw[e]
     exact(offs b hb).2
    ·rcases Zz7.mp ht with e | ht
     ·rw[e]
      exact(offs b hb).1
     ·exact ap b hb t ht
   cases o with
   | none=>
    cases e
    exact I1.done j W2 ρ H2 _ fs2 _ _ _ l2 r2' ap2 i2 e4 fun h' tk' r3=>hR W2 h' tk' C D oC2 m₂ ys (l1.trans l2) hC2 hv2 hl2 dfr cfr cd r3
   | some v=>
    obtain⟨va,vb,ev⟩:=I1.pair j H2 v e4
    subst ev
    refine I1.item j W2 ρ H2 _ fs2 _ _ _ va vb l2 r2' ap2 i2 e4 fun T h3 t3 go=>?_
    obtain⟨ρ3,e5,e⟩:=Zz0.mp e
    cases e5
    refine go _ _ _ _ _ _ rfl fun fs3 k3 y1 y2 i3 r3 htup w1 w2=>?_
    have a3:∀t∈fs3,t.1∈as:=fun t ht=>by
     rw[←I1.adr _ _ i3]
     exact List.mem_map_of_mem ht
    refine assign_Tuple_tuple (s:={ s with heap:=k3,toks:=t3 }) Γ.hh htup rfl rfl fun g₄ he=>?_
    have r3g:=r3.grown (h':=g₄) fun b o e=>he b o (Nat.ne_of_lt (Heap.lt_size e)) e
    have gC3:g₄.get? C=some oC2:=r3g.frAt (q:=(C,oC2)) (Zz3 _ Zz5)
    have nC3:g₄.Ns C m₂:=hC2.ns gC3
    refine assignInOrder_cons (wpAny_assign_Name (wpAny_storeName_local (lookup_relabel_local hx) nC3 (fun h5 hn5 sb5=>?_) (by simp[compEnvC,relabel,hkind])))
    refine assignInOrder_cons (wpAny_assign_Name (wpAny_storeName_local (lookup_relabel_local hx₂) hn5 (fun h4 hn4 sb4=>?_) (by simp[compEnvC,relabel,hkind])))
    refine assignInOrder_nil ?_
    obtain⟨oC4,gC4,nC4⟩:=ns_obj hn4
    have r3':Rep Γ W2 ρ H2 ([(C,oC2)]++((D,lst ys)::(fs3++fr))) g₄:=r3g.less fun q hq=>by
     rcases Zz8.mp hq with hq | hq
     ·rw[List.mem_singleton.mp hq]
      exact Zz3 _ Zz5
     ·rcases Zz7.mp hq with e | hq
      ·exact e▸List.mem_append_right _ (Zz2 _ Zz5)
      ·rcases Zz8.mp hq with hq | hq
       ·exact Zz4 _ hq
       ·exact Zz3 _ (Zz2 _ (Zz2 _ hq))
    have aC3:∀t∈(D,lst ys)::(fs3++fr),C≠t.1:=fun t ht=>by
     rcases Zz7.mp ht with e | ht
     ·rw[e]
      exact cd
     ·rcases Zz8.mp ht with ht | ht
      ·exact(offs _ (a3 t ht)).2.symm
      ·exact cfr t ht
    have aD3:∀t∈fs3++fr,D≠t.1:=fun t ht=>by
     rcases Zz8.mp ht with ht | ht
     ·exact(offs _ (a3 t ht)).1.symm
     ·exact dfr t ht
    have r4:Rep Γ W2 ρ H2 ([(C,oC4)]++((D,lst ys)::(fs3++fr))) h4:=by
     refine r3'.swap (fun q hq t ht=>?_) (fun b o hb e=>sb4.extBut b o (fun z=>hb (by simp[z,compEnvC])) (sb5.extBut b o (fun z=>hb (by simp[z,compEnvC])) e)) fun q hq=>?_
     ·rw[List.mem_singleton.mp hq]
      exact aC3 t ht
     ·rw[List.mem_singleton.mp hq]
      exact⟨gC4,by simp⟩
    have rc:=Zrj (scope:=scope) (cl:=cl) (ts:=[(x,t),(x₂,t₂)]) (ρ:=upd (upd ρ t va) t₂ vb) r4 aC3 nC4 (fun p hp=>by
     rcases Zz7.mp hp with e | hp
     ·rw[e]
      exact⟨va,y1,by simp[upd,htt],by simp[hxx],w1⟩
     ·rw[List.mem_singleton.mp hp]
      exact⟨vb,y2,by simp[upd],by simp,w2⟩) (fun i hi=>by
     have h1:i≠t:=fun e=>hi (x,t) Zz5 e.symm
     have h2:i≠t₂:=fun e=>hi (x₂,t₂) (Zz2 _ Zz5) e.symm
     simp[upd,h1,h2])
    exact Zqa (hel C ρ) aD3 cd l2 i3 hv2 rc e
 refine codeAny_compStart_list (loop _ rfl) ?_
 obtain⟨o0,ho0⟩:=hstart
 exact I1.self 0 W1 ρ H0 (([(C,oC)]++[(D,lst [])])++fr) fs _ _ _ o0 (.refl _) (rC.less fun q hq=>by
  rcases Zz8.mp hq with hq | hq
  ·exact Zz3 _ (Zz3 _ (Zz4 _ hq))
  ·rcases Zz8.mp hq with hq | hq
   ·rcases Zz8.mp hq with hq | hq
    ·exact Zz4 _ hq
    ·exact Zz3 _ (Zz4 _ hq)
   ·exact Zz3 _ (Zz3 _ (Zz3 _ hq))) i1 ho0 (loop _ rfl)
theorem Zxf{elt iter:Expr}{x x₂:Str}{px px₂ tp:Pos}{kt:Nat}{scope:Scope}{pos:Pos}{cl:List (Str×Addr)}{t t₂:Nat}{g:Src}{f:Ex}(hg:JI2 prog w Γ iter g)(hel:∀C ρ,J prog w (Za3 Γ scope cl C [(x,t),(x₂,t₂)] ρ) elt f)
  (hclos:closureFor scope Γ.env=pure cl) (hcell:∀y∈scope.names,y.2≠.cell) (hkind:scope.kind=.function) (hnames:∀y∈scope.names,y.2=.local→scope.names.lookup y.1=some .local) (hx:scope.names.lookup x=some .local) (hx₂:scope.names.lookup x₂=some .local) (hxx:x≠x₂) (htt:t≠t₂) (hs:∀x,foldedSetIterable iter Γ.env x=pure x:=by intro _;rfl):
  J prog w Γ (.ListComp elt [⟨.Tuple [.Name x px,.Name x₂ px₂] kt tp,iter,[],0⟩] scope pos) (ZbL g (Zdi t t₂) ZbP f):=by
 intro W ρ H fr s Q E v H' r hf post
 obtain⟨z,e1,hf⟩:=Zz0.mp hf
 obtain⟨q,e2,e3⟩:=Zz1.mp hf
 cases e3
 rw[eval_ListComp]
 refine wpAny_comprehension_free (use:=Option.none) rfl hs hclos hkind hnames ?_
 refine ZpA (RR:=fun acc C=>compPost (model prog w) Γ.A E Option.none Q acc C) hg hel hcell hkind hx hx₂ hxx htt r (q:=q) (by rw[e1];exact e2) fun W2 h' tk' C D oC m₂ ys l2 hC hv hl aD aC cd r3=>?_
 refine⟨m₂,hC.ns (r3.frAt (q:=(C,oC)) Zz5),fun h'' sb=>?_⟩
 obtain⟨W5,l5,r5,v5⟩:=ZqG hv hl aD aC cd r3 sb
 exact post W5 h'' tk' _ (l2.trans l5) r5 v5
end
end PM
end
section
namespace PM
open PySem PySem.W PySem.Calls PyProof.Rows PyProof PySem.Spec
theorem ZyE{prog:Program}{w:World}{A A₀:Around}{s:Shared}{base h₀:Heap}{L:Addr}{m:Str→Option Value}{lent:List (Addr×Obj)}{K:Frag}{p:Program}{loose:List Str}{mean:ExcName→Option Value}{mg mb:Str→Option Value}
  {env:Env} {outer:List Env} {R:Result→Shared→Prop} {name qual:Str} {params:Arguments} {body:List Stmt} {scope:Scope} {dV kV doc pm cdv ct oc:Value} {an od:Option Addr} {osl:Array (Option Value)} {f:Addr} {args:Args} {binds:List (Str×Value)}
  (B:Below A₀ base outer h₀) (F:Fr h₀ L s.heap m) (X₀:K.In h₀) (N:News h₀ L s.heap lent) (T:Top p loose mean mg mb h₀) (hA:A.frames=some (env::outer)) (hf:env.frame=some L) (hke:env.scope.kind=.function)
  (ho:K.lookup f=some ⟨oc,od,.func (fnOf name qual params body scope dV kV doc pm an cdv ct),osl⟩) (hcd:codeIn K cdv qual=true) (hroom:A.depth<recursionLimit)
  (hbind:BindsTo s (fnOf name qual params body scope dV kV doc pm an cdv ct) args binds) (hall:(binds.all fun y=>scope.names.lookup y.1 == some .local || scope.names.lookup y.1 == some .cell)=true) (hone:((cellsFrom 0 scope.names []).map (·.1)).Nodup)
  (h:∀g L' h₁ tk cells,(∀b o,s.heap.get? b=some o→b∉lent.map (·.1)→g.get? b=some o)→Fr g L' h₁ (bindL (envOfC qual scope L' f cdv).kindOf binds fun _=>none)→News g L' h₁ (cells++lent)→CellsAre (bindC (envOfC qual scope L' f cdv).kindOf binds fun _=>none) (cellsFrom (L'+1) scope.names []) cells →
   (cellsFrom (L'+1) scope.names []).Pairwise (fun x y=>x.2≠y.2)→(∀n c,(n,c)∈cellsFrom (L'+1) scope.names []→L'<c)→Below A base (env::outer) g→K.In g→Top p loose mean mg mb g→(∀q∈lent,q.1<L')→s.heap.objs.size≤L' →
   wpAny (model prog w) (A.deeper (envOfC qual scope L' f cdv)) (execs body (envOfC qual scope L' f cdv)) (fun fl s'=>LeaveK h₀ L m g R (match fl with | .ret v=>v | _=>.none) s')
    (fun e s'=>wpAny (model prog w) (A.deeper (envOfC qual scope L' f cdv)) (leaving (envOfC qual scope L' f cdv) e) (fun _ s''=>R (.error e) s'') (fun e' s''=>R (.error e') s'') s') { s with heap:=h₁,toks:=tk })
  (hco:scope.isCoroutine=false) (hgen:scope.isGenerator=false) (hk:scope.kind=.function):codeAny (model prog w) A (.call (.ref f) args) R s:=by
 obtain⟨FG,BG,st,lv⟩:=groundX (R:=R) B F N hA hf hke
 have X:=X₀.keeps F.keep
 refine codeAny_call_function (fd:=fnOf name qual params body scope dV kV doc pm an cdv ct) hroom (X _ _ ho) rfl hco hgen rfl (codeRec_of X hcd) (hbind _ _ _ _ ?_)
 refine wpAny_newFunctionEnv_cells hk (kindsX hall _) fun fresh hfr s' inC=>?_
 subst hfr
 have up:=inC.toInCall.keep
 refine⟨(T.nolimit.keeps F.keep).keeps up,codeAny_func ?_⟩
 obtain⟨h₁,tk,hs',_⟩:=inC.done
 subst hs'
 have nod:=cellsFrom_names scope.names 0 (s.heap.objs.size+1) [] [] rfl▸hone
 obtain⟨cells,NC,Y⟩:=Cl.news (h₀:=s.heap) (L:=s.heap.objs.size) (Zz10 _) fun n c hm=>⟨inC.cell n c (lookup_of_mem_nodup nod hm),inC.above n c hm⟩
 have old:∀q∈lent,q.1<s.heap.objs.size:=fun q hq=>Heap.lt_size (N q hq).1
 refine wpAny_mono (h _ s.heap.objs.size h₁ tk cells (fun b o e nb=>hideAll_get _ e nb) ⟨inC.toInCall.ns,fun b o e=>up b o (of_hideAll _ e),Nat.le_of_eq (hideAll_size _ _)⟩ (fun q hq=>?_) Y inC.apart inC.above BG (X₀.keeps st) (T.keeps st) old (Zz10 _)) (fun fl s' hl=>lv _ _ hl) fun _ _ y=>y
 rcases Zz8.mp hq with hq | hq
 ·obtain⟨c1,c2,c3⟩:=NC q hq
  refine⟨c1,c2,?_⟩
  cases e:(hideAll s.heap (lent.map (·.1))).get? q.1 with
  | none=>rfl
  | some o=>
   have z:=of_hideAll _ e
   rw[c3]at z
   cases z
 ·exact⟨up _ _ (N q hq).1,Nat.ne_of_lt (old q hq),hideAll_none _ (List.mem_map_of_mem hq)⟩
section
variable (prog:Program) (w:World) (K:Frag) (p:Program) (loose:List Str) (mean:ExcName→Option Value) (mg mb:Str→Option Value)
def Clr(Γ:Cx)(dp un:Nat): Prop:=∃(gd:Option (List Code)) (cn:Str) (cs:Scope) (a:Addr) (ccd:Value) (cl:List (Str×Addr)) (outer:List Env) (A₀:Around) (base:Heap),
 Γ.A=ktrTop dp un gd cn cs Γ.L a ccd cl outer∧Below A₀ base outer Γ.h₀∧K.In Γ.h₀∧Top p loose mean mg mb Γ.h₀∧cs.kind=.function
def Def(f:Addr)(room:Nat)(F:List V→Hp→Option (V×Hp)): Prop:=∀(Γ:Cx) (dp un:Nat),Clr K p loose mean mg mb Γ dp un→dp+room<recursionLimit→un+10*room+300<cLine →
 ∀(W:Wd) (ρ:Lc) (H:Hp) (fr:List (Addr×Obj)) (s:Shared) (Q E:Value→Shared→Prop) (as:List V) (xs:List Value) (v:V) (H':Hp),
  Rep Γ W ρ H fr s.heap→VRs W as xs→F as H=some (v,H')→ZiK Γ W ρ H' fr s Q v→wpAny (model prog w) Γ.A (call (.ref f) xs) Q E s
end
noncomputable def ZF(n:Nat)(g:Sm): List V→Hp→Option (V×Hp):=fun as H=>if as.length=n then(g (fun i=>as[i]?) H).map fun r=>((r.1.getD .none),r.2.2)else none
theorem ZvA{kindOf:Str→Option NameKind}: ∀{ps:List Str} {xs:List Value} {m:Str→Option Value} {x:Str} {i:Nat} {y:Value},ps.Nodup→ps[i]?=some x→xs[i]?=some y→kindOf x=some .local→bindL kindOf (ps.zip xs) m x=some y:=by
 have skip:∀{ps:List Str} {xs:List Value} {m:Str→Option Value} {x:Str},x∉ps→bindL kindOf (ps.zip xs) m x=m x:=by
  intro ps
  induction ps with
  | nil=>intro xs m x _;rfl
  | cons p ps ih=>
   intro xs m x hx
   cases xs with
   | nil=>rfl
   | cons z xs=>
    simp only[List.zip_cons_cons,bindL]
    rw[ih (fun h=>hx (Zz2 _ h))]
    have:x≠p:=fun e=>hx (e▸List.mem_cons_self)
    split <;> simp[this]
 intro ps
 induction ps with
 | nil=>intro xs m x i y _ h;simp at h
 | cons p ps ih=>
  intro xs m x i y nd hp hx hk
  cases xs with
  | nil=>simp at hx
  | cons z xs=>
   obtain⟨n1,n2⟩:=List.nodup_cons.mp nd
   cases i with
   | zero=>
    simp at hp hx
    subst hp hx
    simp only[List.zip_cons_cons,bindL]
    rw[skip n1,if_pos hk]
    simp
   | succ i=>
    simp at hp hx
    simp only[List.zip_cons_cons,bindL]
    exact ih n2 hp hx hk
theorem ZvB{kindOf:Str→Option NameKind}: ∀{ps:List Str} {xs:List Value} {m:Str→Option Value} {x:Str} {i:Nat} {y:Value},ps.Nodup→ps[i]?=some x→xs[i]?=some y→kindOf x=some .cell→bindC kindOf (ps.zip xs) m x=some y:=by
 have skip:∀{ps:List Str} {xs:List Value} {m:Str→Option Value} {x:Str},x∉ps→bindC kindOf (ps.zip xs) m x=m x:=by
  intro ps
  induction ps with
  | nil=>intro xs m x _;rfl
  | cons p ps ih=>
   intro xs m x hx
   cases xs with
   | nil=>rfl
   | cons z xs=>
    simp only[List.zip_cons_cons,bindC]
    rw[ih (fun h=>hx (Zz2 _ h))]
    have:x≠p:=fun e=>hx (e▸List.mem_cons_self)
    split <;> simp[this]
 intro ps
 induction ps with
 | nil=>intro xs m x i y _ h;simp at h
 | cons p ps ih=>
  intro xs m x i y nd hp hx hk
  cases xs with
  | nil=>simp at hx
  | cons z xs=>
   obtain⟨n1,n2⟩:=List.nodup_cons.mp nd
   cases i with
   | zero=>
    simp at hp hx
    subst hp hx
    simp only[List.zip_cons_cons,bindC]
    rw[skip n1,if_neg (by rw[hk];simp)]
    simp
   | succ i=>
    simp at hp hx
    simp only[List.zip_cons_cons,bindC]
    exact ih n2 hp hx hk
theorem Zih{cm:Str→Option Value}: ∀{cs:List (Str×Addr)} {cells:List (Addr×Obj)} {x:Str} {c:Addr},CellsAre cm cs cells→(x,c)∈cs→∃o,(c,o)∈cells∧o.data=.cell (cm x)
 | _,_,_,_,.nil,h=>nomatch h
 | _,_,_,_,.cons hd r,h=>by
  rcases Zz7.mp h with e | h
  ·cases e
   exact⟨_,List.mem_cons_self,hd⟩
  ·obtain⟨o,h1,h2⟩:=Zih r h
   exact⟨o,List.mem_cons_of_mem _ h1,h2⟩
theorem Zrl{cm:Str→Option Value}: ∀{cs:List (Str×Addr)} {cells:List (Addr×Obj)} {q:Addr×Obj},CellsAre cm cs cells→q∈cells→∃x,(x,q.1)∈cs
 | _,_,_,.nil,h=>nomatch h
 | _,_,_,.cons hd r,h=>by
  rcases Zz7.mp h with e | h
  ·cases e
   exact⟨_,List.mem_cons_self⟩
  ·obtain⟨x,h1⟩:=Zrl r h
   exact⟨x,List.mem_cons_of_mem _ h1⟩
theorem Zdq{α β:Type}[BEq α][LawfulBEq α]: ∀{l:List (α×β)} {x:α} {y:β},l.lookup x=some y→(x,y)∈l
 | [],_,_,h=>by simp at h
 | (a,b)::r,x,y,h=>by
  rw[List.lookup_cons]at h
  split at h
  ·rename_i e
   cases h
   have:=eq_of_beq e
   subst this
   exact Zz5
  ·exact Zz2 _ (Zdq h)
end PM
end
section
namespace PM
open PySem PySem.W PySem.Calls PyProof.Rows PyProof PySem.Spec
section
variable {prog:Program} {w:World} {K:Frag} {p:Program} {loose:List Str} {mean:ExcName→Option Value} {mg mb:Str→Option Value}
theorem Zr0{name qual:Str}{params:Arguments}{body:List Stmt}{scope:Scope}{dV kV doc pm cdv ct oc:Value}{an od:Option Addr}{osl:Array (Option Value)}{f:Addr}{names:List Str}{n room:Nat}{g:Sm}
  (ho:K.lookup f=some ⟨oc,od,.func (fnOf name qual params body scope dV kV doc pm an cdv ct),osl⟩) (hcd:codeIn K cdv qual=true) (nd:names.Nodup) (hn:n≤names.length)
  (hbind:∀s xs,xs.length=n→BindsTo s (fnOf name qual params body scope dV kV doc pm an cdv ct) ⟨xs,[]⟩ ((names.take n).zip xs)) (hkinds:∀x∈names.take n,scope.names.lookup x=some .local∨scope.names.lookup x=some .cell) (hone:((cellsFrom 0 scope.names []).map (·.1)).Nodup)
  (hco:scope.isCoroutine=false) (hgen:scope.isGenerator=false) (hk:scope.kind=.function)
  (hbody:∀(dp un:Nat) (gd:Option (List Code)) (L:Addr) (outer:List Env) (h₀:Heap) (hu:un+200<cLine),Clr K p loose mean mg mb (Zbv dp un gd qual scope L f cdv (cellsFrom (L+1) scope.names []) outer h₀ hu names) dp un→dp+room<recursionLimit→un+10*room+300<cLine →
   Ss prog w (Zbv dp un gd qual scope L f cdv (cellsFrom (L+1) scope.names []) outer h₀ hu names) body g):
  Def prog w K p loose mean mg mb f (room+1) (ZF n g):=by
 intro Γ dp un clr hd hu W ρ H fr s Q E as xs v H' r hx hF post
 obtain⟨gd,cn,cs,a,ccd,cl,outer,A₀,base,eA,B,X,T,hke⟩:=clr
 unfold ZF at hF
 split at hF
 ·rename_i hlen
  obtain⟨res,e1,e2⟩:=Zz1.mp hF
  obtain⟨o,ρ',K'⟩:=res
  cases e2
  obtain⟨m,c,led,r⟩:=r
  have hxl:xs.length=n:=by rw[hx.length,hlen]
  have inn:∀q∈led,(q.1∈W.pi∨q.1∈W.tups.map (·.1))↔q∈led.filter (fun q=>decide (q.1∈W.pi∨q.1∈W.tups.map (·.1))):=fun q hq=>⟨fun h=>List.mem_filter.mpr ⟨hq,by simpa using h⟩,fun h=>by simpa using (List.mem_filter.mp h).2⟩
  have isub:∀q∈led.filter (fun q=>decide (q.1∈W.pi∨q.1∈W.tups.map (·.1))),q∈led:=fun q hq=>(List.mem_filter.mp hq).1
  generalize hlent:led.filter (fun q=>decide (q.1∈W.pi∨q.1∈W.tups.map (·.1)))=lent at inn isub
  have notin:∀q∈led,q.1∉W.pi→(∀t∈W.tups,q.1≠t.1)→q.1∉lent.map (·.1):=fun q hq h1 h2 h3=>by
   obtain⟨t,ht,e⟩:=Zz11.mp h3
   rcases(inn t (isub t ht)).mpr ht with z | z
   ·exact h1 (e▸z)
   ·obtain⟨u,hu,e'⟩:=Zz11.mp z
    exact h2 u hu (e▸e'.symm)
  rw[eA]
  refine wpAny_call ?_
  refine ZyE (env:=envX cn cs Γ.L a ccd cl) (lent:=lent) B r.F X (fun q hq=>r.N q (isub q hq)) T rfl rfl hke ho hcd (by show dp<recursionLimit;omega) (hbind s xs hxl) ?_ hone ?_ hco hgen hk
  ·refine List.all_eq_true.mpr fun y hy=>?_
   rcases hkinds y.1 (List.of_mem_zip hy).1 with h | h <;> simp[h]
  intro g0 L' h₁ tk cells stay F' N' Y ap ab B' X' T' old szL
  have hu':(un+3)+200<cLine:=by omega
  have clr':Clr K p loose mean mg mb (Zbv (dp+1) (un+3) gd qual scope L' f cdv (cellsFrom (L'+1) scope.names []) (envX cn cs Γ.L a ccd cl::outer) g0 hu' names) (dp+1) (un+3):=
   ⟨gd,qual,scope,f,cdv,cellsFrom (L'+1) scope.names [],envX cn cs Γ.L a ccd cl::outer,_,base,rfl,B',X',T',hk⟩
  have below:∀q∈cells,L'<q.1:=fun q hq=>by
   obtain⟨x,hx⟩:=Zrl Y hq
   exact ab x _ hx
  have piLt:∀b∈W.pi,b<L':=fun b hb=>by
   obtain⟨o,ho⟩:=r.piIn b hb
   exact Nat.lt_of_lt_of_le (Heap.lt_size (r.get ho)) szL
  have tuLt:∀t∈W.tups,t.1<L':=fun t ht=>Nat.lt_of_lt_of_le (Heap.lt_size (r.get (r.R.tups t ht))) szL
  have scN:W.sc.1∉lent.map (·.1):=fun z=>by
   obtain⟨t,ht,e⟩:=Zz11.mp z
   exact r.notSc t (isub t ht) e
  have tkn:∀{i:Nat} {x:Str} {u:V},names[i]?=some x→as[i]?=some u→(names.take n)[i]?=some x∧∃y,xs[i]?=some y∧VR W u y:=fun {i x u} h1 h2=>by
   have hi:i<n:=by rw[←hlen];exact(Zz6.mp h2).1
   exact⟨by rw[List.getElem?_take_of_lt hi];exact h1,hx.at h2⟩
  have ndt:(names.take n).Nodup:=nd.sublist (List.take_sublist _ _)
  have rep:Rep (Zbv (dp+1) (un+3) gd qual scope L' f cdv (cellsFrom (L'+1) scope.names []) (envX cn cs Γ.L a ccd cl::outer) g0 hu' names) W (fun i=>as[i]?) H [] h₁:=by
   refine⟨_,cells,cells++lent,⟨F',N',⟨r.R.len,r.R.nd,fun i vs e=>?_,fun q hq=>?_,r.R.kind⟩,stay _ _ (r.F.keep _ _ r.sc) scN,r.sc0,fun q hq=>(nomatch hq),fun q hq=>(nomatch hq),fun q hq=>List.mem_append_left _ hq,fun q hq z=>?_,fun q _ t ht=>(nomatch ht),fun q hq=>(nomatch hq),fun q hq t ht=>?_,⟨fun i x u hi hk1 hu1=>?_,fun i x u hi hk1 hu1=>?_,fun x c1 hc=>?_,fun x y c1 h1 h2=>?_⟩⟩⟩
   ·obtain⟨l,b,ys,k,h1,h2,h3⟩:=r.R.lists i vs e
    exact⟨l,b,ys,k,h1,Zee h2 fun z=>List.mem_append_right _ ((inn _ z).mp (.inl (List.mem_of_getElem? h1))),h3⟩
   ·exact Zee (r.R.tups q hq) fun z=>List.mem_append_right _ ((inn _ z).mp (.inr (List.mem_map_of_mem hq)))
   ·exact absurd (Nat.lt_trans (piLt _ z) (below q hq)) (Nat.lt_irrefl _)
   ·exact Nat.ne_of_gt (Nat.lt_trans (tuLt t ht) (below q hq))
   ·obtain⟨h1,y,h2,h3⟩:=tkn hi hu1
    exact⟨y,ZvA ndt h1 h2 hk1,h3⟩
   ·obtain⟨h1,y,h2,h3⟩:=tkn hi hu1
    have hs:=cellsFrom_some scope.names (L'+1) [] (.inl hk1)
    obtain⟨c1,hc1⟩:=Option.isSome_iff_exists.mp hs
    obtain⟨o1,ho1,hd1⟩:=Zih Y (Zdq hc1)
    refine⟨c1,o1,y,hc1,ho1,?_,h3⟩
    rw[hd1,ZvB ndt h1 h2 hk1]
   ·obtain⟨o1,ho1,hd1⟩:=Zih Y (Zdq hc)
    exact⟨o1,_,ho1,hd1⟩
   ·exact name_of_addr ap (Zdq h1) (Zdq h2)
  have hb:=hbody (dp+1) (un+3) gd L' (envX cn cs Γ.L a ccd cl::outer) g0 hu' clr' (by omega) (by omega)
  have back:∀(W':Wd) (h':Heap) (tk':Nat) (x:Value),W.Le W'→Rep (Zbv (dp+1) (un+3) gd qual scope L' f cdv (cellsFrom (L'+1) scope.names []) (envX cn cs Γ.L a ccd cl::outer) g0 hu' names) W' ρ' K' [] h'→VR W' (o.getD .none) x →
    LeaveK Γ.h₀ Γ.L m g0 (fun r s'=>match r with | .ok (.ret v)=>Q v s' | .ok _=>False | .error e=>E e s') x { s with heap:=h',toks:=tk' }:=by
   intro W' h' tk' x l' r' x'
   obtain⟨m',c',led',r'⟩:=r'
   refine⟨L',m',led',r'.F,r'.N,fun FG NG=>post W' h' tk' x l' ?_ x'⟩
   have g0at:∀q∈led,q.1∉lent.map (·.1)→g0.get? q.1=some q.2:=fun q hq hn=>stay _ _ (r.N q hq).1 hn
   have frN:∀q∈fr,q.1∉lent.map (·.1):=fun q hq=>notin q (r.frIn q hq) (r.frOff q hq) (r.frTup q hq)
   have clN:∀q∈c,q.1∉lent.map (·.1):=fun q hq=>notin q (r.clIn q hq) (r.clOff q hq) (r.clTup q hq)
   have newN:∀t∈led',g0.get? t.1=none:=fun t ht=>(r'.N t ht).2.2
   have far:∀q∈led,q.1∉lent.map (·.1)→∀t∈W'.sc::led',q.1≠t.1:=fun q hq hn t ht e=>by
    rcases Zz7.mp ht with e2 | ht
    ·rw[e2,l'.sc]at e
     exact r.notSc q hq e
    ·have:=g0at q hq hn
     rw[e,newN t ht]at this
     cases this
   have farPi:∀q∈led,q.1∉lent.map (·.1)→q.1∉W'.pi:=fun q hq hn z=>by
    obtain⟨o2,h2⟩:=r'.piIn _ z
    exact far q hq hn _ h2 rfl
   have keep:∀q∈led,q.1∉lent.map (·.1)→q∈led'++led.filter (fun q=>decide (q.1∉lent.map (·.1))):=fun q hq hn=>List.mem_append_right _ (List.mem_filter.mpr ⟨hq,by simpa using hn⟩)
   refine⟨m,c,led'++led.filter (fun q=>decide (q.1∉lent.map (·.1))),⟨FG,fun q hq=>?_,r'.R.mono fun q hq=>Zf6 hq fun x hx=>List.mem_append_left _ hx,l'.sc▸r.sc,r'.sc0,fun q hq=>keep q (r.frIn q hq) (frN q hq),fun q hq=>farPi q (r.frIn q hq) (frN q hq),fun q hq=>keep q (r.clIn q hq) (clN q hq),fun q hq=>farPi q (r.clIn q hq) (clN q hq),r.apart,fun q hq t ht=>far q (r.frIn q hq) (frN q hq) t (r'.R.tups t ht),fun q hq t ht=>far q (r.clIn q hq) (clN q hq) t (r'.R.tups t ht),Γ.mono l' r.own⟩⟩
   rcases Zz8.mp hq with hq | hq
   ·exact NG q hq
   ·obtain⟨h1,h2⟩:=List.mem_filter.mp hq
    exact⟨r'.F.keep _ _ (g0at q h1 (by simpa using h2)),(r.N q h1).2⟩
  refine hb W _ H [] _ _ _ (o,ρ',K') rep e1 ?_
  cases o with
  | none=>exact fun W' h' tk' l' r'=>back W' h' tk' .none l' r' .none
  | some v0=>exact fun W' h' tk' x l' r' x'=>back W' h' tk' x l' r' x'
 ·cases hF
theorem Zxg{Γ:Cx}{dp un:Nat}{x:Str}{np pos:Pos}{f:Addr}{room:Nat}{e:Expr}{es:List Expr}{g:Exs}{o:List V→Hp→Option (V×Hp)}(clr:Clr K p loose mean mg mb Γ dp un)(hn:Nm prog w Γ x (.ref f))(hkeep:keepIn K (.ref f)=true)(D:Def prog w K p loose mean mg mb f room o)(hd:dp+room<recursionLimit)(hu:un+10*room+300<cLine)
  (h:Js prog w Γ (e::es) g) (he:starEach (e::es) Γ.env=(false,eval e Γ.env)::starEach es Γ.env:=by rfl) (hp:∀pos,(backTo pos (starEach es Γ.env)).any (·.1)=false:=by intro _;rfl):J prog w Γ (.Call (.Name x np) (e::es) [] pos) (ZU o g):=by
 intro W ρ H fr s Q E v H' r hf post
 obtain⟨q,e1,hf⟩:=Zz0.mp hf
 have X:K.In Γ.h₀:=by
  obtain⟨_,_,_,_,_,_,_,_,_,_,_,X,_⟩:=clr
  exact X
 refine wpAny_Call_ofName (hn.use r ?_)
 refine callWith_K (first:=[]) X hkeep (h pos W ρ H fr s _ E _ _ r e1 fun W1 k1 t1 xs l1 r1 x1=>⟨?_,?_⟩) he (hp pos)
 ·obtain⟨m,c,led,r1⟩:=r1
  exact X.keeps r1.F.keep
 ·exact D Γ dp un clr hd hu W1 ρ _ fr _ Q E _ xs v H' r1 x1 hf fun W2 k2 t2 y l2 r2 y2=>post W2 k2 t2 y (l1.trans l2) r2 y2
theorem Zbh{Γ:Cx}{dp un:Nat}{scope:Scope}{cl:List (Str×Addr)}{C:Addr}{ts:List (Str×Nat)}{ρ0:Lc}(h:Clr K p loose mean mg mb Γ dp un): Clr K p loose mean mg mb (Za3 Γ scope cl C ts ρ0) dp un:=h
end
end PM
end
section
namespace PM
open PySem PySem.W PySem.Calls PyProof.Rows PyProof PySem.Spec
theorem Zk9{lo:Nat}: ∀(names:List (Str×NameKind)) (n:Nat) (acc:List (Str×Addr)),acc.Pairwise (fun x y=>x.2≠y.2)→(∀q∈acc,lo<q.2∧q.2<n)→lo<n→(cellsFrom n names acc).Pairwise (fun x y=>x.2≠y.2)∧∀q∈cellsFrom n names acc,lo<q.2
 | [],n,acc,h1,h2,_=>⟨h1,fun q hq=>(h2 q hq).1⟩
 | (y,k)::r,n,acc,h1,h2,h3=>by
  unfold cellsFrom
  by_cases hk:(k == .cell)=true
  ·rw[if_pos hk]
   refine Zk9 r (n+1) ((y,n)::acc) (List.pairwise_cons.mpr ⟨fun q hq=>Nat.ne_of_gt (h2 q hq).2,h1⟩) (fun q hq=>?_) (Nat.lt_succ_of_lt h3)
   rcases Zz7.mp hq with e | hq
   ·rw[e]
    exact⟨h3,Nat.lt_succ_self n⟩
   ·exact⟨(h2 q hq).1,Nat.lt_succ_of_lt (h2 q hq).2⟩
  ·rw[if_neg hk]
   exact Zk9 r n acc h1 h2 h3
theorem ZvC{P:Params}{h:Heap}{a:Addr}{ns:List Int}(w1:Well P h (.ref a) (ofPy (.list (ns.map PyData.int))))(W:Wd): ∃vs,h.get? a=some (ZbB vs 0)∧VRs W (ns.map V.int) vs:=by
 have key:∀{ns:List Int} {vs:List Value} {xs:List WData},xs=(ns.map PyData.int).map ofPy→WellAll P h vs xs→VRs W (ns.map V.int) vs:=by
  intro ns
  induction ns with
  | nil=>intro vs xs e h;subst e;cases h;exact .nil
  | cons n ns ih=>
   intro vs xs e h
   subst e
   cases h with
   | cons h1 h2=>
    cases h1 with
    | int i t=>exact .cons (.int _ _) (ih rfl h2)
 have e:ofPy (.list (ns.map PyData.int))=.list ((ns.map PyData.int).map ofPy):=by rw[ofPy,ofPys_eq]
 rw[e]at w1
 cases w1 with
 | list hg ha=>exact⟨_,hg,key rfl ha⟩
section
variable {prog:Program} {w:World} {K:Frag} {p:Program} {loose:List Str} {mean:ExcName→Option Value} {mg mb:Str→Option Value}
theorem Zxh{P:Params}{h₀:Heap}{s:Shared}{sa fa:Addr}{cd:Value}{ns:List Int}{qual pname:Str}{scope:Scope}{body:List Stmt}{names:List Str}{g:Sm}{cells:List (Addr×Obj)}{Q:Flow→Shared→Prop}{E:Value→Shared→Prop}{room:Nat}{H':Hp}
  (hbody:∀(dp un:Nat) (gd:Option (List Code)) (L a:Addr) (ccd:Value) (outer:List Env) (h₀:Heap) (hu:un+200<cLine),Clr K p loose mean mg mb (Zbv dp un gd qual scope L a ccd (cellsFrom (L+1) scope.names []) outer h₀ hu names) dp un→dp+room<recursionLimit→un+10*room+300<cLine →
   Ss prog w (Zbv dp un gd qual scope L a ccd (cellsFrom (L+1) scope.names []) outer h₀ hu names) body g)
  (hd:callerA.depth+1+room<recursionLimit) (hun:callerA.units+3+10*room+300<cLine) (hk:scope.kind=.function) (h0:names[0]?=some pname)
  (KX:K.In h₀) (T:Top p loose mean mg mb h₀) (w1:Well P h₀ (.ref sa) (ofPy (.list (ns.map PyData.int)))) (hlen:ns.length≤LEN)
  (F:Fr h₀ h₀.objs.size s.heap (bindL (envOfC qual scope h₀.objs.size fa cd).kindOf [(pname,.ref sa)] fun _=>none)) (N:News h₀ h₀.objs.size s.heap cells) (X0:CellsAre (bindC (envOfC qual scope h₀.objs.size fa cd).kindOf [(pname,.ref sa)] fun _=>none) (cellsFrom (h₀.objs.size+1) scope.names []) cells)
  (hg:ZF 1 g [.ref 0] [ns.map V.int]=some (.bool true,H')) (post:∀h' tk' m',Fr h₀ h₀.objs.size h' m'→Q (.ret (.bool true)) { s with heap:=h',toks:=tk' }):
  wpAny (model prog w) (callerA.deeper (envOfC qual scope h₀.objs.size fa cd)) (execs body (envOfC qual scope h₀.objs.size fa cd)) Q E s:=by
 have hu':(callerA.units+3)+200<cLine:=by omega
 have clr:Clr K p loose mean mg mb (Zbv (callerA.depth+1) (callerA.units+3) callerA.guards qual scope h₀.objs.size fa cd (cellsFrom (h₀.objs.size+1) scope.names []) [] h₀ hu' names) (callerA.depth+1) (callerA.units+3):=
  ⟨callerA.guards,qual,scope,fa,cd,cellsFrom (h₀.objs.size+1) scope.names [],[],_,_,rfl,below_caller h₀,KX,T,hk⟩
 have hb:=hbody (callerA.depth+1) (callerA.units+3) callerA.guards h₀.objs.size fa cd [] h₀ hu' clr hd hun
 obtain⟨vs,hsc,hv⟩:=ZvC w1 ⟨[sa],[],(sa,ZbB [] 0)⟩
 have hv':VRs ⟨[sa],[],(sa,ZbB vs 0)⟩ (ns.map V.int) vs:=by
  clear hg post w1 hlen hsc
  generalize ns.map V.int=us at hv
  have key:∀{us:List V} {xs:List Value},VRs ⟨[sa],[],(sa,ZbB [] 0)⟩ us xs→VRs ⟨[sa],[],(sa,ZbB vs 0)⟩ us xs:=by
   intro us
   induction us with
   | nil=>intro xs h;cases h;exact .nil
   | cons u us ih=>
    intro xs h
    cases h with
    | cons a b=>
     refine .cons ?_ (ih b)
     cases a with
     | none=>exact .none
     | bool b=>exact .bool b
     | int i t=>exact .int i t
     | str s t=>exact .str s t
     | tup hm _ _=>exact nomatch hm
     | ref e=>exact .ref e
  exact key hv
 have far:=Zk9 (lo:=h₀.objs.size) scope.names (h₀.objs.size+1) [] .nil (fun q hq=>nomatch hq) (Nat.lt_succ_self _)
 unfold ZF at hg
 rw[if_pos (show([V.ref 0]:List V).length=1 from rfl)]at hg
 obtain⟨res,e1,e2⟩:=Zz1.mp hg
 obtain⟨o,ρ',K'⟩:=res
 have eo:o=some (.bool true):=by
  cases o with
  | none=>simp at e2
  | some v=>simp at e2;rw[e2.1]
 subst eo
 have pick:∀{i:Nat} {x:Str} {u:V},names[i]?=some x→([V.ref 0]:List V)[i]?=some u→x=pname∧u=.ref 0:=fun {i x u} h1 h2=>by
  have hi:i<1:=(Zz6.mp h2).1
  have:i=0:=by omega
  subst this
  rw[h0]at h1
  simp at h1 h2
  exact⟨h1.symm,h2.symm⟩
 have rep:Rep (Zbv (callerA.depth+1) (callerA.units+3) callerA.guards qual scope h₀.objs.size fa cd (cellsFrom (h₀.objs.size+1) scope.names []) [] h₀ hu' names) ⟨[sa],[],(sa,ZbB vs 0)⟩ (fun i=>[V.ref 0][i]?) [ns.map V.int] [] s.heap:=by
  refine⟨_,cells,cells,⟨F,N,⟨rfl,by simp,fun i us e=>?_,fun q hq=>(nomatch hq),fun q hq=>(nomatch hq)⟩,hsc,rfl,fun q hq=>(nomatch hq),fun q hq=>(nomatch hq),fun q hq=>hq,fun q hq z=>?_,fun q _ t ht=>(nomatch ht),fun q hq=>(nomatch hq),fun q hq t ht=>(nomatch ht),⟨fun i x u hi hk1 hu1=>?_,fun i x u hi hk1 hu1=>?_,fun x c1 hc=>?_,fun x y c1 h1 h2=>?_⟩⟩⟩
  ·have hi:i<1:=(Zz6.mp e).1
   have:i=0:=by omega
   subst this
   simp at e
   subst e
   exact⟨by simpa using hlen,sa,vs,0,rfl,List.mem_cons_self,hv'⟩
  ·have:=(N q hq).2.2
   rw[List.mem_singleton.mp z,hsc]at this
   cases this
  ·obtain⟨e3,e4⟩:=pick hi hu1
   subst e3 e4
   refine⟨.ref sa,?_,.ref rfl⟩
   show bindL _ _ _ _=_
   unfold bindL bindL
   rw[if_pos (show(envOfC qual scope h₀.objs.size fa cd).kindOf x=some .local from hk1)]
   simp
  ·obtain⟨e3,e4⟩:=pick hi hu1
   subst e3 e4
   have hs:=cellsFrom_some scope.names (h₀.objs.size+1) [] (.inl hk1)
   obtain⟨c1,hc1⟩:=Option.isSome_iff_exists.mp hs
   obtain⟨o1,ho1,hd1⟩:=Zih X0 (Zdq hc1)
   refine⟨c1,o1,.ref sa,hc1,ho1,?_,.ref rfl⟩
   rw[hd1]
   unfold bindC bindC
   rw[if_neg (show ¬(envOfC qual scope h₀.objs.size fa cd).kindOf x=some .local by show ¬scope.names.lookup x=some .local;rw[hk1];simp)]
   simp
  ·obtain⟨o1,ho1,hd1⟩:=Zih X0 (Zdq hc)
   exact⟨o1,_,ho1,hd1⟩
  ·exact name_of_addr far.1 (Zdq h1) (Zdq h2)
 refine hb _ _ _ [] s Q E _ rep e1 ?_
 intro W' h' tk' x l' r' x'
 cases x' with
 | bool _=>
  obtain⟨m',c',led',r'⟩:=r'
  exact post h' tk' m' r'.F
end
end PM
end
section
namespace PM
open PySem PySem.W PySem.Calls PyProof.Rows PyProof PyProof.Rows.LCg PyProof.Rows.LSm
theorem Rep.listAt{Γ:Cx}{W:Wd}{ρ:Lc}{H:Hp}{fr:List (Addr×Obj)}{h h':Heap}{vs:List V}{xs:List Value}{k:Nat}(r:Rep Γ W ρ H fr h)(up:∀b o,h.get? b=some o→h'.get? b=some o)(hg:h'.get? h.objs.size=some (ZbB xs k))(hv:VRs W vs xs)(hl:vs.length≤LEN):
  ∃W',W.Le W'∧Rep Γ W' ρ (H++[vs]) fr h'∧VR W' (.ref H.length) (.ref h.objs.size):=by
 obtain⟨r2,ap⟩:=r.more (fs:=[(h.objs.size,ZbB xs k)]) up (fun q hq=>by rw[List.mem_singleton.mp hq];exact⟨hg,Nat.le_refl _⟩)
 exact ZhM r2 (fun t ht=>ap _ Zz5 t ht) hv hl
noncomputable def ZeM: List V→Hp→Option (V×Hp)
 | [.ref a],H=>H[a]?.map fun vs=>(.ref H.length,H++[vs])
 | [.tup vs],H=>some (.ref H.length,H++[vs])
 | _,_=>none
noncomputable def ZfJ: List V→Hp→Option (V×Hp)
 | [.ref a],H=>H[a]?.map fun vs=>(.tup vs,H)
 | [.tup vs],H=>some (.tup vs,H)
 | _,_=>none
noncomputable def ZfK: List V→Option (List Bool)
 | []=>some []
 | .bool b::vs=>(ZfK vs).map fun bs=>b::bs
 | _::_=>none
noncomputable def ZAL: List V→Hp→Option (V×Hp)
 | [.ref a],H=>H[a]?.bind fun vs=>(ZfK vs).map fun bs=>(.bool (bs.all id),H)
 | _,_=>none
noncomputable def ZkN: List V→Hp→Option (V×Hp)
 | [.ref a],H=>H[a]?.bind fun vs=>(ZfK vs).map fun bs=>(.bool (bs.any id),H)
 | _,_=>none
theorem Zur{W:Wd}: ∀{vs:List V} {xs:List Value} {bs:List Bool},VRs W vs xs→ZfK vs=some bs→BoolsAre xs bs:=by
 intro vs
 induction vs with
 | nil=>intro xs bs h e;cases h;cases e;exact .nil
 | cons v vs ih=>
  intro xs bs h e
  cases h with
  | cons a b=>
   cases v with
   | bool c=>
    obtain⟨cs,e1,e2⟩:=Zz1.mp e
    subst e2
    cases a
    exact .cons _ (ih b e1)
   | none=>cases e
   | int _=>cases e
   | str _=>cases e
   | tup _=>cases e
   | ref _=>cases e
section
variable {prog:Program} {w:World}
theorem ZfC: OpN prog w (fun xs=>call (.type "list") xs) ZeM:=by
 intro Γ W ρ H fr s Q E as xs v H' r hx ho post
 unfold ZeM at ho
 split at ho
 ·obtain⟨vs,e1,e2⟩:=Zz1.mp ho
  cases e2
  obtain⟨x,ex,rx⟩:=hx.one
  subst ex
  cases rx with
  | @ref _ a ea=>
   obtain⟨hl,ys,k,hg,hv⟩:=r.at e1 ea
   refine call_list_seq (hsz:=ZcD (by rw[List.size_toArray,hv.length];exact hl)) a (.inl rfl) hg rfl rfl fun h' c' up hg'=>?_
   obtain⟨W2,l2,r2,v2⟩:=r.listAt up hg' hv hl
   exact post W2 h' s.toks _ l2 r2 v2
 ·cases ho
  obtain⟨x,ex,rx⟩:=hx.one
  subst ex
  cases rx with
  | @tup _ a ys k hm hl hv=>
   refine call_list_seq (hsz:=ZcD (by rw[List.size_toArray,hv.length];exact hl)) a (.inr rfl) (r.tupAt hm) rfl rfl fun h' c' up hg'=>?_
   obtain⟨W2,l2,r2,v2⟩:=r.listAt up hg' hv hl
   exact post W2 h' s.toks _ l2 r2 v2
 ·cases ho
theorem ZvD: OpN prog w (fun xs=>call (.type "tuple") xs) ZfJ:=by
 intro Γ W ρ H fr s Q E as xs v H' r hx ho post
 unfold ZfJ at ho
 split at ho
 ·obtain⟨vs,e1,e2⟩:=Zz1.mp ho
  cases e2
  obtain⟨x,ex,rx⟩:=hx.one
  subst ex
  cases rx with
  | @ref _ a ea=>
   obtain⟨hl,ys,k,hg,hv⟩:=r.at e1 ea
   have isl:s.heap.IsList a ys.toArray:=⟨_,hg,rfl,k,rfl⟩
   refine call_tuple_list isl (fun h' up=>?_) (ZcD (by rw[List.size_toArray,hv.length];exact hl))
   obtain⟨W2,l2,r2,v2⟩:=(r.grown up).tuple (k:=0) hv hl
   exact post W2 _ s.toks _ l2 r2 v2
 ·cases ho
  obtain⟨x,ex,rx⟩:=hx.one
  subst ex
  cases rx with
  | @tup _ a ys k hm hl hv=>
   have it:IsTup s.heap a ys.toArray:=⟨_,r.tupAt hm,rfl,k,rfl⟩
   exact call_tuple_tup it (post W s.heap s.toks _ (.refl W) r (.tup hm hl hv))
 ·cases ho
theorem ZyF: OpN prog w (fun xs=>call (.builtin "any") xs) ZkN:=by
 intro Γ W ρ H fr s Q E as xs v H' r hx ho post
 unfold ZkN at ho
 split at ho
 ·obtain⟨vs,e1,e2⟩:=Zz0.mp ho
  obtain⟨bs,e3,e4⟩:=Zz1.mp e2
  cases e4
  obtain⟨x,ex,rx⟩:=hx.one
  subst ex
  cases rx with
  | @ref _ a ea=>
   obtain⟨hl,ys,k,hg,hv⟩:=r.at e1 ea
   have isl:s.heap.IsList a ys.toArray:=⟨_,hg,rfl,k,rfl⟩
   obtain⟨m,c,led,r'⟩:=r
   exact any_bools r'.F r'.N Γ.hh isl (Zur hv e3) fun h' tk F' N'=>post W h' tk _ (.refl W) (r'.same F' N') (.bool _)
 ·cases ho
end
section
variable {prog:Program} {w:World} {K:Frag} {p:Program} {loose:List Str} {mean:ExcName→Option Value} {mg mb:Str→Option Value} {Γ:Cx} {dp un:Nat}
theorem ZyG{x:Str}{v:Value}(clr:Clr K p loose mean mg mb Γ dp un)(e:nsIn K mainGlobals x=some (some v))(hg:Γ.env.globals=mainGlobals)(hk:Γ.env.scope.kind=.function)(hx:Γ.env.kindOf x=some .globalImplicit)(hd:(x == ("__debug__":Str))=false): Nm prog w Γ x v:=by
 obtain⟨_,_,_,_,_,_,_,_,_,_,_,X,T,_⟩:=clr
 intro pos m s Q E F q
 exact Name_function_global hk hx (loadGlobal_global (env:=Γ.env) (by rw[hg];exact T.g.keeps F.keep) (mg_of X T.g e) q) hd
theorem Zwm{x:Str}{v:Value}(clr:Clr K p loose mean mg mb Γ dp un)(e:nsIn K mainGlobals x=some none)(hv:bootBuiltins x=some v)(hn:x≠"__name__")(hg:Γ.env.globals=mainGlobals)(hb:Γ.env.builtins=builtinsNs)(hk:Γ.env.scope.kind=.function)(hx:Γ.env.kindOf x=some .globalImplicit)(hd:(x == ("__debug__":Str))=false): Nm prog w Γ x v:=by
 obtain⟨_,_,_,_,_,_,_,_,_,_,_,X,T,_⟩:=clr
 intro pos m s Q E F q
 exact Name_function_global hk hx (loadGlobal_builtin (env:=Γ.env) (by rw[hg];exact T.g.keeps F.keep) (mg_none_of X T.g e) (by rw[hb];exact T.b.keeps F.keep) ((T.builtins x hn).trans hv) q) hd
end
section
variable {prog:Program} {w:World} {Γ:Cx} {scope:Scope} {cl:List (Str×Addr)} {C:Addr} {ts:List (Str×Nat)} {ρ0:Lc}
theorem Zxi{x:Str}{t:Nat}(hm:(x,t)∈ts)(hk:scope.kind=.function)(hl:(compEnvC scope cl C Γ.env).kindOf x=some .local)(hd:(x == ("__debug__":Str))=false): Rd prog w (Za3 Γ scope cl C ts ρ0) x t:=by
 intro W ρ H fr s Q E v pos r e q
 obtain⟨m,c,led,r⟩:=r
 obtain⟨oC,m₂,cs,ec,h0,h1,h2,h3,h4⟩:=r.own
 obtain⟨v',y,e1,e2,e3⟩:=h2 _ hm
 rw[e]at e1
 cases e1
 exact LCgL.ld_own r.N (r.clIn _ (by rw[ec];exact Zz5)) h1 e2 (q y e3) hk hl hd
end
section
variable {prog:Program} {w:World} {dp un:Nat} {gd:Option (List Code)} {cn:Str} {cs:Scope} {L a:Addr} {ccd:Value} {clf:List (Str×Addr)} {outer:List Env} {h₀:Heap} {hu:un+200<cLine} {names:List Str} {scope:Scope} {cl:List (Str×Addr)} {C:Addr} {ts:List (Str×Nat)} {ρ0:Lc}
theorem Zxj{x:Str}{i:Nat}(hi:names[i]?=some x)(hx:cs.names.lookup x=some .cell)(hne:∀p∈ts,p.2≠i)(hcl:cl.lookup x=clf.lookup x)(hk:scope.kind=.function)(hl:(compEnvC scope cl C (envX cn cs L a ccd clf)).kindOf x=some .cell)(hd:(x == ("__debug__":Str))=false):
  Rd prog w (Za3 (Zbv dp un gd cn cs L a ccd clf outer h₀ hu names) scope cl C ts ρ0) x i:=by
 intro W ρ H fr s Q E v pos r e q
 obtain⟨m,c,led,r⟩:=r
 obtain⟨oC,m₂,cs',ec,h0,h1,h2,h3,h4⟩:=r.own
 rw[h3 i hne]at e
 obtain⟨d,o,y,g1,g2,g3,g4⟩:=h4.cel i x v hi hx e
 exact kcf_cell r.N (hcl.trans g1) (r.clIn _ (by rw[ec];exact Zz2 _ g2)) g3 (q y g4) hk hl hd
end
end PM
end
section
namespace My
open PySem PySem.W PySem.Calls PyProof.Rows PySem.Spec
structure Cell(v:Int): Prop where
 bits:Builtin.Int.intBits v≤2 ^ 20
theorem bits_zero: Builtin.Int.intBits 0≤2 ^ 20:=by unfold Builtin.Int.intBits;simp
theorem cell_at{ns:List Int}(h:PyData.layable0 (.list (ns.map .int))=true)(i:Int): Cell (cellAt ns i 0):=by
 refine⟨?_⟩
 rw[cellAt_def,List.getD_eq_getElem?_getD]
 cases e:ns[i.toNat]? with
 | none=>exact bits_zero
 | some v=>exact PyData.bits_item_of_ints h (List.mem_of_getElem? e)
section
variable {prog:Program} {w:World} {A:Around} {E:Value→Shared→Prop} {s:Shared} {x y:Int} {t u:Tok} {Q:Value→Shared→Prop}
@[irreducible] noncomputable def wide(v:Int): Int:=Int.fdiv v 5*48271 ^ Int.toNat 14
@[irreducible] noncomputable def T9: Int:=10 ^ 9
theorem T9_eq: T9=1000000000:=by unfold T9;decide +kernel
end
end My
end
section
/-! Reckoning with the plain machine. -/
namespace PM
open PySem PySem.W PyProof.Rows
section
variable (ρ:Lc) (H:Hp)
@[simp] theorem Zwn: Ze0 ρ H=some (none,H):=rfl
@[simp] theorem Zwo(f:Ex): Ze1 f ρ H=(f ρ H).map fun p=>(some p.1,p.2):=rfl
end
section
variable (a b:Int) (H:Hp)
end
def Ext(H H':Hp): Prop:=∃X,H'=H++X
theorem Ext.trans{H H' H'':Hp}(a:Ext H H')(b:Ext H' H''): Ext H H'':=by
 obtain⟨X,rfl⟩:=a
 obtain⟨Y,rfl⟩:=b
 exact⟨X++Y,by simp⟩
theorem Ext.at{H H':Hp}(h:Ext H H'){i:Nat}{vs:List V}(e:H[i]?=some vs): H'[i]?=some vs:=by
 obtain⟨X,rfl⟩:=h
 rw[List.getElem?_append_left (Zz6.mp e).1]
 exact e
theorem Ext.one(H:Hp)(vs:List V): Ext H (H++[vs]):=⟨[vs],rfl⟩
theorem Zsw{b:Int}(hb:0≤b): Builtin.Range.rangeSize 0 b 1=b:=by
 unfold Builtin.Range.rangeSize
 rw[if_pos (by decide)]
 by_cases h:(0:Int)<b
 ·rw[if_pos h]
  omega
 ·rw[if_neg h]
  omega
theorem ZyH{b:Int}{H:Hp}(hb:0≤b)(hb9:b≤1000): Zb3 0 b 1 H=some (ZeE 0 1 b.toNat,b.toNat+1,H):=by
 unfold Zb3 rngN
 rw[Zsw hb,if_pos]
 refine⟨by decide,?_,hb,by rw[ZaZ];omega,?_⟩
 ·unfold Builtin.Range.small
  rw[Zsw hb]
  simp only[Builtin.Range.rangeFitsLong,Bool.and_eq_true,Bool.or_eq_true,decide_eq_true_eq,beq_iff_eq]
  rw[if_pos (by decide)]
  simp only[Bool.and_eq_true,decide_eq_true_eq]
  by_cases h:(0:Int)<b
  ·refine⟨⟨⟨⟨?_,?_⟩,?_⟩,?_⟩,Or.inr ?_⟩ <;> omega
  ·refine⟨⟨⟨⟨?_,?_⟩,?_⟩,?_⟩,?_⟩ <;> first | omega | (left;omega)
 ·exact PyProof.noPylong_small (by omega)
end PM
end
section
namespace PM
open PySem PySem.W PyProof.Rows My
theorem ZqH{a b:Int}(h:IntMulOk a b): mulOk a b=true:=by
 unfold IntMulOk at h
 unfold mulOk
 cases e:(decide (Builtin.Int.intBits a>shortFactorBits) && decide (Builtin.Int.intBits b>shortFactorBits) && Builtin.Int.intTooBig (Builtin.Int.intBits a+Builtin.Int.intBits b))with
 | true=>exact absurd e h
 | false=>rfl
theorem ZnE{a b:Int}{H:Hp}(h:0≤b∧(Builtin.Int.intBits a:Int)*b≤2 ^ 27): oPow (.int a) (.int b) H=some (.int (a ^ b.toNat),H):=by simp only[oPow];rw[if_pos h]
theorem ZzL(H:Hp): oPow (.int 10) (.int 9) H=some (.int T9,H):=by rw[ZnE (by decide +kernel)];unfold T9;rfl
end PM
end
section
namespace PM
open PySem PySem.W PyProof.Rows My
section
variable {ρ ρ1 ρ2:Lc} {H H1 H2 H3:Hp}
theorem ZyI{k:Int}: ZR k ρ H=some (.int k,H):=rfl
theorem Zxk{f g:Ex}{a:Nat}{k:Int}{n:Nat}{vs:List V}(h1:f ρ H=some (.ref a,H1))(h2:g ρ H1=some (.int k,H2))(e:H2[a]?=some vs)(hk:k=(n:Int)): ZcZ f (Ze1 g) Ze0 ρ H=some (.ref H2.length,H2++[vs.drop n]):=by
 simp only[ZcZ,h1,Option.bind_some,Zwo,h2,Option.map_some,Zwn,ZiD,e]
 rw[Zp9 vs hk]
end
end PM
end
section
/-! Forward reckoning: what comes, told by a claim. -/
namespace PM
open PySem PySem.W PyProof.Rows My
def Ok(c:Option (V×Hp))(Q:V→Hp→Prop): Prop:=∃v H,c=some (v,H)∧Q v H
def Okl(c:Option (List V×Hp))(Q:List V→Hp→Prop): Prop:=∃v H,c=some (v,H)∧Q v H
def Okt(c:Option (Bool×Hp))(Q:Bool→Hp→Prop): Prop:=∃v H,c=some (v,H)∧Q v H
def Oks(c:Option (Option V×Lc×Hp))(R:V→Hp→Prop)(N:Lc→Hp→Prop): Prop:=∃o ρ H,c=some (o,ρ,H)∧(∀v,o=some v→R v H)∧(o=none→N ρ H)
def Rg(xs:List V)(H:Hp)(G:Nx→Nat→Hp→Prop): Prop:=∃n:Nat,xs=[.int n]∧n≤1000∧G (ZeE 0 1 n) (n+1) H
theorem Ok.mono{c:Option (V×Hp)}{Q Q':V→Hp→Prop}(h:Ok c Q)(k:∀v H,Q v H→Q' v H): Ok c Q':=by
 obtain⟨v,H,a,b⟩:=h;exact⟨v,H,a,k v H b⟩
theorem Okl.mono{c:Option (List V×Hp)}{Q Q':List V→Hp→Prop}(h:Okl c Q)(k:∀v H,Q v H→Q' v H): Okl c Q':=by
 obtain⟨v,H,a,b⟩:=h;exact⟨v,H,a,k v H b⟩
theorem Okt.mono{c:Option (Bool×Hp)}{Q Q':Bool→Hp→Prop}(h:Okt c Q)(k:∀v H,Q v H→Q' v H): Okt c Q':=by
 obtain⟨v,H,a,b⟩:=h;exact⟨v,H,a,k v H b⟩
theorem Oks.mono{c:Option (Option V×Lc×Hp)}{R R':V→Hp→Prop}{N N':Lc→Hp→Prop}(h:Oks c R N)(k:∀v H,R v H→R' v H)(l:∀ρ H,N ρ H→N' ρ H): Oks c R' N':=by
 obtain⟨o,ρ,H,a,b,d⟩:=h;exact⟨o,ρ,H,a,fun v e=>k v H (b v e),fun e=>l ρ H (d e)⟩
section
variable {ρ:Lc} {H:Hp} {Q:V→Hp→Prop} {L:List V→Hp→Prop} {T:Bool→Hp→Prop} {R:V→Hp→Prop} {N:Lc→Hp→Prop}
variable {a b:Int}
theorem Zr1{i:Nat}{X:Hp}{vs:List V}(e:H[i]?=some vs): (H++X)[i]?=some vs:=Ext.at ⟨X,rfl⟩ e
end
end PM
end
section
namespace PM
open PySem PySem.W PyProof.Rows PyProof
noncomputable def ZiF(f:Ex)(k:Nat): Ex:=fun ρ H=>(f ρ H).bind fun p=>match p.1 with
 | .ref i=>p.2[i]?.bind fun vs=>some (.ref p.2.length,p.2++[vs.drop k])
 | .tup vs=>if 1≤k∧k≤vs.length then some (.tup (vs.drop k),p.2)else none
 | _=>none
section
variable {prog:Program} {w:World} {Γ:Cx}
theorem Zke{e lo:Expr}{p pos:Pos}{f:Ex}{k:Nat}(h:J prog w Γ e f)(hlo:J prog w Γ lo (ZR k))(ht:∀o r,letTemporaryGo e o r=pure ():=by intro _ _;rfl): J prog w Γ (.Subscript e (.Slice (Option.some lo) Option.none Option.none p) pos) (ZiF f k):=by
 intro W ρ H fr s Q E v H' r hf post
 obtain⟨⟨v1,H1⟩,e1,hf⟩:=Zz0.mp hf
 cases v1 with
 | none=>cases hf
 | bool _=>cases hf
 | int _=>cases hf
 | str _=>cases hf
 | ref i=>
  obtain⟨vs,e2,e3⟩:=Zz0.mp hf
  refine ZmR h (JP.some hlo) JP.none ht W ρ H fr s Q E v H' r ?_ post
  rw[Zxk (n:=k) e1 ZyI e2 rfl]
  exact e3
 | tup vs=>
  simp only at hf
  by_cases c:1≤k∧k≤vs.length
  ·rw[if_pos c]at hf
   cases hf
   refine wpAny_Subscript_Slice (T:="tuple") slot_tuple_getitem.lookup (h W ρ H fr s _ E _ _ r e1 fun W1 k1 t1 x l1 r1 x1=>?_) ht
   refine wpAny_Slice ?_
   refine wpAny_evalPart_some (hlo W1 ρ _ fr _ _ E _ _ r1 rfl fun W2 k2 t2 y l2 r2 y2=>?_)
   refine wpAny_evalPart_none ?_
   refine wpAny_evalPart_none ?_
   cases y2 with
   | int _ u=>
    have x2:=x1.mono l2
    cases x2 with
    | @tup _ a ys kk hm hl hs=>
     have it:IsTup k2 a ys.toArray:=⟨_,r2.tupAt hm,rfl,kk,rfl⟩
     have it':IsTup (k2.push { cls:=.type "slice",data:=.fields #[.int k u,.none,.none] }) a ys.toArray:=it.keeps fun _ _ e=>Heap.get?_push_of_some _ e
     have hlen:=hs.length
     rw[ZaZ]at hl
     refine⟨it'.typeIs,getItem_tuple_from it' (Heap.IsSliceOf.new ..) c.1 (by simp[hlen];exact c.2) ?_ (ZcD (by simp[hlen];rw[ZaZ];exact hl))⟩
     obtain⟨W4,l4,r4,v4⟩:=(r2.push { cls:=.type "slice",data:=.fields #[.int k u,.none,.none] }).tuple (k:=0) (hs.drop k) (by rw[ZaZ];simp;omega)
     have:=post W4 _ t2 _ ((l1.trans l2).trans l4) r4 v4
     simpa using this
  ·rw[if_neg c]at hf
   cases hf
end
section
variable {ρ:Lc} {H:Hp} {Q:V→Hp→Prop}
theorem Zsx{a b c:Int}(hc:0<c)(hb:a<b): Builtin.Range.rangeSize a b c=(b-a-1) / c+1:=by
 unfold Builtin.Range.rangeSize
 rw[if_pos hc,if_pos hb]
theorem ZyJ{a b c:Int}{H:Hp}(ha:0≤a)(hb:a<b)(hb9:b≤1000)(hc:0<c)(hc9:c≤1000): Zb3 a b c H=some (ZeE a c (rngN a b c),rngN a b c+1,H):=by
 have e:=Zsx hc hb
 have h0:0≤(b-a-1) / c:=Int.ediv_nonneg (by omega) (by omega)
 have h2:(b-a-1) / c≤b-a-1:=Int.ediv_le_self _ (by omega)
 unfold Zb3
 rw[if_pos]
 refine⟨by omega,?_,by omega,by unfold rngN;rw[ZaZ];omega,PyProof.noPylong_small (by omega)⟩
 unfold Builtin.Range.small
 rw[e]
 simp only[Builtin.Range.rangeFitsLong,Bool.and_eq_true,Bool.or_eq_true,decide_eq_true_eq,beq_iff_eq]
 rw[if_pos hc]
 simp only[Bool.and_eq_true,decide_eq_true_eq]
 refine⟨⟨⟨⟨?_,?_⟩,?_⟩,?_⟩,?_⟩ <;> first | omega | (left;omega) | (right;omega)
end
end PM
end
section
namespace PM
open PySem PySem.W PyProof.Rows PyProof My
section
variable {ρ:Lc} {H:Hp} {Q:V→Hp→Prop} {L:List V→Hp→Prop}
end
noncomputable def oi: Option Int→V
 | none=>.none
 | some k=>.int k
def Grid(H:Hp)(p:Nat)(as:List Nat)(B:List (List (Option Int))): Prop:=H[p]?=some (as.map V.ref)∧as.length=B.length∧∀(i a:Nat) (row:List (Option Int)),as[i]?=some a→B[i]?=some row→H[a]?=some (row.map oi)
theorem ZAE{H X:Hp}{p:Nat}{as:List Nat}{B:List (List (Option Int))}(g:Grid H p as B): Grid (H++X) p as B:=⟨Zr1 g.1,g.2.1,fun i a row h1 h2=>Zr1 (g.2.2 i a row h1 h2)⟩
noncomputable def od: Option Int→PyData
 | none=>.none
 | some k=>.int k
theorem Zo1{a:Int}{k:Nat}(h:Builtin.Int.intBits a≤k): a.natAbs<2 ^ k:=by
 unfold Builtin.Int.intBits at h
 by_cases z:a=0
 ·subst z
  exact Nat.two_pow_pos k
 ·rw[if_neg (by simpa using z)]at h
  exact Nat.lt_of_lt_of_le Nat.lt_log2_self (Nat.pow_le_pow_right (by decide) h)
theorem Zwp{a b:Int}{k:Nat}(ha:Builtin.Int.intBits a≤k)(hb:Builtin.Int.intBits b≤k): Builtin.Int.intBits (a+b)≤k+1:=by
 refine PyProof.Rows.intBits_le ?_
 have h1:=Zo1 ha
 have h2:=Zo1 hb
 rw[Nat.pow_succ]
 omega
theorem ZqI{a b:Int}(ha:Builtin.Int.intBits a≤2 ^ 21)(hb:Builtin.Int.intBits b≤2 ^ 21): mulOk a b=true:=by
 have e:(2:Nat) ^ 21=2097152:=by decide
 have h:Builtin.Int.intTooBig (Builtin.Int.intBits a+Builtin.Int.intBits b)=false:=by
  unfold Builtin.Int.intTooBig bitsLine
  exact decide_eq_false (by omega)
 unfold mulOk
 rw[h]
 simp
theorem ZvE{a b:Int}(h1:-(2 ^ 64)<b)(h2:b<2 ^ 64): mulOk a b=true:=ZqH (IntMulOk.of_right (intBits_le_64 h1 h2))
theorem ZuS{a b:Int}(h1:-(2 ^ 64)<a)(h2:a<2 ^ 64): mulOk a b=true:=ZqH (IntMulOk.of_left (intBits_le_64 h1 h2))
@[irreducible] noncomputable def M9: Int:=48271 ^ Int.toNat 9
@[irreducible] noncomputable def T40: Int:=10 ^ Int.toNat 40
theorem ZyK(H:Hp): oPow (.int 48271) (.int 9) H=some (.int M9,H):=by rw[ZnE (by decide +kernel)];unfold M9;rfl
theorem ZyL(H:Hp): oPow (.int 10) (.int 40) H=some (.int T40,H):=by rw[ZnE (by decide +kernel)];unfold T40;rfl
theorem ZeN: T40=10000000000000000000000000000000000000000:=by unfold T40;decide +kernel
theorem Zxl: Builtin.Int.intBits M9≤2 ^ 21:=by
 unfold M9
 exact Nat.le_trans (PyProof.Rows.intBits_le (k:=256) (by decide +kernel)) (by decide)
section
variable {H:Hp} {Q:V→Hp→Prop} {a b:Int}
end
end PM
end
section
/-! The tree machine: values without places; lists that nobody else holds may be changed. -/
namespace TM
open PySem PM
inductive T where
 | none
 | bool (b:Bool)
 | int (i:Int)
 | str (s:Str)
 | tup (ts:List T)
 | lst (ts:List T)
mutual
inductive RF(H:Hp): V→T→List Nat→Prop where
 | none:RF H .none .none []
 | bool (b:Bool):RF H (.bool b) (.bool b) []
 | int (i:Int):RF H (.int i) (.int i) []
 | str (s:Str):RF H (.str s) (.str s) []
 | tup {vs:List V} {ts:List T} {F:List Nat}:RFs H vs ts F→RF H (.tup vs) (.tup ts) F
 | ref {a:Nat} {vs:List V} {ts:List T} {F:List Nat}:H[a]?=some vs→RFs H vs ts F→RF H (.ref a) (.lst ts) (a::F)
inductive RFs(H:Hp): List V→List T→List Nat→Prop where
 | nil:RFs H [] [] []
 | cons {v:V} {t:T} {F:List Nat} {vs:List V} {ts:List T} {G:List Nat}:RF H v t F→RFs H vs ts G→RFs H (v::vs) (t::ts) (F++G)
end
mutual
theorem RF.frame{H H':Hp}{v:V}{t:T}{F:List Nat}(r:RF H v t F)(h:∀a∈F,H'[a]?=H[a]?): RF H' v t F:=by
 cases r with
 | none=>exact .none
 | bool b=>exact .bool b
 | int i=>exact .int i
 | str s=>exact .str s
 | tup hs=>exact .tup (RFs.frame hs h)
 | ref e hs=>exact .ref ((h _ Zz5).trans e) (RFs.frame hs fun a m=>h a (Zz2 _ m))
theorem RFs.frame{H H':Hp}{vs:List V}{ts:List T}{F:List Nat}(r:RFs H vs ts F)(h:∀a∈F,H'[a]?=H[a]?): RFs H' vs ts F:=by
 cases r with
 | nil=>exact .nil
 | cons a b=>exact .cons (RF.frame a fun x m=>h x (Zz4 _ m)) (RFs.frame b fun x m=>h x (Zz3 _ m))
end
mutual
theorem RF.lt{H:Hp}{v:V}{t:T}{F:List Nat}(r:RF H v t F): ∀a∈F,a<H.length:=by
 cases r with
 | none=>intro a m;cases m
 | bool b=>intro a m;cases m
 | int i=>intro a m;cases m
 | str s=>intro a m;cases m
 | tup hs=>exact RFs.lt hs
 | ref e hs=>
  intro x m
  rcases Zz7.mp m with rfl | m
  ·exact(Zz6.mp e).1
  ·exact RFs.lt hs x m
theorem RFs.lt{H:Hp}{vs:List V}{ts:List T}{F:List Nat}(r:RFs H vs ts F): ∀a∈F,a<H.length:=by
 cases r with
 | nil=>intro a m;cases m
 | cons a b=>
  intro x m
  rcases Zz8.mp m with m | m
  ·exact RF.lt a x m
  ·exact RFs.lt b x m
end
theorem RF.ext{H:Hp}{v:V}{t:T}{F:List Nat}(r:RF H v t F)(X:Hp): RF (H++X) v t F:=r.frame fun a m=>List.getElem?_append_left (r.lt a m)
theorem RFs.ext{H:Hp}{vs:List V}{ts:List T}{F:List Nat}(r:RFs H vs ts F)(X:Hp): RFs (H++X) vs ts F:=r.frame fun a m=>List.getElem?_append_left (r.lt a m)
theorem RFs.length{H:Hp}: ∀{vs:List V} {ts:List T} {F:List Nat},RFs H vs ts F→vs.length=ts.length
 | _,_,_,.nil=>rfl
 | _,_,_,.cons _ r=>by rw[List.length_cons,List.length_cons,r.length]
theorem RFs.append{H:Hp}: ∀{vs us:List V} {ts ss:List T} {F G:List Nat},RFs H vs ts F→RFs H us ss G→RFs H (vs++us) (ts++ss) (F++G)
 | _,_,_,_,_,_,.nil,h=>h
 | _,_,_,_,_,_,.cons a r,h=>by rw[List.append_assoc];exact .cons a (r.append h)
theorem RFs.one{H:Hp}{v:V}{t:T}{F:List Nat}(r:RF H v t F): RFs H [v] [t] F:=by
 have:=RFs.cons r RFs.nil
 rwa [List.append_nil]at this
theorem RFs.snoc{H:Hp}{vs:List V}{ts:List T}{F G:List Nat}{v:V}{t:T}(r:RFs H vs ts F)(x:RF H v t G): RFs H (vs++[v]) (ts++[t]) (F++G):=r.append (.one x)
theorem RFs.at{H:Hp}: ∀{vs:List V} {ts:List T} {F:List Nat} {i:Nat} {t:T},RFs H vs ts F→ts[i]?=some t→∃v G,vs[i]?=some v∧RF H v t G∧G.Sublist F
 | _,_,_,_,_,.nil,e=>by simp at e
 | _,_,_,0,_,.cons a _,e=>by
  simp at e
  exact⟨_,_,by simp,e▸a,List.sublist_append_left _ _⟩
 | _,_,_,i+1,_,.cons _ r,e=>by
  simp at e
  obtain⟨x,G,hx,hr,hs⟩:=r.at e
  exact⟨x,G,by simpa using hx,hr,hs.trans (List.sublist_append_right _ _)⟩
theorem RFs.drop{H:Hp}: ∀{vs:List V} {ts:List T} {F:List Nat} (i:Nat),RFs H vs ts F→∃G,RFs H (vs.drop i) (ts.drop i) G∧G.Sublist F
 | _,_,_,0,h=>⟨_,h,List.Sublist.refl _⟩
 | _,_,_,_+1,.nil=>⟨_,.nil,List.Sublist.refl _⟩
 | _,_,_,i+1,.cons _ r=>by
  obtain⟨G,h1,h2⟩:=r.drop i
  exact⟨G,h1,h2.trans (List.sublist_append_right _ _)⟩
theorem RFs.split{H:Hp}: ∀{vs:List V} {ts:List T} {F:List Nat} {i:Nat} {t:T},RFs H vs ts F→ts[i]?=some t →
  ∃v G F1 F2,vs[i]?=some v∧RF H v t G∧F=F1++(G++F2)∧∀(H':Hp) (w:V) (t':T) (G':List Nat),RF H' w t' G'→(∀a∈F1,H'[a]?=H[a]?)→(∀a∈F2,H'[a]?=H[a]?)→RFs H' (vs.set i w) (ts.set i t') (F1++(G'++F2))
 | _,_,_,_,_,.nil,e=>by simp at e
 | _,_,_,0,_,.cons (G:=G1) a r,e=>by
  simp at e
  subst e
  exact⟨_,_,[],G1,by simp,a,by simp,fun H' w t' G' x _ h2=>by simpa using RFs.cons x (r.frame h2)⟩
 | _,_,_,i+1,_,.cons (F:=F0) a r,e=>by
  simp at e
  obtain⟨v,G,F1,F2,h1,h2,h3,h4⟩:=r.split e
  refine⟨v,G,F0++F1,F2,by simpa using h1,h2,by rw[h3];simp,fun H' w t' G' x k1 k2=>?_⟩
  have:=RFs.cons (a.frame fun b m=>k1 b (Zz4 _ m)) (h4 H' w t' G' x (fun b m=>k1 b (Zz3 _ m)) k2)
  simpa using this
theorem ZqJ{α:Type}{xs:List α}{i:Nat}{x:α}(h:xs[i]?=some x): xs.set i x=xs:=by
 obtain⟨hi,e⟩:=Zz6.mp h
 rw[←e]
 exact List.set_getElem_self hi
theorem nd3{F1 G F2 G' Gn:List Nat}(nd:(F1++(G++F2)).Nodup)(n':G'.Nodup)(sub:∀a∈G',a∈G∨a∈Gn)(ds:∀a∈Gn,a∉F1++(G++F2)): (F1++(G'++F2)).Nodup:=by
 rw[List.nodup_append,List.nodup_append]at nd ⊢
 obtain⟨a1,⟨a2,a3,a4⟩,a5⟩:=nd
 refine⟨a1,⟨n',a3,fun x hx y hy e=>?_⟩,fun x hx y hy e=>?_⟩
 ·rcases sub x hx with m | m
  ·exact a4 x m y hy e
  ·exact ds x m (Zz3 _ (Zz3 _ (e▸hy)))
 ·rcases Zz8.mp hy with m | m
  ·rcases sub y m with q | q
   ·exact a5 x hx y (Zz4 _ q) e
   ·exact ds y q (Zz4 _ (e▸hx))
  ·exact a5 x hx y (Zz3 _ m) e
theorem in3{F1 G F2 G' Gn:List Nat}(sub:∀a∈G',a∈G∨a∈Gn): ∀a∈F1++(G'++F2),a∈F1++(G++F2)∨a∈Gn:=by
 intro a m
 rcases Zz8.mp m with m | m
 ·exact .inl (Zz4 _ m)
 ·rcases Zz8.mp m with m | m
  ·exact(sub a m).imp (fun q=>List.mem_append_right _ (Zz4 _ q)) id
  ·exact .inl (Zz3 _ (Zz3 _ m))
mutual
noncomputable def T.flat: T→Bool
 | .lst _=>false
 | .tup ts=>T.flats ts
 | .none=>true
 | .bool _=>true
 | .int _=>true
 | .str _=>true
noncomputable def T.flats: List T→Bool
 | []=>true
 | t::ts=>t.flat && T.flats ts
end
mutual
theorem RF.flat{H:Hp}{v:V}{t:T}{F:List Nat}(r:RF H v t F)(h:t.flat=true): F=[]:=by
 cases r with
 | none=>rfl
 | bool b=>rfl
 | int i=>rfl
 | str s=>rfl
 | tup hs=>exact RFs.flats hs (by simpa [T.flat]using h)
 | ref e hs=>simp[T.flat]at h
theorem RFs.flats{H:Hp}{vs:List V}{ts:List T}{F:List Nat}(r:RFs H vs ts F)(h:T.flats ts=true): F=[]:=by
 cases r with
 | nil=>rfl
 | cons a b=>
  simp only[T.flats,Bool.and_eq_true]at h
  rw[RF.flat a h.1,RFs.flats b h.2]
  rfl
end
noncomputable def T.flatIn: T→Bool
 | .lst ts=>T.flats ts
 | t=>t.flat
noncomputable def ZdD(f:List T→Option (List T)): List Int→T→Option T
 | [],.lst ts=>(f ts).map .lst
 | k::ks,.lst ts=>(seqIndex? k ts.length).bind fun j=>ts[j]?.bind fun t=>(ZdD f ks t).map fun u=>.lst (ts.set j u)
 | k::ks,.tup ts=>(seqIndex? k ts.length).bind fun j=>ts[j]?.bind fun t=>(ZdD f ks t).map fun u=>.tup (ts.set j u)
 | _,_=>none
inductive Lead(H:Hp): List Int→V→Nat→Prop where
 | nil {a:Nat}:Lead H [] (.ref a) a
 | ref {k:Int} {ks:List Int} {b:Nat} {vs:List V} {j:Nat} {v:V} {a:Nat}:H[b]?=some vs→seqIndex? k vs.length=some j→vs[j]?=some v→Lead H ks v a→Lead H (k::ks) (.ref b) a
 | tup {k:Int} {ks:List Int} {vs:List V} {j:Nat} {v:V} {a:Nat}:seqIndex? k vs.length=some j→vs[j]?=some v→Lead H ks v a→Lead H (k::ks) (.tup vs) a
theorem ZfU{H:Hp}{Gn:List Nat}{f:List T→Option (List T)}: ∀(ks:List Int) {v:V} {t t':T} {F:List Nat},RF H v t F→F.Nodup→(∀a∈Gn,a∉F)→ZdD f ks t=some t' →
  ∃a vs ts ts' G,Lead H ks v a∧a∈F∧H[a]?=some vs∧RFs H vs ts G∧f ts=some ts'∧G.Nodup∧a∉G∧(∀x∈G,x∈F) ∧
   ∀vs' G',RFs H vs' ts' G'→G'.Nodup→a∉G'→(∀x∈G',x∈G∨x∈Gn)→∃F',RF (H.set a vs') v t' F'∧F'.Nodup∧∀x∈F',x∈F∨x∈Gn
 | [],v,t,t',F,r,nd,ds,e=>by
  cases r with
  | @ref a vs ts G e1 hs=>
   obtain⟨ts',h1,h2⟩:=Zz1.mp e
   subst h2
   rw[List.nodup_cons]at nd
   refine⟨a,vs,ts,ts',G,.nil,List.mem_cons_self,e1,hs,h1,nd.2,nd.1,fun x m=>List.mem_cons_of_mem _ m,fun vs' G' r' n' na sub=>⟨a::G',?_,?_,?_⟩⟩
   ·have ha:=(Zz6.mp e1).1
    refine .ref (List.getElem?_set_self ha) (r'.frame fun b m=>List.getElem?_set_ne ?_)
    intro q
    subst q
    exact na m
   ·exact List.nodup_cons.mpr ⟨na,n'⟩
   ·intro x m
    rcases Zz7.mp m with rfl | m
    ·exact .inl Zz5
    ·exact(sub x m).imp (Zz2 _) id
  | none=>cases e
  | bool _=>cases e
  | int _=>cases e
  | str _=>cases e
  | tup _=>cases e
 | k::ks,v,t,t',F,r,nd,ds,e=>by
  cases r with
  | none=>cases e
  | bool _=>cases e
  | int _=>cases e
  | str _=>cases e
  | @tup vs ts _ hs=>
   obtain⟨j,e1,e⟩:=Zz0.mp e
   obtain⟨u,e2,e⟩:=Zz0.mp e
   obtain⟨u',e3,e⟩:=Zz1.mp e
   subst e
   obtain⟨w,G1,F1,F2,e4,g1,eF,rb⟩:=hs.split e2
   subst eF
   have nd1:G1.Nodup:=(List.nodup_append.mp (List.nodup_append.mp nd).2.1).1
   have hin:∀x∈G1,x∈F1++(G1++F2):=fun x m=>List.mem_append_right _ (Zz4 _ m)
   obtain⟨a,us,qs,qs',G,l,am,ea,hq,hf,gn,na,gs,go⟩:=ZfU ks g1 nd1 (fun b m q=>ds b m (hin b q)) e3
   refine⟨a,us,qs,qs',G,.tup (by rw[hs.length];exact e1) e4 l,hin a am,ea,hq,hf,gn,na,fun x m=>hin x (gs x m),fun vs' G' r' n' na' sub=>?_⟩
   obtain⟨G2,f1,f2,f3⟩:=go vs' G' r' n' na' sub
   obtain⟨a1,a2,a5⟩:=List.nodup_append.mp nd
   obtain⟨_,a3,a4⟩:=List.nodup_append.mp a2
   have:=rb (H.set a vs') w u' G2 f1 (fun b m=>List.getElem?_set_ne fun q=>a5 b m a (Zz4 _ am) q.symm) (fun b m=>List.getElem?_set_ne fun q=>a4 a am b m q)
   rw[ZqJ e4]at this
   exact⟨_,.tup this,nd3 nd f2 f3 ds,in3 f3⟩
  | @ref b vs ts F' e0 hs=>
   obtain⟨j,e1,e⟩:=Zz0.mp e
   obtain⟨u,e2,e⟩:=Zz0.mp e
   obtain⟨u',e3,e⟩:=Zz1.mp e
   subst e
   obtain⟨w,G1,F1,F2,e4,g1,eF,rb⟩:=hs.split e2
   subst eF
   rw[List.nodup_cons]at nd
   obtain⟨nb,nd⟩:=nd
   have nd1:G1.Nodup:=(List.nodup_append.mp (List.nodup_append.mp nd).2.1).1
   have hin:∀x∈G1,x∈F1++(G1++F2):=fun x m=>List.mem_append_right _ (Zz4 _ m)
   have ds':∀a∈Gn,a∉F1++(G1++F2):=fun a m q=>ds a m (Zz2 _ q)
   obtain⟨a,us,qs,qs',G,l,am,ea,hq,hf,gn,na,gs,go⟩:=ZfU ks g1 nd1 (fun b m q=>ds' b m (hin b q)) e3
   refine⟨a,us,qs,qs',G,.ref e0 (by rw[hs.length];exact e1) e4 l,List.mem_cons_of_mem _ (hin a am),ea,hq,hf,gn,na,fun x m=>List.mem_cons_of_mem _ (hin x (gs x m)),fun vs' G' r' n' na' sub=>?_⟩
   obtain⟨G2,f1,f2,f3⟩:=go vs' G' r' n' na' sub
   obtain⟨a1,a2,a5⟩:=List.nodup_append.mp nd
   obtain⟨_,a3,a4⟩:=List.nodup_append.mp a2
   have:=rb (H.set a vs') w u' G2 f1 (fun b m=>List.getElem?_set_ne fun q=>a5 b m a (Zz4 _ am) q.symm) (fun b m=>List.getElem?_set_ne fun q=>a4 a am b m q)
   rw[ZqJ e4]at this
   have hab:a≠b:=fun q=>nb (hin b (q▸am))
   refine⟨_,.ref ((List.getElem?_set_ne hab).trans e0) this,List.nodup_cons.mpr ⟨fun q=>?_,nd3 nd f2 f3 ds'⟩,fun x m=>?_⟩
   ·rcases in3 f3 b q with m | m
    ·exact nb m
    ·exact ds b m Zz5
   ·rcases Zz7.mp m with rfl | m
    ·exact .inl Zz5
    ·exact(in3 f3 x m).imp (Zz2 _) id
end TM
end
section
namespace TM
open PySem PM
noncomputable abbrev TL:=Nat→Option T
noncomputable abbrev PE:=TL→Option T
noncomputable abbrev PEs:=TL→Option (List T)
noncomputable abbrev PB:=TL→Option Bool
noncomputable abbrev PG:=TL→Option (List T)
noncomputable def ZW(σ:TL)(i:Nat)(t:T): TL:=fun j=>if j=i then some t else σ j
structure Ctx where
 H0:Hp
 F0:List Nat
 P:Nat→Prop
structure St(c:Ctx)(O:List Nat)(ρ:Lc)(σ:TL)(H:Hp)(Φ:Nat→List Nat): Prop where
 slot:∀i t,σ i=some t→∃v,ρ i=some v∧RF H v t (Φ i)
 src:∀i t,σ i=some t→∀a∈Φ i,c.H0.length≤a∨c.P a
 own:∀i∈O,∀t,σ i=some t→(Φ i).Nodup∧(∀a∈Φ i,c.H0.length≤a∨a∈c.F0)∧∀j u,j≠i→σ j=some u→∀a∈Φ i,a∉Φ j
 len:c.H0.length≤H.length
 keep:∀a,a<c.H0.length→a∉c.F0→H[a]?=c.H0[a]?
 pos:0<c.H0.length
 f0:0∉c.F0
theorem St.ext{c:Ctx}{O:List Nat}{ρ:Lc}{σ:TL}{H:Hp}{Φ:Nat→List Nat}(s:St c O ρ σ H Φ)(X:Hp): St c O ρ σ (H++X) Φ:=
 ⟨fun i t e=>by obtain⟨v,h1,h2⟩:=s.slot i t e;exact⟨v,h1,h2.ext X⟩,s.src,s.own,by have:=s.len;rw[List.length_append];omega,fun a ha hn=>by
  rw[List.getElem?_append_left (Nat.lt_of_lt_of_le ha s.len)];exact s.keep a ha hn,s.pos,s.f0⟩
theorem St.less{c:Ctx}{O O':List Nat}{ρ:Lc}{σ:TL}{H:Hp}{Φ:Nat→List Nat}(s:St c O ρ σ H Φ)(h:∀i∈O',i∈O): St c O' ρ σ H Φ:=⟨s.slot,s.src,fun i hi=>s.own i (h i hi),s.len,s.keep,s.pos,s.f0⟩
def From(H:Hp)(N:List Nat)(σ:TL)(Φ:Nat→List Nat)(a:Nat): Prop:=H.length≤a∨∃i∈N,(∃t,σ i=some t)∧a∈Φ i
theorem From.mono{H:Hp}{N N':List Nat}{σ:TL}{Φ:Nat→List Nat}{a:Nat}(f:From H N σ Φ a)(h:∀i∈N,i∈N'): From H N' σ Φ a:=f.imp id fun⟨i,hi,q⟩=>⟨i,h i hi,q⟩
theorem From.back{H X:Hp}{N:List Nat}{σ:TL}{Φ:Nat→List Nat}{a:Nat}(f:From (H++X) N σ Φ a): From H N σ Φ a:=f.imp (fun h=>by rw[List.length_append]at h;omega) id
theorem From.nil{H:Hp}{σ:TL}{Φ:Nat→List Nat}{a:Nat}(f:From H [] σ Φ a): H.length≤a:=f.elim id fun⟨_,hi,_⟩=>by cases hi
def E(O N:List Nat)(u:Bool)(e:Ex)(p:PE): Prop:=∀(c:Ctx) (ρ:Lc) (σ:TL) (H:Hp) (Φ:Nat→List Nat) (t:T),St c O ρ σ H Φ→p σ=some t →
 ∃v X F,e ρ H=some (v,H++X)∧RF (H++X) v t F∧(∀a∈F,From H N σ Φ a)∧(u=true→F.Nodup)
def Es(O N:List Nat)(u:Bool)(n:Nat)(e:Exs)(p:PEs): Prop:=∀(c:Ctx) (ρ:Lc) (σ:TL) (H:Hp) (Φ:Nat→List Nat) (ts:List T),St c O ρ σ H Φ→p σ=some ts →
 ts.length=n∧∃vs X F,e ρ H=some (vs,H++X)∧RFs (H++X) vs ts F∧(∀a∈F,From H N σ Φ a)∧(u=true→F.Nodup)
def Bt(O:List Nat)(e:Ts)(p:PB): Prop:=∀(c:Ctx) (ρ:Lc) (σ:TL) (H:Hp) (Φ:Nat→List Nat) (b:Bool),St c O ρ σ H Φ→p σ=some b→∃X,e ρ H=some (b,H++X)
section
variable {O N:List Nat} {u:Bool}
theorem Za0{O':List Nat}{e:Ex}{p:PE}(x:E O' N u e p)(h:∀i∈O',i∈O:=by decide): E O N u e p:=fun c ρ σ H Φ t s=>x c ρ σ H Φ t (s.less h)
theorem ZAH{O':List Nat}{e:Ts}{p:PB}(x:Bt O' e p)(h:∀i∈O',i∈O): Bt O e p:=fun c ρ σ H Φ t s=>x c ρ σ H Φ t (s.less h)
theorem E.sh{e:Ex}{p:PE}(x:E O N u e p): E O N false e p:=fun c ρ σ H Φ t s q=>by
 obtain⟨v,X,F,a1,a2,a3,a4⟩:=x c ρ σ H Φ t s q
 exact⟨v,X,F,a1,a2,a3,by simp⟩
noncomputable def ZH(k:Int): PE:=fun _=>some (.int k)
noncomputable def ZaJ: PE:=fun _=>some .none
noncomputable def Zsy(b:Bool): PE:=fun _=>some (.bool b)
noncomputable def ZiO(x:Str): PE:=fun _=>some (.str x)
noncomputable def Zh(i:Nat): PE:=fun σ=>σ i
theorem Zc(k:Int): E O [] true (ZR k) (ZH k):=fun c ρ σ H Φ t s q=>by
 cases q;exact⟨_,[],[],by simp[ZR],.int k,by simp,by simp⟩
theorem ZY: E O [] true Zaq ZaJ:=fun c ρ σ H Φ t s q=>by
 cases q;exact⟨_,[],[],by simp[Zaq],.none,by simp,by simp⟩
theorem E.bool(k:Bool): E O [] true (Zkz k) (Zsy k):=fun c ρ σ H Φ t s q=>by
 cases q;exact⟨_,[],[],by simp[Zkz],.bool k,by simp,by simp⟩
theorem E.str(k:Str): E O [] true (Ze7 k) (ZiO k):=fun c ρ σ H Φ t s q=>by
 cases q;exact⟨_,[],[],by simp[Ze7],.str k,by simp,by simp⟩
theorem Za(i:Nat): E O [i] false (Zp i) (Zh i):=fun c ρ σ H Φ t s q=>by
 obtain⟨v,h1,h2⟩:=s.slot i t q
 exact⟨v,[],Φ i,by simp[Zp,h1],by simpa using h2,fun a m=>.inr ⟨i,List.mem_cons_self,⟨t,q⟩,m⟩,by simp⟩
theorem E.own{i:Nat}(hi:i∈O): E O [i] true (Zp i) (Zh i):=fun c ρ σ H Φ t s q=>by
 obtain⟨v,h1,h2⟩:=s.slot i t q
 exact⟨v,[],Φ i,by simp[Zp,h1],by simpa using h2,fun a m=>.inr ⟨i,List.mem_cons_self,⟨t,q⟩,m⟩,fun _=>(s.own i hi t q).1⟩
noncomputable def ZcN(p:PE): PE:=fun σ=>(p σ).bind fun t=>if t.flat then some t else none
theorem E.flat{e:Ex}{p:PE}(x:E O N u e p): E O [] true e (ZcN p):=fun c ρ σ H Φ t s q=>by
 obtain⟨t',e1,e2⟩:=Zz0.mp q
 by_cases h:t'.flat=true
 ·rw[if_pos h]at e2
  cases e2
  obtain⟨v,X,F,a1,a2,a3,a4⟩:=x c ρ σ H Φ t s e1
  have:=a2.flat h
  subst this
  exact⟨v,X,[],a1,a2,by simp,by simp⟩
 ·rw[if_neg h]at e2;cases e2
noncomputable def ZD: PEs:=fun _=>some []
noncomputable def Zq(p:PE)(q:PEs): PEs:=fun σ=>(p σ).bind fun t=>(q σ).bind fun ts=>some (t::ts)
theorem Zd: Es O [] true 0 ZO ZD:=fun c ρ σ H Φ ts s q=>by
 cases q;exact⟨rfl,[],[],[],by simp[ZO],.nil,by simp,by simp⟩
theorem Zb{M:List Nat}{u':Bool}{n:Nat}{e:Ex}{p:PE}{es:Exs}{ps:PEs}(x:E O N u e p)(y:Es O M u' n es ps): Es O (N++M) false (n+1) (Zt e es) (Zq p ps):=fun c ρ σ H Φ ts s q=>by
 obtain⟨t,e1,q⟩:=Zz0.mp q
 obtain⟨rs,e2,q⟩:=Zz0.mp q
 cases q
 obtain⟨v,X,F,a1,a2,a3,a4⟩:=x c ρ σ H Φ t s e1
 obtain⟨hl,vs,Y,G,b1,b2,b3,b4⟩:=y c ρ σ (H++X) Φ rs (s.ext X) e2
 refine⟨by simp[hl],v::vs,X++Y,F++G,by simp[Zt,a1,b1],?_,fun a m=>?_,by simp⟩
 ·rw[←List.append_assoc];exact .cons (a2.ext Y) b2
 ·rcases Zz8.mp m with m | m
  ·exact(a3 a m).mono fun i hi=>List.mem_append_left _ hi
  ·exact(b3 a m).back.mono fun i hi=>List.mem_append_right _ hi
theorem Zez{M:List Nat}{n:Nat}{e:Ex}{p:PE}{es:Exs}{ps:PEs}(x:E O N true e p)(y:Es O M true n es ps)(hN:∀i∈N,i∈O)(hM:∀i∈N,i∉M): Es O (N++M) true (n+1) (Zt e es) (Zq p ps):=fun c ρ σ H Φ ts s q=>by
 obtain⟨t,e1,q⟩:=Zz0.mp q
 obtain⟨rs,e2,q⟩:=Zz0.mp q
 cases q
 obtain⟨v,X,F,a1,a2,a3,a4⟩:=x c ρ σ H Φ t s e1
 obtain⟨hl,vs,Y,G,b1,b2,b3,b4⟩:=y c ρ σ (H++X) Φ rs (s.ext X) e2
 refine⟨by simp[hl],v::vs,X++Y,F++G,by simp[Zt,a1,b1],?_,fun a m=>?_,fun _=>?_⟩
 ·rw[←List.append_assoc];exact .cons (a2.ext Y) b2
 ·rcases Zz8.mp m with m | m
  ·exact(a3 a m).mono fun i hi=>List.mem_append_left _ hi
  ·exact(b3 a m).back.mono fun i hi=>List.mem_append_right _ hi
 ·rw[List.nodup_append]
  refine⟨a4 rfl,b4 rfl,fun a ha b hb e=>?_⟩
  subst e
  have hlt:=a2.lt a ha
  rcases b3 a hb with h | ⟨j,hj,⟨tj,ej⟩,mj⟩
  ·omega
  ·obtain⟨vj,_,rj⟩:=s.slot j tj ej
   have:=rj.lt a mj
   rcases a3 a ha with h | ⟨i,hi,⟨ti,ei⟩,mi⟩
   ·omega
   ·exact(s.own i (hN i hi) ti ei).2.2 j tj (fun q=>hM i hi (q▸hj)) ej a mi mj
theorem ZAI{O':List Nat}{n:Nat}{e:Exs}{p:PEs}(x:Es O' N u n e p)(h:∀i∈O',i∈O): Es O N u n e p:=fun c ρ σ H Φ t s=>x c ρ σ H Φ t (s.less h)
noncomputable def ZdE(p:PEs): PE:=fun σ=>(p σ).map .tup
noncomputable def Zcu(p:PEs): PE:=fun σ=>(p σ).map .lst
theorem E.tup{n:Nat}{e:Exs}{p:PEs}(x:Es O N u n e p)(hn:n≤LEN:=by decide): E O N u (Zcw e) (ZdE p):=fun c ρ σ H Φ t s q=>by
 obtain⟨ts,e1,e2⟩:=Zz1.mp q
 subst e2
 obtain⟨hl,vs,Y,G,b1,b2,b3,b4⟩:=x c ρ σ H Φ ts s e1
 have:=b2.length
 refine⟨.tup vs,Y,G,?_,.tup b2,b3,b4⟩
 simp only[Zcw,b1,Option.bind_some]
 rw[if_pos (by omega)]
theorem E.list{n:Nat}{e:Exs}{p:PEs}(x:Es O N u n e p)(hn:n≤LEN:=by decide): E O N u (ZeX e) (Zcu p):=fun c ρ σ H Φ t s q=>by
 obtain⟨ts,e1,e2⟩:=Zz1.mp q
 subst e2
 obtain⟨hl,vs,Y,G,b1,b2,b3,b4⟩:=x c ρ σ H Φ ts s e1
 have:=b2.length
 refine⟨.ref (H++Y).length,Y++[vs],(H++Y).length::G,?_,?_,fun a m=>?_,fun hu=>?_⟩
 ·simp only[ZeX,b1,Option.bind_some]
  rw[if_pos (by omega),List.append_assoc]
 ·rw[←List.append_assoc];exact .ref (by simp) (b2.ext _)
 ·rcases Zz7.mp m with rfl | m
  ·exact .inl (by simp)
  ·exact b3 a m
 ·rw[List.nodup_cons]
  exact⟨fun m=>Nat.lt_irrefl _ (b2.lt _ m),b4 hu⟩
def OA2(o:V→V→Hp→Option (V×Hp))(q:T→T→Option T): Prop:=∀(H:Hp) (v1 v2:V) (t1 t2 t:T) (F1 F2:List Nat),RF H v1 t1 F1→RF H v2 t2 F2→q t1 t2=some t→∃v,o v1 v2 H=some (v,H)∧RF H v t []
def OI2(o:V→V→Hp→Option (V×Hp))(q:T→T→Option T): Prop:=∀(H:Hp) (v1 v2:V) (t1 t2 t:T) (F1 F2:List Nat),RF H v1 t1 F1→RF H v2 t2 F2→q t1 t2=some t→∃v F,o v1 v2 H=some (v,H)∧RF H v t F∧F.Sublist F1
def OC2(o:V→V→Hp→Option (V×Hp))(q:T→T→Option T): Prop:=∀(H:Hp) (v1 v2:V) (t1 t2 t:T) (F1 F2:List Nat),RF H v1 t1 F1→RF H v2 t2 F2→q t1 t2=some t→∃v X F,o v1 v2 H=some (v,H++X)∧RF (H++X) v t F∧(∀a∈F,H.length≤a∨a∈F1∨a∈F2)∧(t.flatIn=true→F.Nodup∧∀a∈F,H.length≤a)
def OA1(o:V→Hp→Option (V×Hp))(q:T→Option T): Prop:=∀(H:Hp) (v1:V) (t1 t:T) (F1:List Nat),RF H v1 t1 F1→q t1=some t→∃v,o v1 H=some (v,H)∧RF H v t []
def OAn(o:List V→Hp→Option (V×Hp))(q:List T→Option T): Prop:=∀(H:Hp) (vs:List V) (ts:List T) (t:T) (F:List Nat),RFs H vs ts F→q ts=some t→∃v,o vs H=some (v,H)∧RF H v t []
def OCn(o:List V→Hp→Option (V×Hp))(q:List T→Option T): Prop:=∀(H:Hp) (vs:List V) (ts:List T) (t:T) (F1:List Nat),0<H.length→RFs H vs ts F1→q ts=some t→∃v X F,o vs H=some (v,H++X)∧RF (H++X) v t F∧(∀a∈F,H.length≤a∨a∈F1)∧(t.flatIn=true→F.Nodup∧∀a∈F,H.length≤a)
noncomputable def ZB(q:T→T→Option T)(p1 p2:PE): PE:=fun σ=>(p1 σ).bind fun x=>(p2 σ).bind fun y=>q x y
noncomputable def pUn(q:T→Option T)(p1:PE): PE:=fun σ=>(p1 σ).bind fun x=>q x
noncomputable def ZV(q:List T→Option T)(ps:PEs): PE:=fun σ=>(ps σ).bind fun xs=>q xs
noncomputable def pFl(p:PE): PE:=fun σ=>(p σ).bind fun t=>if t.flatIn then some t else none
theorem Zjt{M:List Nat}{u':Bool}{e1 e2:Ex}{p1 p2:PE}{q:T→T→Option T}{o:V→V→Hp→Option (V×Hp)}{c:Ctx}{ρ:Lc}{σ:TL}{H:Hp}{Φ:Nat→List Nat}{t:T}(x:E O N u e1 p1)(y:E O M u' e2 p2)(s:St c O ρ σ H Φ)(h:ZB q p1 p2 σ=some t):
  ∃t1 t2 v1 v2 X F1 F2,q t1 t2=some t∧RF (H++X) v1 t1 F1∧RF (H++X) v2 t2 F2∧(∀a∈F1,From H N σ Φ a)∧(∀a∈F2,From H M σ Φ a)∧(u=true→F1.Nodup)∧ZA o e1 e2 ρ H=o v1 v2 (H++X):=by
 obtain⟨t1,h1,h⟩:=Zz0.mp h
 obtain⟨t2,h2,h⟩:=Zz0.mp h
 obtain⟨v,X,F,a1,a2,a3,a4⟩:=x c ρ σ H Φ t1 s h1
 obtain⟨w,Y,G,b1,b2,b3,b4⟩:=y c ρ σ (H++X) Φ t2 (s.ext X) h2
 rw[List.append_assoc]at b1 b2
 refine⟨t1,t2,v,w,X++Y,F,G,h,?_,b2,a3,fun a m=>(b3 a m).back,a4,by simp only[ZA,a1,b1,Option.bind_some]⟩
 rw[←List.append_assoc];exact a2.ext Y
theorem Zr{M:List Nat}{u':Bool}{e1 e2:Ex}{p1 p2:PE}{q:T→T→Option T}{o:V→V→Hp→Option (V×Hp)}(k:OA2 o q)(x:E O N u e1 p1)(y:E O M u' e2 p2): E O [] true (ZA o e1 e2) (ZB q p1 p2):=fun c ρ σ H Φ t s h=>by
 obtain⟨t1,t2,v1,v2,X,F1,F2,hq,r1,r2,_,_,_,e⟩:=Zjt (o:=o) x y s h
 obtain⟨v,h1,h2⟩:=k _ v1 v2 t1 t2 t F1 F2 r1 r2 hq
 exact⟨v,X,[],e.trans h1,h2,by simp,by simp⟩
theorem Zo{M:List Nat}{u':Bool}{e1 e2:Ex}{p1 p2:PE}{q:T→T→Option T}{o:V→V→Hp→Option (V×Hp)}(k:OI2 o q)(x:E O N u e1 p1)(y:E O M u' e2 p2): E O N u (ZA o e1 e2) (ZB q p1 p2):=fun c ρ σ H Φ t s h=>by
 obtain⟨t1,t2,v1,v2,X,F1,F2,hq,r1,r2,h1,_,hu,e⟩:=Zjt (o:=o) x y s h
 obtain⟨v,F,k1,k2,k3⟩:=k _ v1 v2 t1 t2 t F1 F2 r1 r2 hq
 exact⟨v,X,F,e.trans k1,k2,fun a m=>h1 a (k3.subset m),fun h=>(hu h).sublist k3⟩
theorem ZQ{M:List Nat}{u':Bool}{e1 e2:Ex}{p1 p2:PE}{q:T→T→Option T}{o:V→V→Hp→Option (V×Hp)}(k:OC2 o q)(x:E O N u e1 p1)(y:E O M u' e2 p2): E O (N++M) false (ZA o e1 e2) (ZB q p1 p2):=fun c ρ σ H Φ t s h=>by
 obtain⟨t1,t2,v1,v2,X,F1,F2,hq,r1,r2,h1,h2,hu,e⟩:=Zjt (o:=o) x y s h
 obtain⟨v,Y,F,k1,k2,k3,k4⟩:=k _ v1 v2 t1 t2 t F1 F2 r1 r2 hq
 rw[List.append_assoc]at k1 k2
 refine⟨v,X++Y,F,e.trans k1,k2,fun a m=>?_,by simp⟩
 rcases k3 a m with h | h | h
 ·exact .inl (by rw[List.length_append]at h;omega)
 ·exact(h1 a h).mono fun i hi=>List.mem_append_left _ hi
 ·exact(h2 a h).mono fun i hi=>List.mem_append_right _ hi
theorem Zir{M:List Nat}{u':Bool}{e1 e2:Ex}{p1 p2:PE}{q:T→T→Option T}{o:V→V→Hp→Option (V×Hp)}(k:OC2 o q)(x:E O N u e1 p1)(y:E O M u' e2 p2): E O [] true (ZA o e1 e2) (pFl (ZB q p1 p2)):=fun c ρ σ H Φ t s h=>by
 obtain⟨t',h,hf⟩:=Zz0.mp h
 by_cases fl:t'.flatIn=true
 ·rw[if_pos fl]at hf
  cases hf
  obtain⟨t1,t2,v1,v2,X,F1,F2,hq,r1,r2,h1,h2,hu,e⟩:=Zjt (o:=o) x y s h
  obtain⟨v,Y,F,k1,k2,k3,k4⟩:=k _ v1 v2 t1 t2 t F1 F2 r1 r2 hq
  rw[List.append_assoc]at k1 k2
  exact⟨v,X++Y,F,e.trans k1,k2,fun a m=>.inl (by have:=(k4 fl).2 a m;rw[List.length_append]at this;omega),fun _=>(k4 fl).1⟩
 ·rw[if_neg fl]at hf;cases hf
theorem Zb7{e1:Ex}{p1:PE}{q:T→Option T}{o:V→Hp→Option (V×Hp)}(k:OA1 o q)(x:E O N u e1 p1): E O [] true (eUn o e1) (pUn q p1):=fun c ρ σ H Φ t s h=>by
 obtain⟨t1,h1,h⟩:=Zz0.mp h
 obtain⟨v,X,F,a1,a2,a3,a4⟩:=x c ρ σ H Φ t1 s h1
 obtain⟨w,b1,b2⟩:=k _ v t1 t F a2 h
 exact⟨w,X,[],by simp only[eUn,a1,Option.bind_some,b1],b2,by simp,by simp⟩
theorem Zag{n:Nat}{es:Exs}{ps:PEs}{q:List T→Option T}{o:List V→Hp→Option (V×Hp)}(k:OAn o q)(x:Es O N u n es ps): E O [] true (ZU o es) (ZV q ps):=fun c ρ σ H Φ t s h=>by
 obtain⟨ts,h1,h⟩:=Zz0.mp h
 obtain⟨_,vs,X,F,a1,a2,a3,a4⟩:=x c ρ σ H Φ ts s h1
 obtain⟨w,b1,b2⟩:=k _ vs ts t F a2 h
 exact⟨w,X,[],by simp only[ZU,a1,Option.bind_some,b1],b2,by simp,by simp⟩
theorem ZjO{n:Nat}{es:Exs}{ps:PEs}{q:List T→Option T}{o:List V→Hp→Option (V×Hp)}(k:OCn o q)(x:Es O N u n es ps): E O N false (ZU o es) (ZV q ps):=fun c ρ σ H Φ t s h=>by
 obtain⟨ts,h1,h⟩:=Zz0.mp h
 obtain⟨_,vs,X,F,a1,a2,a3,a4⟩:=x c ρ σ H Φ ts s h1
 have hp:0<(H++X).length:=by have:=s.pos;have:=s.len;rw[List.length_append];omega
 obtain⟨w,Y,G,b1,b2,b3,b4⟩:=k _ vs ts t F hp a2 h
 rw[List.append_assoc]at b1 b2
 refine⟨w,X++Y,G,by simp only[ZU,a1,Option.bind_some,b1],b2,fun a m=>?_,by simp⟩
 rcases b3 a m with h | h
 ·exact .inl (by rw[List.length_append]at h;omega)
 ·exact a3 a h
theorem ZjP{n:Nat}{es:Exs}{ps:PEs}{q:List T→Option T}{o:List V→Hp→Option (V×Hp)}(k:OCn o q)(x:Es O N u n es ps): E O [] true (ZU o es) (pFl (ZV q ps)):=fun c ρ σ H Φ t s h=>by
 obtain⟨t',h,hf⟩:=Zz0.mp h
 by_cases fl:t'.flatIn=true
 ·rw[if_pos fl]at hf
  cases hf
  obtain⟨ts,h1,h⟩:=Zz0.mp h
  obtain⟨_,vs,X,F,a1,a2,a3,a4⟩:=x c ρ σ H Φ ts s h1
  have hp:0<(H++X).length:=by have:=s.pos;have:=s.len;rw[List.length_append];omega
  obtain⟨w,Y,G,b1,b2,b3,b4⟩:=k _ vs ts t F hp a2 h
  rw[List.append_assoc]at b1 b2
  exact⟨w,X++Y,G,by simp only[ZU,a1,Option.bind_some,b1],b2,fun a m=>.inl (by have:=(b4 fl).2 a m;rw[List.length_append]at this;omega),fun _=>(b4 fl).1⟩
 ·rw[if_neg fl]at hf;cases hf
def SimF(fr:Bool)(f:List V→Hp→Option (V×Hp))(p:List T→Option T): Prop:=∀(H:Hp) (vs:List V) (ts:List T) (t:T) (F1:List Nat),0<H.length→RFs H vs ts F1→p ts=some t→∃v X F,f vs H=some (v,H++X)∧RF (H++X) v t F∧(∀a∈F,H.length≤a∨a∈F1)∧(fr=true→F.Nodup∧∀a∈F,H.length≤a)
theorem Zs{fr:Bool}{n:Nat}{es:Exs}{ps:PEs}{q:List T→Option T}{o:List V→Hp→Option (V×Hp)}(k:SimF fr o q)(x:Es O N u n es ps): E O N false (ZU o es) (ZV q ps):=fun c ρ σ H Φ t s h=>by
 obtain⟨ts,h1,h⟩:=Zz0.mp h
 obtain⟨_,vs,X,F,a1,a2,a3,a4⟩:=x c ρ σ H Φ ts s h1
 have hp:0<(H++X).length:=by have:=s.pos;have:=s.len;rw[List.length_append];omega
 obtain⟨w,Y,G,b1,b2,b3,b4⟩:=k _ vs ts t F hp a2 h
 rw[List.append_assoc]at b1 b2
 refine⟨w,X++Y,G,by simp only[ZU,a1,Option.bind_some,b1],b2,fun a m=>?_,by simp⟩
 rcases b3 a m with h | h
 ·exact .inl (by rw[List.length_append]at h;omega)
 ·exact a3 a h
theorem Zan{n:Nat}{es:Exs}{ps:PEs}{q:List T→Option T}{o:List V→Hp→Option (V×Hp)}(k:SimF true o q)(x:Es O N u n es ps): E O [] true (ZU o es) (ZV q ps):=fun c ρ σ H Φ t s h=>by
 obtain⟨ts,h1,h⟩:=Zz0.mp h
 obtain⟨_,vs,X,F,a1,a2,a3,a4⟩:=x c ρ σ H Φ ts s h1
 have hp:0<(H++X).length:=by have:=s.pos;have:=s.len;rw[List.length_append];omega
 obtain⟨w,Y,G,b1,b2,b3,b4⟩:=k _ vs ts t F hp a2 h
 rw[List.append_assoc]at b1 b2
 exact⟨w,X++Y,G,by simp only[ZU,a1,Option.bind_some,b1],b2,fun a m=>.inl (by have:=(b4 rfl).2 a m;rw[List.length_append]at this;omega),fun _=>(b4 rfl).1⟩
noncomputable def Zbx: T→Option Bool
 | .bool b=>some b
 | .none=>some false
 | .int i=>some (i != 0)
 | _=>none
theorem ZdT{H:Hp}{v:V}{t:T}{F:List Nat}{b:Bool}(r:RF H v t F)(h:Zbx t=some b): Zcq v H=some b:=by
 cases r <;> first | (cases h;rfl) | cases h
noncomputable def Zat(p:PE): PB:=fun σ=>(p σ).bind Zbx
noncomputable def ZnV(p:PB): PB:=fun σ=>(p σ).map fun b=>!b
noncomputable def Za8: PB:=fun _=>some true
noncomputable def Zis: PB:=fun _=>some false
noncomputable def Zgd(p q:PB): PB:=fun σ=>(p σ).bind fun b=>if b then q σ else some false
noncomputable def bOr(p q:PB): PB:=fun σ=>(p σ).bind fun b=>if b then some true else q σ
noncomputable def bIf(p q r:PB): PB:=fun σ=>(p σ).bind fun b=>if b then q σ else r σ
theorem Zw{e:Ex}{p:PE}(x:E O N u e p): Bt O (Zap e) (Zat p):=fun c ρ σ H Φ b s h=>by
 obtain⟨t,h1,h⟩:=Zz0.mp h
 obtain⟨v,X,F,a1,a2,a3,a4⟩:=x c ρ σ H Φ t s h1
 exact⟨X,by simp only[Zap,a1,Option.bind_some,ZdT a2 h,Option.map_some]⟩
theorem ZbT{e:Ts}{p:PB}(x:Bt O e p): Bt O (ZnQ e) (ZnV p):=fun c ρ σ H Φ b s h=>by
 obtain⟨t,h1,h⟩:=Zz1.mp h
 subst h
 obtain⟨X,a1⟩:=x c ρ σ H Φ t s h1
 exact⟨X,by simp only[ZnQ,a1,Option.map_some]⟩
theorem Zam: Bt O ZbP Za8:=fun c ρ σ H Φ b s h=>by
 cases h;exact⟨[],by simp[ZbP]⟩
theorem Zb2: Bt O ZfT Zis:=fun c ρ σ H Φ b s h=>by
 cases h;exact⟨[],by simp[ZfT]⟩
theorem Zbi{e f:Ts}{p q:PB}(x:Bt O e p)(y:Bt O f q): Bt O (Zga e f) (Zgd p q):=fun c ρ σ H Φ b s h=>by
 obtain⟨t,h1,h⟩:=Zz0.mp h
 obtain⟨X,a1⟩:=x c ρ σ H Φ t s h1
 cases t with
 | true=>
  obtain⟨Y,b1⟩:=y c ρ σ (H++X) Φ b (s.ext X) (by simpa using h)
  exact⟨X++Y,by simp[Zga,a1,b1]⟩
 | false=>cases h;exact⟨X,by simp[Zga,a1]⟩
theorem ZaH{e f:Ts}{p q:PB}(x:Bt O e p)(y:Bt O f q): Bt O (tOr e f) (bOr p q):=fun c ρ σ H Φ b s h=>by
 obtain⟨t,h1,h⟩:=Zz0.mp h
 obtain⟨X,a1⟩:=x c ρ σ H Φ t s h1
 cases t with
 | false=>
  obtain⟨Y,b1⟩:=y c ρ σ (H++X) Φ b (s.ext X) (by simpa using h)
  exact⟨X++Y,by simp[tOr,a1,b1]⟩
 | true=>cases h;exact⟨X,by simp[tOr,a1]⟩
theorem ZAJ{e f g:Ts}{p q r:PB}(x:Bt O e p)(y:Bt O f q)(z:Bt O g r): Bt O (tIf e f g) (bIf p q r):=fun c ρ σ H Φ b s h=>by
 obtain⟨t,h1,h⟩:=Zz0.mp h
 obtain⟨X,a1⟩:=x c ρ σ H Φ t s h1
 cases t with
 | true=>
  obtain⟨Y,b1⟩:=y c ρ σ (H++X) Φ b (s.ext X) (by simpa using h)
  exact⟨X++Y,by simp[tIf,a1,b1]⟩
 | false=>
  obtain⟨Y,b1⟩:=z c ρ σ (H++X) Φ b (s.ext X) (by simpa using h)
  exact⟨X++Y,by simp[tIf,a1,b1]⟩
noncomputable def pIf(b:PB)(p q:PE): PE:=fun σ=>(b σ).bind fun x=>if x then p σ else q σ
noncomputable def ZnW(p:PE): PE:=fun σ=>(p σ).bind fun t=>(Zbx t).map fun b=>.bool !b
noncomputable def ZkO(p q:PE): PE:=fun σ=>(p σ).bind fun t=>(Zbx t).bind fun b=>if b then q σ else some t
noncomputable def pOr(p q:PE): PE:=fun σ=>(p σ).bind fun t=>(Zbx t).bind fun b=>if b then some t else q σ
theorem Zd9{M:List Nat}{b:Ts}{pb:PB}{e f:Ex}{p q:PE}(z:Bt O b pb)(x:E O N u e p)(y:E O M u f q): E O (N++M) u (eIf b e f) (pIf pb p q):=fun c ρ σ H Φ t s h=>by
 obtain⟨b',h1,h⟩:=Zz0.mp h
 obtain⟨X,a1⟩:=z c ρ σ H Φ b' s h1
 cases b' with
 | true=>
  obtain⟨v,Y,F,b1,b2,b3,b4⟩:=x c ρ σ (H++X) Φ t (s.ext X) (by simpa using h)
  exact⟨v,X++Y,F,by simp[eIf,a1,b1],by rw[←List.append_assoc];exact b2,fun a m=>(b3 a m).back.mono fun i hi=>List.mem_append_left _ hi,b4⟩
 | false=>
  obtain⟨v,Y,F,b1,b2,b3,b4⟩:=y c ρ σ (H++X) Φ t (s.ext X) (by simpa using h)
  exact⟨v,X++Y,F,by simp[eIf,a1,b1],by rw[←List.append_assoc];exact b2,fun a m=>(b3 a m).back.mono fun i hi=>List.mem_append_right _ hi,b4⟩
theorem ZzM{e:Ex}{p:PE}(x:E O N u e p): E O [] true (ZnR e) (ZnW p):=fun c ρ σ H Φ t s h=>by
 obtain⟨t1,h1,h⟩:=Zz0.mp h
 obtain⟨b,h2,h⟩:=Zz1.mp h
 subst h
 obtain⟨v,X,F,a1,a2,a3,a4⟩:=x c ρ σ H Φ t1 s h1
 exact⟨.bool !b,X,[],by simp only[ZnR,a1,Option.bind_some,ZdT a2 h2,Option.map_some],.bool _,by simp,by simp⟩
theorem ZdA{M:List Nat}{e f:Ex}{p q:PE}(x:E O N u e p)(y:E O M u f q): E O (N++M) u (ZiL e f) (ZkO p q):=fun c ρ σ H Φ t s h=>by
 obtain⟨t1,h1,h⟩:=Zz0.mp h
 obtain⟨b,h2,h⟩:=Zz0.mp h
 obtain⟨v,X,F,a1,a2,a3,a4⟩:=x c ρ σ H Φ t1 s h1
 cases b with
 | true=>
  obtain⟨w,Y,F',b1,b2,b3,b4⟩:=y c ρ σ (H++X) Φ t (s.ext X) (by simpa using h)
  exact⟨w,X++Y,F',by simp[ZiL,a1,ZdT a2 h2,b1],by rw[←List.append_assoc];exact b2,fun a m=>(b3 a m).back.mono fun i hi=>List.mem_append_right _ hi,b4⟩
 | false=>
  cases h
  exact⟨v,X,F,by simp[ZiL,a1,ZdT a2 h2],a2,fun a m=>(a3 a m).mono fun i hi=>List.mem_append_left _ hi,a4⟩
theorem ZsS{M:List Nat}{e f:Ex}{p q:PE}(x:E O N u e p)(y:E O M u f q): E O (N++M) u (eOr e f) (pOr p q):=fun c ρ σ H Φ t s h=>by
 obtain⟨t1,h1,h⟩:=Zz0.mp h
 obtain⟨b,h2,h⟩:=Zz0.mp h
 obtain⟨v,X,F,a1,a2,a3,a4⟩:=x c ρ σ H Φ t1 s h1
 cases b with
 | false=>
  obtain⟨w,Y,F',b1,b2,b3,b4⟩:=y c ρ σ (H++X) Φ t (s.ext X) (by simpa using h)
  exact⟨w,X++Y,F',by simp[eOr,a1,ZdT a2 h2,b1],by rw[←List.append_assoc];exact b2,fun a m=>(b3 a m).back.mono fun i hi=>List.mem_append_right _ hi,b4⟩
 | true=>
  cases h
  exact⟨v,X,F,by simp[eOr,a1,ZdT a2 h2],a2,fun a m=>(a3 a m).mono fun i hi=>List.mem_append_left _ hi,a4⟩
noncomputable def ZmT: T→String
 | .none=>"NoneType"
 | .bool _=>"bool"
 | .int _=>"int"
 | .str _=>"str"
 | .tup _=>"tuple"
 | .lst _=>"list"
end
end TM
end
section
namespace TM
open PySem PM
section
variable {O N:List Nat} {u:Bool}
noncomputable def ZjQ(K:String)(t:T): Bool:=ZmT t == K || (K == "int" && ZmT t == "bool")
noncomputable def pIs(K:String)(p:PE): PE:=fun σ=>(p σ).map fun t=>.bool (ZjQ K t)
theorem Zxm{H:Hp}{v:V}{t:T}{F:List Nat}(r:RF H v t F): ZmS v=ZmT t:=by cases r <;> rfl
theorem ZdF{K:String}{e:Ex}{p:PE}(x:E O N u e p): E O [] true (eIs K e) (pIs K p):=fun c ρ σ H Φ t s h=>by
 obtain⟨t1,h1,h⟩:=Zz1.mp h
 subst h
 obtain⟨v,X,F,a1,a2,a3,a4⟩:=x c ρ σ H Φ t1 s h1
 exact⟨.bool (ZjQ K t1),X,[],by simp only[eIs,a1,Option.map_some,Znd,ZjQ,Zxm a2],.bool _,by simp,by simp⟩
noncomputable def Zdj: T→T→Option T
 | .int a,.int b=>some (.int (a-b))
 | _,_=>none
noncomputable def ZkP: T→T→Option T
 | .int a,.int b=>if b≠0∧Builtin.divisionGoesByPylong a b=false then some (.int (a.fdiv b))else none
 | _,_=>none
noncomputable def ZkQ: T→T→Option T
 | .int a,.int b=>if b≠0 then some (.int (a.fmod b))else none
 | _,_=>none
noncomputable def Zef: T→T→Option T
 | .int a,.int b=>if 0≤b∧(Builtin.Int.intBits a:Int)*b≤2 ^ 27 then some (.int (a ^ b.toNat))else none
 | _,_=>none
noncomputable def ZiQ: T→Option T
 | .int a=>some (.int (-a))
 | _=>none
noncomputable def ZkR(p:Int→Int→Bool): T→T→Option T
 | .int a,.int b=>some (.bool (p a b))
 | _,_=>none
noncomputable def qLt:=ZkR fun a b=>decide (a<b)
noncomputable def qLe:=ZkR fun a b=>decide (a≤b)
noncomputable def qGt:=ZkR fun a b=>decide (b<a)
theorem Za1: OA2 Ze8 Zdj:=fun H v1 v2 t1 t2 t F1 F2 r1 r2 h=>by
 cases r1 <;> first | (cases h;done) | (cases r2 <;> first | (cases h;done) | (cases h;exact⟨_,rfl,.int _⟩))
theorem ZcO: OA2 oDiv ZkP:=fun H v1 v2 t1 t2 t F1 F2 r1 r2 h=>by
 cases r1 <;> first | (cases h;done) | skip
 cases r2 <;> first | (cases h;done) | skip
 simp only[ZkP]at h
 split at h
 ·rename_i hc;cases h;exact⟨_,by simp only[oDiv];rw[if_pos hc],.int _⟩
 ·cases h
theorem ZaB: OA2 oMod ZkQ:=fun H v1 v2 t1 t2 t F1 F2 r1 r2 h=>by
 cases r1 <;> first | (cases h;done) | skip
 cases r2 <;> first | (cases h;done) | skip
 simp only[ZkQ]at h
 split at h
 ·rename_i hc;cases h;exact⟨_,by simp only[oMod];rw[if_pos hc],.int _⟩
 ·cases h
theorem ZnF: OA2 oPow Zef:=fun H v1 v2 t1 t2 t F1 F2 r1 r2 h=>by
 cases r1 <;> first | (cases h;done) | skip
 cases r2 <;> first | (cases h;done) | skip
 simp only[Zef]at h
 split at h
 ·rename_i hc;cases h;exact⟨_,by simp only[oPow];rw[if_pos hc],.int _⟩
 ·cases h
theorem Zb8: OA1 ZiM ZiQ:=fun H v1 t1 t F1 r1 h=>by
 cases r1 <;> first | (cases h;done) | (cases h;exact⟨_,rfl,.int _⟩)
theorem ZnG(p:Int→Int→Bool): OA2 (ZkJ p) (ZkR p):=fun H v1 v2 t1 t2 t F1 F2 r1 r2 h=>by
 cases r1 <;> first | (cases h;done) | (cases r2 <;> first | (cases h;done) | (cases h;exact⟨_,rfl,.bool _⟩))
theorem Zc6: OA2 oLt qLt:=ZnG _
theorem ZkS: OA2 oLe qLe:=ZnG _
theorem Zfb: OA2 oGt qGt:=ZnG _
noncomputable def Ze2(f:T→Option PyData): List T→Option (List PyData)
 | []=>some []
 | v::vs=>(f v).bind fun d=>(Ze2 f vs).bind fun ds=>some (d::ds)
noncomputable def Zcy: Nat→T→Option PyData
 | _,.none=>some .none
 | _,.bool b=>some (.bool b)
 | _,.int i=>some (.int i)
 | _,.str x=>some (.str x)
 | n+1,.tup vs=>(Ze2 (Zcy n) vs).map .tuple
 | n+1,.lst vs=>(Ze2 (Zcy n) vs).map .list
 | 0,.tup _=>none
 | 0,.lst _=>none
theorem ZmU{H:Hp}{f:V→Option PyData}{g:T→Option PyData}(h:∀v t F,RF H v t F→f v=g t): ∀{vs:List V} {ts:List T} {F:List Nat},RFs H vs ts F→Zgb f vs=Ze2 g ts
 | _,_,_,.nil=>rfl
 | _,_,_,.cons a b=>by simp only[Zgb,Ze2,h _ _ _ a,ZmU h b]
theorem Zkf{H:Hp}: ∀(n:Nat) (v:V) (t:T) (F:List Nat),RF H v t F→toD H n v=Zcy n t:=by
 intro n
 induction n with
 | zero=>intro v t F r;cases r <;> rfl
 | succ n ih=>
  intro v t F r
  cases r with
  | none=>rfl
  | bool=>rfl
  | int=>rfl
  | str=>rfl
  | tup hs=>simp only[toD,Zcy,ZmU ih hs]
  | ref e hs=>simp only[toD,Zcy,e,Option.bind_some,ZmU ih hs]
noncomputable def Zeg(a b:T): Option Bool:=(Zcy Zbu a).bind fun d=>(Zcy Zbu b).bind fun e=>if SeqAt.shaped d=true∧SeqAt.shaped e=true then some (PyData.eqv d e)else none
noncomputable def qEq(a b:T): Option T:=(Zeg a b).map .bool
noncomputable def qNe(a b:T): Option T:=(Zeg a b).map fun c=>.bool !c
theorem Zr2{H:Hp}{v1 v2:V}{t1 t2:T}{F1 F2:List Nat}(r1:RF H v1 t1 F1)(r2:RF H v2 t2 F2): ZkK v1 v2 H=Zeg t1 t2:=by
 simp only[ZkK,Zeg,Zkf Zbu _ _ _ r1,Zkf Zbu _ _ _ r2]
theorem Zad: OA2 oEq qEq:=fun H v1 v2 t1 t2 t F1 F2 r1 r2 h=>by
 obtain⟨c,h1,h⟩:=Zz1.mp h
 subst h
 exact⟨_,by simp only[oEq,Zr2 r1 r2,h1,Option.map_some],.bool _⟩
theorem ZbM: OA2 oNe qNe:=fun H v1 v2 t1 t2 t F1 F2 r1 r2 h=>by
 obtain⟨c,h1,h⟩:=Zz1.mp h
 subst h
 exact⟨_,by simp only[oNe,Zr2 r1 r2,h1,Option.map_some],.bool _⟩
noncomputable def qIs: T→T→Option T
 | .none,.none=>some (.bool true)
 | _,.none=>some (.bool false)
 | _,_=>none
noncomputable def ZfV: T→T→Option T
 | .none,.none=>some (.bool false)
 | _,.none=>some (.bool true)
 | _,_=>none
theorem Za9: OA2 oIs qIs:=fun H v1 v2 t1 t2 t F1 F2 r1 r2 h=>by
 cases r1 <;> cases r2 <;> first | (cases h;done) | (cases h;exact⟨_,rfl,.bool _⟩)
theorem Zch: OA2 Znc ZfV:=fun H v1 v2 t1 t2 t F1 F2 r1 r2 h=>by
 cases r1 <;> cases r2 <;> first | (cases h;done) | (cases h;exact⟨_,rfl,.bool _⟩)
noncomputable def Z2: T→T→Option T
 | .lst ts,.int k=>(seqIndex? k ts.length).bind fun j=>ts[j]?
 | .tup ts,.int k=>(seqIndex? k ts.length).bind fun j=>ts[j]?
 | _,_=>none
theorem Zn: OI2 Z4 Z2:=fun H v1 v2 t1 t2 t F1 F2 r1 r2 h=>by
 cases r1 with
 | none=>cases h
 | bool=>cases h
 | int=>cases h
 | str=>cases h
 | tup hs=>
  cases r2 <;> first | (cases h;done) | skip
  obtain⟨j,h1,h2⟩:=Zz0.mp h
  obtain⟨v,G,e1,e2,e3⟩:=hs.at h2
  exact⟨v,G,by simp only[Z4,hs.length,h1,Option.bind_some,e1,Option.map_some],e2,e3⟩
 | ref e hs=>
  cases r2 <;> first | (cases h;done) | skip
  obtain⟨j,h1,h2⟩:=Zz0.mp h
  obtain⟨v,G,e1,e2,e3⟩:=hs.at h2
  exact⟨v,G,by simp only[Z4,e,Option.bind_some,hs.length,h1,e1,Option.map_some],e2,e3.trans (List.sublist_cons_self _ _)⟩
noncomputable def ZbQ: List T→Option T
 | [.lst ts]=>some (.int ts.length)
 | [.tup ts]=>some (.int ts.length)
 | _=>none
theorem RFs.one_inv{H:Hp}{vs:List V}{t:T}{F:List Nat}(r:RFs H vs [t] F): ∃v,vs=[v]∧RF H v t F:=by
 cases r with
 | cons a b=>cases b;rw[List.append_nil];exact⟨_,rfl,a⟩
theorem RFs.two_inv{H:Hp}{vs:List V}{t t':T}{F:List Nat}(r:RFs H vs [t,t'] F): ∃v v' F1 F2,vs=[v,v']∧RF H v t F1∧RF H v' t' F2∧F=F1++F2:=by
 cases r with
 | cons a b=>obtain⟨v',h1,h2⟩:=b.one_inv;subst h1;exact⟨_,_,_,_,rfl,a,h2,rfl⟩
theorem Zau: OAn Zcx ZbQ:=fun H vs ts t F r h=>by
 unfold ZbQ at h
 split at h
 ·obtain⟨v,rfl,r'⟩:=r.one_inv
  cases r' with
  | ref e hs=>cases h;exact⟨_,by simp only[Zcx,e,Option.map_some,hs.length],.int _⟩
 ·obtain⟨v,rfl,r'⟩:=r.one_inv
  cases r' with
  | tup hs=>cases h;exact⟨_,by simp only[Zcx,hs.length],.int _⟩
 ·cases h
noncomputable def ZnX: List T→Option T
 | [.int a]=>some (.int (if a<0 then -a else a))
 | _=>none
theorem Zea: OAn ZnS ZnX:=fun H vs ts t F r h=>by
 unfold ZnX at h
 split at h
 ·obtain⟨v,rfl,r'⟩:=r.one_inv
  cases r';cases h;exact⟨_,rfl,.int _⟩
 ·cases h
noncomputable def Zc2: List T→Option (List Int)
 | []=>some []
 | .int k::vs=>(Zc2 vs).map fun ks=>k::ks
 | _::_=>none
noncomputable def ZfW: List T→Option (List Bool)
 | []=>some []
 | .bool k::vs=>(ZfW vs).map fun ks=>k::ks
 | _::_=>none
theorem ZjR{H:Hp}: ∀{vs:List V} {ts:List T} {F:List Nat} {ks:List Int},RFs H vs ts F→Zc2 ts=some ks→Zde vs=some ks
 | _,_,_,_,.nil,h=>h
 | _,_,_,_,.cons a b,h=>by
  cases a <;> first | (cases h;done) | skip
  obtain⟨js,h1,h2⟩:=Zz1.mp h
  subst h2
  simp only[Zde,ZjR b h1,Option.map_some]
theorem ZqK{H:Hp}: ∀{vs:List V} {ts:List T} {F:List Nat} {ks:List Bool},RFs H vs ts F→ZfW ts=some ks→ZfK vs=some ks
 | _,_,_,_,.nil,h=>h
 | _,_,_,_,.cons a b,h=>by
  cases a <;> first | (cases h;done) | skip
  obtain⟨js,h1,h2⟩:=Zz1.mp h
  subst h2
  simp only[ZfK,ZqK b h1,Option.map_some]
noncomputable def ZnY: List T→Option T
 | [.lst ts]=>(Zc2 ts).map fun ks=>.int ks.sum
 | _=>none
noncomputable def ZkT: List T→Option T
 | [.lst ts]=>(ZfW ts).map fun bs=>.bool (bs.any id)
 | _=>none
theorem ZzN: OAn ZkL ZnY:=fun H vs ts t F r h=>by
 unfold ZnY at h
 split at h
 ·obtain⟨v,rfl,r'⟩:=r.one_inv
  cases r' with
  | ref e hs=>
   obtain⟨ks,h1,h2⟩:=Zz1.mp h
   subst h2
   exact⟨_,by simp only[ZkL,e,Option.bind_some,ZjR hs h1,Option.map_some],.int _⟩
 ·cases h
theorem ZzO: OAn ZkN ZkT:=fun H vs ts t F r h=>by
 unfold ZkT at h
 split at h
 ·obtain⟨v,rfl,r'⟩:=r.one_inv
  cases r' with
  | ref e hs=>
   obtain⟨ks,h1,h2⟩:=Zz1.mp h
   subst h2
   exact⟨_,by simp only[ZkN,e,Option.bind_some,ZqK hs h1,Option.map_some],.bool _⟩
 ·cases h
theorem ZdG{H:Hp}{vs:List V}{ts:List T}{F:List Nat}(r:RFs H vs ts F): RF (H++[vs]) (.ref H.length) (.lst ts) (H.length::F):=.ref (by simp) (r.ext _)
theorem Zfv{H:Hp}{vs:List V}{ts:List T}{F:List Nat}(r:RFs H vs ts F)(h:T.flatIn (.lst ts)=true): (H.length::F).Nodup∧∀a∈H.length::F,H.length≤a:=by
 rw[r.flats (by simpa [T.flatIn]using h)]
 simp
theorem Zwq{H:Hp}{v:V}{t:T}{F:List Nat}(r:RF H v t F)(h:F=[]): F.Nodup∧∀a∈F,H.length≤a:=by subst h;simp
noncomputable def ZiR(ts:List T): Nat→List T
 | 0=>[]
 | n+1=>ZiR ts n++ts
noncomputable def Zaj: T→T→Option T
 | .int a,.int b=>some (.int (a+b))
 | .lst a,.lst b=>if(a++b).length≤LEN then some (.lst (a++b))else none
 | .tup a,.tup b=>if(a++b).length≤LEN then some (.tup (a++b))else none
 | _,_=>none
noncomputable def Zdk: T→T→Option T
 | .int a,.int b=>if mulOk a b=true then some (.int (a*b))else none
 | .lst a,.int k=>if a.length*k.toNat≤LEN∧-(2 ^ 63:Int)≤k∧k<2 ^ 63 then some (.lst (ZiR a k.toNat))else none
 | _,_=>none
theorem Zr3{H:Hp}{vs:List V}{ts:List T}{F:List Nat}(r:RFs H vs ts F): ∀n,∃G,RFs H (Ze9 vs n) (ZiR ts n) G∧∀a∈G,a∈F
 | 0=>⟨_,.nil,by simp⟩
 | n+1=>by
  obtain⟨G,h1,h2⟩:=Zr3 r n
  exact⟨_,h1.append r,fun a m=>(Zz8.mp m).elim (h2 a) id⟩
theorem ZZ: OC2 Zaz Zaj:=fun H v1 v2 t1 t2 t F1 F2 r1 r2 h=>by
 cases r1 with
 | none=>cases h
 | bool=>cases h
 | str=>cases h
 | int a=>
  cases r2 <;> first | (cases h;done) | skip
  cases h;exact⟨_,[],[],by simp[Zaz],.int _,by simp,by simp⟩
 | tup hs1=>
  cases r2 with
  | none=>cases h
  | bool=>cases h
  | str=>cases h
  | int=>cases h
  | ref=>cases h
  | tup hs2=>
   simp only[Zaj]at h
   split at h
   ·rename_i hl
    cases h
    refine⟨_,[],_,?_,.tup (by simpa using hs1.append hs2),fun a m=>.inr (Zz8.mp m),fun hf=>Zwq (H:=H) (.tup (hs1.append hs2)) ((RF.tup (hs1.append hs2)).flat (by simpa [T.flatIn]using hf))⟩
    simp only[Zaz,List.append_nil]
    rw[if_pos (by rw[List.length_append]at hl ⊢;rw[hs1.length,hs2.length];exact hl)]
   ·cases h
 | ref e1 hs1=>
  cases r2 with
  | none=>cases h
  | bool=>cases h
  | str=>cases h
  | int=>cases h
  | tup=>cases h
  | ref e2 hs2=>
   simp only[Zaj]at h
   split at h
   ·rename_i hl
    cases h
    refine⟨_,_,_,?_,ZdG (hs1.append hs2),fun a m=>?_,Zfv (hs1.append hs2)⟩
    ·simp only[Zaz,e1,e2,Option.bind_some]
     rw[if_pos (by rw[List.length_append]at hl ⊢;rw[hs1.length,hs2.length];exact hl)]
    ·rcases Zz7.mp m with rfl | m
     ·exact .inl (Zz10 _)
     ·rcases Zz8.mp m with m | m
      ·exact .inr (.inl (Zz2 _ m))
      ·exact .inr (.inr (Zz2 _ m))
   ·cases h
theorem Zbe: OC2 Zgc Zdk:=fun H v1 v2 t1 t2 t F1 F2 r1 r2 h=>by
 cases r1 with
 | none=>cases h
 | bool=>cases h
 | str=>cases h
 | tup=>cases h
 | int a=>
  cases r2 <;> first | (cases h;done) | skip
  simp only[Zdk]at h
  split at h
  ·rename_i hm
   cases h;exact⟨_,[],[],by simp only[Zgc];rw[if_pos hm];simp,.int _,by simp,by simp⟩
  ·cases h
 | ref e1 hs1=>
  cases r2 with
  | none=>cases h
  | bool=>cases h
  | str=>cases h
  | tup=>cases h
  | ref=>cases h
  | int k=>
   simp only[Zdk]at h
   split at h
   ·rename_i hl
    cases h
    obtain⟨G,h1,h2⟩:=Zr3 hs1 k.toNat
    refine⟨_,_,_,?_,ZdG h1,fun a m=>?_,Zfv h1⟩
    ·simp only[Zgc,e1,Option.bind_some]
     rw[if_pos (by rw[hs1.length];exact hl)]
    ·rcases Zz7.mp m with rfl | m
     ·exact .inl (Zz10 _)
     ·exact .inr (.inl (Zz2 _ (h2 a m)))
   ·cases h
noncomputable def ZeO: List T→Option T
 | [.lst ts]=>some (.lst ts)
 | [.tup ts]=>some (.lst ts)
 | _=>none
noncomputable def ZjS: List T→Option T
 | [.lst ts]=>some (.tup ts)
 | [.tup ts]=>some (.tup ts)
 | _=>none
theorem ZfL: OCn ZeM ZeO:=fun H vs ts t F hp r h=>by
 unfold ZeO at h
 split at h
 ·obtain⟨v,rfl,r'⟩:=r.one_inv
  cases r' with
  | ref e hs=>cases h;exact⟨_,_,_,by simp only[ZeM,e,Option.map_some],ZdG hs,fun a m=>(Zz7.mp m).imp (fun q=>Nat.le_of_eq q.symm) (Zz2 _),Zfv hs⟩
 ·obtain⟨v,rfl,r'⟩:=r.one_inv
  cases r' with
  | tup hs=>cases h;exact⟨_,_,_,by simp only[ZeM],ZdG hs,fun a m=>(Zz7.mp m).imp (fun q=>Nat.le_of_eq q.symm) id,Zfv hs⟩
 ·cases h
end
end TM
end
section
namespace TM
open PySem PM
theorem St.from_src{c:Ctx}{O N:List Nat}{ρ:Lc}{σ:TL}{H:Hp}{Φ:Nat→List Nat}(s:St c O ρ σ H Φ){a:Nat}(f:From H N σ Φ a): c.H0.length≤a∨c.P a:=by
 rcases f with h | ⟨i,hi,⟨t,e⟩,m⟩
 ·exact .inl (Nat.le_trans s.len h)
 ·exact s.src i t e a m
theorem St.from_off{c:Ctx}{O N:List Nat}{ρ:Lc}{σ:TL}{H:Hp}{Φ:Nat→List Nat}(s:St c O ρ σ H Φ)(hN:∀i∈N,i∉O){a:Nat}(f:From H N σ Φ a){i:Nat}(hi:i∈O){t:T}(e:σ i=some t): a∉Φ i:=by
 intro m
 obtain⟨v,_,r⟩:=s.slot i t e
 have hl:=r.lt a m
 rcases f with h | ⟨j,hj,⟨t',e'⟩,m'⟩
 ·omega
 ·exact(s.own i hi t e).2.2 j t' (fun q=>hN j hj (q▸hi)) e' a m m'
noncomputable abbrev PPt:=TL→Option (Option Int)
noncomputable def ZcI: PPt:=fun _=>some none
noncomputable def ZcJ(p:PE): PPt:=fun σ=>(p σ).bind fun t=>match t with
 | .int k=>some (some k)
 | _=>none
def Pe(O:List Nat)(f:Pt)(p:PPt): Prop:=∀(c:Ctx) (ρ:Lc) (σ:TL) (H:Hp) (Φ:Nat→List Nat) (k:Option Int),St c O ρ σ H Φ→p σ=some k→∃o X,f ρ H=some (o,H++X)∧ZiD o=some k
section
variable {O N:List Nat} {u:Bool}
theorem Pe.none: Pe O PM.Ze0 ZcI:=fun c ρ σ H Φ k s h=>by
 cases h;exact⟨Option.none,[],by simp[PM.Ze0],rfl⟩
theorem Pe.some{e:Ex}{p:PE}(x:E O N u e p): Pe O (Ze1 e) (ZcJ p):=fun c ρ σ H Φ k s h=>by
 obtain⟨t,h1,h⟩:=Zz0.mp h
 obtain⟨v,X,F,a1,a2,a3,a4⟩:=x c ρ σ H Φ t s h1
 cases a2 <;> first | (cases h;done) | skip
 rename_i k'
 cases h
 exact⟨Option.some (.int k'),X,by simp only[Ze1,a1,Option.map_some],rfl⟩
noncomputable def Zci(p:PE)(lo hi:PPt): PE:=fun σ=>(p σ).bind fun t=>(lo σ).bind fun a=>(hi σ).bind fun b=>match t with
 | .lst ts=>Option.some (.lst (ZaL ts a b))
 | _=>Option.none
theorem RFs.pick{H:Hp}{vs:List V}{ts:List T}{F:List Nat}(h:RFs H vs ts F)(l:List Nat): ∃G,RFs H (l.filterMap fun i=>vs[i]?) (l.filterMap fun i=>ts[i]?) G∧∀a∈G,a∈F:=by
 induction l with
 | nil=>exact⟨_,.nil,by simp⟩
 | cons i l ih=>
  obtain⟨G,h1,h2⟩:=ih
  simp only[List.filterMap_cons]
  have hl:=h.length
  cases e:ts[i]? with
  | none=>
   have:vs[i]?=none:=by rw[List.getElem?_eq_none_iff]at e ⊢;omega
   rw[this]
   exact⟨G,h1,h2⟩
  | some t=>
   obtain⟨x,G',hx,hr,hs⟩:=h.at e
   rw[hx]
   exact⟨_,.cons hr h1,fun a m=>(Zz8.mp m).elim (fun q=>hs.subset q) (h2 a)⟩
theorem ZuT{c:Ctx}{ρ:Lc}{σ:TL}{H:Hp}{Φ:Nat→List Nat}{t:T}{e:Ex}{p:PE}{lo hi:Pt}{plo phi:PPt}(x:E O N u e p)(y:Pe O lo plo)(z:Pe O hi phi)(s:St c O ρ σ H Φ)(h:Zci p plo phi σ=Option.some t):
  ∃v X F,ZcZ e lo hi ρ H=Option.some (v,H++X)∧RF (H++X) v t F∧(∀a∈F,From H N σ Φ a)∧(t.flatIn=true→F.Nodup∧∀a∈F,H.length≤a):=by
 obtain⟨t1,h1,h⟩:=Zz0.mp h
 obtain⟨a,h2,h⟩:=Zz0.mp h
 obtain⟨b,h3,h⟩:=Zz0.mp h
 obtain⟨v,X,F,a1,a2,a3,a4⟩:=x c ρ σ H Φ t1 s h1
 obtain⟨o1,Y,b1,b2⟩:=y c ρ σ (H++X) Φ a (s.ext X) h2
 obtain⟨o2,Z,c1,c2⟩:=z c ρ σ (H++X++Y) Φ b ((s.ext X).ext Y) h3
 cases a2 with
 | none=>cases h
 | bool=>cases h
 | int=>cases h
 | str=>cases h
 | tup=>cases h
 | @ref i vs ts F e1 hs=>
 cases h
 have e3:((H++X)++(Y++Z))[i]?=Option.some vs:=by rw[List.getElem?_append_left (Zz6.mp e1).1];exact e1
 have hs':=hs.ext (Y++Z)
 have hlen:=hs.length
 obtain⟨G,g1,g2⟩:=hs'.pick (sliceRange (sliceBounds a b none vs.length).1 (sliceBounds a b none vs.length).2.1 (sliceBounds a b none vs.length).2.2)
 have g1':RFs (H++X++(Y++Z)) (ZaL vs a b) (ZaL ts a b) G:=by unfold ZaL;rw[←hlen];exact g1
 refine⟨.ref (H++X++(Y++Z)).length,X++(Y++Z)++[ZaL vs a b],(H++X++(Y++Z)).length::G,?_,?_,fun q m=>?_,fun hf=>?_⟩
 ·simp only[ZcZ,a1,Option.bind_some,b1,c1,b2,c2]
  rw[List.append_assoc (H++X),e3]
  simp
 ·have:=ZdG g1'
  simpa using this
 ·rcases Zz7.mp m with rfl | m
  ·exact .inl (by simp)
  ·exact a3 q (Zz2 _ (g2 q m))
 ·have:=Zfv g1' hf
  exact⟨this.1,fun q m=>by have:=this.2 q m;simp at this;omega⟩
theorem Zii{e:Ex}{p:PE}{lo hi:Pt}{plo phi:PPt}(x:E O N u e p)(y:Pe O lo plo)(z:Pe O hi phi): E O N false (ZcZ e lo hi) (Zci p plo phi):=fun c ρ σ H Φ t s h=>by
 obtain⟨v,X,F,a1,a2,a3,a4⟩:=ZuT x y z s h
 exact⟨v,X,F,a1,a2,a3,by simp⟩
noncomputable def ZkC(p:PE)(k:Nat): PE:=fun σ=>(p σ).bind fun t=>match t with
 | .lst ts=>Option.some (.lst (ts.drop k))
 | .tup ts=>if 1≤k∧k≤ts.length then Option.some (.tup (ts.drop k))else Option.none
 | _=>Option.none
theorem ZvF{c:Ctx}{ρ:Lc}{σ:TL}{H:Hp}{Φ:Nat→List Nat}{t:T}{e:Ex}{p:PE}{k:Nat}(x:E O N u e p)(s:St c O ρ σ H Φ)(h:ZkC p k σ=Option.some t):
  ∃v X F,ZiF e k ρ H=Option.some (v,H++X)∧RF (H++X) v t F∧(∀a∈F,From H N σ Φ a)∧(t.flatIn=true→F.Nodup∧∀a∈F,H.length≤a):=by
 obtain⟨t1,h1,h⟩:=Zz0.mp h
 obtain⟨v,X,F,a1,a2,a3,a4⟩:=x c ρ σ H Φ t1 s h1
 cases a2 with
 | none=>cases h
 | bool=>cases h
 | int=>cases h
 | str=>cases h
 | tup hs=>
  simp only at h
  split at h
  ·rename_i hc
   cases h
   obtain⟨G,g1,g2⟩:=hs.drop k
   refine⟨_,X,G,?_,.tup g1,fun a m=>a3 a (g2.subset m),fun hf=>?_⟩
   ·simp only[ZiF,a1,Option.bind_some]
    rw[if_pos (by rw[hs.length];exact hc)]
   ·rw[g1.flats (by simpa [T.flatIn,T.flat]using hf)]
    simp
  ·cases h
 | @ref b vs1 ts1 F1 e1 hs=>
  cases h
  obtain⟨G,g1,g2⟩:=hs.drop k
  refine⟨.ref (H++X).length,X++[vs1.drop k],(H++X).length::G,?_,?_,fun a m=>?_,fun hf=>?_⟩
  ·simp only[ZiF,a1,Option.bind_some,e1,List.append_assoc]
  ·rw[←List.append_assoc];exact ZdG g1
  ·rcases Zz7.mp m with rfl | m
   ·exact .inl (by simp)
   ·exact a3 a (Zz2 _ (g2.subset m))
  ·have:=Zfv g1 hf
   exact⟨this.1,fun q m=>by have:=this.2 q m;simp at this;omega⟩
theorem Zkg{e:Ex}{p:PE}{k:Nat}(x:E O N u e p): E O N false (ZiF e k) (ZkC p k):=fun c ρ σ H Φ t s h=>by
 obtain⟨v,X,F,a1,a2,a3,a4⟩:=ZvF x s h
 exact⟨v,X,F,a1,a2,a3,by simp⟩
end
def Gs(O N:List Nat)(g:Src)(q:PG): Prop:=∀(c:Ctx) (ρ:Lc) (σ:TL) (H:Hp) (Φ:Nat→List Nat) (ts:List T),St c O ρ σ H Φ→q σ=some ts →
 ∃(nx:Nx) (X:Hp) (vs:List V) (F G:List Nat),g ρ H=some (nx,ts.length+1,H++X)∧RFs (H++X) vs ts F∧(∀a∈F,a∈G)∧(∀a∈G,a<(H++X).length∧From H N σ Φ a)∧∀K:Hp,(∀a∈G,K[a]?=(H++X)[a]?)→∀i,i≤vs.length→nx i K=some vs[i]?
section
variable {O N M:List Nat} {u u':Bool}
noncomputable def Zdl(p:PE): PG:=fun σ=>(p σ).bind fun t=>match t with
 | .lst ts=>some ts
 | .tup ts=>some ts
 | _=>none
theorem Gs.seq{e:Ex}{p:PE}(x:E O N u e p): Gs O N (Zfa e) (Zdl p):=fun c ρ σ H Φ ts s h=>by
 obtain⟨t1,h1,h⟩:=Zz0.mp h
 obtain⟨v,X,F,a1,a2,a3,a4⟩:=x c ρ σ H Φ t1 s h1
 have hlt:=a2.lt
 cases a2 with
 | none=>cases h
 | bool=>cases h
 | int=>cases h
 | str=>cases h
 | @tup vs _ _ hs=>
  cases h
  exact⟨ZrZ vs,X,vs,F,F,by simp only[Zfa,a1,Option.bind_some,hs.length],hs,fun _ m=>m,fun a m=>⟨hlt a m,a3 a m⟩,fun K _ i hi=>rfl⟩
 | @ref b vs _ F' e1 hs=>
  cases h
  refine⟨Zne b,X,vs,F',b::F',by simp only[Zfa,a1,Option.bind_some,e1,Option.map_some,hs.length],hs,fun _ m=>List.mem_cons_of_mem _ m,fun a m=>⟨hlt a m,a3 a m⟩,fun K hK i hi=>?_⟩
  simp only[Zne,hK b Zz5,e1,Option.map_some]
noncomputable def ZbY(a b c:Int): Option (List T):=if c≠0∧Builtin.Range.small a b c=true∧0≤Builtin.Range.rangeSize a b c∧rngN a b c≤LEN∧Builtin.divisionGoesByPylong (b-a) c=false then some ((List.range (rngN a b c)).map fun(i:Nat)=>.int (a+(i:Int)*c))else none
noncomputable def ZbI(p:PEs): PG:=fun σ=>(p σ).bind fun ts=>match ts with
 | [.int b]=>ZbY 0 b 1
 | [.int a,.int b]=>ZbY a b 1
 | [.int a,.int b,.int c]=>ZbY a b c
 | _=>none
theorem ZqL(H:Hp)(a c:Int): ∀(l:List Nat),RFs H (l.map fun(i:Nat)=>.int (a+(i:Int)*c)) (l.map fun(i:Nat)=>.int (a+(i:Int)*c)) []
 | []=>.nil
 | i::l=>by have:=RFs.cons (RF.int (H:=H) (a+i*c)) (ZqL H a c l);exact this
theorem Zmy{a b c:Int}{H:Hp}{ts:List T}(h:ZbY a b c=some ts): ∃(nx:Nx) (vs:List V),Zb3 a b c H=some (nx,ts.length+1,H)∧RFs H vs ts []∧∀K:Hp,∀i,i≤vs.length→nx i K=some vs[i]?:=by
 unfold ZbY at h
 split at h
 ·rename_i hc
  cases h
  refine⟨ZeE a c (rngN a b c),(List.range (rngN a b c)).map fun(i:Nat)=>.int (a+(i:Int)*c),?_,ZqL H a c _,fun K i hi=>?_⟩
  ·unfold Zb3
   rw[if_pos hc]
   simp
  ·simp only[ZeE,List.getElem?_map]
   by_cases q:i<rngN a b c
   ·rw[if_pos q,List.getElem?_range q];rfl
   ·rw[if_neg q,List.getElem?_eq_none (by simpa using Nat.le_of_not_lt q)];rfl
 ·cases h
theorem RFs.three_inv{H:Hp}{vs:List V}{t t' t'':T}{F:List Nat}(r:RFs H vs [t,t',t''] F): ∃v v' v'' F1 F2 F3,vs=[v,v',v'']∧RF H v t F1∧RF H v' t' F2∧RF H v'' t'' F3:=by
 cases r with
 | cons a b=>obtain⟨v',v'',F2,F3,h1,h2,h3,_⟩:=b.two_inv;subst h1;exact⟨_,_,_,_,_,_,rfl,a,h2,h3⟩
theorem Gs.range{n:Nat}{e:Exs}{p:PEs}(x:Es O N u n e p): Gs O [] (Zcr e) (ZbI p):=fun c ρ σ H Φ ts s h=>by
 obtain⟨t1,h1,h⟩:=Zz0.mp h
 obtain⟨_,vs,X,F,a1,a2,a3,a4⟩:=x c ρ σ H Φ t1 s h1
 split at h
 ·obtain⟨v,rfl,r⟩:=a2.one_inv
  cases r
  obtain⟨nx,us,q1,q2,q3⟩:=Zmy (H:=H++X) h
  exact⟨nx,X,us,[],[],by simp only[Zcr,a1,Option.bind_some,q1],q2,by simp,by simp,fun K _=>q3 K⟩
 ·obtain⟨v,v',F1,F2,rfl,r,r',_⟩:=a2.two_inv
  cases r;cases r'
  obtain⟨nx,us,q1,q2,q3⟩:=Zmy (H:=H++X) h
  exact⟨nx,X,us,[],[],by simp only[Zcr,a1,Option.bind_some,q1],q2,by simp,by simp,fun K _=>q3 K⟩
 ·obtain⟨v,v',v'',F1,F2,F3,rfl,r,r',r''⟩:=a2.three_inv
  cases r;cases r';cases r''
  obtain⟨nx,us,q1,q2,q3⟩:=Zmy (H:=H++X) h
  exact⟨nx,X,us,[],[],by simp only[Zcr,a1,Option.bind_some,q1],q2,by simp,by simp,fun K _=>q3 K⟩
 ·cases h
noncomputable def ZkU(p q:PE): PG:=fun σ=>(p σ).bind fun t=>(q σ).bind fun s=>match t,s with
 | .lst ts,.lst ss=>some (List.zipWith (fun x y=>.tup [x,y]) ts ss)
 | _,_=>none
theorem RFs.zip{H:Hp}: ∀{vs us:List V} {ts ss:List T} {F G:List Nat},RFs H vs ts F→RFs H us ss G→∃D,RFs H (List.zipWith (fun x y=>.tup [x,y]) vs us) (List.zipWith (fun x y=>.tup [x,y]) ts ss) D∧∀a∈D,a∈F∨a∈G
 | _,_,_,_,_,_,.nil,_=>⟨_,.nil,by simp⟩
 | _,_,_,_,_,_,.cons _ _,.nil=>⟨_,.nil,by simp⟩
 | _,_,_,_,_,_,.cons a b,.cons a' b'=>by
  obtain⟨D,h1,h2⟩:=b.zip b'
  refine⟨_,.cons (.tup (.cons a (.one a'))) h1,fun x m=>?_⟩
  rcases Zz8.mp m with m | m
  ·rcases Zz8.mp m with m | m
   ·exact .inl (Zz4 _ m)
   ·exact .inr (Zz4 _ m)
  ·exact(h2 x m).imp (Zz3 _) (Zz3 _)
theorem Gs.zip{e1 e2:Ex}{p1 p2:PE}(x:E O N u e1 p1)(y:E O M u' e2 p2): Gs O (N++M) (ZkM e1 e2) (ZkU p1 p2):=fun c ρ σ H Φ ts s h=>by
 obtain⟨t1,h1,h⟩:=Zz0.mp h
 obtain⟨t2,h2,h⟩:=Zz0.mp h
 obtain⟨v,X,F,a1,a2,a3,a4⟩:=x c ρ σ H Φ t1 s h1
 obtain⟨w,Y,G,b1,b2,b3,b4⟩:=y c ρ σ (H++X) Φ t2 (s.ext X) h2
 have a2:=a2.ext Y
 have l1:=a2.lt
 have l2:=b2.lt
 rw[List.append_assoc]at a2 b2 l1 l2 b1
 cases a2 with
 | none=>cases h
 | bool=>cases h
 | int=>cases h
 | str=>cases h
 | tup=>cases b2 <;> cases h
 | @ref a vs _ F' e1 hs=>
  cases b2 with
  | none=>cases h
  | bool=>cases h
  | int=>cases h
  | str=>cases h
  | tup=>cases h
  | @ref b us _ G' e2 hs2=>
   cases h
   obtain⟨D,d1,d2⟩:=hs.zip hs2
   refine⟨ZiE a b,X++Y,_,D,a::b::D,?_,d1,fun q m=>List.mem_cons_of_mem _ (Zz2 _ m),fun q m=>?_,fun K hK i hi=>?_⟩
   ·simp only[ZkM,a1,Option.bind_some,b1,e1,e2,Option.map_some,List.length_zipWith,hs.length,hs2.length]
   ·rcases Zz7.mp m with rfl | m
    ·exact⟨l1 _ Zz5,(a3 _ Zz5).mono fun i hi=>List.mem_append_left _ hi⟩
    ·rcases Zz7.mp m with rfl | m
     ·exact⟨l2 _ Zz5,(b3 _ Zz5).back.mono fun i hi=>List.mem_append_right _ hi⟩
     ·rcases d2 q m with m | m
      ·exact⟨l1 _ (Zz2 _ m),(a3 _ (Zz2 _ m)).mono fun i hi=>List.mem_append_left _ hi⟩
      ·exact⟨l2 _ (Zz2 _ m),(b3 _ (Zz2 _ m)).back.mono fun i hi=>List.mem_append_right _ hi⟩
   ·simp only[ZiE,hK a Zz5,hK b (Zz2 _ Zz5),e1,e2,Option.bind_some,List.getElem?_zipWith]
    rw[List.length_zipWith]at hi
    by_cases q:i<min vs.length us.length
    ·rw[List.getElem?_eq_getElem (show i<vs.length by omega),List.getElem?_eq_getElem (show i<us.length by omega)]
    ·have q':i=min vs.length us.length:=by omega
     by_cases q2:i<vs.length
     ·rw[List.getElem?_eq_getElem q2,List.getElem?_eq_none (show us.length≤i by omega)]
      simp[q']
     ·rw[List.getElem?_eq_none (show vs.length≤i by omega)]
      simp[q']
end
def PutOk(O J:List Nat)(put:V→Lc→Option Lc)(q:T→TL→Option TL): Prop:=∀(c:Ctx) (ρ:Lc) (σ:TL) (H:Hp) (Φ:Nat→List Nat) (v:V) (t:T) (F:List Nat) (σ1:TL),St c O ρ σ H Φ→RF H v t F→(∀a∈F,c.H0.length≤a∨c.P a)→(∀i∈O,∀t',σ i=some t'→∀a∈Φ i,a∉F)→q t σ=some σ1 →
 ∃ρ1 Φ1,put v ρ=some ρ1∧St c O ρ1 σ1 H Φ1∧(∀i,i∉J→σ1 i=σ i∧Φ1 i=Φ i)∧∀i∈J,∀a∈Φ1 i,a∈F
noncomputable def Z7(Φ:Nat→List Nat)(j:Nat)(F:List Nat): Nat→List Nat:=fun i=>if i=j then F else Φ i
theorem St.put{c:Ctx}{O:List Nat}{ρ:Lc}{σ:TL}{H:Hp}{Φ:Nat→List Nat}{v:V}{t:T}{F:List Nat}{j:Nat}(s:St c O ρ σ H Φ)(hj:j∉O)(r:RF H v t F)(hs:∀a∈F,c.H0.length≤a∨c.P a)(ho:∀i∈O,∀t',σ i=some t'→∀a∈Φ i,a∉F): St c O (upd ρ j v) (ZW σ j t) H (Z7 Φ j F):=by
 refine⟨fun i u e=>?_,fun i u e=>?_,fun i hi u e=>?_,s.len,s.keep,s.pos,s.f0⟩
 ·by_cases q:i=j
  ·subst q
   simp[ZW]at e
   subst e
   exact⟨v,by simp[upd],by simpa [Z7]using r⟩
  ·simp[ZW,q]at e
   simpa [upd,Z7,q]using s.slot i u e
 ·by_cases q:i=j
  ·subst q;simpa [Z7]using hs
  ·simp[ZW,q]at e
   simpa [Z7,q]using s.src i u e
 ·have q:i≠j:=fun q=>hj (q▸hi)
  simp[ZW,q]at e
  obtain⟨h1,h2,h3⟩:=s.own i hi u e
  refine⟨by simpa [Z7,q]using h1,by simpa [Z7,q]using h2,fun k w hk ek=>?_⟩
  by_cases q2:k=j
  ·subst q2
   simpa [Z7,q]using ho i hi u e
  ·simp[ZW,q2]at ek
   simpa [Z7,q,q2]using h3 k w hk ek
noncomputable def ZaU(j:Nat): T→TL→Option TL:=fun t σ=>some (ZW σ j t)
noncomputable def Ze3(i j:Nat): T→TL→Option TL
 | .tup [a,b],σ=>some (ZW (ZW σ i a) j b)
 | _,_=>none
theorem PutOk.one{O:List Nat}{j:Nat}(hj:j∉O:=by decide): PutOk O [j] (put1 j) (ZaU j):=fun c ρ σ H Φ v t F σ1 s r hs ho h=>by
 cases h
 refine⟨_,_,rfl,s.put hj r hs ho,fun i hi=>?_,fun i hi a m=>?_⟩
 ·have:i≠j:=fun q=>hi (by simp[q])
  simp[ZW,Z7,this]
 ·simp at hi;subst hi;simpa [Z7]using m
theorem PutOk.two{O:List Nat}{i j:Nat}(hi:i∉O:=by decide)(hj:j∉O:=by decide)(hij:i≠j:=by decide): PutOk O [i,j] (Zdi i j) (Ze3 i j):=fun c ρ σ H Φ v t F σ1 s r hs ho h=>by
 unfold Ze3 at h
 split at h
 ·cases h
  cases r with
  | tup hh=>
   obtain⟨v1,v2,F1,F2,rfl,r1,r2,rfl⟩:=hh.two_inv
   have s1:=s.put hi r1 (fun a m=>hs a (Zz4 _ m)) (fun k hk t' e a m q=>ho k hk t' e a m (Zz4 _ q))
   have s2:=s1.put hj r2 (fun a m=>hs a (Zz3 _ m)) (fun k hk t' e a m q=>by
    have:k≠i:=fun q=>hi (q▸hk)
    simp[ZW,Z7,this]at e m
    exact ho k hk t' e a m (Zz3 _ q))
   refine⟨_,_,rfl,s2,fun k hk=>?_,fun k hk a m=>?_⟩
   ·simp at hk
    simp[ZW,Z7,hk.1,hk.2]
   ·simp at hk
    rcases hk with rfl | rfl
    ·simp[Z7,hij]at m
     exact Zz4 _ m
    ·simp[Z7]at m
     exact Zz3 _ m
 ·cases h
noncomputable def Zcv(put:T→TL→Option TL)(c:PB)(f:PE)(σ:TL): List T→Option (List T)
 | []=>some []
 | t::ts=>(put t σ).bind fun σ1=>(c σ1).bind fun b=>if b then(f σ1).bind fun x=>(Zcv put c f σ ts).map fun xs=>x::xs else Zcv put c f σ ts
noncomputable def Zbj(g:PG)(put:T→TL→Option TL)(c:PB)(f:PE): PE:=fun σ=>(g σ).bind fun ts=>if ts.length≤LEN then(Zcv put c f σ ts).map .lst else none
section
variable {O Ns Ne J:List Nat} {u:Bool}
theorem comp_core{put:V→Lc→Option Lc}{pput:T→TL→Option TL}{tc:Ts}{pc:PB}{f:Ex}{pf:PE}(hj:PutOk O J put pput)(hN:∀i∈Ns,i∉O)(hc:Bt O tc pc)(hf:E O Ne u f pf)(hu:u=true→Ne=[])
  {c:Ctx} {ρ:Lc} {σ:TL} {Φ:Nat→List Nat} {H0 H1:Hp} {nx:Nx} {vs:List V} {G:List Nat} (h0:H0.length≤H1.length)
  (hG:∀a∈G,a<H1.length∧From H0 Ns σ Φ a) (hoff:∀a∈G,∀i∈O,∀t,σ i=some t→a∉Φ i) (hsrc:∀a∈G,c.H0.length≤a∨c.P a) (hnx:∀K:Hp,(∀a∈G,K[a]?=H1[a]?)→∀i,i≤vs.length→nx i K=some vs[i]?):
  ∀(rs:List T) (ws:List V) (i:Nat) (acc:List V) (K:Hp) (Fr:List Nat) (out:List T),(∀j,vs[i+j]?=ws[j]?)→i+ws.length=vs.length→St c O ρ σ K Φ→H1.length≤K.length→(∀a∈G,K[a]?=H1[a]?)→RFs K ws rs Fr→(∀a∈Fr,a∈G)→acc.length+rs.length≤LEN→Zcv pput pc pf σ rs=some out →
   ∃xs X F,Zct nx put tc f ρ (rs.length+1) i acc K=some (acc++xs,K++X)∧RFs (K++X) xs out F∧(∀a∈F,(u=true→K.length≤a)∧From H0 (Ns++Ne) σ Φ a)∧(u=true→F.Nodup)
 | [],ws,i,acc,K,Fr,out,hat,hlen,s,hl,hk,r,hfr,hacc,h=>by
  cases r
  cases h
  have e:=hnx K hk i (by simp at hlen;omega)
  have e2:vs[i]?=none:=by have:=hat 0;simpa using this
  refine⟨[],[],[],?_,.nil,by simp,by simp⟩
  simp[Zct,e,e2]
 | t::rs,ws0,i,acc,K,Fr0,out,hat,hlen,s,hl,hk,r,hfr,hacc,h=>by
  cases r with
  | @cons v _ F1 ws _ F2 a b=>
  simp only[List.length_cons]at hlen hacc
  obtain⟨σ1,h1,h⟩:=Zz0.mp h
  obtain⟨bb,h2,h⟩:=Zz0.mp h
  have e:=hnx K hk i (by omega)
  have e2:vs[i]?=some v:=by have:=hat 0;simpa using this
  have hat':∀j,vs[i+1+j]?=ws[j]?:=fun j=>by have:=hat (j+1);rw[show i+1+j=i+(j+1)by omega,this];simp
  obtain⟨ρ1,Φ1,p1,s1,p3,p4⟩:=hj c ρ σ K Φ v t F1 σ1 s a (fun x m=>hsrc x (hfr x (Zz4 _ m))) (fun k hk t' e x m q=>hoff x (hfr x (Zz4 _ q)) k hk t' e m) h1
  obtain⟨X1,c1⟩:=hc c ρ1 σ1 K Φ1 bb s1 h2
  cases bb with
  | true=>
   obtain⟨y,h3,h⟩:=Zz0.mp h
   obtain⟨ys,h4,h⟩:=Zz1.mp h
   subst h
   obtain⟨w,X2,Fw,d1,d2,d3,d4⟩:=hf c ρ1 σ1 (K++X1) Φ1 y (s1.ext X1) h3
   have hext:∀a∈G,(K++X1++X2)[a]?=H1[a]?:=fun a m=>by
    have:=(hG a m).1
    rw[List.append_assoc,List.getElem?_append_left (by omega)];exact hk a m
   obtain⟨xs,X3,F3,f1,f2,f3,f4⟩:=comp_core hj hN hc hf hu h0 hG hoff hsrc hnx rs ws (i+1) (acc++[w]) (K++X1++X2) F2 ys hat' (by omega) ((s.ext X1).ext X2) (by simp;omega) hext (by rw[List.append_assoc];exact b.ext _) (fun x m=>hfr x (Zz3 _ m)) (by simp;omega) h4
   refine⟨w::xs,X1++X2++X3,Fw++F3,?_,?_,fun x m=>?_,fun hu'=>?_⟩
   ·rw[List.length_cons,Zct,e,e2]
    simp only[Option.bind_some,p1,c1,d1,if_true]
    rw[if_pos (by omega)]
    simpa using f1
   ·have:=RFs.cons (d2.ext X3) f2
    simpa using this
   ·rcases Zz8.mp m with m | m
    ·refine⟨fun hu'=>?_,?_⟩
     ·have hne:=hu hu'
      subst hne
      have:=(d3 x m).nil
      simp at this;omega
     ·rcases d3 x m with q | ⟨k,hk1,⟨tk,ek⟩,mk⟩
      ·exact .inl (by simp at q;omega)
      ·by_cases hkJ:k∈J
       ·exact(hG x (hfr x (Zz4 _ (p4 k hkJ x mk)))).2.mono fun i hi=>List.mem_append_left _ hi
       ·obtain⟨q1,q2⟩:=p3 k hkJ
        exact .inr ⟨k,List.mem_append_right _ hk1,⟨tk,q1▸ek⟩,q2▸mk⟩
    ·obtain⟨g1,g2⟩:=f3 x m
     exact⟨fun hu'=>by have:=g1 hu';simp at this;omega,g2⟩
   ·rw[List.nodup_append]
    refine⟨d4 hu',f4 hu',fun x hx y hy e=>?_⟩
    have l1:=d2.lt x hx
    have l2:=(f3 y hy).1 hu'
    omega
  | false=>
   have hext:∀a∈G,(K++X1)[a]?=H1[a]?:=fun a m=>by
    have:=(hG a m).1
    rw[List.getElem?_append_left (by omega)];exact hk a m
   obtain⟨xs,X3,F3,f1,f2,f3,f4⟩:=comp_core hj hN hc hf hu h0 hG hoff hsrc hnx rs ws (i+1) acc (K++X1) F2 out hat' (by omega) (s.ext X1) (by simp;omega) hext (b.ext _) (fun x m=>hfr x (Zz3 _ m)) (by omega) (by simpa using h)
   refine⟨xs,X1++X3,F3,?_,by simpa using f2,fun x m=>?_,f4⟩
   ·rw[List.length_cons,Zct,e,e2]
    simp only[Option.bind_some,p1,c1]
    simpa using f1
   ·obtain⟨g1,g2⟩:=f3 x m
    exact⟨fun hu'=>by have:=g1 hu';simp at this;omega,g2⟩
theorem Zr4{g:Src}{q:PG}{put:V→Lc→Option Lc}{pput:T→TL→Option TL}{tc:Ts}{pc:PB}{f:Ex}{pf:PE}(hg:Gs O Ns g q)(hj:PutOk O J put pput)(hN:∀i∈Ns,i∉O)(hc:Bt O tc pc)(hf:E O Ne u f pf)(hu:u=true→Ne=[]): E O (if u then []else Ns++Ne) u (ZbL g put tc f) (Zbj q pput pc pf):=fun c ρ σ H Φ t s h=>by
 obtain⟨ts,h1,h⟩:=Zz0.mp h
 split at h
 ·rename_i hl
  obtain⟨out,h2,h⟩:=Zz1.mp h
  subst h
  obtain⟨nx,X,vs,F,G,g1,g2,g3,g4,g5⟩:=hg c ρ σ H Φ ts s h1
  obtain⟨xs,Y,F',d1,d2,d3,d4⟩:=comp_core hj hN hc hf hu (H0:=H) (H1:=H++X) (by simp) g4 (fun a m i hi t e=>s.from_off hN (g4 a m).2 hi e) (fun a m=>s.from_src (g4 a m).2) g5 ts vs 0 [] (H++X) F out (by simp) (by simp) (s.ext X) (Zz10 _) (fun _ _=>rfl) g2 g3 (by simpa using hl) h2
  refine⟨.ref (H++X++Y).length,X++Y++[xs],(H++X++Y).length::F',?_,?_,fun a m=>?_,fun hu'=>?_⟩
  ·simp only[ZbL,g1,Option.bind_some,d1,Option.map_some,List.nil_append,List.append_assoc]
  ·have:=ZdG d2
   simpa using this
  ·rcases Zz7.mp m with rfl | m
   ·exact .inl (by simp)
   ·obtain⟨q1,q2⟩:=d3 a m
    cases u with
    | true=>exact .inl (by have:=q1 rfl;simp at this;omega)
    | false=>exact q2
  ·rw[List.nodup_cons]
   exact⟨fun m=>Nat.lt_irrefl _ (d2.lt _ m),d4 hu'⟩
 ·cases h
end
end TM
end
section
namespace TM
open PySem PM
noncomputable abbrev PS:=TL→Option (Option T×TL)
noncomputable def Zcj(σ:TL)(N:List Nat): TL:=fun j=>if j∈N then none else σ j
def Held(O:List Nat)(σ:TL)(Φ:Nat→List Nat)(a:Nat): Prop:=∃j∈O,(∃t,σ j=some t)∧a∈Φ j
def Aft(c:Ctx)(O O' R:List Nat)(fr:Bool)(σ:TL)(H:Hp)(Φ:Nat→List Nat)(g:Option (Option V×Lc×Hp))(r:Option T×TL): Prop:=
 ∃ρ' H' Φ',H.length≤H'.length∧(∀a,a<H.length→¬Held O σ Φ a→H'[a]?=H[a]?) ∧
  ((r.1=none∧g=some (none,ρ',H')∧St c O' ρ' r.2 H' Φ'∧∀a,Held O' r.2 Φ' a→H.length≤a∨Held O σ Φ a) ∨
  ∃t v F,r.1=some t∧g=some (some v,ρ',H')∧RF H' v t F∧St c R ρ' r.2 H' Φ'∧(∀a∈F,c.H0.length≤a∨c.P a)∧(fr=true→F.Nodup∧∀a∈F,c.H0.length≤a∨a∈c.F0))
def S(O O' R:List Nat)(fr:Bool)(g:Sm)(q:PS): Prop:=∀(c:Ctx) (ρ:Lc) (σ:TL) (H:Hp) (Φ:Nat→List Nat) (r:Option T×TL),St c O ρ σ H Φ→q σ=some r→Aft c O O' R fr σ H Φ (g ρ H) r
theorem Held.mono{O O':List Nat}{σ:TL}{Φ:Nat→List Nat}{a:Nat}(h:Held O σ Φ a)(s:∀i∈O,i∈O'): Held O' σ Φ a:=by
 obtain⟨j,hj,q⟩:=h;exact⟨j,s j hj,q⟩
theorem Held.lt{c:Ctx}{O O':List Nat}{ρ:Lc}{σ:TL}{H:Hp}{Φ:Nat→List Nat}{a:Nat}(s:St c O ρ σ H Φ)(h:Held O' σ Φ a): a<H.length:=by
 obtain⟨j,hj,⟨t,e⟩,m⟩:=h
 obtain⟨v,_,r⟩:=s.slot j t e
 exact r.lt a m
section
variable {O O' R:List Nat} {fr:Bool}
theorem ZAK{O0:List Nat}{g:Sm}{q:PS}(x:S O0 O' R fr g q)(h:∀i∈O0,i∈O): S O O' R fr g q:=fun c ρ σ H Φ r s e=>by
 obtain⟨ρ',H',Φ',h1,h2,h3⟩:=x c ρ σ H Φ r (s.less h) e
 refine⟨ρ',H',Φ',h1,fun a ha hn=>h2 a ha fun q=>hn (q.mono h),?_⟩
 rcases h3 with⟨k1,k2,k3,k4⟩ | k
 ·exact .inl ⟨k1,k2,k3,fun a m=>(k4 a m).imp id fun q=>q.mono h⟩
 ·exact .inr k
noncomputable def ZaV: PS:=fun σ=>some (none,σ)
theorem ZM: S O O R fr ZaM ZaV:=fun c ρ σ H Φ r s e=>by
 cases e
 exact⟨ρ,H,Φ,Nat.le_refl _,fun _ _ _=>rfl,.inl ⟨rfl,rfl,s,fun a m=>.inr m⟩⟩
noncomputable def Z8(a b:PS): PS:=fun σ=>(a σ).bind fun r=>match r.1 with
 | some _=>some r
 | none=>b r.2
theorem Zm{O1:List Nat}{a b:Sm}{p q:PS}(x:S O O1 R fr a p)(y:S O1 O' R fr b q): S O O' R fr (Z5 a b) (Z8 p q):=fun c ρ σ H Φ r s e=>by
 obtain⟨r1,e1,e⟩:=Zz0.mp e
 obtain⟨ρ1,H1,Φ1,h1,h2,h3⟩:=x c ρ σ H Φ r1 s e1
 rcases h3 with⟨k1,k2,k3,k4⟩ | ⟨t,v,F,k1,k2,k3⟩
 ·rw[k1]at e
  obtain⟨ρ2,H2,Φ2,g1,g2,g3⟩:=y c ρ1 r1.2 H1 Φ1 r k3 e
  refine⟨ρ2,H2,Φ2,Nat.le_trans h1 g1,fun a ha hn=>?_,?_⟩
  ·rw[g2 a (by omega) fun q=>(k4 a q).elim (fun q=>by omega) hn,h2 a ha hn]
  ·have eg:Z5 a b ρ H=b ρ1 H1:=by simp only[Z5,k2,Option.bind_some]
   rw[eg]
   rcases g3 with⟨l1,l2,l3,l4⟩ | l
   ·refine .inl ⟨l1,l2,l3,fun a m=>?_⟩
    rcases l4 a m with q | q
    ·exact .inl (by omega)
    ·exact k4 a q
   ·exact .inr l
 ·rw[k1]at e
  cases e
  exact⟨ρ1,H1,Φ1,h1,h2,.inr ⟨t,v,F,k1,by simp only[Z5,k2,Option.bind_some],k3⟩⟩
noncomputable def Zax(p:PE): PS:=fun σ=>(p σ).map fun t=>(some t,σ)
theorem Zz{N:List Nat}{u:Bool}{e:Ex}{p:PE}(x:E O N u e p)(hR:∀i∈R,i∈O:=by decide): S O O' R false (Zak e) (Zax p):=fun c ρ σ H Φ r s q=>by
 obtain⟨t,h1,h⟩:=Zz1.mp q
 subst h
 obtain⟨v,X,F,a1,a2,a3,a4⟩:=x c ρ σ H Φ t s h1
 refine⟨ρ,H++X,Φ,by simp,fun a ha _=>List.getElem?_append_left ha,.inr ⟨t,v,F,rfl,by simp only[Zak,a1,Option.map_some],a2,(s.ext X).less hR,fun a m=>s.from_src (a3 a m),by simp⟩⟩
theorem Zab{N:List Nat}{e:Ex}{p:PE}(x:E O N true e p)(hN:∀i∈N,i∈O:=by decide)(hR:∀i∈R,i∈O:=by decide): S O O' R fr (Zak e) (Zax p):=fun c ρ σ H Φ r s q=>by
 obtain⟨t,h1,h⟩:=Zz1.mp q
 subst h
 obtain⟨v,X,F,a1,a2,a3,a4⟩:=x c ρ σ H Φ t s h1
 refine⟨ρ,H++X,Φ,by simp,fun a ha _=>List.getElem?_append_left ha,.inr ⟨t,v,F,rfl,by simp only[Zak,a1,Option.map_some],a2,(s.ext X).less hR,fun a m=>s.from_src (a3 a m),fun _=>⟨a4 rfl,fun a m=>?_⟩⟩⟩
 rcases a3 a m with q | ⟨i,hi,⟨t',e'⟩,m'⟩
 ·exact .inl (Nat.le_trans s.len q)
 ·exact(s.own i (hN i hi) t' e').2.1 a m'
noncomputable def ZaO(i:Nat)(p:PE): PS:=fun σ=>(p σ).map fun t=>(none,ZW σ i t)
theorem ZG{N:List Nat}{u:Bool}{i:Nat}{e:Ex}{p:PE}(x:E O N u e p)(hi:i∉O':=by decide)(hN:∀j∈N,j∉O':=by decide)(hO:∀j∈O',j∈O:=by decide): S O O' R fr (Zar i e) (ZaO i p):=fun c ρ σ H Φ r s q=>by
 obtain⟨t,h1,h⟩:=Zz1.mp q
 subst h
 obtain⟨v,X,F,a1,a2,a3,a4⟩:=x c ρ σ H Φ t s h1
 have s':=s.less hO
 refine⟨upd ρ i v,H++X,Z7 Φ i F,by simp,fun a ha _=>List.getElem?_append_left ha,.inl ⟨rfl,by simp only[Zar,a1,Option.map_some],(s'.ext X).put hi a2 (fun a m=>s.from_src (a3 a m)) (fun k hk t' e' a m q=>?_),fun a m=>?_⟩⟩
 ·exact s'.from_off hN (a3 a q) hk e' m
 ·obtain⟨k,hk,⟨t',e'⟩,m⟩:=m
  have:k≠i:=fun q=>hi (q▸hk)
  simp[ZW,this]at e'
  simp[Z7,this]at m
  exact .inr ⟨k,hO k hk,⟨t',e'⟩,m⟩
theorem ZbJ{i:Nat}{e:Ex}{p:PE}(x:E O [] true e p)(hO:∀j∈O',j∈O∨j=i:=by decide): S O O' R fr (Zar i e) (ZaO i p):=fun c ρ σ H Φ r s q=>by
 obtain⟨t,h1,h⟩:=Zz1.mp q
 subst h
 obtain⟨v,X,F,a1,a2,a3,a4⟩:=x c ρ σ H Φ t s h1
 have hnew:∀a∈F,H.length≤a:=fun a m=>(a3 a m).nil
 have hold:∀k t',σ k=some t'→∀a∈Φ k,a<H.length:=fun k t' e a m=>by
  obtain⟨_,_,r⟩:=s.slot k t' e
  exact r.lt a m
 refine⟨upd ρ i v,H++X,Z7 Φ i F,by simp,fun a ha _=>List.getElem?_append_left ha,.inl ⟨rfl,by simp only[Zar,a1,Option.map_some],⟨fun k t' e'=>?_,fun k t' e'=>?_,fun k hk t' e'=>?_,(s.ext X).len,(s.ext X).keep,s.pos,s.f0⟩,fun a m=>?_⟩⟩
 ·by_cases q:k=i
  ·subst q
   simp[ZW]at e'
   subst e'
   exact⟨v,by simp[upd],by simpa [Z7]using a2⟩
  ·simp[ZW,q]at e'
   simpa [upd,Z7,q]using (s.ext X).slot k t' e'
 ·by_cases q:k=i
  ·subst q;simpa [Z7]using fun a m=>s.from_src (a3 a m)
  ·simp[ZW,q]at e'
   simpa [Z7,q]using s.src k t' e'
 ·by_cases q:k=i
  ·subst q
   simp only[Z7,if_true]
   refine⟨a4 rfl,fun a m=>.inl (Nat.le_trans s.len (hnew a m)),fun j w hj ej a m q=>?_⟩
   simp[ZW,hj]at ej
   rw[if_neg hj]at q
   have:=hold j w ej a q
   have:=hnew a m
   omega
  ·have hk':=(hO k hk).resolve_right q
   simp[ZW,q]at e'
   obtain⟨o1,o2,o3⟩:=s.own k hk' t' e'
   refine⟨by simpa [Z7,q]using o1,by simpa [Z7,q]using o2,fun j w hj ej a m=>?_⟩
   simp[Z7,q]at m
   by_cases q2:j=i
   ·subst q2
    simp only[Z7,if_true]
    intro m2
    have:=hold k t' e' a m
    have:=hnew a m2
    omega
   ·simp[ZW,q2]at ej
    simpa [Z7,q2]using o3 j w hj ej a m
 ·obtain⟨k,hk,⟨t',e'⟩,m⟩:=m
  by_cases q:k=i
  ·subst q
   simp[Z7]at m
   exact .inl (hnew a m)
  ·simp[ZW,q]at e'
   simp[Z7,q]at m
   exact .inr ⟨k,(hO k hk).resolve_right q,⟨t',e'⟩,m⟩
noncomputable def qIf(b:PB)(p q:PS): PS:=fun σ=>(b σ).bind fun x=>if x then p σ else q σ
theorem Aft.grow{c:Ctx}{σ:TL}{H X:Hp}{Φ:Nat→List Nat}{g:Option (Option V×Lc×Hp)}{r:Option T×TL}(h:Aft c O O' R fr σ (H++X) Φ g r): Aft c O O' R fr σ H Φ g r:=by
 obtain⟨ρ',H',Φ',h1,h2,h3⟩:=h
 rw[List.length_append]at h1
 refine⟨ρ',H',Φ',by omega,fun a ha hn=>?_,?_⟩
 ·rw[h2 a (by rw[List.length_append];omega) hn,List.getElem?_append_left ha]
 ·rcases h3 with⟨k1,k2,k3,k4⟩ | k
  ·exact .inl ⟨k1,k2,k3,fun a m=>(k4 a m).imp (fun q=>by rw[List.length_append]at q;omega) id⟩
  ·exact .inr k
theorem ZK{t:Ts}{pb:PB}{a b:Sm}{p q:PS}(z:Bt O t pb)(x:S O O' R fr a p)(y:S O O' R fr b q): S O O' R fr (sIf t a b) (qIf pb p q):=fun c ρ σ H Φ r s e=>by
 obtain⟨bb,e1,e⟩:=Zz0.mp e
 obtain⟨X,h1⟩:=z c ρ σ H Φ bb s e1
 cases bb with
 | true=>
  have:=x c ρ σ (H++X) Φ r (s.ext X) (by simpa using e)
  have eg:sIf t a b ρ H=a ρ (H++X):=by simp[sIf,h1]
  rw[eg]
  exact this.grow
 | false=>
  have:=y c ρ σ (H++X) Φ r (s.ext X) (by simpa using e)
  have eg:sIf t a b ρ H=b ρ (H++X):=by simp[sIf,h1]
  rw[eg]
  exact this.grow
noncomputable def qNo: PS:=fun _=>none
noncomputable def sNo: Sm:=fun _ _=>none
theorem S.no{g:Sm}: S O O' R fr g qNo:=fun c ρ σ H Φ r s q=>by cases q
noncomputable def follow(H:Hp): List Int→V→Option V
 | [],v=>some v
 | k::ks,v=>(Z4 v (.int k) H).bind fun q=>follow H ks q.1
theorem Lead.follow{H:Hp}{ks:List Int}{v:V}{a:Nat}(l:Lead H ks v a): follow H ks v=some (.ref a):=by
 induction l with
 | nil=>rfl
 | ref h1 h2 h3 _ ih=>simp only[TM.follow,Z4,h1,Option.bind_some,h2,h3,Option.map_some,ih]
 | tup h2 h3 _ ih=>simp only[TM.follow,Z4,Option.bind_some,h2,h3,Option.map_some,ih]
theorem Zmh{H:Hp}{v w z:V}{K:Hp}(h:Z4 v z H=some (w,K))(X:Hp): K=H∧Z4 v z (H++X)=some (w,H++X):=by
 unfold Z4 at h
 split at h
 ·obtain⟨vs,e1,h⟩:=Zz0.mp h
  obtain⟨j,e2,h⟩:=Zz0.mp h
  obtain⟨x,e3,h⟩:=Zz1.mp h
  cases h
  exact⟨rfl,by simp only[Z4,List.getElem?_append_left (Zz6.mp e1).1,e1,Option.bind_some,e2,e3,Option.map_some]⟩
 ·obtain⟨j,e2,h⟩:=Zz0.mp h
  obtain⟨x,e3,h⟩:=Zz1.mp h
  cases h
  exact⟨rfl,by simp only[Z4,Option.bind_some,e2,e3,Option.map_some]⟩
 ·cases h
theorem Zo2{H:Hp}{k:Int}: ∀{ks:List Int} {v:V},follow H (ks++[k]) v=(follow H ks v).bind fun w=>(Z4 w (.int k) H).map (·.1)
 | [],v=>by
  simp only[List.nil_append,follow,Option.bind_some]
  cases Z4 v (.int k) H <;> rfl
 | j::ks,v=>by
  simp only[List.cons_append,follow]
  cases Z4 v (.int j) H with
  | none=>rfl
  | some q=>simp only[Option.bind_some];exact Zo2
noncomputable abbrev PPa:=TL→Option (List Int)
noncomputable def Zbt: PPa:=fun _=>some []
noncomputable def ZfX(p:PPa)(i:PE): PPa:=fun σ=>(p σ).bind fun ks=>(i σ).bind fun t=>match t with
 | .int k=>some (ks++[k])
 | _=>none
def Pa(O:List Nat)(x:Nat)(e:Ex)(p:PPa): Prop:=∀(c:Ctx) (ρ:Lc) (σ:TL) (H:Hp) (Φ:Nat→List Nat) (ks:List Int) (v w:V),St c O ρ σ H Φ→p σ=some ks→ρ x=some v→follow H ks v=some w→∃X,e ρ H=some (w,H++X)
theorem Zby{x:Nat}: Pa O x (Zp x) Zbt:=fun c ρ σ H Φ ks v w s h e f=>by
 cases h;cases f
 exact⟨[],by simp[Zp,e]⟩
theorem ZeP{x:Nat}{N:List Nat}{u:Bool}{e i:Ex}{p:PPa}{pi:PE}(y:Pa O x e p)(z:E O N u i pi): Pa O x (ZA Z4 e i) (ZfX p pi):=fun c ρ σ H Φ ks v w s h ev f=>by
 obtain⟨ks0,h1,h⟩:=Zz0.mp h
 obtain⟨t,h2,h⟩:=Zz0.mp h
 cases t <;> first | (cases h;done) | skip
 rename_i k
 cases h
 rw[Zo2]at f
 obtain⟨w0,f1,f⟩:=Zz0.mp f
 obtain⟨⟨w1,K⟩,f2,f⟩:=Zz1.mp f
 cases f
 obtain⟨X,a1⟩:=y c ρ σ H Φ ks0 v w0 s h1 ev f1
 obtain⟨vi,Y,F,b1,b2,b3,b4⟩:=z c ρ σ (H++X) Φ _ (s.ext X) h2
 cases b2
 refine⟨X++Y,?_⟩
 simp only[ZA,a1,Option.bind_some,b1]
 have:=(Zmh f2 (X++Y)).2
 rw[List.append_assoc]
 exact this
theorem Zr5{c:Ctx}{ρ:Lc}{σ:TL}{H:Hp}{Φ:Nat→List Nat}{N:List Nat}{x a b:Nat}{t t':T}{v:V}{Fw F':List Nat}{vs':List V}(s:St c O ρ σ H Φ)(hx:x∈O)(ex:σ x=some t)(ev:ρ x=some v)(hb:c.H0.length≤b)(hlow:∀k t,σ k=some t→∀a∈Φ k,a<b)
  (hFw:∀a∈Fw,b≤a∨∃j∈N,(∃t,σ j=some t)∧a∈Φ j) (hN:∀j∈N,j∈O∧j≠x) (ha:a∈Φ x) (r:RF (H.set a vs') v t' F') (nd:F'.Nodup) (sub:∀y∈F',y∈Φ x∨y∈Fw) (hO:∀j∈O',j∈O∧j∉N):
  St c O' ρ (Zcj (ZW σ x t') N) (H.set a vs') (Z7 Φ x F')∧(∀y,Held O' (Zcj (ZW σ x t') N) (Z7 Φ x F') y→b≤y∨Held O σ Φ y):=by
 obtain⟨o1,o2,o3⟩:=s.own x hx t ex
 have old:∀k u,k≠x→Zcj (ZW σ x t') N k=some u→σ k=some u∧k∉N:=fun k u hk e=>by
  unfold Zcj at e
  split at e
  ·cases e
  ·rename_i hn
   simp[ZW,hk]at e
   exact⟨e,hn⟩
 have self:∀u,Zcj (ZW σ x t') N x=some u→u=t':=fun u e=>by
  unfold Zcj at e
  split at e
  ·cases e
  ·simp[ZW]at e;exact e.symm
 have foff:∀y∈F',∀k u,k≠x→σ k=some u→k∉N→y∉Φ k:=fun y hy k u hk e hkn m=>by
  rcases sub y hy with q | q
  ·exact o3 k u hk e y q m
  ·rcases hFw y q with q | ⟨j,hj,⟨tj,ej⟩,mj⟩
   ·have:=hlow k u e y m;omega
   ·exact(s.own j (hN j hj).1 tj ej).2.2 k u (fun q=>hkn (q▸hj)) e y mj m
 refine⟨⟨fun k u e=>?_,fun k u e=>?_,fun k hk u e=>?_,by simpa using s.len,fun y hy hn=>?_,s.pos,s.f0⟩,fun y hy=>?_⟩
 ·by_cases q:k=x
  ·subst q
   have:=self u e
   subst this
   exact⟨v,ev,by simpa [Z7]using r⟩
  ·obtain⟨e1,e2⟩:=old k u q e
   obtain⟨w,h1,h2⟩:=s.slot k u e1
   refine⟨w,h1,?_⟩
   simp only[Z7,q,if_false]
   refine h2.frame fun y hy=>List.getElem?_set_ne fun q'=>?_
   exact o3 k u q e1 a ha (q'▸hy)
 ·by_cases q:k=x
  ·subst q
   simp only[Z7,if_true]
   intro y hy
   rcases sub y hy with q | q
   ·exact s.src k t ex y q
   ·rcases hFw y q with q | ⟨j,hj,⟨tj,ej⟩,mj⟩
    ·exact .inl (by omega)
    ·exact s.src j tj ej y mj
  ·obtain⟨e1,e2⟩:=old k u q e
   simpa [Z7,q]using s.src k u e1
 ·by_cases q:k=x
  ·subst q
   simp only[Z7,if_true]
   refine⟨nd,fun y hy=>?_,fun j w hj ej y hy=>?_⟩
   ·rcases sub y hy with q | q
    ·exact o2 y q
    ·rcases hFw y q with q | ⟨j,hj,⟨tj,ej⟩,mj⟩
     ·exact .inl (by omega)
     ·exact(s.own j (hN j hj).1 tj ej).2.1 y mj
   ·obtain⟨e1,e2⟩:=old j w hj ej
    simpa [hj]using foff y hy j w hj e1 e2
  ·obtain⟨e1,e2⟩:=old k u q e
   obtain⟨p1,p2,p3⟩:=s.own k (hO k hk).1 u e1
   simp only[Z7,q,if_false]
   refine⟨p1,p2,fun j w hj ej y hy=>?_⟩
   by_cases q2:j=x
   ·subst q2
    simp only[if_true]
    exact fun m=>foff y m k u q e1 e2 hy
   ·obtain⟨f1,f2⟩:=old j w q2 ej
    simpa [q2]using p3 j w hj f1 y hy
 ·have:a≠y:=fun q=>by
   subst q
   rcases o2 a ha with q | q
   ·omega
   ·exact hn q
  rw[List.getElem?_set_ne this]
  exact s.keep y hy hn
 ·obtain⟨k,hk,⟨u,e⟩,m⟩:=hy
  by_cases q:k=x
  ·subst q
   simp only[Z7,if_true]at m
   rcases sub y m with q | q
   ·exact .inr ⟨k,hx,⟨t,ex⟩,q⟩
   ·rcases hFw y q with q | ⟨j,hj,q⟩
    ·exact .inl q
    ·exact .inr ⟨j,(hN j hj).1,q⟩
  ·obtain⟨e1,e2⟩:=old k u q e
   simp only[Z7,q,if_false]at m
   exact .inr ⟨k,(hO k hk).1,⟨u,e1⟩,m⟩
theorem ZmV{c:Ctx}{ρ:Lc}{σ:TL}{H:Hp}{Φ:Nat→List Nat}{x a:Nat}{t:T}(s:St c O ρ σ H Φ)(hx:x∈O)(ex:σ x=some t)(ha:a∈Φ x): a≠0:=by
 have:=s.pos
 rcases(s.own x hx t ex).2.1 a ha with q | q
 ·omega
 ·exact fun e=>s.f0 (e▸q)
noncomputable def ZkV(w:T)(ts:List T): Option (List T):=if ts.length<LEN then some (ts++[w])else none
noncomputable def ZkW(k:Int)(w:T)(ts:List T): Option (List T):=if 0≤k∧k<ts.length then some (ts.set k.toNat w)else none
noncomputable def Zge(x:Nat)(N:List Nat)(po:PPa)(p:PE): PS:=fun σ=>(po σ).bind fun ks=>(p σ).bind fun w=>(σ x).bind fun t=>(ZdD (ZkV w) ks t).map fun t'=>(none,Zcj (ZW σ x t') N)
noncomputable def ZbZ(x:Nat)(N:List Nat)(p:PE)(po:PPa)(pi:PE): PS:=fun σ=>(p σ).bind fun w=>(po σ).bind fun ks=>(pi σ).bind fun k=>match k with
 | .int k=>(σ x).bind fun t=>(ZdD (ZkW k w) ks t).map fun t'=>(none,Zcj (ZW σ x t') N)
 | _=>none
theorem Zhl{H:Hp}(X:Hp): ∀{ks:List Int} {v w:V},follow H ks v=some w→follow (H++X) ks v=some w
 | [],_,_,h=>h
 | k::ks,v,w,h=>by
  obtain⟨⟨w1,K⟩,h1,h2⟩:=Zz0.mp h
  simp only[follow,(Zmh h1 X).2,Option.bind_some]
  exact Zhl X h2
theorem ZnH{x:Nat}{N:List Nat}{o e:Ex}{po:PPa}{p:PE}(hx:x∈O)(y:Pa O x o po)(z:E O N true e p)(hN:∀j∈N,j∈O∧j≠x)(hO:∀j∈O',j∈O∧j∉N): S O O' R fr (Zc5 (ZjN o e)) (Zge x N po p):=fun c ρ σ H Φ r s q=>by
 obtain⟨ks,h1,q⟩:=Zz0.mp q
 obtain⟨w,h2,q⟩:=Zz0.mp q
 obtain⟨t,h3,q⟩:=Zz0.mp q
 obtain⟨t',h4,q⟩:=Zz1.mp q
 subst q
 obtain⟨v,ev,rv⟩:=s.slot x t h3
 have hlow:∀k t,σ k=some t→∀a∈Φ k,a<H.length:=fun k t e a m=>by
  obtain⟨_,_,r⟩:=s.slot k t e
  exact r.lt a m
 obtain⟨o1,o2,o3⟩:=s.own x hx t h3
 obtain⟨a,vs0,ts0,ts0',G0,l0,_⟩:=ZfU (Gn:=[]) ks rv o1 (by simp) h4
 obtain⟨X,a1⟩:=y c ρ σ H Φ ks v (.ref a) s h1 ev l0.follow
 obtain⟨vw,Y,Fw,b1,b2,b3,b4⟩:=z c ρ σ (H++X) Φ w (s.ext X) h2
 have s2:=(s.ext X).ext Y
 have rv2:RF (H++X++Y) v t (Φ x):=(rv.ext X).ext Y
 have hFw:∀a∈Fw,H.length≤a∨∃j∈N,(∃t,σ j=some t)∧a∈Φ j:=fun a m=>(b3 a m).back
 have dsj:∀a∈Fw,a∉Φ x:=fun a m q=>by
  rcases hFw a m with h | ⟨j,hj,⟨tj,ej⟩,mj⟩
  ·have:=hlow x t h3 a q;omega
  ·exact o3 j tj (hN j hj).2 ej a q mj
 obtain⟨a',vs,ts,ts',G,l,am,ea,hs,hf,gn,na,gs,go⟩:=ZfU (Gn:=Fw) ks rv2 o1 dsj h4
 have haa:a'=a:=by
  have f2:=Zhl Y (Zhl X l0.follow)
  rw[l.follow]at f2
  cases f2
  rfl
 subst haa
 unfold ZkV at hf
 split at hf
 ·rename_i hl
  cases hf
  obtain⟨F',r',n',sub'⟩:=go (vs++[vw]) (G++Fw) (hs.snoc b2) (by
   rw[List.nodup_append]
   exact⟨gn,b4 rfl,fun y hy z hz e=>dsj z hz (e▸gs y hy)⟩) (fun m=>(Zz8.mp m).elim na fun m=>dsj _ m am) (fun y m=>List.mem_append.mp m)
  obtain⟨st,com⟩:=Zr5 (O':=O') (b:=H.length) s2 hx h3 ev s.len hlow hFw hN am r' n' sub' hO
  refine⟨ρ,(H++X++Y).set a' (vs++[vw]),Z7 Φ x F',by simp,fun y hy hn=>?_,.inl ⟨rfl,?_,st,com⟩⟩
  ·have:a'≠y:=fun q=>hn ⟨x,hx,⟨t,h3⟩,q▸am⟩
   rw[List.getElem?_set_ne this,List.append_assoc,List.getElem?_append_left hy]
  ·simp only[Zc5,ZjN,a1,Option.bind_some,b1,Zig,ea]
   rw[if_pos ⟨ZmV s hx h3 am,by rw[hs.length];exact hl⟩]
   rfl
 ·cases hf
theorem S.put{x:Nat}{N M:List Nat}{u:Bool}{o e i:Ex}{po:PPa}{p pi:PE}(hx:x∈O)(z:E O N true e p)(y:Pa O x o po)(zi:E O M u i pi)(hN:∀j∈N,j∈O∧j≠x)(hO:∀j∈O',j∈O∧j∉N): S O O' R fr (ZcQ e o i) (ZbZ x N p po pi):=fun c ρ σ H Φ r s q=>by
 obtain⟨w,h2,q⟩:=Zz0.mp q
 obtain⟨ks,h1,q⟩:=Zz0.mp q
 obtain⟨tk,h5,q⟩:=Zz0.mp q
 cases tk <;> first | (cases q;done) | skip
 rename_i k
 obtain⟨t,h3,q⟩:=Zz0.mp q
 obtain⟨t',h4,q⟩:=Zz1.mp q
 subst q
 obtain⟨v,ev,rv⟩:=s.slot x t h3
 have hlow:∀k t,σ k=some t→∀a∈Φ k,a<H.length:=fun k t e a m=>by
  obtain⟨_,_,r⟩:=s.slot k t e
  exact r.lt a m
 obtain⟨o1,o2,o3⟩:=s.own x hx t h3
 obtain⟨vw,X,Fw,b1,b2,b3,b4⟩:=z c ρ σ H Φ w s h2
 obtain⟨a,vs0,ts0,ts0',G0,l0,_⟩:=ZfU (Gn:=[]) ks (rv.ext X) o1 (by simp) h4
 obtain⟨Y,a1⟩:=y c ρ σ (H++X) Φ ks v (.ref a) (s.ext X) h1 ev l0.follow
 obtain⟨vk,Z,Fk,d1,d2,d3,d4⟩:=zi c ρ σ (H++X++Y) Φ _ ((s.ext X).ext Y) h5
 cases d2
 have s2:=((s.ext X).ext Y).ext Z
 have rv2:RF (H++X++Y++Z) v t (Φ x):=((rv.ext X).ext Y).ext Z
 have hFw:∀a∈Fw,H.length≤a∨∃j∈N,(∃t,σ j=some t)∧a∈Φ j:=b3
 have dsj:∀a∈Fw,a∉Φ x:=fun a m q=>by
  rcases hFw a m with h | ⟨j,hj,⟨tj,ej⟩,mj⟩
  ·have:=hlow x t h3 a q;omega
  ·exact o3 j tj (hN j hj).2 ej a q mj
 obtain⟨a',vs,ts,ts',G,l,am,ea,hs,hf,gn,na,gs,go⟩:=ZfU (Gn:=Fw) ks rv2 o1 dsj h4
 have haa:a'=a:=by
  have f2:=Zhl Z (Zhl Y l0.follow)
  rw[l.follow]at f2
  cases f2
  rfl
 subst haa
 unfold ZkW at hf
 split at hf
 ·rename_i hl
  cases hf
  have hk:k.toNat<ts.length:=by omega
  obtain⟨v0,Gk,F1,F2,e0,r0,eG,rb⟩:=hs.split (List.getElem?_eq_getElem hk)
  have b2':RF (H++X++Y++Z) vw w Fw:=(b2.ext Y).ext Z
  have rs:=rb (H++X++Y++Z) vw w Fw b2' (fun _ _=>rfl) (fun _ _=>rfl)
  have sub0:∀a∈Fw,a∈Gk∨a∈Fw:=fun a m=>.inr m
  subst eG
  obtain⟨F',r',n',sub'⟩:=go _ _ rs (nd3 gn (b4 rfl) sub0 fun a m q=>dsj a m (gs a q)) (fun m=>by
   rcases in3 (G:=Gk) sub0 _ m with m | m
   ·exact na m
   ·exact dsj _ m am) (in3 sub0)
  obtain⟨st,com⟩:=Zr5 (O':=O') (b:=H.length) s2 hx h3 ev s.len hlow hFw hN am r' n' sub' hO
  refine⟨ρ,(H++X++Y++Z).set a' (vs.set k.toNat vw),Z7 Φ x F',by simp,fun y hy hn=>?_,.inl ⟨rfl,?_,st,com⟩⟩
  ·have:a'≠y:=fun q=>hn ⟨x,hx,⟨t,h3⟩,q▸am⟩
   rw[List.getElem?_set_ne this,List.append_assoc,List.append_assoc,List.getElem?_append_left hy]
  ·simp only[ZcQ,b1,Option.bind_some,a1,d1,ZnT,ea]
   rw[if_pos ⟨ZmV s hx h3 am,by rw[hs.length];exact hl⟩]
   rfl
 ·cases hf
noncomputable def Zfc(put:T→TL→Option TL)(b:PS): TL→List T→Option (Option T×TL)
 | σ,[]=>some (none,σ)
 | σ,t::ts=>(put t σ).bind fun σ1=>(b σ1).bind fun r=>match r.1 with
  | some _=>some r
  | none=>Zfc put b r.2 ts
noncomputable def Zcz(g:PG)(put:T→TL→Option TL)(b:PS): PS:=fun σ=>(g σ).bind fun ts=>Zfc put b σ ts
theorem Zmz{J:List Nat}{put:V→Lc→Option Lc}{pput:T→TL→Option TL}{b:Sm}{qb:PS}(hj:PutOk O J put pput)(hJ:∀i∈J,i∉O)(hb:S O O R fr b qb){c:Ctx}{nx:Nx}{vs:List V}{G:List Nat}{H1:Hp}(hG:∀a∈G,a<H1.length)(hsrc:∀a∈G,c.H0.length≤a∨c.P a)(hnx:∀K:Hp,(∀a∈G,K[a]?=H1[a]?)→∀i,i≤vs.length→nx i K=some vs[i]?):
  ∀(rs:List T) (ws:List V) (i:Nat) (ρ:Lc) (σ:TL) (K:Hp) (Φ:Nat→List Nat) (Fr:List Nat) (r:Option T×TL),(∀j,vs[i+j]?=ws[j]?)→i+ws.length=vs.length→St c O ρ σ K Φ→H1.length≤K.length→(∀a∈G,K[a]?=H1[a]?)→(∀a∈G,¬Held O σ Φ a)→RFs K ws rs Fr→(∀a∈Fr,a∈G)→Zfc pput qb σ rs=some r →
   Aft c O O R fr σ K Φ (Zc1 nx put b (rs.length+1) i ρ K) r
 | [],ws,i,ρ,σ,K,Φ,Fr,r,hat,hlen,s,hl,hk,hoff,rr,hfr,h=>by
  cases rr
  cases h
  have e:=hnx K hk i (by simp at hlen;omega)
  have e2:vs[i]?=none:=by have:=hat 0;simpa using this
  exact⟨ρ,K,Φ,Nat.le_refl _,fun _ _ _=>rfl,.inl ⟨rfl,by simp[Zc1,e,e2],s,fun a m=>.inr m⟩⟩
 | t::rs,ws0,i,ρ,σ,K,Φ,Fr0,r,hat,hlen,s,hl,hk,hoff,rr,hfr,h=>by
  cases rr with
  | @cons v _ F1 ws _ F2 a b'=>
  simp only[List.length_cons]at hlen
  obtain⟨σ1,h1,h⟩:=Zz0.mp h
  obtain⟨r1,h2,h⟩:=Zz0.mp h
  have e:=hnx K hk i (by omega)
  have e2:vs[i]?=some v:=by have:=hat 0;simpa using this
  have hat':∀j,vs[i+1+j]?=ws[j]?:=fun j=>by have:=hat (j+1);rw[show i+1+j=i+(j+1)by omega,this];simp
  obtain⟨ρ1,Φ1,p1,s1,p3,p4⟩:=hj c ρ σ K Φ v t F1 σ1 s a (fun x m=>hsrc x (hfr x (Zz4 _ m))) (fun k hk t' e x m q=>hoff x (hfr x (Zz4 _ q)) ⟨k,hk,⟨t',e⟩,m⟩) h1
  have hh:∀x,Held O σ1 Φ1 x→Held O σ Φ x:=fun x ⟨k,hk,⟨t',e⟩,m⟩=>by
   obtain⟨q1,q2⟩:=p3 k fun q=>hJ k q hk
   exact⟨k,hk,⟨t',q1▸e⟩,q2▸m⟩
  obtain⟨ρ2,K2,Φ2,g1,g2,g3⟩:=hb c ρ1 σ1 K Φ1 r1 s1 h2
  have estep:Zc1 nx put b ((t::rs).length+1) i ρ K=(b ρ1 K).bind fun q=>match q.1 with
    | some _=>some q
    | none=>Zc1 nx put b (rs.length+1) (i+1) q.2.1 q.2.2:=by
   rw[List.length_cons]
   show(nx i K).bind _=_
   rw[e,e2]
   first | (simp only[Option.bind_some,p1];done) | (simp only[Option.bind_some,p1];rfl)
  rcases g3 with⟨k1,k2,k3,k4⟩ | ⟨t',v',F',k1,k2,k3⟩
  ·rw[k1]at h
   have hG2:∀a∈G,K2[a]?=K[a]?:=fun x m=>g2 x (by have:=hG x m;omega) fun q=>hoff x m (hh x q)
   have hoff2:∀a∈G,¬Held O r1.2 Φ2 a:=fun x m q=>by
    rcases k4 x q with q | q
    ·have:=hG x m;omega
    ·exact hoff x m (hh x q)
   have ih:=Zmz hj hJ hb hG hsrc hnx rs ws (i+1) ρ2 r1.2 K2 Φ2 F2 r hat' (by omega) k3 (by omega) (fun x m=>(hG2 x m).trans (hk x m)) hoff2 (b'.frame fun x m=>hG2 x (hfr x (Zz3 _ m))) (fun x m=>hfr x (Zz3 _ m)) h
   rw[estep,k2]
   simp only[Option.bind_some]
   obtain⟨ρ3,K3,Φ3,l1,l2,l3⟩:=ih
   refine⟨ρ3,K3,Φ3,by omega,fun x hx hn=>?_,?_⟩
   ·rw[l2 x (by omega) fun q=>(k4 x q).elim (fun q=>by omega) fun q=>hn (hh x q),g2 x hx fun q=>hn (hh x q)]
   ·rcases l3 with⟨m1,m2,m3,m4⟩ | l
    ·refine .inl ⟨m1,m2,m3,fun x q=>?_⟩
     rcases m4 x q with q | q
     ·exact .inl (by omega)
     ·exact(k4 x q).imp id (hh x)
    ·exact .inr l
  ·rw[k1]at h
   cases h
   refine⟨ρ2,K2,Φ2,g1,fun x hx hn=>g2 x hx fun q=>hn (hh x q),.inr ⟨t',v',F',k1,?_,k3⟩⟩
   rw[estep,k2]
   rfl
theorem Zbm{J Ns:List Nat}{g:Src}{q:PG}{put:V→Lc→Option Lc}{pput:T→TL→Option TL}{b:Sm}{qb:PS}(hg:Gs O Ns g q)(hj:PutOk O J put pput)(hJ:∀i∈J,i∉O)(hN:∀i∈Ns,i∉O)(hb:S O O R fr b qb): S O O R fr (Zcb g put b) (Zcz q pput qb):=fun c ρ σ H Φ r s h=>by
 obtain⟨ts,h1,h⟩:=Zz0.mp h
 obtain⟨nx,X,vs,F,G,g1,g2,g3,g4,g5⟩:=hg c ρ σ H Φ ts s h1
 have:=Zmz hj hJ hb (H1:=H++X) (fun a m=>(g4 a m).1) (fun a m=>s.from_src (g4 a m).2) g5 ts vs 0 ρ σ (H++X) Φ F r (by simp) (by simp) (s.ext X) (Zz10 _) (fun _ _=>rfl) (fun a m ⟨k,hk,⟨t,e⟩,q⟩=>s.from_off hN (g4 a m).2 hk e q) g2 g3 h
 have eg:Zcb g put b ρ H=Zc1 nx put b (ts.length+1) 0 ρ (H++X):=by simp only[Zcb,g1,Option.bind_some]
 rw[eg]
 exact this.grow
noncomputable def ZfY(t:PB)(b:PS): Nat→PS
 | 0=>fun _=>none
 | n+1=>fun σ=>(t σ).bind fun p=>if p then(b σ).bind fun q=>(match q.1 with
   | some _=>some q
   | none=>ZfY t b n q.2)else some (none,σ)
theorem ZjT{t:Ts}{pt:PB}{b:Sm}{qb:PS}(z:Bt O t pt)(y:S O O R fr b qb): ∀n,S O O R fr (ZeL t b n) (ZfY pt qb n)
 | 0=>fun c ρ σ H Φ r s h=>by cases h
 | n+1=>fun c ρ σ H Φ r s h=>by
  obtain⟨p,h1,h⟩:=Zz0.mp h
  obtain⟨X,a1⟩:=z c ρ σ H Φ p s h1
  cases p with
  | false=>
   cases h
   exact⟨ρ,H++X,Φ,by simp,fun a ha _=>List.getElem?_append_left ha,.inl ⟨rfl,by simp[ZeL,a1],s.ext X,fun a m=>.inr m⟩⟩
  | true=>
   simp only[if_true]at h
   obtain⟨r1,h2,h⟩:=Zz0.mp h
   have b1:=(y c ρ σ (H++X) Φ r1 (s.ext X) h2).grow
   have eg:ZeL t b (n+1) ρ H=(b ρ (H++X)).bind fun q=>(match q.1 with
    | some _=>some q
    | none=>ZeL t b n q.2.1 q.2.2):=by
    show(t ρ H).bind _=_
    rw[a1]
    rfl
   rw[eg]
   obtain⟨ρ1,H1,Φ1,g1,g2,g3⟩:=b1
   rcases g3 with⟨k1,k2,k3,k4⟩ | ⟨t',v',F',k1,k2,k3⟩
   ·rw[k1]at h
    obtain⟨ρ3,K3,Φ3,l1,l2,l3⟩:=ZjT z y n c ρ1 r1.2 H1 Φ1 r k3 h
    rw[k2]
    simp only[Option.bind_some]
    refine⟨ρ3,K3,Φ3,by omega,fun x hx hn=>?_,?_⟩
    ·rw[l2 x (by omega) fun q=>(k4 x q).elim (fun q=>by omega) hn,g2 x hx hn]
    ·rcases l3 with⟨m1,m2,m3,m4⟩ | l
     ·refine .inl ⟨m1,m2,m3,fun x q=>?_⟩
      rcases m4 x q with q | q
      ·exact .inl (by omega)
      ·exact k4 x q
     ·exact .inr l
   ·rw[k1]at h
    cases h
    exact⟨ρ1,H1,Φ1,g1,g2,.inr ⟨t',v',F',k1,by rw[k2];rfl,k3⟩⟩
end
noncomputable def ZI(n:Nat)(q:PS): List T→Option T:=fun ts=>if ts.length=n then(q fun i=>ts[i]?).map fun r=>r.1.getD .none else none
theorem RFs.slots{H:Hp}: ∀{vs:List V} {ts:List T} {F:List Nat},RFs H vs ts F→∃Φ:Nat→List Nat,∀i t,ts[i]?=some t→∃v,vs[i]?=some v∧RF H v t (Φ i)∧∀a∈Φ i,a∈F
 | _,_,_,.nil=>⟨fun _=>[],fun i t e=>by simp at e⟩
 | _,_,_,.cons (F:=F1) a b=>by
  obtain⟨Φ,h⟩:=b.slots
  refine⟨fun i=>match i with | 0=>F1 | i+1=>Φ i,fun i t e=>?_⟩
  cases i with
  | zero=>simp at e;subst e;exact⟨_,by simp,a,fun x m=>List.mem_append_left _ m⟩
  | succ i=>
   simp at e
   obtain⟨v,h1,h2,h3⟩:=h i t e
   exact⟨v,by simpa using h1,h2,fun x m=>List.mem_append_right _ (h3 x m)⟩
theorem ZpB{H H':Hp}(hl:H.length≤H'.length)(h:∀a,a<H.length→H'[a]?=H[a]?): H'=H++H'.drop H.length:=by
 conv=>lhs;rw[←List.take_append_drop H.length H']
 congr 1
 refine List.ext_getElem? fun i=>?_
 by_cases q:i<H.length
 ·rw[List.getElem?_take_of_lt q,h i q]
 ·rw[List.getElem?_eq_none (by simp;omega),List.getElem?_eq_none (by omega)]
theorem ZT{O':List Nat}{fr:Bool}{n:Nat}{g:Sm}{q:PS}(h:S [] O' [] fr g q): SimF fr (ZF n g) (ZI n q):=fun H vs ts t F1 hp r e=>by
 unfold ZI at e
 split at e
 ·rename_i hl
  obtain⟨r1,e1,e2⟩:=Zz1.mp e
  obtain⟨Φ,hΦ⟩:=r.slots
  have st:St ⟨H,[],fun a=>a∈F1⟩ [] (fun i=>vs[i]?) (fun i=>ts[i]?) H Φ:=
   ⟨(fun i t e=>by obtain⟨v,h1,h2,_⟩:=hΦ i t e;exact⟨v,h1,h2⟩),fun i t e a m=>(by obtain⟨v,h1,h2,h3⟩:=hΦ i t e;exact .inr (h3 a m)),(fun i hi=>nomatch hi),Nat.le_refl _,fun a _ _=>rfl,hp,by simp⟩
  obtain⟨ρ',H',Φ',h1,h2,h3⟩:=h _ _ _ _ _ _ st e1
  rcases h3 with⟨k1,k2,k3,k4⟩ | ⟨t',v',F',k1,k2,k3,k4,k5,k6⟩
  ·have eh:=ZpB k3.len fun a ha=>k3.keep a ha (by simp)
   refine⟨.none,H'.drop H.length,[],?_,?_,by simp,by simp⟩
   ·have hv:vs.length=n:=r.length.trans hl
    simp only[ZF,hv,if_true,k2,Option.map_some,Option.getD_none]
    rw[←eh]
   ·rw[k1]at e2
    subst e2
    exact .none
  ·have eh:=ZpB k4.len fun a ha=>k4.keep a ha (by simp)
   refine⟨v',H'.drop H.length,F',?_,?_,k5,fun hf=>⟨(k6 hf).1,fun a m=>((k6 hf).2 a m).elim id fun q=>by cases q⟩⟩
   ·have hv:vs.length=n:=r.length.trans hl
    simp only[ZF,hv,if_true,k2,Option.map_some,Option.getD_some]
    rw[←eh]
   ·rw[k1]at e2
    subst e2
    rw[←eh]
    exact k3
 ·cases e
theorem ZvG{f:List V→Hp→Option (V×Hp)}{p:List T→Option T}{fr:Bool}(h:SimF fr f p)(ns:List Int)(e:p [.lst (ns.map T.int)]=some (.bool true)): ∃H',f [.ref 0] [ns.map V.int]=some (.bool true,H'):=by
 have intsAre:∀l:List Int,RFs [ns.map V.int] (l.map V.int) (l.map T.int) []:=fun l=>by
  induction l with
  | nil=>exact .nil
  | cons a l ih=>exact .cons (.int a) ih
 obtain⟨v,X,F,h1,h2,_⟩:=h [ns.map V.int] [.ref 0] [.lst (ns.map T.int)] _ _ (by simp) (.one (.ref rfl (intsAre ns))) e
 cases h2
 exact⟨_,h1⟩
end TM
end
section
namespace TM
open PySem PM
structure XS(O O' R:List Nat)(fr:Bool) where
 g:Sm
 q:PS
 h:S O O' R fr g q
end TM
end
section
namespace TM
open PySem PM
section
variable {O Ns Ne J:List Nat}
theorem ZbH{u:Bool}{g:Src}{q:PG}{put:V→Lc→Option Lc}{pput:T→TL→Option TL}{tc:Ts}{pc:PB}{f:Ex}{pf:PE}(hg:Gs O Ns g q)(hj:PutOk O J put pput)(hN:∀i∈Ns,i∉O)(hc:Bt O tc pc)(hf:E O Ne u f pf): E O (Ns++Ne) false (ZbL g put tc f) (Zbj q pput pc pf):=
 Zr4 hg hj hN hc hf.sh (by simp)
theorem ZcE{g:Src}{q:PG}{put:V→Lc→Option Lc}{pput:T→TL→Option TL}{tc:Ts}{pc:PB}{f:Ex}{pf:PE}(hg:Gs O Ns g q)(hj:PutOk O J put pput)(hN:∀i∈Ns,i∉O)(hc:Bt O tc pc)(hf:E O [] true f pf): E O [] true (ZbL g put tc f) (Zbj q pput pc pf):=
 Zr4 hg hj hN hc hf (by simp)
end
end TM
end
section
/-! Forward reckoning over trees. -/
namespace TM
open PySem PM
noncomputable def dec(P:Prop): Bool:=@decide P (Classical.propDecidable P)
theorem dec_iff{P:Prop}: dec P=true↔P:=by unfold dec;exact @decide_eq_true_iff P (Classical.propDecidable P)
theorem Zao{P:Prop}(h:P): dec P=true:=dec_iff.mpr h
theorem Zas{P:Prop}(h:¬P): dec P=false:=by
 cases e:dec P with
 | true=>exact absurd (dec_iff.mp e) h
 | false=>rfl
theorem ZdP{P Q:Prop}(h:P↔Q): dec P=dec Q:=by
 by_cases p:P
 ·rw[Zao p,Zao (h.mp p)]
 ·rw[Zas p,Zas fun q=>p (h.mpr q)]
theorem Zkh{P:Prop}{b:Bool}(h:b=true↔P): dec P=b:=by
 cases b with
 | true=>exact Zao (h.mp rfl)
 | false=>exact Zas fun p=>by simpa using h.mpr p
theorem Zfo{P:Prop}[i:Decidable P]: decide P=dec P:=by
 unfold dec;congr
noncomputable def tab{α:Type}(n:Nat)(f:Nat→α): List α:=(List.range n).map f
theorem Zaa{α:Type}{n:Nat}{f:Nat→α}: (tab n f).length=n:=by simp[tab]
theorem ZaS{α:Type}{n:Nat}{f:Nat→α}{i:Nat}(h:i<n): (tab n f)[i]?=some (f i):=by simp[tab,h]
theorem Zng{α:Type}{n:Nat}{f:Nat→α}{i:Nat}(h:n≤i): (tab n f)[i]?=none:=by simp[tab,h]
theorem ZdU{α:Type}{n:Nat}{f:Nat→α}: tab n f++[f n]=tab (n+1) f:=by simp[tab,List.range_succ]
theorem Zij{α:Type}{n:Nat}{xs:List α}{f:Nat→α}(hl:xs.length=n)(h:∀i,i<n→xs[i]?=some (f i)): xs=tab n f:=by
 refine List.ext_getElem? fun i=>?_
 by_cases q:i<n
 ·rw[h i q,ZaS q]
 ·rw[List.getElem?_eq_none (by omega),Zng (by omega)]
theorem Za5{α:Type}{n:Nat}{f g:Nat→α}(h:∀i,i<n→f i=g i): tab n f=tab n g:=by
 refine Zij Zaa fun i hi=>?_
 rw[ZaS hi,h i hi]
theorem ZfM{α:Type}{n k:Nat}{f:Nat→α}{v:α}: (tab n f).set k v=tab n fun i=>if i=k then v else f i:=by
 refine Zij (by rw[List.length_set,Zaa]) fun i hi=>?_
 by_cases q:i=k
 ·subst q
  rw[List.getElem?_set_self (by rw[Zaa];exact hi),if_pos rfl]
 ·rw[List.getElem?_set_ne (Ne.symm q),ZaS hi,if_neg q]
theorem tab_map{α β:Type}{n:Nat}{f:Nat→α}{g:α→β}: (tab n f).map g=tab n fun i=>g (f i):=by simp[tab]
noncomputable def cn{α:Type}(a:α)(f:Nat→α): Nat→α
 | 0=>a
 | i+1=>f i
theorem Zwr{α:Type}{n:Nat}{a:α}{f:Nat→α}: a::tab n f=tab (n+1) (cn a f):=by
 refine Zij (by rw[List.length_cons,Zaa]) fun i hi=>?_
 cases i with
 | zero=>rfl
 | succ i=>rw[List.getElem?_cons_succ,ZaS (by omega)];rfl
theorem Zrm{α β γ:Type}{n m:Nat}{f:Nat→α}{g:Nat→β}{h:α→β→γ}: List.zipWith h (tab n f) (tab m g)=tab (min n m) fun i=>h (f i) (g i):=by
 refine Zij (by rw[List.length_zipWith,Zaa,Zaa]) fun i hi=>?_
 rw[List.getElem?_zipWith,ZaS (show i<n by omega),ZaS (show i<m by omega)]
theorem Zxn{α:Type}{n m:Nat}{f g:Nat→α}: tab n f++tab m g=tab (n+m) fun i=>if i<n then f i else g (i-n):=by
 refine Zij (by rw[List.length_append,Zaa,Zaa]) fun i hi=>?_
 by_cases q:i<n
 ·rw[List.getElem?_append_left (by rw[Zaa];exact q),ZaS q,if_pos q]
 ·rw[List.getElem?_append_right (by rw[Zaa];omega),Zaa,ZaS (by omega),if_neg q]
def Pk(c:Option T)(Q:T→Prop): Prop:=∃t,c=some t∧Q t
def Pl(c:Option (List T))(Q:List T→Prop): Prop:=∃t,c=some t∧Q t
def Pb(c:Option Bool)(Q:Bool→Prop): Prop:=∃t,c=some t∧Q t
def Psk(c:Option (Option T×TL))(R:T→Prop)(N:TL→Prop): Prop:=∃o σ,c=some (o,σ)∧(∀t,o=some t→R t)∧(o=none→N σ)
theorem Zg{c:Option T}{Q:T→Prop}{t:T}(h:c=some t)(k:Q t): Pk c Q:=⟨t,h,k⟩
theorem Pk.eq{c:Option T}{t:T}(h:Pk c fun v=>v=t): c=some t:=by obtain⟨v,e,rfl⟩:=h;exact e
theorem Pk.mono{c:Option T}{Q Q':T→Prop}(h:Pk c Q)(k:∀t,Q t→Q' t): Pk c Q':=by obtain⟨v,e,q⟩:=h;exact⟨v,e,k v q⟩
theorem Psk.mono{c:Option (Option T×TL)}{R R':T→Prop}{N N':TL→Prop}(h:Psk c R N)(k:∀t,R t→R' t)(l:∀σ,N σ→N' σ): Psk c R' N':=by
 obtain⟨o,σ,a,b,d⟩:=h;exact⟨o,σ,a,fun v e=>k v (b v e),fun e=>l σ (d e)⟩
section
variable {σ:TL} {Q:T→Prop} {L:List T→Prop} {B:Bool→Prop} {R:T→Prop} {N:TL→Prop}
theorem ZyM{k:Int}(h:Q (.int k)): Pk (ZH k σ) Q:=⟨_,rfl,h⟩
theorem ZyN(h:Q .none): Pk (ZaJ σ) Q:=⟨_,rfl,h⟩
theorem Zxo{k:Bool}(h:Q (.bool k)): Pk (Zsy k σ) Q:=⟨_,rfl,h⟩
theorem ZyO{k:Str}(h:Q (.str k)): Pk (ZiO k σ) Q:=⟨_,rfl,h⟩
theorem ZyP{i:Nat}{t:T}(e:σ i=some t)(h:Q t): Pk (Zh i σ) Q:=⟨_,e,h⟩
theorem ZyQ{q:T→T→Option T}{f g:PE}(h:Pk (f σ) fun x=>Pk (g σ) fun y=>Pk (q x y) Q): Pk (ZB q f g σ) Q:=by
 obtain⟨x,a,y,b,z,c,k⟩:=h
 exact⟨z,by simp only[ZB,a,b,Option.bind_some,c],k⟩
theorem ZzP{q:T→Option T}{f:PE}(h:Pk (f σ) fun x=>Pk (q x) Q): Pk (pUn q f σ) Q:=by
 obtain⟨x,a,z,c,k⟩:=h
 exact⟨z,by simp only[pUn,a,Option.bind_some,c],k⟩
theorem Zxp{q:List T→Option T}{f:PEs}(h:Pl (f σ) fun x=>Pk (q x) Q): Pk (ZV q f σ) Q:=by
 obtain⟨x,a,z,c,k⟩:=h
 exact⟨z,by simp only[ZV,a,Option.bind_some,c],k⟩
theorem ZyR(h:L []): Pl (ZD σ) L:=⟨_,rfl,h⟩
theorem Zxq{f:PE}{g:PEs}(h:Pk (f σ) fun x=>Pl (g σ) fun xs=>L (x::xs)): Pl (Zq f g σ) L:=by
 obtain⟨x,a,y,b,k⟩:=h
 exact⟨_,by simp only[Zq,a,b,Option.bind_some],k⟩
theorem ZyS{g:PEs}(h:Pl (g σ) fun xs=>Q (.tup xs)): Pk (ZdE g σ) Q:=by
 obtain⟨x,a,k⟩:=h;exact⟨_,by simp only[ZdE,a,Option.map_some],k⟩
theorem Zxr{g:PEs}(h:Pl (g σ) fun xs=>Q (.lst xs)): Pk (Zcu g σ) Q:=by
 obtain⟨x,a,k⟩:=h;exact⟨_,by simp only[Zcu,a,Option.map_some],k⟩
theorem Zxs{f:PE}(h:Pk (f σ) fun t=>t.flat=true∧Q t): Pk (ZcN f σ) Q:=by
 obtain⟨x,a,b,k⟩:=h;exact⟨_,by simp only[ZcN,a,Option.bind_some,b,if_true],k⟩
theorem ZzQ{f:PE}(h:Pk (f σ) fun t=>t.flatIn=true∧Q t): Pk (pFl f σ) Q:=by
 obtain⟨x,a,b,k⟩:=h;exact⟨_,by simp only[pFl,a,Option.bind_some,b,if_true],k⟩
theorem ZzR{b:PB}{f g:PE}(h:Pb (b σ) fun x=>(x=true→Pk (f σ) Q)∧(x=false→Pk (g σ) Q)): Pk (pIf b f g σ) Q:=by
 obtain⟨x,a,h1,h2⟩:=h
 cases x with
 | true=>obtain⟨t,c,q⟩:=h1 rfl;exact⟨t,by simp[pIf,a,c],q⟩
 | false=>obtain⟨t,c,q⟩:=h2 rfl;exact⟨t,by simp[pIf,a,c],q⟩
theorem ZyT{f:PE}(h:Pk (f σ) fun x=>Pb (Zbx x) fun b=>Q (.bool (!b))): Pk (ZnW f σ) Q:=by
 obtain⟨x,a,b,e,q⟩:=h;exact⟨_,by simp only[ZnW,a,Option.bind_some,e,Option.map_some],q⟩
theorem ZyU{f g:PE}(h:Pk (f σ) fun x=>Pb (Zbx x) fun b=>(b=true→Pk (g σ) Q)∧(b=false→Q x)): Pk (ZkO f g σ) Q:=by
 obtain⟨x,a,b,e,h1,h2⟩:=h
 cases b with
 | true=>obtain⟨t,c,q⟩:=h1 rfl;exact⟨t,by simp[ZkO,a,e,c],q⟩
 | false=>exact⟨x,by simp[ZkO,a,e],h2 rfl⟩
theorem ZzS{f g:PE}(h:Pk (f σ) fun x=>Pb (Zbx x) fun b=>(b=true→Q x)∧(b=false→Pk (g σ) Q)): Pk (pOr f g σ) Q:=by
 obtain⟨x,a,b,e,h1,h2⟩:=h
 cases b with
 | false=>obtain⟨t,c,q⟩:=h2 rfl;exact⟨t,by simp[pOr,a,e,c],q⟩
 | true=>exact⟨x,by simp[pOr,a,e],h1 rfl⟩
theorem ZzT{K:String}{f:PE}(h:Pk (f σ) fun x=>Q (.bool (ZjQ K x))): Pk (pIs K f σ) Q:=by
 obtain⟨x,a,q⟩:=h;exact⟨_,by simp only[pIs,a,Option.map_some],q⟩
theorem ZyV{f:PE}(h:Pk (f σ) fun x=>Pb (Zbx x) B): Pb (Zat f σ) B:=by
 obtain⟨x,a,b,e,q⟩:=h;exact⟨_,by simp only[Zat,a,Option.bind_some,e],q⟩
theorem Zxt{f:PB}(h:Pb (f σ) fun b=>B (!b)): Pb (ZnV f σ) B:=by
 obtain⟨x,a,q⟩:=h;exact⟨_,by simp only[ZnV,a,Option.map_some],q⟩
theorem Zxu(h:B true): Pb (Za8 σ) B:=⟨_,rfl,h⟩
theorem Zws(h:B false): Pb (Zis σ) B:=⟨_,rfl,h⟩
theorem Zxv{f g:PB}(h:Pb (f σ) fun b=>(b=true→Pb (g σ) B)∧(b=false→B false)): Pb (Zgd f g σ) B:=by
 obtain⟨x,a,h1,h2⟩:=h
 cases x with
 | true=>obtain⟨t,c,q⟩:=h1 rfl;exact⟨t,by simp[Zgd,a,c],q⟩
 | false=>exact⟨_,by simp[Zgd,a],h2 rfl⟩
theorem ZyW{f g:PB}(h:Pb (f σ) fun b=>(b=true→B true)∧(b=false→Pb (g σ) B)): Pb (bOr f g σ) B:=by
 obtain⟨x,a,h1,h2⟩:=h
 cases x with
 | false=>obtain⟨t,c,q⟩:=h2 rfl;exact⟨t,by simp[bOr,a,c],q⟩
 | true=>exact⟨_,by simp[bOr,a],h1 rfl⟩
theorem ZuU{b:Bool}(h:B b): Pb (Zbx (.bool b)) B:=⟨_,rfl,h⟩
theorem Zxw(h:N σ): Psk (ZaV σ) R N:=⟨_,_,rfl,by simp,fun _=>h⟩
theorem ZyX{f:PE}(h:Pk (f σ) R): Psk (Zax f σ) R N:=by
 obtain⟨x,a,q⟩:=h;exact⟨some x,σ,by simp only[Zax,a,Option.map_some],fun t e=>by cases e;exact q,by simp⟩
theorem ZyY{i:Nat}{f:PE}(h:Pk (f σ) fun t=>N (ZW σ i t)): Psk (ZaO i f σ) R N:=by
 obtain⟨x,a,q⟩:=h;exact⟨none,ZW σ i x,by simp only[ZaO,a,Option.map_some],by simp,fun _=>q⟩
theorem Zr6{a b:PS}(h:Psk (a σ) R fun σ1=>Psk (b σ1) R N): Psk (Z8 a b σ) R N:=by
 obtain⟨o,σ1,e,h1,h2⟩:=h
 cases o with
 | some t=>exact⟨some t,σ1,by simp only[Z8,e,Option.bind_some],h1,by simp⟩
 | none=>
  obtain⟨o2,σ2,e2,k1,k2⟩:=h2 rfl
  exact⟨o2,σ2,by simp only[Z8,e,Option.bind_some,e2],k1,k2⟩
theorem Znh{b:PB}{f g:PS}(h:Pb (b σ) fun x=>(x=true→Psk (f σ) R N)∧(x=false→Psk (g σ) R N)): Psk (qIf b f g σ) R N:=by
 obtain⟨x,a,h1,h2⟩:=h
 cases x with
 | true=>obtain⟨o,s,c,q⟩:=h1 rfl;exact⟨o,s,by simp[qIf,a,c],q⟩
 | false=>obtain⟨o,s,c,q⟩:=h2 rfl;exact⟨o,s,by simp[qIf,a,c],q⟩
theorem Zr7{n:Nat}{q:PS}{ts:List T}(hn:ts.length=n)(h:Psk (q fun i=>ts[i]?) Q fun _=>Q .none): Pk (ZI n q ts) Q:=by
 obtain⟨o,s,e,h1,h2⟩:=h
 cases o with
 | some t=>exact⟨t,by simp only[ZI,hn,if_true,e,Option.map_some,Option.getD_some],h1 t rfl⟩
 | none=>exact⟨.none,by simp only[ZI,hn,if_true,e,Option.map_some,Option.getD_none],h2 rfl⟩
theorem ZyZ{b:Bool}{A C:Prop}(h:b=true)(k:A): (b=true→A)∧(b=false→C):=⟨fun _=>k,fun e=>(by rw[h]at e;cases e)⟩
theorem Zy0{b:Bool}{A C:Prop}(h:b=false)(k:C): (b=true→A)∧(b=false→C):=⟨fun e=>(by rw[h]at e;cases e),fun _=>k⟩
theorem Zni{a b:Int}(h:Q (.int (a+b))): Pk (Zaj (.int a) (.int b)) Q:=⟨_,rfl,h⟩
theorem Zy1{a b:Int}(h:Q (.int (a-b))): Pk (Zdj (.int a) (.int b)) Q:=⟨_,rfl,h⟩
theorem Zy2{a:Int}(h:Q (.int (-a))): Pk (ZiQ (.int a)) Q:=⟨_,rfl,h⟩
theorem ZzU{a b:Int}(h:Q (.bool (decide (a<b)))): Pk (qLt (.int a) (.int b)) Q:=⟨_,rfl,h⟩
theorem ZzV{a b:Int}(h:Q (.bool (decide (a≤b)))): Pk (qLe (.int a) (.int b)) Q:=⟨_,rfl,h⟩
theorem ZzW{a b:Int}(h:Q (.bool (decide (b<a)))): Pk (qGt (.int a) (.int b)) Q:=⟨_,rfl,h⟩
theorem Zy3{a b:Int}(hb:b≠0)(h:Q (.int (a.fmod b))): Pk (ZkQ (.int a) (.int b)) Q:=⟨_,by simp only[ZkQ];rw[if_pos hb],h⟩
theorem ZcK{a b:Int}(hb:b≠0)(hd:Builtin.divisionGoesByPylong a b=false)(h:Q (.int (a.fdiv b))): Pk (ZkP (.int a) (.int b)) Q:=⟨_,by simp only[ZkP];rw[if_pos ⟨hb,hd⟩],h⟩
theorem Zcs{a b:Int}(hm:mulOk a b=true)(h:Q (.int (a*b))): Pk (Zdk (.int a) (.int b)) Q:=⟨_,by simp only[Zdk];rw[if_pos hm],h⟩
theorem Zy4{a:Int}(h:Q (.int (if a<0 then -a else a))): Pk (ZnX [.int a]) Q:=⟨_,rfl,h⟩
theorem ZjU(a b:Int): Zeg (.int a) (.int b)=some (decide (a=b)):=by
 simp[Zeg,Zcy,SeqAt.shaped,PyData.canLay0,PyData.depth,PyData.eqv]
 by_cases h:a=b <;> simp[h]
theorem ZzX{a b:Int}(h:Q (.bool (decide (a=b)))): Pk (qEq (.int a) (.int b)) Q:=⟨_,by simp only[qEq,ZjU,Option.map_some],h⟩
theorem ZzY{a b:Int}(h:Q (.bool (decide (a≠b)))): Pk (qNe (.int a) (.int b)) Q:=⟨.bool (decide (a≠b)),by simp only[qNe,ZjU,Option.map_some];simp,h⟩
theorem Zy5(h:Q (.bool true)): Pk (qIs .none .none) Q:=⟨_,rfl,h⟩
theorem Zy6{a:Int}(h:Q (.bool false)): Pk (qIs (.int a) .none) Q:=⟨_,rfl,h⟩
theorem Zy7{a:List T}(h:Q (.bool false)): Pk (qIs (.lst a) .none) Q:=⟨_,rfl,h⟩
theorem Zy8{a:List T}(h:Q (.bool false)): Pk (qIs (.tup a) .none) Q:=⟨_,rfl,h⟩
theorem Zxx(h:Q (.bool false)): Pk (ZfV .none .none) Q:=⟨_,rfl,h⟩
theorem Zxy{a:Int}(h:Q (.bool true)): Pk (ZfV (.int a) .none) Q:=⟨_,rfl,h⟩
theorem Zxz{a:List T}(h:Q (.bool true)): Pk (ZfV (.tup a) .none) Q:=⟨_,rfl,h⟩
theorem ZxA{n:Nat}{f:Nat→T}(h:Q (.int n)): Pk (ZbQ [.lst (tab n f)]) Q:=⟨_,by simp only[ZbQ,Zaa],h⟩
theorem Zy9{ts:List T}(h:Q (.int ts.length)): Pk (ZbQ [.lst ts]) Q:=⟨_,rfl,h⟩
theorem ZxB{ts:List T}(h:Q (.int ts.length)): Pk (ZbQ [.tup ts]) Q:=⟨_,rfl,h⟩
theorem ZiG{k:Int}{n:Nat}(h0:0≤k)(h1:k<n): seqIndex? k n=some k.toNat:=by
 unfold seqIndex?
 have:¬k<0:=by omega
 simp[this]
 omega
theorem ZxC{n i:Nat}{f:Nat→T}(hi:i<n)(h:Q (f i)): Pk (Z2 (.lst (tab n f)) (.int (i:Nat))) Q:=⟨_,by
 simp only[Z2,Zaa,ZiG (show(0:Int)≤(i:Int)by omega) (show(i:Int)<(n:Int)by omega),Option.bind_some,Int.toNat_natCast]
 exact ZaS hi,h⟩
theorem ZxD{n:Nat}{k:Int}{f:Nat→T}(h0:0≤k)(h1:k<n)(h:Q (f k.toNat)): Pk (Z2 (.lst (tab n f)) (.int k)) Q:=⟨_,by
 simp only[Z2,Zaa,ZiG h0 h1,Option.bind_some]
 exact ZaS (by omega),h⟩
theorem ZjV{ts:List T}{k:Int}{t:T}(h0:0≤k)(e:ts[k.toNat]?=some t)(h:Q t): Pk (Z2 (.lst ts) (.int k)) Q:=⟨_,by
 simp only[Z2]
 rw[ZiG h0 (by have:=(Zz6.mp e).1;omega)]
 exact e,h⟩
theorem ZxE{ts:List T}{k:Int}{t:T}(h0:0≤k)(e:ts[k.toNat]?=some t)(h:Q t): Pk (Z2 (.tup ts) (.int k)) Q:=⟨_,by
 simp only[Z2]
 rw[ZiG h0 (by have:=(Zz6.mp e).1;omega)]
 exact e,h⟩
theorem Zrn{n:Nat}{a:T}{f:Nat→T}(hn:n<10000)(h:Q (.lst (tab (n+1) (cn a f)))): Pk (Zaj (.lst [a]) (.lst (tab n f))) Q:=⟨_,by
 simp only[Zaj]
 rw[if_pos (by rw[ZaZ,List.length_append,Zaa];simp;omega),List.singleton_append,Zwr],h⟩
theorem ZmA{n m:Nat}{f g:Nat→T}(hn:n+m<10000)(h:Q (.lst (tab (n+m) fun i=>if i<n then f i else g (i-n)))): Pk (Zaj (.lst (tab n f)) (.lst (tab m g))) Q:=⟨_,by
 simp only[Zaj]
 rw[if_pos (by rw[ZaZ,List.length_append,Zaa,Zaa];omega),Zxn],h⟩
theorem Zwt{ts:List T}(h:Q (.lst ts)): Pk (ZeO [.lst ts]) Q:=⟨_,rfl,h⟩
theorem ZxF{ts:List T}(h:Q (.tup ts)): Pk (ZjS [.lst ts]) Q:=⟨_,rfl,h⟩
theorem ZvH{n:Nat}{f:Nat→Bool}: ZfW (tab n fun i=>.bool (f i))=some (tab n f):=by
 have:∀l:List Bool,ZfW (l.map T.bool)=some l:=fun l=>by
  induction l with
  | nil=>rfl
  | cons a l ih=>simp only[List.map_cons,ZfW,ih,Option.map_some]
 rw[show(tab n fun i=>T.bool (f i))=(tab n f).map T.bool from tab_map.symm]
 exact this _
theorem Zwu{n:Nat}{f:Nat→Int}: Zc2 (tab n fun i=>.int (f i))=some (tab n f):=by
 have:∀l:List Int,Zc2 (l.map T.int)=some l:=fun l=>by
  induction l with
  | nil=>rfl
  | cons a l ih=>simp only[List.map_cons,Zc2,ih,Option.map_some]
 rw[show(tab n fun i=>T.int (f i))=(tab n f).map T.int from tab_map.symm]
 exact this _
theorem Zza{n:Nat}{P:Nat→Prop}(h:Q (.bool (dec (∃i,i<n∧P i)))): Pk (ZkT [.lst (tab n fun i=>.bool (dec (P i)))]) Q:=⟨_,by
 simp only[ZkT,ZvH,Option.map_some]
 congr 2
 symm
 apply Zkh
 rw[List.any_eq_true]
 constructor
 ·rintro⟨x,hx,h⟩
  obtain⟨i,hi,e⟩:=List.getElem_of_mem hx
  rw[Zaa]at hi
  have:=ZaS (f:=fun i=>dec (P i)) hi
  rw[List.getElem?_eq_getElem (by rw[Zaa];exact hi)]at this
  rw[←e,Option.some.inj this]at h
  exact⟨i,hi,dec_iff.mp h⟩
 ·rintro⟨i,hi,h⟩
  exact⟨_,List.mem_of_getElem? (ZaS hi),Zao h⟩,h⟩
def SqP(x:T)(L:List T→Prop): Prop:=∃ts,(x=.lst ts∨x=.tup ts)∧L ts
theorem ZjW{f:PE}(h:Pk (f σ) fun t=>SqP t L): Pl (Zdl f σ) L:=by
 obtain⟨t,a,ts,rfl | rfl,q⟩:=h <;> exact⟨_,by simp only[Zdl,a,Option.bind_some],q⟩
theorem Sq.lst{ts:List T}(h:L ts): SqP (.lst ts) L:=⟨ts,.inl rfl,h⟩
theorem Sq.tup{ts:List T}(h:L ts): SqP (.tup ts) L:=⟨ts,.inr rfl,h⟩
theorem Zr8{a b c:Int}{H:Hp}{z:Nx×Nat×Hp}(h:Zb3 a b c H=some z): ZbY a b c=some ((List.range (rngN a b c)).map fun(i:Nat)=>.int (a+(i:Int)*c)):=by
 unfold Zb3 at h
 split at h
 ·rename_i hc
  unfold ZbY
  rw[if_pos hc]
 ·cases h
theorem Zwv{n:Nat}(hn:n≤1000): ZbY 0 n 1=some (tab n fun i=>.int i):=by
 rw[Zr8 (ZyH (H:=[]) (b:=n) (by omega) (by omega))]
 have e:rngN 0 n 1=n:=by
  unfold rngN Builtin.Range.rangeSize
  by_cases q:(0:Int)<n
  ·rw[if_pos (by decide),if_pos (by omega)];omega
  ·rw[if_pos (by decide),if_neg (by omega)];omega
 rw[e]
 simp[tab]
theorem ZmW{a n:Nat}(ha:0<n)(hn:a+n≤1000): ZbY a (a+n) 1=some (tab n fun i=>.int (a+i)):=by
 rw[Zr8 (ZyJ (H:=[]) (a:=a) (b:=a+n) (c:=1) (by omega) (by omega) (by omega) (by omega) (by omega))]
 have e:rngN a (a+n) 1=n:=by
  unfold rngN
  rw[Zsx (by omega) (by omega)]
  omega
 rw[e]
 simp[tab]
theorem ZxG{g:PEs}{b:Int}{o:Option (List T)}(e:g σ=some [.int b])(h:ZbY 0 b 1=o): ZbI g σ=o:=by
 subst h;unfold ZbI;rw[e];rfl
theorem Zik{g:PEs}{a b:Int}{o:Option (List T)}(e:g σ=some [.int a,.int b])(h:ZbY a b 1=o): ZbI g σ=o:=by
 subst h;unfold ZbI;rw[e];rfl
def RnP(xs:List T)(L:List T→Prop): Prop:=(∃n:Nat,xs=[.int n]∧n≤1000∧L (tab n fun i=>.int i))∨∃(a:Nat) (n:Nat),xs=[.int a,.int (a+n)]∧0<n∧a+n≤1000∧L (tab n fun i=>.int (a+i))
theorem Zww{g:PEs}(h:Pl (g σ) fun xs=>RnP xs L): Pl (ZbI g σ) L:=by
 obtain⟨xs,e,h⟩:=h
 rcases h with⟨n,h0,h1,q⟩ | ⟨a,n,h0,h1,h2,q⟩
 ·subst h0;exact⟨_,ZxG e (Zwv h1),q⟩
 ·subst h0;exact⟨_,Zik e (ZmW h1 h2),q⟩
theorem Rn.one{n:Nat}(hn:n≤1000)(h:L (tab n fun i=>.int i)): RnP [.int n] L:=.inl ⟨n,rfl,hn,h⟩
theorem Zf7{k:Int}(n:Nat)(e:k=n)(hn:n≤1000)(h:L (tab n fun i=>.int i)): RnP [.int k] L:=.inl ⟨n,by rw[e],hn,h⟩
theorem Rn.two{k l:Int}(a n:Nat)(e0:l=a)(e:k=a+n)(ha:0<n)(hn:a+n≤1000)(h:L (tab n fun i=>.int (a+i))): RnP [.int l,.int k] L:=.inr ⟨a,n,by rw[e,e0],ha,hn,h⟩
def ZiP(x y:T)(L:List T→Prop): Prop:=∃xs ys,x=.lst xs∧y=.lst ys∧L (List.zipWith (fun a b=>.tup [a,b]) xs ys)
theorem Znj{f g:PE}(h:Pk (f σ) fun x=>Pk (g σ) fun y=>ZiP x y L): Pl (ZkU f g σ) L:=by
 obtain⟨x,a,y,b,xs,ys,rfl,rfl,q⟩:=h;exact⟨_,by simp only[ZkU,a,b,Option.bind_some],q⟩
theorem Zi.eq{n:Nat}{f g:Nat→T}(h:L (tab n fun i=>.tup [f i,g i])): ZiP (.lst (tab n f)) (.lst (tab n g)) L:=⟨_,_,rfl,rfl,by rw[Zrm,Nat.min_self];exact h⟩
theorem Zqb{j:Nat}{f:PE}{h:T→T}: ∀{ts:List T},(∀t∈ts,f (ZW σ j t)=some (h t))→Zcv (ZaU j) Za8 f σ ts=some (ts.map h)
 | [],_=>rfl
 | t::ts,k=>by
  simp only[Zcv,ZaU,Za8,Option.bind_some,if_true,k t Zz5,Zqb fun t m=>k t (Zz2 _ m),Option.map_some,List.map_cons]
theorem ZmX{put:T→TL→Option TL}{f:PE}: ∀{ts us:List T},us.length=ts.length→(∀(i:Nat) t u,ts[i]?=some t→us[i]?=some u→∃σ1,put t σ=some σ1∧f σ1=some u)→Zcv put Za8 f σ ts=some us
 | [],us,hl,_=>by cases us with
  | nil=>rfl
  | cons _ _=>simp at hl
 | t::ts,us,hl,k=>by
  cases us with
  | nil=>simp at hl
  | cons u us=>
   obtain⟨σ1,h1,h2⟩:=k 0 t u (by simp) (by simp)
   have:=ZmX (ts:=ts) (us:=us) (f:=f) (put:=put) (by simpa using hl) fun i t' u' h3 h4=>k (i+1) t' u' (by simpa using h3) (by simpa using h4)
   simp only[Zcv,h1,Za8,Option.bind_some,if_true,h2,this,Option.map_some]
theorem Zbr{g:PG}{j n:Nat}{a b:Nat→T}{f:PE}(hn:n<10000)(hg:Pl (g σ) fun ts=>ts=tab n a)(hf:∀i,i<n→Pk (f (ZW σ j (a i))) fun t=>t=b i)(h:Q (.lst (tab n b))): Pk (Zbj g (ZaU j) Za8 f σ) Q:=by
 obtain⟨ts,e,rfl⟩:=hg
 refine⟨_,?_,h⟩
 simp only[Zbj,e,Option.bind_some,Zaa]
 rw[if_pos (by rw[ZaZ];omega),ZmX (us:=tab n b) (by rw[Zaa,Zaa]) fun i t u h1 h2=>?_]
 ·rfl
 ·have hi:i<n:=by have:=(Zz6.mp h1).1;rwa [Zaa]at this
  rw[ZaS hi]at h1 h2
  cases h1;cases h2
  exact⟨_,rfl,(hf i hi).eq⟩
theorem ZmB{g:PG}{j k n:Nat}{a b c:Nat→T}{f:PE}(hn:n<10000)(hg:Pl (g σ) fun ts=>ts=tab n fun i=>.tup [a i,b i])(hf:∀i,i<n→Pk (f (ZW (ZW σ j (a i)) k (b i))) fun t=>t=c i)(h:Q (.lst (tab n c))): Pk (Zbj g (Ze3 j k) Za8 f σ) Q:=by
 obtain⟨ts,e,rfl⟩:=hg
 refine⟨_,?_,h⟩
 simp only[Zbj,e,Option.bind_some,Zaa]
 rw[if_pos (by rw[ZaZ];omega),ZmX (us:=tab n c) (by rw[Zaa,Zaa]) fun i t u h1 h2=>?_]
 ·rfl
 ·have hi:i<n:=by have:=(Zz6.mp h1).1;rwa [Zaa]at this
  rw[ZaS hi]at h1 h2
  cases h1;cases h2
  exact⟨_,rfl,(hf i hi).eq⟩
theorem Znk{put:T→TL→Option TL}{b:PS}: ∀{ts:List T} (P:Nat→TL→Prop) {σ:TL},P 0 σ→(∀(i:Nat) t σ,ts[i]?=some t→P i σ→∃σ1,put t σ=some σ1∧Psk (b σ1) R (P (i+1)))→(∀σ,P ts.length σ→N σ)→Psk (Zfc put b σ ts) R N
 | [],P,σ,h0,_,h2=>⟨_,_,rfl,by simp,fun _=>h2 _ h0⟩
 | t::ts,P,σ,h0,h1,h2=>by
  obtain⟨σ1,e1,o,σ2,e2,k1,k2⟩:=h1 0 t σ (by simp) h0
  cases o with
  | some v=>exact⟨some v,σ2,by simp only[Zfc,e1,Option.bind_some,e2],k1,by simp⟩
  | none=>
   obtain⟨o3,σ3,e3,l1,l2⟩:=Znk (ts:=ts) (fun i=>P (i+1)) (k2 rfl) (fun i t' σ' h3 h4=>h1 (i+1) t' σ' (by simpa using h3) h4) (fun σ' h=>h2 σ' (by simpa using h))
   exact⟨o3,σ3,by simp only[Zfc,e1,Option.bind_some,e2,e3],l1,l2⟩
theorem Zb5{g:PG}{j n:Nat}{a:Nat→T}{b:PS}(hg:Pl (g σ) fun ts=>ts=tab n a)(P:Nat→TL→Prop)(h0:P 0 σ)(h1:∀i σ,i<n→P i σ→Psk (b (ZW σ j (a i))) R (P (i+1)))(h2:∀σ,P n σ→N σ): Psk (Zcz g (ZaU j) b σ) R N:=by
 obtain⟨ts,e,rfl⟩:=hg
 have:=Znk (R:=R) (N:=N) (put:=ZaU j) (b:=b) (ts:=tab n a) P h0 (fun i t σ' h3 h4=>by
  have hi:i<n:=by have:=(Zz6.mp h3).1;rwa [Zaa]at this
  rw[ZaS hi]at h3
  cases h3
  exact⟨_,rfl,h1 i σ' hi h4⟩) (by rw[Zaa];exact h2)
 obtain⟨o,s,e2,q⟩:=this
 exact⟨o,s,by simp only[Zcz,e,Option.bind_some,e2],q⟩
theorem ZeG{g:PG}{j k n:Nat}{a c:Nat→T}{b:PS}(hg:Pl (g σ) fun ts=>ts=tab n fun i=>.tup [a i,c i])(P:Nat→TL→Prop)(h0:P 0 σ)(h1:∀i σ,i<n→P i σ→Psk (b (ZW (ZW σ j (a i)) k (c i))) R (P (i+1)))(h2:∀σ,P n σ→N σ): Psk (Zcz g (Ze3 j k) b σ) R N:=by
 obtain⟨ts,e,rfl⟩:=hg
 have:=Znk (R:=R) (N:=N) (put:=Ze3 j k) (b:=b) (ts:=tab n fun i=>.tup [a i,c i]) P h0 (fun i t σ' h3 h4=>by
  have hi:i<n:=by have:=(Zz6.mp h3).1;rwa [Zaa]at this
  rw[ZaS hi]at h3
  cases h3
  exact⟨_,rfl,h1 i σ' hi h4⟩) (by rw[Zaa];exact h2)
 obtain⟨o,s,e2,q⟩:=this
 exact⟨o,s,by simp only[Zcz,e,Option.bind_some,e2],q⟩
theorem ZjA{t:PB}{b:PS}(P:Nat→TL→Prop)(R:T→Prop)(N:TL→Prop)(h:∀m σ,P m σ→Pb (t σ) fun x=>(x=true→Psk (b σ) R fun σ1=>∃m',m'<m∧P m' σ1)∧(x=false→N σ)): ∀(n:Nat) {m:Nat} {σ:TL},P m σ→m<n→Psk (ZfY t b n σ) R N
 | 0,_,_,_,hm=>by omega
 | n+1,m,σ,hp,hm=>by
  obtain⟨x,e,h1,h2⟩:=h m σ hp
  cases x with
  | false=>exact⟨none,σ,by simp[ZfY,e],by simp,fun _=>h2 rfl⟩
  | true=>
   obtain⟨o,σ1,e1,k1,k2⟩:=h1 rfl
   cases o with
   | some v=>exact⟨some v,σ1,by simp[ZfY,e,e1],k1,by simp⟩
   | none=>
    obtain⟨m',hm',hp'⟩:=k2 rfl
    obtain⟨o2,σ2,e2,l1,l2⟩:=ZjA P R N h n hp' (by omega)
    exact⟨o2,σ2,by simp[ZfY,e,e1,e2],l1,l2⟩
theorem Zmi: Zcj σ []=σ:=by funext i;simp[Zcj]
def AppP(σ:TL)(x:Nat)(w:T)(N:TL→Prop): Prop:=∃ts,σ x=some (.lst ts)∧ts.length<10000∧N (ZW σ x (.lst (ts++[w])))
theorem ZxH{x:Nat}{w:T}{ts:List T}(e:σ x=some (.lst ts))(hl:ts.length<10000)(h:N (ZW σ x (.lst (ts++[w])))): AppP σ x w N:=⟨ts,e,hl,h⟩
theorem Zzb{x:Nat}{f:PE}(h:Pk (f σ) fun w=>AppP σ x w N): Psk (Zge x [] Zbt f σ) R N:=by
 obtain⟨w,e,ts,h1,h2,q⟩:=h
 refine⟨none,_,?_,by simp,fun _=>q⟩
 simp only[Zge,Zbt,Option.bind_some,e,h1,ZdD,ZkV]
 rw[if_pos (by rw[ZaZ];omega)]
 simp only[Option.map_some,Zmi]
def AppQ(σ:TL)(x y:Nat)(w:T)(N:TL→Prop): Prop:=∃ts,σ x=some (.lst ts)∧ts.length<10000∧N (Zcj (ZW σ x (.lst (ts++[w]))) [y])
theorem ZxI{x y:Nat}{w:T}{ts:List T}(e:σ x=some (.lst ts))(hl:ts.length<10000)(h:N (Zcj (ZW σ x (.lst (ts++[w]))) [y])): AppQ σ x y w N:=⟨ts,e,hl,h⟩
theorem ZxJ{x y:Nat}{f:PE}(h:Pk (f σ) fun w=>AppQ σ x y w N): Psk (Zge x [y] Zbt f σ) R N:=by
 obtain⟨w,e,ts,h1,h2,q⟩:=h
 refine⟨none,_,?_,by simp,fun _=>q⟩
 simp only[Zge,Zbt,Option.bind_some,e,h1,ZdD,ZkV]
 rw[if_pos (by rw[ZaZ];omega)]
 simp only[Option.map_some]
def PutP(σ:TL)(x:Nat)(w k:T)(N:TL→Prop): Prop:=∃ts m,k=.int m∧σ x=some (.lst ts)∧0≤m∧m<ts.length∧N (ZW σ x (.lst (ts.set m.toNat w)))
theorem Zwx{x n i:Nat}{w:T}{f:Nat→T}(e:σ x=some (.lst (TM.tab n f)))(hi:i<n)(h:N (ZW σ x (.lst (TM.tab n fun k=>if k=i then w else f k)))): PutP σ x w (.int i) N:=⟨_,_,rfl,e,by omega,by rw[Zaa];omega,by rw[Int.toNat_natCast,ZfM];exact h⟩
theorem Zmj{x n:Nat}{k:Int}{w:T}{f:Nat→T}(e:σ x=some (.lst (TM.tab n f)))(h0:0≤k)(hi:k<n)(h:N (ZW σ x (.lst (TM.tab n fun i=>if i=k.toNat then w else f i)))): PutP σ x w (.int k) N:=⟨_,_,rfl,e,h0,by rw[Zaa];omega,by rw[ZfM];exact h⟩
theorem Zzc{x:Nat}{f i:PE}(h:Pk (f σ) fun w=>Pk (i σ) fun k=>PutP σ x w k N): Psk (ZbZ x [] f Zbt i σ) R N:=by
 obtain⟨w,e,k,e2,ts,m,rfl,h1,h2,h3,q⟩:=h
 refine⟨none,_,?_,by simp,fun _=>q⟩
 simp only[ZbZ,Zbt,Option.bind_some,e,e2,h1,ZdD,ZkW]
 rw[if_pos ⟨h2,h3⟩]
 simp only[Option.map_some,Zmi]
def Put2(σ:TL)(x:Nat)(w a k:T)(N:TL→Prop): Prop:=∃ts us l m,a=.int l∧k=.int m∧σ x=some (.lst ts)∧0≤l∧ts[l.toNat]?=some (.lst us)∧0≤m∧m<us.length∧N (ZW σ x (.lst (ts.set l.toNat (.lst (us.set m.toNat w)))))
theorem ZqM{x n m i j:Nat}{w:T}{f:Nat→Nat→T}(e:σ x=some (.lst (TM.tab n fun a=>.lst (TM.tab m (f a)))))(hi:i<n)(hj:j<m)(h:N (ZW σ x (.lst (TM.tab n fun a=>.lst (TM.tab m fun b=>if a=i∧b=j then w else f a b))))): Put2 σ x w (.int i) (.int j) N:=by
 refine⟨_,TM.tab m (f i),i,j,rfl,rfl,e,by omega,?_,by omega,by rw[Zaa];omega,?_⟩
 ·rw[Int.toNat_natCast,ZaS hi]
 ·rw[Int.toNat_natCast,Int.toNat_natCast,ZfM,ZfM]
  have:(TM.tab n fun a=>if a=i then T.lst (TM.tab m fun b=>if b=j then w else f i b)else T.lst (TM.tab m (f a)))=TM.tab n fun a=>.lst (TM.tab m fun b=>if a=i∧b=j then w else f a b):=Za5 fun a _=>by
   by_cases q:a=i
   ·subst q;simp
   ·simp[q]
  rw[this];exact h
theorem ZxK{x:Nat}{f i j:PE}(h:Pk (f σ) fun w=>Pk (i σ) fun a=>Pk (j σ) fun k=>Put2 σ x w a k N): Psk (ZbZ x [] f (ZfX Zbt i) j σ) R N:=by
 obtain⟨w,e,a,e1,k,e2,ts,us,l,m,rfl,rfl,h1,h0,h4,h2,h3,q⟩:=h
 refine⟨none,_,?_,by simp,fun _=>q⟩
 have hl:=(Zz6.mp h4).1
 simp only[ZbZ,Zbt,ZfX,Option.bind_some,e,e1,e2,h1,List.nil_append,ZdD,ZkW,ZiG h0 (show l<ts.length by omega),h4]
 rw[if_pos ⟨h2,h3⟩]
 simp only[Option.map_some,Zmi]
theorem ZxL{i j:Nat}{t:T}{o:Option T}(h:j≠i)(e:σ j=o): ZW σ i t j=o:=by simp[ZW,h,e]
theorem Zwy{j:Nat}{J:List Nat}{o:Option T}(h:j∉J)(e:σ j=o): Zcj σ J j=o:=by simp[Zcj,h,e]
end
end TM
end
section
namespace TM
open PySem PM
inductive Pln: Nat→T→Prop where
 | none {n:Nat}:Pln n .none
 | int {n:Nat} {i:Int}:Pln n (.int i)
 | str {n:Nat} {x:Str}:PyData.strOk x=true→Pln n (.str x)
 | tup {n:Nat} {ts:List T}:(∀t∈ts,Pln n t)→Pln (n+1) (.tup ts)
 | lst {n:Nat} {ts:List T}:(∀t∈ts,Pln n t)→Pln (n+1) (.lst ts)
mutual
noncomputable def dd: T→PyData
 | .none=>.none
 | .bool b=>.bool b
 | .int i=>.int i
 | .str x=>.str x
 | .tup ts=>.tuple (dds ts)
 | .lst ts=>.list (dds ts)
noncomputable def dds: List T→List PyData
 | []=>[]
 | t::ts=>dd t::dds ts
end
theorem ZmC{f:T→Option PyData}: ∀{ts:List T},(∀t∈ts,f t=some (dd t))→Ze2 f ts=some (dds ts)
 | [],_=>rfl
 | t::ts,h=>by simp only[Ze2,h t Zz5,ZmC fun t m=>h t (Zz2 _ m),Option.bind_some,dds]
theorem ZmY: ∀{ts:List T},(∀t∈ts,PyData.canLay0 (dd t)=true)→PyData.canLayAll0 (dds ts)=true
 | [],_=>rfl
 | t::ts,h=>by simp only[dds,PyData.canLayAll0,h t Zz5,ZmY fun t m=>h t (Zz2 _ m),Bool.and_self]
theorem ZmZ{n:Nat}: ∀{ts:List T},(∀t∈ts,PyData.depth (dd t)≤n)→PyData.depthAll (dds ts)≤n
 | [],_=>by simp[dds,PyData.depthAll]
 | t::ts,h=>by
  have h1:=h t Zz5
  have h2:=ZmZ fun t m=>h t (Zz2 _ m)
  simp only[dds,PyData.depthAll]
  omega
theorem Pln.dat{n:Nat}{t:T}(h:Pln n t): Zcy n t=some (dd t)∧PyData.canLay0 (dd t)=true∧PyData.depth (dd t)≤n:=by
 induction h with
 | @none n=>cases n <;> exact⟨rfl,rfl,by simp[dd,PyData.depth]⟩
 | @int n i=>cases n <;> exact⟨rfl,rfl,by simp[dd,PyData.depth]⟩
 | @str n x h=>cases n <;> exact⟨rfl,by simpa [dd,PyData.canLay0]using h,by simp[dd,PyData.depth]⟩
 | @tup n ts _ ih=>
  refine⟨?_,?_,?_⟩
  ·simp only[Zcy,ZmC fun t m=>(ih t m).1,Option.map_some,dd]
  ·simp only[dd,PyData.canLay0];exact ZmY fun t m=>(ih t m).2.1
  ·simp only[dd,PyData.depth]
   have:=ZmZ fun t m=>(ih t m).2.2
   omega
 | @lst n ts _ ih=>
  refine⟨?_,?_,?_⟩
  ·simp only[Zcy,ZmC fun t m=>(ih t m).1,Option.map_some,dd]
  ·simp only[dd,PyData.canLay0];exact ZmY fun t m=>(ih t m).2.1
  ·simp only[dd,PyData.depth]
   have:=ZmZ fun t m=>(ih t m).2.2
   omega
theorem Zm0: ∀{ts us:List T},(∀t∈ts,∀u∈us,(PyData.eqv (dd t) (dd u)=true↔t=u))→(PyData.eqvAll (dds ts) (dds us)=true↔ts=us)
 | [],[],_=>by simp[dds,PyData.eqvAll]
 | [],_::_,_=>by simp[dds,PyData.eqvAll]
 | _::_,[],_=>by simp[dds,PyData.eqvAll]
 | t::ts,u::us,h=>by
  simp only[dds,PyData.eqvAll,Bool.and_eq_true,h t Zz5 u Zz5,Zm0 fun t m u n=>h t (Zz2 _ m) u (Zz2 _ n),List.cons.injEq]
theorem Pln.eqv{n:Nat}{t:T}(h:Pln n t): ∀{m:Nat} {u:T},Pln m u→(PyData.eqv (dd t) (dd u)=true↔t=u):=by
 induction h with
 | none=>intro m u h;cases h <;> simp[dd,PyData.eqv]
 | int=>intro m u h;cases h <;> simp[dd,PyData.eqv]
 | str _=>intro m u h;cases h <;> simp[dd,PyData.eqv]
 | tup hs ih=>
  intro m u h
  cases h with
  | tup hu=>simp only[dd,PyData.eqv,T.tup.injEq];exact Zm0 fun t a u b=>ih t a (hu u b)
  | none=>simp[dd,PyData.eqv]
  | int=>simp[dd,PyData.eqv]
  | str=>simp[dd,PyData.eqv]
  | lst=>simp[dd,PyData.eqv]
 | lst hs ih=>
  intro m u h
  cases h with
  | lst hu=>simp only[dd,PyData.eqv,T.lst.injEq];exact Zm0 fun t a u b=>ih t a (hu u b)
  | none=>simp[dd,PyData.eqv]
  | int=>simp[dd,PyData.eqv]
  | str=>simp[dd,PyData.eqv]
  | tup=>simp[dd,PyData.eqv]
theorem Pln.mono{n:Nat}{t:T}(h:Pln n t): ∀{m:Nat},n≤m→Pln m t:=by
 induction h with
 | none=>intro m _;exact .none
 | int=>intro m _;exact .int
 | str h=>intro m _;exact .str h
 | tup hs ih=>
  intro m hm
  cases m with
  | zero=>omega
  | succ m=>exact .tup fun t a=>ih t a (by omega)
 | lst hs ih=>
  intro m hm
  cases m with
  | zero=>omega
  | succ m=>exact .lst fun t a=>ih t a (by omega)
theorem Zro{n m:Nat}{a b:T}(ha:Pln n a)(hb:Pln m b)(hn:n≤8:=by decide)(hm:m≤8:=by decide): Zeg a b=some (dec (a=b)):=by
 have ha:=ha.mono hn
 have hb:=hb.mono hm
 obtain⟨a1,a2,a3⟩:=ha.dat
 obtain⟨b1,b2,b3⟩:=hb.dat
 unfold Zeg Zbu
 rw[a1,b1]
 simp only[Option.bind_some]
 rw[if_pos ⟨by simp only[SeqAt.shaped,a2,Bool.true_and,decide_eq_true_eq];omega,by simp only[SeqAt.shaped,b2,Bool.true_and,decide_eq_true_eq];omega⟩,Zkh (ha.eqv hb)]
section
variable {Q:T→Prop}
theorem ZcL{n m:Nat}{a b:T}(ha:Pln n a)(hb:Pln m b)(h:Q (.bool (dec (a=b))))(hn:n≤8:=by decide)(hm:m≤8:=by decide): Pk (qEq a b) Q:=⟨_,by simp only[qEq,Zro ha hb hn hm,Option.map_some],h⟩
theorem Zr9{n m:Nat}{a b:T}(ha:Pln n a)(hb:Pln m b)(h:Q (.bool (!dec (a=b))))(hn:n≤8:=by decide)(hm:m≤8:=by decide): Pk (qNe a b) Q:=⟨_,by simp only[qNe,Zro ha hb hn hm,Option.map_some],h⟩
end
theorem Zco{α:Type}{n:Nat}{f:Nat→α}{x:α}(h:x∈tab n f): ∃i,i<n∧x=f i:=by
 obtain⟨i,hi,e⟩:=Zz11.mp h
 exact⟨i,List.mem_range.mp hi,e.symm⟩
theorem Zqc{n:Nat}{f:Nat→T}(h:∀i,i<n→(f i).flat=true): T.flats (tab n f)=true:=by
 have key:∀l:List T,(∀t∈l,t.flat=true)→T.flats l=true:=fun l=>by
  induction l with
  | nil=>intro _;rfl
  | cons t l ih=>intro h;simp only[T.flats,h t Zz5,ih fun t m=>h t (Zz2 _ m),Bool.and_self]
 exact key _ fun t m=>by obtain⟨i,hi,rfl⟩:=Zco m;exact h i hi
theorem Zhm{n:Nat}{f:Nat→T}(h:∀i,i<n→(f i).flat=true): T.flatIn (.lst (tab n f))=true:=Zqc h
noncomputable def oT: Option Int→T
 | none=>.none
 | some x=>.int x
noncomputable def Zy(q:Int×Int): T:=.tup [.int q.1,.int q.2]
noncomputable def ZcA(n:Nat)(x:Nat→Int): T:=.lst (tab n fun i=>.int (x i))
noncomputable def Z9(n:Nat)(b:Nat→Option Int): T:=.lst (tab n fun j=>oT (b j))
noncomputable def ZN(n:Nat)(G:Nat→Nat→Option Int): T:=.lst (tab n fun i=>Z9 n (G i))
noncomputable def ZaI(n:Nat)(R:Nat→Int×Int): T:=.lst (tab n fun i=>Zy (R i))
noncomputable def Zf(n:Nat)(G:Nat→Nat→Option Int)(R:Nat→Int×Int): T:=.tup [ZN (n+1) G,ZaI n R]
theorem Zbs: oT none=.none:=rfl
theorem ZaF{c:Int}: oT (some c)=.int c:=rfl
theorem ZeH{b:Option Int}: (oT b).flat=true:=by cases b <;> rfl
theorem ZeA{q:Int×Int}: (Zy q).flat=true:=rfl
theorem Zzd{a b:Option Int}: oT a=oT b↔a=b:=by cases a <;> cases b <;> simp[oT]
theorem Zrp{a b:Int×Int}: Zy a=Zy b↔a=b:=by cases a;cases b;simp[Zy]
theorem ZeQ{n k:Nat}{f:Nat→T}(h:∀i,i<k→Pln n (f i)): Pln (n+1) (.lst (tab k f)):=.lst fun t m=>by obtain⟨i,hi,rfl⟩:=Zco m;exact h i hi
theorem Zsz{n:Nat}{b:Option Int}: Pln n (oT b):=by cases b;exact .none;exact .int
theorem ZfZ{n:Nat}{q:Int×Int}: Pln (n+1) (Zy q):=.tup fun t m=>by
 simp at m;rcases m with rfl | rfl <;> exact .int
theorem Zrq{n:Nat}{b:Nat→Option Int}: Pln 1 (Z9 n b):=ZeQ fun _ _=>Zsz
theorem Zwz{n:Nat}{G:Nat→Nat→Option Int}: Pln 2 (ZN n G):=ZeQ fun _ _=>Zrq
theorem ZwA{n:Nat}{R:Nat→Int×Int}: Pln 2 (ZaI n R):=ZeQ fun _ _=>ZfZ
theorem ZqN{n:Nat}{G:Nat→Nat→Option Int}{R:Nat→Int×Int}: Pln 3 (Zf n G R):=.tup fun t m=>by
 simp at m;rcases m with rfl | rfl
 ·exact Zwz
 ·exact ZwA
theorem ZbG{σ:TL}{i:Nat}{t:T}: ZW σ i t i=some t:=by simp[ZW]
end TM
end
section
namespace PM
open PySem PySem.W PySem.Calls PyProof.Rows PyProof PyProof.Rows.LCg PyProof.Rows.LCp
noncomputable def sNo: Sm:=fun _ _=>none
noncomputable def inD(d:PyData): PyData→Option Bool
 | .list xs=>if PyData.canLayAll0 xs=true∧d.canLay0=true∧d.depth≤64 then some (xs.any fun y=>PyData.eqv y d)else none
 | .tuple xs=>if PyData.canLayAll0 xs=true∧d.canLay0=true∧d.depth≤64 then some (xs.any fun y=>PyData.eqv y d)else none
 | _=>none
noncomputable def ZnZ(a b:V)(H:Hp): Option Bool:=(toD H Zbu a).bind fun d=>(toD H Zbu b).bind fun e=>inD d e
noncomputable def oIn(a b:V)(H:Hp): Option (V×Hp):=(ZnZ a b H).map fun c=>(.bool c,H)
noncomputable def Zit(a:Nat): Nx:=fun i H=>H[a]?.bind fun vs=>match vs[i]? with
 | some x=>some (some (.tup [.int i,x]))
 | none=>if i=vs.length then some none else none
noncomputable def ZnI(f:Ex): Src:=fun ρ H=>(f ρ H).bind fun p=>match p.1 with
 | .ref a=>p.2[a]?.map fun vs=>(Zit a,vs.length+1,p.2)
 | _=>none
section
variable {prog:Program} {w:World} {Γ:Cx}
theorem S1.no{st:Stmt}: S1 prog w Γ st sNo:=fun W ρ H fr s Q E r rp hf post=>by cases hf
theorem ZiH: Op2 prog w (compareOp .In) oIn:=by
 intro Γ W ρ H fr s Q E a b x y v H' r hx hy ho post
 obtain⟨c,e1,e2⟩:=Zz1.mp ho
 cases e2
 obtain⟨d,h1,e1⟩:=Zz0.mp e1
 obtain⟨e,h2,e1⟩:=Zz0.mp e1
 obtain⟨as,R1⟩:=Zfu r Zbu a x d hx h1
 obtain⟨bs,R2⟩:=Zfu r Zbu b y e hy h2
 have hu:=Γ.hu
 unfold inD at e1
 split at e1
 ·split at e1
  ·rename_i hs
   cases e1
   exact SeqAt.in_list_reads R2 R1 hs.1 hs.2.1 (by omega) (post W s.heap s.toks _ (.refl W) r (.bool _))
  ·cases e1
 ·split at e1
  ·rename_i hs
   cases e1
   exact SeqAt.in_tuple_reads R2 R1 hs.1 hs.2.1 (by omega) (post W s.heap s.toks _ (.refl W) r (.bool _))
  ·cases e1
 ·cases e1
def ES(e it l:Addr)(i:Nat)(h:Heap): Prop:=(∃old,IsEnum h e it i old)∧h.IsListIter it l i
theorem ES.at{e it l:Addr}{i:Nat}{h h':Heap}(x:ES e it l i h)(k:∀a∈[e,it],∀o,h.get? a=some o→h'.get? a=some o): ES e it l i h':=by
 obtain⟨⟨old,h1⟩,h2⟩:=x
 exact⟨⟨old,k e (by simp) _ h1⟩,h2.at fun o x=>k it (by simp) o x⟩
theorem ES.have{e it l:Addr}{i:Nat}{h:Heap}(x:ES e it l i h): ∀a∈[e,it],∃o,h.get? a=some o:=by
 obtain⟨⟨old,h1⟩,o,h2,_⟩:=x
 intro a ha
 simp at ha
 rcases ha with rfl | rfl
 ·exact⟨_,h1⟩
 ·exact⟨_,h2⟩
def EIt(e it l:Addr)(i:Nat)(fs:List (Addr×Obj)): Prop:=fs.map (·.1)=[e,it]∧∀h:Heap,(∀q∈fs,h.get? q.1=some q.2)→ES e it l i h
theorem Zrr{e it l:Addr}{i:Nat}{h:Heap}(x:ES e it l i h): ∃fs,EIt e it l i fs∧∀q∈fs,h.get? q.1=some q.2:=by
 obtain⟨fs,h1,h2⟩:=ZnU h [e,it] x.have
 refine⟨fs,⟨h1,fun h' k=>x.at fun a ha o ho=>?_⟩,h2⟩
 rw[←h1]at ha
 obtain⟨q,hq,eq⟩:=Zz11.mp ha
 have:=h2 q hq
 rw[eq,ho]at this
 cases this
 exact eq▸k q hq
theorem ZxM{W0:Wd}{e it l:Addr}{a:Nat}(ea:W0.pi[a]?=some l)(hei:e≠it)(hle:l≠e)(hli:l≠it):
  Itr2 prog w Γ W0 (.ref e) [e,it] (EIt e it l) (Zit a):=by
 refine⟨fun i fs h=>h.1,?_,?_,?_,?_⟩
 ·intro i H v hh
  obtain⟨vs,e1,hh⟩:=Zz0.mp hh
  split at hh
  ·cases hh
   exact⟨_,_,rfl⟩
  ·split at hh <;> cases hh
 ·intro i W ρ H fr fs s Q E va vb le r ap hit hn post
  obtain⟨vs,e1,hh⟩:=Zz0.mp hn
  have hv:va=.int i∧vs[i]?=some vb:=by
   split at hh
   ·rename_i x h1
    cases hh
    exact⟨rfl,h1⟩
   ·split at hh <;> cases hh
  obtain⟨_,xs,k1,g1,v1⟩:=r.at e1 (le.at ea)
  obtain⟨x,hx,rx⟩:=v1.at hv.2
  have st:ES e it l i s.heap:=hit.2 _ fun q hq=>r.frAt (Zz4 _ hq)
  have Wk:=WalksT.enumerate (prog:=prog) (w:=w) (A:=Γ.A) Γ.hh e it l hei hle hli xs.toArray
  have isl1:s.heap.IsList l xs.toArray:=⟨_,g1,rfl,k1,rfl⟩
  have hi:i<xs.toArray.size:=by
   have h1:=(Zz6.mp hx).1
   simpa using h1
  refine Wk.item i s Q E hi ⟨st.1,st.2,isl1⟩ fun T vals h1 t1 hp hT hTup hmid keep1=>post T h1 t1 ?_
  intro elts k pos s1 Q1 E1 es1 q1
  subst es1
  have hTw:=Wk.apart i T _ hmid
  refine Wk.go elts k pos i T _ Q1 E1 hmid fun h2 st2 keep2=>?_
  obtain⟨tk,x',hx',ev⟩:=hp
  have ex:x'=x:=by
   have:xs[i]?=some x':=by simpa using hx'
   rw[hx]at this
   exact(Option.some.inj this).symm
  subst ex ev
  obtain⟨fs',hit',at'⟩:=Zrr (h:=h2) (⟨st2.1,st2.2.1⟩:ES e it l (i+1) h2)
  obtain⟨oT,gT,cT,nT,dT⟩:=hTup
  refine q1 fs' h2 (.int i tk) x' hit' ?_ ⟨oT,keep2 T oT hTw gT,cT,nT,dT⟩ (by rw[hv.1];exact .int _ _) rx
  refine r.swap (fs':=fs') (fun q hq t ht=>?_) (fun c o hc e=>?_) fun q hq=>⟨at' q hq,?_⟩
  ·exact ap _ (hit.1▸List.mem_map_of_mem hq) t ht
  ·rw[hit.1]at hc
   exact keep2 c o hc (keep1 c o hc e)
  ·rw[hit.1,←hit'.1]
   exact List.mem_map_of_mem hq
 ·intro i W ρ H fr fs s Q E le r ap hit hn post
  obtain⟨vs,e1,hh⟩:=Zz0.mp hn
  obtain⟨_,xs,k1,g1,v1⟩:=r.at e1 (le.at ea)
  have hi:i=vs.length:=by
   split at hh
   ·cases hh
   ·split at hh
    ·assumption
    ·cases hh
  have st:ES e it l i s.heap:=hit.2 _ fun q hq=>r.frAt (Zz4 _ hq)
  have Wk:=WalksT.enumerate (prog:=prog) (w:=w) (A:=Γ.A) Γ.hh e it l hei hle hli xs.toArray
  have hm:xs.toArray.size=i:=by simp[v1.length,hi]
  refine Wk.done s Q E (by rw[hm];exact⟨st.1,st.2,⟨_,g1,rfl,k1,rfl⟩⟩) fun h' tk keep=>post h' tk ?_
  have:=r.swap (fs':=[]) (fun q hq t ht=>ap _ (hit.1▸List.mem_map_of_mem hq) t ht) (fun c o hc e=>keep c o (by rw[hit.1]at hc;exact hc) e) (fun q hq=>nomatch hq)
  exact this
 ·intro i W ρ H fr fs s Q E o le r hit hn q
  obtain⟨vs,e1,hh⟩:=Zz0.mp hn
  obtain⟨_,xs,k1,g1,v1⟩:=r.at e1 (le.at ea)
  have st:ES e it l i s.heap:=hit.2 _ fun q hq=>r.frAt (Zz4 _ hq)
  have Wk:=WalksT.enumerate (prog:=prog) (w:=w) (A:=Γ.A) Γ.hh e it l hei hle hli xs.toArray
  exact Wk.self i s Q E ⟨st.1,st.2,⟨_,g1,rfl,k1,rfl⟩⟩ q
theorem ZwB{x:Str}{np pos:Pos}{e1:Expr}{f:Ex}(hn:Nm prog w Γ x (.type "enumerate"))(h1:J prog w Γ e1 f)
  (he:starEach [e1] Γ.env=(false,eval e1 Γ.env)::starEach [] Γ.env:=by rfl) (hp:∀pos,(backTo pos (starEach [] Γ.env)).any (·.1)=false:=by intro _;rfl):JI2 prog w Γ (.Call (.Name x np) [e1] [] pos) (ZnI f):=by
 intro W ρ H fr s Q E nx n H' r hf post
 obtain⟨p,a1,hf⟩:=Zz0.mp hf
 refine wpAny_Call_ofName (hn.use r ?_)
 refine PySem.Pv.callWith_type1 (wpAny_items_cons (h1 W ρ H fr s _ E _ _ r a1 fun W1 k1 t1 y1 l1 r1 v1=>wpAny_items_nil ?_) he) he (hp pos)
 obtain⟨u1,H1⟩:=p
 simp only at hf v1 r1
 cases u1 <;> first | (cases hf;done) | skip
 rename_i b1
 obtain⟨vs,c1,c3⟩:=Zz1.mp hf
 cases c3
 cases v1 with
 | @ref _ m1 ea=>
 obtain⟨_,xs,n1,g1,w1⟩:=r1.at c1 ea
 have isl1:k1.IsList m1 xs.toArray:=⟨_,g1,rfl,n1,rfl⟩
 refine call_enumerate_list (s:={ s with heap:=k1,toks:=t1 }) isl1 fun h₁ hE hI hsz up=>?_
 have hlt:m1<k1.objs.size:=Heap.lt_size g1
 have Wk:=WalksT.enumerate (prog:=prog) (w:=w) (A:=Γ.A) Γ.hh (k1.objs.size+1) k1.objs.size m1 (Nat.succ_ne_self _) (Nat.ne_of_lt (Nat.lt_succ_of_lt hlt)) (Nat.ne_of_lt hlt) xs.toArray
 have zs:ES (k1.objs.size+1) k1.objs.size m1 0 h₁:=⟨⟨_,hE⟩,hI⟩
 refine Wk.self 0 _ _ _ ⟨⟨_,hE⟩,hI,isl1.at fun o e=>up _ o e⟩ ?_
 obtain⟨fs,hit,at'⟩:=Zrr zs
 obtain⟨r3,ap3⟩:=r1.more (fs:=fs) (h':=h₁) (fun b o e=>up b o e) (fun q hq=>⟨at' q hq,by
  have:q.1∈fs.map (·.1):=List.mem_map_of_mem hq
  rw[hit.1]at this
  simp at this
  rcases this with e | e <;> rw[e] <;> omega⟩)
 refine post W1 h₁ t1 _ _ _ fs l1 hit r3 (fun b hb t ht=>?_) (ZxM ea (Nat.succ_ne_self _) (Nat.ne_of_lt (Nat.lt_succ_of_lt hlt)) (Nat.ne_of_lt hlt)) ?_
 ·rw[←hit.1]at hb
  obtain⟨q,hq,e⟩:=Zz11.mp hb
  exact e▸ap3 q hq t ht
 ·simp only[Zit,c1,Option.bind_some]
  cases q:vs[0]? with
  | some x=>exact⟨_,rfl⟩
  | none=>
   have:vs.length=0:=by simpa using q
   simp[this]
theorem Zsa{e1 e2 e3:Expr}{es:List Expr}{pos:Pos}{f g:Ex}(h1:J prog w Γ e1 f)(h2:J prog w Γ (.BoolOp .And (e2::e3::es) pos) g) (he:eval (.BoolOp .And (e1::e2::e3::es) pos) Γ.env=(do
  let v ←eval e1 Γ.env
  standAt pos
  let t ←holding [v] (truthy v)
  match BoolOp.And,t with
  | .And,false | .Or,true=>pure v
  | _,_=>eval (.BoolOp .And (e2::e3::es) pos) Γ.env):=by rfl):J prog w Γ (.BoolOp .And (e1::e2::e3::es) pos) (ZiL f g):=by
 intro W ρ H fr s Q E v H' r hf post
 obtain⟨p,a1,hf⟩:=Zz0.mp hf
 obtain⟨b,a2,a3⟩:=Zz0.mp hf
 rw[he]
 refine wpAny_bind (wpAny_mono (h1 W ρ H fr s (fun x s₁=>wpAny (model prog w) Γ.A (truthy x) (fun t s₂=>if t then wpAny (model prog w) Γ.A (eval (.BoolOp .And (e2::e3::es) pos) Γ.env) Q E s₂ else Q x s₂) E s₁) E _ _ r a1 fun W1 k1 t1 x l1 r1 x1=>?_) (fun v s₁ h₁=>wpAny_bind (wpAny_standAt (wpAny_bind (wpAny_holding (wpAny_mono h₁ (fun t s₂ h₂=>?_) fun _ _ x=>x))))) fun _ _ x=>x)
 ·refine truth Γ W1 ρ _ fr _ _ E _ x b r1 x1 a2 fun W2 k2 t2 l2 r2=>?_
  cases b with
  | true=>exact h2 W2 ρ _ fr _ Q E _ H' r2 a3 fun W3 k3 t3 z l3 r3 z3=>post W3 k3 t3 z ((l1.trans l2).trans l3) r3 z3
  | false=>
   cases a3
   exact post W2 k2 t2 x (l1.trans l2) r2 (x1.mono l2)
 ·cases t with
  | false=>exact wpAny_pure h₂
  | true=>exact h₂
end
end PM
end
section
namespace TM
open PySem PM
noncomputable def Zfd(a b:T): Option Bool:=(Zcy Zbu a).bind fun d=>(Zcy Zbu b).bind fun e=>inD d e
noncomputable def qIn(a b:T): Option T:=(Zfd a b).map .bool
theorem Zze{H:Hp}{v1 v2:V}{t1 t2:T}{F1 F2:List Nat}(r1:RF H v1 t1 F1)(r2:RF H v2 t2 F2): ZnZ v1 v2 H=Zfd t1 t2:=by
 simp only[ZnZ,Zfd,Zkf Zbu _ _ _ r1,Zkf Zbu _ _ _ r2]
theorem Zgf: OA2 oIn qIn:=fun H v1 v2 t1 t2 t F1 F2 r1 r2 h=>by
 obtain⟨c,h1,h⟩:=Zz1.mp h
 subst h
 exact⟨_,by simp only[oIn,Zze r1 r2,h1,Option.map_some],.bool _⟩
theorem Znl{d:T}: ∀{ts:List T},(∀t∈ts,(PyData.eqv (dd t) (dd d)=true↔t=d))→((dds ts).any fun y=>PyData.eqv y (dd d))=dec (d∈ts)
 | [],_=>by simp[dds,Zas]
 | t::ts,h=>by
  have ih:=Znl (d:=d) (ts:=ts) fun t m=>h t (Zz2 _ m)
  simp only[dds,List.any_cons,ih]
  symm
  apply Zkh
  rw[Bool.or_eq_true,h t Zz5,dec_iff]
  simp[eq_comm]
theorem Zzf{n m:Nat}{a:T}{ts:List T}(ha:Pln n a)(hb:Pln m (.lst ts))(hn:n≤8:=by decide)(hm:m≤8:=by decide): Zfd a (.lst ts)=some (dec (a∈ts)):=by
 have ha:=ha.mono hn
 have hb:=hb.mono hm
 obtain⟨a1,a2,a3⟩:=ha.dat
 obtain⟨b1,b2,b3⟩:=hb.dat
 unfold Zfd Zbu
 rw[a1,b1]
 simp only[Option.bind_some,dd,inD]
 simp only[dd,PyData.canLay0]at b2
 rw[if_pos ⟨b2,a2,by omega⟩,Znl]
 intro t m
 cases hb with
 | lst hs=>exact(hs t m).eqv ha
section
variable {Q:T→Prop}
theorem ZkD{n m:Nat}{a:T}{ts:List T}(ha:Pln n a)(hb:Pln m (.lst ts))(h:Q (.bool (dec (a∈ts))))(hn:n≤8:=by decide)(hm:m≤8:=by decide): Pk (qIn a (.lst ts)) Q:=⟨_,by simp only[qIn,Zzf ha hb hn hm,Option.map_some],h⟩
end
noncomputable def Ze4(ts:List T): List T:=List.zipWith (fun i t=>.tup [.int (i:Nat),t]) (List.range ts.length) ts
noncomputable def ZnJ(p:PE): PG:=fun σ=>(p σ).bind fun t=>match t with
 | .lst ts=>some (Ze4 ts)
 | _=>none
theorem ZwC{ts:List T}: (Ze4 ts).length=ts.length:=by simp[Ze4]
theorem ZqO{H:Hp}: ∀{vs:List V} {ts:List T} {F:List Nat} (k:Nat),RFs H vs ts F→RFs H (List.zipWith (fun i v=>V.tup [.int (i:Nat),v]) (List.range' k ts.length) vs) (List.zipWith (fun i t=>T.tup [.int (i:Nat),t]) (List.range' k ts.length) ts) F
 | _,_,_,_,.nil=>.nil
 | _,_,_,k,.cons a b=>by
  rw[List.length_cons,List.range'_succ]
  have h1:RF H (V.tup [.int (k:Nat),_]) (T.tup [.int (k:Nat),_]) _:=.tup (.cons (.int _) (.one a))
  simpa using RFs.cons h1 (ZqO (k+1) b)
theorem ZxN{O N:List Nat}{u:Bool}{e:Ex}{p:PE}(x:E O N u e p): Gs O N (ZnI e) (ZnJ p):=fun c ρ σ H Φ ts s h=>by
 obtain⟨t1,h1,h⟩:=Zz0.mp h
 obtain⟨v,X,F,a1,a2,a3,a4⟩:=x c ρ σ H Φ t1 s h1
 have hlt:=a2.lt
 cases a2 with
 | none=>cases h
 | bool=>cases h
 | int=>cases h
 | str=>cases h
 | tup=>cases h
 | @ref b vs us F' e1 hs=>
  cases h
  have hl:=hs.length
  refine⟨Zit b,X,List.zipWith (fun i v=>V.tup [.int (i:Nat),v]) (List.range us.length) vs,F',b::F',by simp only[ZnI,a1,Option.bind_some,e1,Option.map_some,ZwC,hl],?_,fun _ m=>List.mem_cons_of_mem _ m,fun a m=>⟨hlt a m,a3 a m⟩,fun K hK i hi=>?_⟩
  ·have:=ZqO 0 hs
   unfold Ze4
   rw[List.range_eq_range']
   exact this
  ·simp only[Zit,hK b Zz5,e1,Option.bind_some,List.getElem?_zipWith]
   simp only[List.length_zipWith,List.length_range]at hi
   by_cases q:i<vs.length
   ·rw[List.getElem?_eq_getElem q,List.getElem?_range (by omega)]
   ·rw[List.getElem?_eq_none (by omega),List.getElem?_eq_none (by simp;omega)]
    simp
    omega
theorem ZwD{n:Nat}{f:Nat→T}: Ze4 (tab n f)=tab n fun i=>.tup [.int (i:Nat),f i]:=by
 unfold Ze4
 rw[Zaa]
 have:List.range n=tab n fun i=>i:=by simp[tab]
 rw[this,Zrm,Nat.min_self]
section
variable {σ:TL} {L:List T→Prop}
def EnP(x:T)(L:List T→Prop): Prop:=∃ts,x=.lst ts∧L (Ze4 ts)
theorem ZxO{f:PE}(h:Pk (f σ) fun t=>EnP t L): Pl (ZnJ f σ) L:=by
 obtain⟨t,a,ts,rfl,q⟩:=h;exact⟨_,by simp only[ZnJ,a,Option.bind_some],q⟩
theorem ZxP{n:Nat}{f:Nat→T}(h:L (TM.tab n fun i=>.tup [.int (i:Nat),f i])): EnP (.lst (TM.tab n f)) L:=⟨_,rfl,by rw[ZwD];exact h⟩
end
noncomputable def ZnK(g:PG)(put:T→TL→Option TL)(b:PS): PS:=fun σ=>(g σ).bind fun ts=>if ts=[]then none else Zfc put b σ ts
end TM
end
section
namespace PM
open PySem PySem.W PySem.Calls PyProof.Rows PyProof
noncomputable def Zki(o1 o2:V→V→Hp→Option (V×Hp))(f g h:Ex): Ts:=fun ρ H=>(f ρ H).bind fun p=>(g ρ p.2).bind fun q=>(o1 p.1 q.1 q.2).bind fun u=>(Zcq u.1 u.2).bind fun b=>if b then(h ρ u.2).bind fun x=>(o2 q.1 x.1 x.2).bind fun y=>(Zcq y.1 y.2).map fun c=>(c,y.2)else some (false,u.2)
section
variable {prog:Program} {w:World} {Γ:Cx}
theorem ZwE{e1 e2 e3:Expr}{op1 op2:CmpOp}{pos:Pos}{f g h:Ex}{o1 o2:V→V→Hp→Option (V×Hp)}(h1:J prog w Γ e1 f)(h2:J prog w Γ e2 g)(h3:J prog w Γ e3 h)(k1:Op2 prog w (compareOp op1) o1)(k2:Op2 prog w (compareOp op2) o2)(hm:lastMarks [op1,op2] [e2,e3]=false:=by with_unfolding_all rfl): JT prog w Γ (.Compare e1 [op1,op2] [e2,e3] pos) (Zki o1 o2 f g h):=by
 intro W ρ H fr s Q E b H' r hf post
 obtain⟨p,a1,hf⟩:=Zz0.mp hf
 obtain⟨q,a2,hf⟩:=Zz0.mp hf
 obtain⟨u,a3,hf⟩:=Zz0.mp hf
 obtain⟨c,a4,hf⟩:=Zz0.mp hf
 refine isTrue_chain (h1 W ρ H fr s _ E _ _ r a1 fun W1 n1 t1 x l1 r1 x1=>?_) hm
 refine test_link (h2 W1 ρ _ fr _ _ E _ _ r1 a2 fun W2 n2 t2 y l2 r2 y2=>?_)
 refine k1 Γ W2 ρ _ fr _ _ E _ _ x y _ _ r2 (x1.mono l2) y2 a3 fun W3 n3 t3 z l3 r3 z3=>?_
 refine truth Γ W3 ρ _ fr _ _ E _ z c r3 z3 a4 fun W4 n4 t4 l4 r4=>?_
 cases c with
 | false=>
  cases hf
  exact post W4 n4 t4 (((l1.trans l2).trans l3).trans l4) r4
 | true=>
  simp only[if_true]at hf
  obtain⟨v,a5,hf⟩:=Zz0.mp hf
  obtain⟨v2,a6,hf⟩:=Zz0.mp hf
  obtain⟨d,a7,a8⟩:=Zz1.mp hf
  cases a8
  refine test_last (h3 W4 ρ _ fr _ _ E _ _ r4 a5 fun W5 n5 t5 y5 l5 r5 x5=>?_)
  refine k2 Γ W5 ρ _ fr _ _ E _ _ y y5 _ _ r5 (((y2.mono l3).mono l4).mono l5) x5 a6 fun W6 n6 t6 z6 l6 r6 x6=>?_
  exact truth Γ W6 ρ _ fr _ _ E _ z6 b r6 x6 a7 fun W7 n7 t7 l7 r7=>post W7 n7 t7 ((((((l1.trans l2).trans l3).trans l4).trans l5).trans l6).trans l7) r7
end
end PM
end
section
namespace TM
open PySem PM
section
variable {O N M K:List Nat} {u u' u'':Bool}
noncomputable def Zkj(q1 q2:T→T→Option T)(p1 p2 p3:PE): PB:=fun σ=>(p1 σ).bind fun x=>(p2 σ).bind fun y=>(q1 x y).bind fun z=>(Zbx z).bind fun b=>if b then(p3 σ).bind fun v=>(q2 y v).bind Zbx else some false
theorem ZwF{e1 e2 e3:Ex}{p1 p2 p3:PE}{q1 q2:T→T→Option T}{o1 o2:V→V→Hp→Option (V×Hp)}(k1:OA2 o1 q1)(k2:OA2 o2 q2)(x:E O N u e1 p1)(y:E O M u' e2 p2)(z:E O K u'' e3 p3): Bt O (Zki o1 o2 e1 e2 e3) (Zkj q1 q2 p1 p2 p3):=fun c ρ σ H Φ b s h=>by
 obtain⟨t1,h1,h⟩:=Zz0.mp h
 obtain⟨t2,h2,h⟩:=Zz0.mp h
 obtain⟨t3,h3,h⟩:=Zz0.mp h
 obtain⟨b0,h4,h⟩:=Zz0.mp h
 obtain⟨v1,X,F,a1,a2,_,_⟩:=x c ρ σ H Φ t1 s h1
 obtain⟨v2,Y,G,b1,b2,_,_⟩:=y c ρ σ (H++X) Φ t2 (s.ext X) h2
 obtain⟨v3,c1,c2⟩:=k1 _ v1 v2 t1 t2 t3 F G (a2.ext Y) b2 h3
 have d1:=ZdT c2 h4
 cases b0 with
 | false=>
  cases h
  exact⟨X++Y,by simp only[Zki,a1,b1,Option.bind_some,c1,d1];simp⟩
 | true=>
  simp only[if_true]at h
  obtain⟨t5,h5,h⟩:=Zz0.mp h
  obtain⟨t6,h6,h⟩:=Zz0.mp h
  obtain⟨v5,Z,F5,e1,e2,_,_⟩:=z c ρ σ (H++X++Y) Φ t5 ((s.ext X).ext Y) h5
  obtain⟨v6,f1,f2⟩:=k2 _ v2 v5 t2 t5 t6 G F5 (b2.ext Z) e2 h6
  have g1:=ZdT f2 h
  exact⟨X++Y++Z,by simp only[Zki,a1,b1,Option.bind_some,c1,d1,if_true,e1,f1,g1,Option.map_some];simp⟩
def OIn(o:List V→Hp→Option (V×Hp))(q:List T→Option T): Prop:=∀(H:Hp) (vs:List V) (ts:List T) (t:T) (F1:List Nat),RFs H vs ts F1→q ts=some t→∃v F,o vs H=some (v,H)∧RF H v t F∧F.Sublist F1
theorem ZxQ{n:Nat}{es:Exs}{ps:PEs}{q:List T→Option T}{o:List V→Hp→Option (V×Hp)}(k:OIn o q)(x:Es O N u n es ps): E O N u (ZU o es) (ZV q ps):=fun c ρ σ H Φ t s h=>by
 obtain⟨ts,h1,h⟩:=Zz0.mp h
 obtain⟨_,vs,X,F,a1,a2,a3,a4⟩:=x c ρ σ H Φ ts s h1
 obtain⟨w,G,b1,b2,b3⟩:=k _ vs ts t F a2 h
 exact⟨w,X,G,by simp only[ZU,a1,Option.bind_some,b1],b2,fun a m=>a3 a (b3.subset m),fun hu=>(a4 hu).sublist b3⟩
theorem ZwG: OIn ZfJ ZjS:=fun H vs ts t F r h=>by
 unfold ZjS at h
 split at h
 ·obtain⟨v,rfl,r'⟩:=r.one_inv
  cases r' with
  | @ref a vs1 _ F1 e hs=>cases h;exact⟨.tup vs1,F1,by simp only[ZfJ,e,Option.map_some],.tup hs,List.sublist_cons_self _ _⟩
 ·obtain⟨v,rfl,r'⟩:=r.one_inv
  cases r' with
  | @tup vs1 _ _ hs=>cases h;exact⟨.tup vs1,_,by simp only[ZfJ],.tup hs,List.Sublist.refl _⟩
 ·cases h
end
theorem Zzg{O O1 R J Ns:List Nat}{fr:Bool}{g:Src}{q:PG}{put:V→Lc→Option Lc}{pput:T→TL→Option TL}{b:Sm}{qb:PS}(hg:Gs O Ns g q)(hj:PutOk O J put pput)(hj1:PutOk O1 J put pput)(hJ:∀i∈J,i∉O)(hJ1:∀i∈J,i∉O1)(hN:∀i∈Ns,i∉O)(hb:S O O1 R fr b qb)(hb1:S O1 O1 R fr b qb): S O O1 R fr (Zcb g put b) (ZnK q pput qb):=fun c ρ σ H Φ r s h=>by
 obtain⟨ts,h1,h⟩:=Zz0.mp h
 obtain⟨nx,X,vs,F,G,g1,g2,g3,g4,g5⟩:=hg c ρ σ H Φ ts s h1
 split at h
 ·cases h
 ·rename_i hne
  cases ts with
  | nil=>exact absurd rfl hne
  | cons t rs=>
   cases g2 with
   | @cons v _ F1 ws _ F2 a b'=>
   have sx:=s.ext X
   have hsrc:∀a∈G,c.H0.length≤a∨c.P a:=fun a m=>s.from_src (g4 a m).2
   have hoff:∀a∈G,¬Held O σ Φ a:=fun a m ⟨k,hk,⟨t,e⟩,q⟩=>s.from_off hN (g4 a m).2 hk e q
   obtain⟨σ1,p0,h⟩:=Zz0.mp h
   obtain⟨r1,h2,h⟩:=Zz0.mp h
   obtain⟨ρ1,Φ1,p1,s1,p3,p4⟩:=hj c ρ σ (H++X) Φ v t F1 σ1 sx a (fun x m=>hsrc x (g3 x (Zz4 _ m))) (fun k hk t' e x m q=>hoff x (g3 x (Zz4 _ q)) ⟨k,hk,⟨t',e⟩,m⟩) p0
   have hh:∀x,Held O σ1 Φ1 x→Held O σ Φ x:=fun x ⟨k,hk,⟨t',e⟩,m⟩=>by
    obtain⟨q1,q2⟩:=p3 k fun q=>hJ k q hk
    exact⟨k,hk,⟨t',q1▸e⟩,q2▸m⟩
   obtain⟨ρ2,K2,Φ2,w1,w2,w3⟩:=hb c ρ1 σ1 (H++X) Φ1 r1 s1 h2
   have e0:nx 0 (H++X)=some (some v):=by have:=g5 (H++X) (fun _ _=>rfl) 0 (Nat.zero_le _);simpa using this
   have estep:Zcb g put b ρ H=(b ρ1 (H++X)).bind fun q=>match q.1 with
     | some _=>some q
     | none=>Zc1 nx put b (rs.length+1) 1 q.2.1 q.2.2:=by
    simp only[Zcb,g1,Option.bind_some,List.length_cons]
    show(nx 0 (H++X)).bind _=_
    rw[e0]
    first | (simp only[Option.bind_some,p1];done) | (simp only[Option.bind_some,p1];rfl)
   rw[estep]
   refine Aft.grow (X:=X) ?_
   rcases w3 with⟨k1,k2,k3,k4⟩ | ⟨t',v',F',k1,k2,k3⟩
   ·rw[k1]at h
    have hG2:∀a∈G,K2[a]?=(H++X)[a]?:=fun x m=>w2 x (g4 x m).1 fun q=>hoff x m (hh x q)
    have hoff2:∀a∈G,¬Held O1 r1.2 Φ2 a:=fun x m q=>by
     rcases k4 x q with q | q
     ·have:=(g4 x m).1;omega
     ·exact hoff x m (hh x q)
    have ih:=Zmz hj1 hJ1 hb1 (H1:=H++X) (fun a m=>(g4 a m).1) hsrc g5 rs ws 1 ρ2 r1.2 K2 Φ2 F2 r (fun j=>by rw[Nat.add_comm];simp) (by simp;omega) k3 w1 hG2 hoff2 (b'.frame fun x m=>hG2 x (g3 x (Zz3 _ m))) (fun x m=>g3 x (Zz3 _ m)) h
    rw[k2]
    simp only[Option.bind_some]
    obtain⟨ρ3,K3,Φ3,l1,l2,l3⟩:=ih
    refine⟨ρ3,K3,Φ3,by omega,fun x hx hn=>?_,?_⟩
    ·rw[l2 x (by omega) fun q=>(k4 x q).elim (fun q=>by omega) fun q=>hn (hh x q),w2 x hx fun q=>hn (hh x q)]
    ·rcases l3 with⟨m1,m2,m3,m4⟩ | l
     ·refine .inl ⟨m1,m2,m3,fun x q=>?_⟩
      rcases m4 x q with q | q
      ·exact .inl (by omega)
      ·exact(k4 x q).imp id (hh x)
     ·exact .inr l
   ·rw[k1]at h
    cases h
    refine⟨ρ2,K2,Φ2,w1,fun x hx hn=>w2 x hx fun q=>hn (hh x q),.inr ⟨t',v',F',k1,?_,k3⟩⟩
    rw[k2]
    rfl
section
variable {σ:TL} {Q:T→Prop} {B:Bool→Prop} {R:T→Prop} {N:TL→Prop}
theorem ZwH{q1 q2:T→T→Option T}{f g h:PE}(k:Pk (f σ) fun x=>Pk (g σ) fun y=>Pk (q1 x y) fun z=>Pb (Zbx z) fun b=>(b=true→Pk (h σ) fun v=>Pk (q2 y v) fun w=>Pb (Zbx w) B)∧(b=false→B false)): Pb (Zkj q1 q2 f g h σ) B:=by
 obtain⟨x,a1,y,a2,z,a3,b,a4,k1,k2⟩:=k
 cases b with
 | false=>exact⟨false,by simp[Zkj,a1,a2,a3,a4],k2 rfl⟩
 | true=>
  obtain⟨v,b1,w,b2,c,b3,q⟩:=k1 rfl
  exact⟨c,by simp[Zkj,a1,a2,a3,a4,b1,b2,b3],q⟩
theorem ZxR{g:PG}{j n:Nat}{a:Nat→T}{b:PS}(hn:0<n)(hg:Pl (g σ) fun ts=>ts=tab n a)(P:Nat→TL→Prop)(h0:P 0 σ)(h1:∀i σ,i<n→P i σ→Psk (b (ZW σ j (a i))) R (P (i+1)))(h2:∀σ,P n σ→N σ): Psk (ZnK g (ZaU j) b σ) R N:=by
 obtain⟨o,s,e,q⟩:=Zb5 (R:=R) (N:=N) (b:=b) (j:=j) hg P h0 h1 h2
 obtain⟨ts,e1,rfl⟩:=hg
 refine⟨o,s,?_,q⟩
 have hne:tab n a≠[]:=fun h=>by have:=congrArg List.length h;rw[Zaa]at this;simp at this;omega
 simp only[ZnK,e1,Option.bind_some,hne,if_false]
 simpa only[Zcz,e1,Option.bind_some]using e
end
end TM
end
section
namespace TM
open PySem PM
theorem ZvI{fr:Bool}: SimF fr (fun _ _=>none) (fun _=>none):=by
 intro H vs ts t F1 hp r h
 cases h
end TM
end
section
namespace TM
open PySem PM
def Keep0(g:Sm): Prop:=∀ρ H r,g ρ H=some r→r.2.1 0=ρ 0
theorem Keep0.next: Keep0 ZaM:=fun ρ H r h=>by cases h;rfl
theorem Zju{e:Ex}: Keep0 (Zc5 e):=fun ρ H r h=>by
 obtain⟨_,_,q⟩:=Zz1.mp h
 subst q;rfl
theorem Keep0.ret{e:Ex}: Keep0 (Zak e):=fun ρ H r h=>by
 obtain⟨_,_,q⟩:=Zz1.mp h
 subst q;rfl
theorem Keep0.put{f o i:Ex}: Keep0 (ZcQ f o i):=fun ρ H r h=>by
 obtain⟨_,_,h⟩:=Zz0.mp h
 obtain⟨_,_,h⟩:=Zz0.mp h
 obtain⟨_,_,h⟩:=Zz0.mp h
 obtain⟨_,_,q⟩:=Zz1.mp h
 subst q;rfl
theorem Keep0.seq{a b:Sm}(x:Keep0 a)(y:Keep0 b): Keep0 (Z5 a b):=fun ρ H r h=>by
 obtain⟨r1,e1,h⟩:=Zz0.mp h
 have h1:=x ρ H r1 e1
 split at h
 ·cases h;exact h1
 ·exact(y _ _ _ h).trans h1
theorem Zjv{t:Ts}{a b:Sm}(x:Keep0 a)(y:Keep0 b): Keep0 (sIf t a b):=fun ρ H r h=>by
 obtain⟨p,_,h⟩:=Zz0.mp h
 split at h
 ·exact x _ _ _ h
 ·exact y _ _ _ h
theorem Keep0.set{i:Nat}{e:Ex}(hi:0≠i): Keep0 (Zar i e):=fun ρ H r h=>by
 obtain⟨_,_,q⟩:=Zz1.mp h
 subst q
 simp[upd,hi]
def SimM(f:List V→Hp→Option (V×Hp))(p:List T→Option T): Prop:=∀(H:Hp) (v:V) (vs:List V) (t:T) (ts:List T) (t':T) (F0 F1:List Nat),0<H.length→RF H v t F0→F0.Nodup→0∉F0→RFs H vs ts F1→(∀a∈F0,a∉F1)→p (t::ts)=some t' →
 ∃w H' F',f (v::vs) H=some (w,H')∧H.length≤H'.length∧(∀a,a<H.length→a∉F0→H'[a]?=H[a]?)∧RF H' v t' F'∧F'.Nodup∧∀a∈F',H.length≤a∨a∈F0
noncomputable def Zeh(n:Nat)(q:PS): List T→Option T:=fun ts=>if ts.length=n then(q fun i=>ts[i]?).bind fun r=>r.2 0 else none
theorem ZjX{O':List Nat}{n:Nat}{g:Sm}{q:PS}(h:S [0] O' [0] false g q)(h0:0∈O')(hk:Keep0 g): SimM (ZF n g) (Zeh n q):=fun H v vs t ts t' F0 F1 hp r0 nd n0 rs dj e=>by
 unfold Zeh at e
 split at e
 ·rename_i hl
  obtain⟨r1,e1,e2⟩:=Zz0.mp e
  obtain⟨Φ,hΦ⟩:=rs.slots
  have st:St ⟨H,F0,fun a=>a∈F0∨a∈F1⟩ [0] (fun i=>(v::vs)[i]?) (fun i=>(t::ts)[i]?) H (fun i=>match i with | 0=>F0 | i+1=>Φ i):=by
   refine⟨fun i u e=>?_,fun i u e a m=>?_,fun i hi u e=>?_,Nat.le_refl _,fun a _ _=>rfl,hp,n0⟩
   ·cases i with
    | zero=>simp at e;subst e;exact⟨v,rfl,r0⟩
    | succ i=>
     simp at e
     obtain⟨w,h1,h2,_⟩:=hΦ i u e
     exact⟨w,by simpa using h1,h2⟩
   ·cases i with
    | zero=>exact .inr (.inl m)
    | succ i=>
     simp at e
     obtain⟨w,h1,h2,h3⟩:=hΦ i u e
     exact .inr (.inr (h3 a m))
   ·have:i=0:=by simpa using hi
    subst this
    refine⟨nd,fun a m=>.inr m,fun j u' hj ej a m=>?_⟩
    cases j with
    | zero=>exact absurd rfl hj
    | succ j=>
     simp at ej
     obtain⟨w,h1,h2,h3⟩:=hΦ j u' ej
     exact fun q=>dj a m (h3 a q)
  obtain⟨ρ',H',Φ',h1,h2,h3⟩:=h _ _ _ _ _ _ st e1
  have hv:(v::vs).length=n:=by rw[←hl];simp[rs.length]
  have go:∀(o:Option V) (O2:List Nat),0∈O2→g (fun i=>(v::vs)[i]?) H=some (o,ρ',H')→St ⟨H,F0,fun a=>a∈F0∨a∈F1⟩ O2 ρ' r1.2 H' Φ'→∃w H' F',ZF n g (v::vs) H=some (w,H')∧H.length≤H'.length∧(∀a,a<H.length→a∉F0→H'[a]?=H[a]?)∧RF H' v t' F'∧F'.Nodup∧∀a∈F',H.length≤a∨a∈F0:=by
   intro o O2 hO eg s2
   obtain⟨v',ev,rv⟩:=s2.slot 0 t' e2
   have kk:=hk _ _ _ eg
   have:v'=v:=by
    have k2:ρ' 0=some v:=kk
    rw[ev]at k2
    cases k2
    rfl
   subst this
   obtain⟨o1,o2,_⟩:=s2.own 0 hO t' e2
   exact⟨o.getD .none,H',Φ' 0,by simp only[ZF,hv,if_true,eg,Option.map_some],h1,s2.keep,rv,o1,o2⟩
  rcases h3 with⟨k1,k2,k3,k4⟩ | ⟨u,v',F',k1,k2,k3,k4,k5,k6⟩
  ·exact go none O' h0 k2 k3
  ·exact go (some v') [0] List.mem_cons_self k2 k4
 ·cases e
noncomputable def Zgg(x:Nat)(p:List T→Option T)(ps:PEs): PS:=fun σ=>(ps σ).bind fun ts=>(σ x).bind fun t=>(p (t::ts)).map fun t'=>(none,ZW σ x t')
section
variable {O O' R N:List Nat} {fr u:Bool}
theorem ZeR{x n:Nat}{f:List V→Hp→Option (V×Hp)}{p:List T→Option T}{es:Exs}{ps:PEs}(hx:x∈O)(k:SimM f p)(y:Es O N u n es ps)(hN:x∉N)(hO:∀j∈O',j∈O): S O O' R fr (Zc5 (ZU f (Zt (Zp x) es))) (Zgg x p ps):=fun c ρ σ H Φ r s q=>by
 obtain⟨ts,h1,q⟩:=Zz0.mp q
 obtain⟨t,h2,q⟩:=Zz0.mp q
 obtain⟨t',h3,q⟩:=Zz1.mp q
 subst q
 obtain⟨v,ev,rv⟩:=s.slot x t h2
 obtain⟨o1,o2,o3⟩:=s.own x hx t h2
 have hlow:∀k t,σ k=some t→∀a∈Φ k,a<H.length:=fun k t e a m=>by
  obtain⟨_,_,r⟩:=s.slot k t e
  exact r.lt a m
 obtain⟨_,vs,X,F,a1,a2,a3,_⟩:=y c ρ σ H Φ ts s h1
 have hp:0<(H++X).length:=by have:=s.pos;have:=s.len;rw[List.length_append];omega
 have hlen:(H++X).length=H.length+X.length:=List.length_append
 have dj:∀a∈Φ x,a∉F:=fun a m q=>by
  rcases a3 a q with h | ⟨j,hj,⟨tj,ej⟩,mj⟩
  ·have:=hlow x t h2 a m;omega
  ·exact o3 j tj (fun e=>hN (e▸hj)) ej a m mj
 obtain⟨w,H',F',b1,b2,b3,b4,b5,b6⟩:=k (H++X) v vs t ts t' (Φ x) F hp (rv.ext X) o1 (fun m=>ZmV s hx h2 m rfl) a2 dj h3
 have same:∀a,a<H.length→a∉Φ x→H'[a]?=H[a]?:=fun a ha hn=>by
  rw[b3 a (by omega) hn,List.getElem?_append_left ha]
 have eg:Zc5 (ZU f (Zt (Zp x) es)) ρ H=some (none,ρ,H'):=by
  simp only[Zc5,ZU,Zt,Zp,ev,Option.map_some,Option.bind_some,a1,b1]
 refine⟨ρ,H',Z7 Φ x F',by omega,fun a ha hn=>same a ha fun m=>hn ⟨x,hx,⟨t,h2⟩,m⟩,.inl ⟨rfl,eg,⟨fun i u' e=>?_,fun i u' e a m=>?_,fun i hi u' e=>?_,by have:=s.len;omega,fun a ha hn=>?_,s.pos,s.f0⟩,fun a hh=>?_⟩⟩
 ·by_cases c1:i=x
  ·subst c1
   simp only[ZW,if_true,Option.some.injEq]at e
   subst e
   exact⟨v,ev,by simpa [Z7]using b4⟩
  ·simp only[ZW,c1,if_false]at e
   obtain⟨v2,e2,r2⟩:=s.slot i u' e
   refine⟨v2,e2,?_⟩
   simp only[Z7,c1,if_false]
   exact r2.frame fun a m=>same a (hlow i u' e a m) fun q=>o3 i u' c1 e a q m
 ·by_cases c1:i=x
  ·subst c1
   simp only[Z7,if_true]at m
   rcases b6 a m with h | h
   ·exact .inl (by have:=s.len;omega)
   ·exact s.src i t h2 a h
  ·simp only[ZW,c1,if_false]at e
   simp only[Z7,c1,if_false]at m
   exact s.src i u' e a m
 ·by_cases c1:i=x
  ·subst c1
   refine⟨by simpa [Z7]using b5,fun a m=>?_,fun j u2 hj ej a m=>?_⟩
   ·simp only[Z7,if_true]at m
    rcases b6 a m with h | h
    ·exact .inl (by have:=s.len;omega)
    ·exact o2 a h
   ·simp only[Z7,if_true]at m
    simp only[ZW,hj,if_false]at ej
    simp only[Z7,hj,if_false]
    intro q
    have hq:=hlow j u2 ej a q
    rcases b6 a m with h | h
    ·omega
    ·exact o3 j u2 hj ej a h q
  ·simp only[ZW,c1,if_false]at e
   obtain⟨q1,q2,q3⟩:=s.own i (hO i hi) u' e
   refine⟨by simpa [Z7,c1]using q1,fun a m=>?_,fun j u2 hj ej a m=>?_⟩
   ·simp only[Z7,c1,if_false]at m
    exact q2 a m
   ·simp only[Z7,c1,if_false]at m
    by_cases c2:j=x
    ·subst c2
     simp only[Z7,if_true]
     intro q
     have hm:=hlow i u' e a m
     rcases b6 a q with h | h
     ·omega
     ·exact q3 j t hj h2 a m h
    ·simp only[ZW,c2,if_false]at ej
     simp only[Z7,c2,if_false]
     exact q3 j u2 hj ej a m
 ·have hs:=s.keep a ha hn
  rw[same a (by have:=s.len;omega) fun m=>?_]
  ·exact hs
  ·rcases o2 a m with h | h
   ·omega
   ·exact hn h
 ·obtain⟨j,hj,⟨u',e⟩,m⟩:=hh
  by_cases c1:j=x
  ·subst c1
   simp only[Z7,if_true]at m
   rcases b6 a m with h | h
   ·exact .inl (by omega)
   ·exact .inr ⟨j,hx,⟨t,h2⟩,h⟩
  ·simp only[ZW,c1,if_false]at e
   simp only[Z7,c1,if_false]at m
   exact .inr ⟨j,hO j hj,⟨u',e⟩,m⟩
end
section
variable {σ:TL} {R:T→Prop} {N:TL→Prop}
theorem ZeS{x:Nat}{p:List T→Option T}{ps:PEs}{t:T}(e:σ x=some t)(h:Pl (ps σ) fun ts=>Pk (p (t::ts)) fun t'=>N (ZW σ x t')): Psk (Zgg x p ps σ) R N:=by
 obtain⟨ts,e1,t',e2,q⟩:=h
 exact⟨none,ZW σ x t',by simp only[Zgg,e1,e,Option.bind_some,e2,Option.map_some],by simp,fun _=>q⟩
theorem ZjY{n:Nat}{q:PS}{ts:List T}{Q:T→Prop}(hn:ts.length=n)(h:Psk (q fun i=>ts[i]?) (fun _=>False) fun σ=>∃t,σ 0=some t∧Q t): Pk (Zeh n q ts) Q:=by
 obtain⟨o,s,e,h1,h2⟩:=h
 cases o with
 | none=>
  obtain⟨t,e2,q2⟩:=h2 rfl
  exact⟨t,by simp only[Zeh,hn,if_true,e,Option.bind_some,e2],q2⟩
 | some u=>exact absurd (h1 u rfl) (by simp)
end
end TM
end
section
namespace TM
open PySem PM
section
variable {O N M:List Nat}
theorem Zzh{e1 e2:Ex}{p1 p2:PE}(x:E O N true e1 p1)(y:E O M true e2 p2)(hN:∀i∈N,i∈O)(hM:∀i∈N,i∉M): E O (N++M) true (ZA Zaz e1 e2) (ZB Zaj p1 p2):=fun c ρ σ H Φ t s h=>by
 obtain⟨t1,h1,h⟩:=Zz0.mp h
 obtain⟨t2,h2,h⟩:=Zz0.mp h
 obtain⟨v1,X,F1,a1,a2,a3,a4⟩:=x c ρ σ H Φ t1 s h1
 obtain⟨v2,Y,F2,b1,b2,b3,b4⟩:=y c ρ σ (H++X) Φ t2 (s.ext X) h2
 have a2':=a2.ext Y
 have dj:∀a∈F1,a∉F2:=fun a ha hb=>by
  have hlt:=a2.lt a ha
  rcases b3 a hb with h | ⟨j,hj,⟨tj,ej⟩,mj⟩
  ·omega
  ·obtain⟨vj,_,rj⟩:=s.slot j tj ej
   have:=rj.lt a mj
   rcases a3 a ha with h | ⟨i,hi,⟨ti,ei⟩,mi⟩
   ·omega
   ·exact(s.own i (hN i hi) ti ei).2.2 j tj (fun q=>hM i hi (q▸hj)) ej a mi mj
 have nd1:=a4 rfl
 have nd2:=b4 rfl
 have f1:∀a∈F1,From H (N++M) σ Φ a:=fun a m=>(a3 a m).mono fun i hi=>List.mem_append_left _ hi
 have f2:∀a∈F2,From H (N++M) σ Φ a:=fun a m=>(b3 a m).back.mono fun i hi=>List.mem_append_right _ hi
 have ev:∀r,Zaz v1 v2 (H++X++Y)=some r→ZA Zaz e1 e2 ρ H=some r:=fun r hr=>by simp only[ZA,a1,b1,Option.bind_some,hr]
 have ndA:∀{A B:List Nat},A.Nodup→B.Nodup→(∀a∈A,a∉B)→(A++B).Nodup:=fun ha hb hd=>by
  rw[List.nodup_append]
  exact⟨ha,hb,fun a m b m' e=>hd a m (e▸m')⟩
 cases a2' with
 | none=>cases h
 | bool=>cases h
 | str=>cases h
 | int a=>
  cases b2 <;> first | (cases h;done) | skip
  cases h
  exact⟨_,X++Y,[],ev _ (by simp[Zaz]),.int _,by simp,by simp⟩
 | tup hs1=>
  cases b2 with
  | none=>cases h
  | bool=>cases h
  | str=>cases h
  | int=>cases h
  | ref=>cases h
  | tup hs2=>
   simp only[Zaj]at h
   split at h
   ·rename_i hl
    cases h
    refine⟨_,X++Y,_,ev _ ?_,.tup (by rw[←List.append_assoc];exact hs1.append hs2),fun a m=>?_,fun _=>ndA nd1 nd2 dj⟩
    ·simp only[Zaz]
     rw[if_pos (by rw[List.length_append]at hl ⊢;rw[hs1.length,hs2.length];exact hl),List.append_assoc]
    ·rcases Zz8.mp m with m | m
     ·exact f1 a m
     ·exact f2 a m
   ·cases h
 | @ref r1 vs1 _ G1 e1' hs1=>
  cases b2 with
  | none=>cases h
  | bool=>cases h
  | str=>cases h
  | int=>cases h
  | tup=>cases h
  | @ref r2 vs2 _ G2 e2' hs2=>
   simp only[Zaj]at h
   split at h
   ·rename_i hl
    cases h
    have hR:=hs1.append hs2
    refine⟨.ref (H++X++Y).length,X++Y++[vs1++vs2],(H++X++Y).length::(G1++G2),ev _ ?_,?_,fun a m=>?_,fun _=>?_⟩
    ·simp only[Zaz,e1',e2',Option.bind_some]
     rw[if_pos (by rw[List.length_append]at hl ⊢;rw[hs1.length,hs2.length];exact hl)]
     simp
    ·rw[show H++(X++Y++[vs1++vs2])=H++X++Y++[vs1++vs2]by simp]
     exact .ref (by simp) (hR.ext _)
    ·rcases Zz7.mp m with rfl | m
     ·exact .inl (by simp)
     ·rcases Zz8.mp m with m | m
      ·exact f1 a (Zz2 _ m)
      ·exact f2 a (Zz2 _ m)
    ·refine List.nodup_cons.mpr ⟨fun m=>?_,ndA (List.nodup_cons.mp nd1).2 (List.nodup_cons.mp nd2).2 fun a m m'=>dj a (Zz2 _ m) (Zz2 _ m')⟩
     have:=hR.lt _ m
     omega
   ·cases h
end
end TM
end
section
namespace PM
open PySem PySem.W PySem.Calls PyProof.Rows PyProof PyProof.Rows.LCg PyProof.Rows.LCp
section
variable {prog:Program} {w:World} {Γ:Cx}
theorem Zus{elt iter:Expr}{x x₂ y:Str}{px px₂ tp py pos spos:Pos}{kt:Nat}{scope:Scope}{cl:List (Str×Addr)}{t t₂ i:Nat}{g:Src}{f:Ex}(hy:Sto prog w Γ y i)(hg:JI2 prog w Γ iter g)(hel:∀C ρ,J prog w (Za3 Γ scope cl C [(x,t),(x₂,t₂)] ρ) elt f)
  (hsw:swapsWith (.ListComp elt [⟨.Tuple [.Name x px,.Name x₂ px₂] kt tp,iter,[],0⟩] scope pos) (some (.Name y py)) spos.line Γ.env=pure true)
  (hclos:closureFor scope Γ.env=pure cl) (hcell:∀y∈scope.names,y.2≠.cell) (hkind:scope.kind=.function) (hnames:∀y∈scope.names,y.2=.local→scope.names.lookup y.1=some .local) (hx:scope.names.lookup x=some .local) (hx₂:scope.names.lookup x₂=some .local) (hxx:x≠x₂) (htt:t≠t₂) (hs:∀x,foldedSetIterable iter Γ.env x=pure x:=by intro _;rfl):
  S1 prog w Γ (.Assign [.Name y py] (.ListComp elt [⟨.Tuple [.Name x px,.Name x₂ px₂] kt tp,iter,[],0⟩] scope pos) spos) (Zar i (ZbL g (Zdi t t₂) ZbP f)):=by
 intro W ρ H fr s Q E r rp hf post
 obtain⟨p,e0,e9⟩:=Zz1.mp hf
 cases e9
 obtain⟨z,e1,hf⟩:=Zz0.mp e0
 obtain⟨q,e2,e3⟩:=Zz1.mp hf
 cases e3
 rw[exec_Assign_Name_used _ _ _ _ hsw]
 refine wpAny_bind (wpAny_standAt (wpAny_bind ?_))
 show wpAny _ Γ.A (do let _ ←comprehension (.ListComp elt [⟨.Tuple [.Name x px,.Name x₂ px₂] kt tp,iter,[],0⟩] scope pos) scope Γ.env _ (newList []) false (eval iter Γ.env) (some (assign (.Name y py) Γ.env))) _ _ s
 refine wpAny_bind (wpAny_mono (wpAny_comprehension_free (use:=some (assign (.Name y py) Γ.env)) (Q:=fun _ s'=>Q .next s') rfl hs hclos hkind hnames ?_) (fun _ s' h'=>wpAny_pure (wpAny_pure h')) fun _ _ e=>e)
 refine ZpA (RR:=fun acc C=>compPost (model prog w) Γ.A E (some (assign (.Name y py) Γ.env)) (fun _ s'=>Q .next s') acc C) hg hel hcell hkind hx hx₂ hxx htt rp (q:=q) (by rw[e1];exact e2) fun W2 h' tk' C D oC m₂ ys l2 hC hv hl aD aC cd r3=>?_
 have r4:Rep Γ W2 ρ q.2 ((D,lst ys)::(C,oC)::fr) h':=r3.less fun t ht=>by
  rcases Zz7.mp ht with e | ht
  ·exact e▸List.mem_cons_of_mem _ Zz5
  ·rcases Zz7.mp ht with e | ht
   ·exact e▸List.mem_cons_self
   ·exact Zz2 _ (Zz2 _ ht)
 obtain⟨W5,l5,r5,v5⟩:=ZhM r4 (fun t ht=>by
  rcases Zz7.mp ht with e | ht
  ·rw[e]
   exact cd.symm
  ·exact aD t ht) hv hl
 refine wpAny_assign_Name (hy W5 ρ _ _ _ _ _ _ _ r5 v5 fun h6 t6 r6=>?_)
 refine⟨m₂,hC.ns (r6.frAt (q:=(C,oC)) Zz5),fun h'' sb=>?_⟩
 have r7:Rep Γ W5 (upd ρ i (.ref q.2.length)) (q.2++[q.1]) ([]++fr) h'':=
  Rep.swap (fs:=[(C,oC)]) (fs':=[]) r6 (fun q hq t ht=>by rw[List.mem_singleton.mp hq];exact aC t ht) (fun b o hb e=>sb.extBut b o (fun z=>hb (by simp[z])) e) fun q hq=>nomatch hq
 exact post W5 h'' t6 (l2.trans l5) r7
end
end PM
end
section
namespace PM
open PySem PySem.W PySem.Calls PyProof.Rows PyProof
noncomputable def Zc3(ns:List Int): List Int:=ns.mergeSort fun a b=>decide (a≤b)
theorem ZqP{ns ms:List Int}(h1:ms.Perm ns)(h2:ms.Pairwise (·≤·)): ms=Zc3 ns:=by
 refine List.Perm.eq_of_pairwise (le:=fun a b:Int=>a≤b) (fun a b _ _ h h'=>Int.le_antisymm h h') h2 ?_ (h1.trans (List.mergeSort_perm ns _).symm)
 have:=List.pairwise_mergeSort (le:=fun a b:Int=>decide (a≤b)) (fun a b c h h'=>by simp at *;omega) (fun a b=>by simp;omega) ns
 unfold Zc3
 simpa using this
theorem ZvJ{ns:List Int}: (Zc3 ns).length=ns.length:=(List.mergeSort_perm ns _).length_eq
theorem Zm1{W:Wd}: ∀{vs:List V} {xs:List Value} {ks:List Int},VRs W vs xs→Zde vs=some ks→IntsAre xs ks:=by
 intro vs
 induction vs with
 | nil=>intro xs ks h e;cases h;cases e;exact .nil
 | cons v vs ih=>
  intro xs ks h e
  cases h with
  | cons a b=>
   cases v with
   | int i=>
    obtain⟨js,e1,e2⟩:=Zz1.mp e
    subst e2
    cases a with
    | int _ t=>exact .cons i t (ih b e1)
   | none=>cases e
   | bool=>cases e
   | str=>cases e
   | tup=>cases e
   | ref=>cases e
theorem Zrs{W:Wd}: ∀{xs:List Value} {ks:List Int},IntsAre xs ks→VRs W (ks.map V.int) xs
 | _,_,.nil=>.nil
 | _,_,.cons n t r=>.cons (.int n t) (Zrs r)
noncomputable def ZjZ: List V→Hp→Option (V×Hp)
 | [.ref a],H=>H[a]?.bind fun vs=>(Zde vs).bind fun ns=>if vs.length<64 then some (.ref H.length,H++[(Zc3 ns).map V.int])else none
 | _,_=>none
section
variable {prog:Program} {w:World}
theorem ZvK: OpN prog w (fun xs=>call (.builtin "sorted") xs) ZjZ:=by
 intro Γ W ρ H fr s Q E as xs v H' r hx ho post
 unfold ZjZ at ho
 split at ho
 ·obtain⟨vs,e1,ho⟩:=Zz0.mp ho
  obtain⟨ks,e3,ho⟩:=Zz0.mp ho
  split at ho
  ·rename_i h64
   cases ho
   obtain⟨x,ex,rx⟩:=hx.one
   subst ex
   cases rx with
   | @ref _ a ea=>
    obtain⟨hl,ys,k,hg,hv⟩:=r.at e1 ea
    have isl:s.heap.IsList a ys.toArray:=⟨_,hg,rfl,k,rfl⟩
    refine sorted_ints isl (Zm1 hv e3) (by rw[hv.length];exact h64) fun out ms a1 a2 a3=>?_
    have em:=ZqP a2 a3
    subst em
    obtain⟨q,hq⟩:=sortedAll_at s.heap ys out
    have hlen:ks.length=vs.length:=by rw[←hv.length];exact(Zm1 hv e3).length.symm
    obtain⟨r2,ap⟩:=r.more (h':=sortedAll s.heap ys out) (fs:=[(s.heap.objs.size+1,ZbB out.toList q)]) (fun b o hb=>sortedAll_old hb) (fun u hu=>by
     rw[List.mem_singleton.mp hu]
     refine⟨?_,Nat.le_succ _⟩
     rw[hq])
    obtain⟨W2,l2,r3,v3⟩:=ZhM r2 (fun t ht=>ap _ Zz5 t ht) (Zrs a1) (by rw[List.length_map,ZvJ,hlen];exact hl)
    exact post W2 _ s.toks _ l2 r3 v3
  ·cases ho
 ·cases ho
end
end PM
namespace PM
open PySem PySem.W PySem.Calls PyProof.Rows PyProof PySem.SeqAt
open SeqRoads2 MeetsSeq3 MeetsSeq2 MeetsSeq AutoSeq1
theorem ZuV(l:Addr)(its:Array Value)(n:Nat)(dd:Option Addr)(sl:Array (Option Value))(x:Value)(tk:Tok)(e:Value→Bool)(j:Nat)(hj:j<its.size)(h1:1≤j)(small:(j:Int)<2 ^ 63-1)
  (hit:e its[j]=true) (no:∀m (hm:m<its.size),1≤m→m<j→e its[m]=false):
  Meets (Builtin.«list.index» ⟨[.ref l,x,.int 1 tk],[]⟩) fun A R s=>s.heap.get? l=some { cls:=.type "list",dict:=dd,data:=.seq its n,slots:=sl }∧(∀y,y∈its→EqAt A.in1 s y x (e y))∧R (.ok (.ret (.int j s.toks))) { s with toks:=s.toks+1 }:=by
 intro prog w A R s h
 obtain⟨hp,g,d,tk',os⟩:=s
 obtain⟨hq0,he,h⟩:=h
 wp_walk using wpAny_loadPart' hq0
 have b1:((fun i:Int=>if i<0 then max 0 (i+(its.size:Int))else i) ((some (1:Int)).getD 0))=((1:Nat):Int):=by simp
 have b2:((fun i:Int=>if i<0 then max 0 (i+(its.size:Int))else i) ((Option.none:Option Int).getD (2 ^ 63-1)))=2 ^ 63-1:=by simp
 rw[b1,b2]
 refine⟨plainId_quiet plain_index_loop _,codeAny_builtin entry_index_loop ?_⟩
 rw[Around.under_plainId plain_index_loop _];exact index_loopAt l its n dd sl x e (2 ^ 63-1) j hj small hit _ 1 rfl h1 no prog w A R _ ⟨hq0,he,h⟩
section
variable {prog:Program} {w:World} {A:Around} {E:Value→Shared→Prop} {s:Shared}
theorem Zut{l:Addr}{vs:List Value}{ns:List Int}{k:Int}{t t':Tok}{Q:Value→Shared→Prop}(hl:s.heap.IsList l vs.toArray)(hi:IntsAre vs ns)(hn:ns.length≤100000)(hk:k∈ns.drop 1)
  (h:Q (.int ((1+(ns.drop 1).idxOf k:Nat)) s.toks) { s with toks:=s.toks+1 }):wpAny (model prog w) A (call (.builtin "list.index") [.ref l,.int k t,.int 1 t']) Q E s:=by
 obtain⟨⟨c0,dd,da,sl⟩,ho,ec,n,ed⟩:=id hl
 simp only at ec ed
 subst ec ed
 have hlen:=hi.length
 have hj:(ns.drop 1).idxOf k<(ns.drop 1).length:=List.idxOf_lt_length_iff.mpr hk
 have hj':1+(ns.drop 1).idxOf k<ns.length:=by rw[List.length_drop]at hj;omega
 refine call_meets PySem.F.slot_list_index ⟨_,ho,rfl⟩ PySem.F.entry_list_index (PySem.F.args_list_index_3 _ _ _) (ZuV l vs.toArray n dd sl (.int k t) t' (isInt k) (1+(ns.drop 1).idxOf k) (by simpa [hlen]using hj') (by omega) (by omega) ?_ ?_) ⟨ho,fun y hy=>(eq_isInt k t hi y (by simpa using hy)).at _ _,h⟩
 ·show isInt k vs[1+(ns.drop 1).idxOf k]=true
  rw[isInt_at k hi _ (by omega) hj']
  have:=List.getElem_idxOf hj
  rw[List.getElem_drop]at this
  simpa using this
 ·intro m hm h1 h2
  show isInt k vs[m]=false
  rw[isInt_at k hi m (by simpa using hm) (by have:=hm;simp[hlen]at this;omega)]
  have hm':m-1<(ns.drop 1).length:=by rw[List.length_drop];omega
  have:=ne_of_lt_idxOf (k:=k) (ns:=ns.drop 1) (j:=m-1) (by omega) hm'
  rw[List.getElem_drop]at this
  simpa [show 1+(m-1)=m by omega]using this
end
noncomputable def Zkk: V→V→V→Hp→Option (V×Hp)
 | .ref a,.int k,.int b,H=>H[a]?.bind fun vs=>(Zde vs).bind fun ns=>if b=1∧k∈ns.drop 1 then some (.int ((1+(ns.drop 1).idxOf k:Nat):Int),H)else none
 | _,_,_,_=>none
noncomputable def Znm(f g h:Ex): Ex:=fun ρ H=>(f ρ H).bind fun p=>(g ρ p.2).bind fun q=>(h ρ q.2).bind fun u=>Zkk p.1 q.1 u.1 u.2
section
variable {prog:Program} {w:World} {Γ:Cx}
theorem Zuu{a b c:V}{H:Hp}{r:V×Hp}(h:Zkk a b c H=some r): ∃i k vs ns,a=.ref i∧b=.int k∧c=.int 1∧H[i]?=some vs∧Zde vs=some ns∧k∈ns.drop 1∧r=(.int ((1+(ns.drop 1).idxOf k:Nat):Int),H):=by
 unfold Zkk at h
 split at h
 ·obtain⟨vs,e1,h⟩:=Zz0.mp h
  obtain⟨ns,e2,h⟩:=Zz0.mp h
  split at h
  ·rename_i q
   cases h
   obtain⟨rfl,q⟩:=q
   exact⟨_,_,vs,ns,rfl,rfl,rfl,e1,e2,q,rfl⟩
  ·cases h
 ·cases h
theorem J.index{o e1 e2:Expr}{apos pos:Pos}{f g k:Ex}(ho:J prog w Γ o f)(h1:J prog w Γ e1 g)(h2:J prog w Γ e2 k)(hbase:attributeBase o "index" Γ.env (eval o Γ.env)=eval o Γ.env:=by rfl)
  (hline:(apos.endLine == pos.line)=true:=by rfl) (htrees:backTo pos (starEach [e1,e2] Γ.env)=[(false,eval e1 Γ.env),(false,eval e2 Γ.env)]:=by rfl) (hstay:∀ρ H p,f ρ H=some p→∀q,g ρ p.2=some q→p.2=q.2:=by intro _ _ _ _ _ h;cases h;rfl) (hstay2:∀ρ H p,g ρ H=some p→∀q,k ρ p.2=some q→p.2=q.2:=by intro _ _ _ _ _ h;cases h;rfl):J prog w Γ (.Call (.Attribute o "index" apos) [e1,e2] [] pos) (Znm f g k):=by
 intro W ρ H fr s Q E v H' r hx post
 obtain⟨p,x1,hx⟩:=Zz0.mp hx
 obtain⟨q,x2,hx⟩:=Zz0.mp hx
 obtain⟨u,x3,x4⟩:=Zz0.mp hx
 obtain⟨i,kk,vs,ns,ea,eb,ec,hvs,hns,hmem,er⟩:=Zuu x4
 refine wpAny_Call_method2_late hbase hline htrees (ho W ρ H fr s _ E _ _ r x1 fun W1 k1 t1 x l1 r1 y1=>?_)
 rw[ea]at y1
 have s1:=hstay ρ H p x1 q x2
 have s2:=hstay2 ρ p.2 q x2 u x3
 cases y1 with
 | @ref _ a aa=>
 obtain⟨hl,xs,n,hg,hv⟩:=r1.at (by rw[s1,s2];exact hvs) aa
 refine⟨"list","list.index",PySem.F.plainAttrs_list,PySem.F.slot_list_index,PySem.F.type_list_index,(show k1.IsList a xs.toArray from⟨_,hg,rfl,n,rfl⟩).typeIs,fun b eb=>by cases eb;exact⟨_,hg,rfl⟩,?_⟩
 refine Calls.callWith_builtin rfl (Calls.evalArgs_plain (Calls.spliced_cons ?_))
 refine h1 W1 ρ _ fr _ _ E _ _ r1 x2 fun W2 k2 t2 y l2 r2 y2=>Calls.spliced_cons ?_
 refine h2 W2 ρ _ fr _ _ E _ _ r2 x3 fun W3 k3 t3 z l3 r3 z3=>Calls.spliced_nil ?_
 rw[eb]at y2
 rw[ec]at z3
 cases y2 with
 | int _ ty=>
 cases z3 with
 | int _ tz=>
 obtain⟨hl3,xs3,n3,hg3,hv3⟩:=r3.at hvs (l3.at (l2.at aa))
 rw[ZaZ]at hl3
 have hI:=Zm1 hv3 hns
 refine Zut ⟨_,hg3,rfl,n3,rfl⟩ hI (by rw[←hI.length,hv3.length];omega) hmem ?_
 have:=post W3 k3 (t3+1) (.int ((1+(ns.drop 1).idxOf kk:Nat):Int) t3) ((l1.trans l2).trans l3)
 cases er
 exact this r3 (.int _ _)
end
end PM
end
section
namespace TM
open PySem PM
theorem ZmD{H:Hp}: ∀ks:List Int,RFs H (ks.map V.int) (ks.map T.int) []
 | []=>.nil
 | k::ks=>.cons (.int k) (ZmD ks)
noncomputable def Zm2: List T→Option T
 | [.lst ts]=>(Zc2 ts).bind fun ns=>if ts.length<64 then some (.lst ((Zc3 ns).map T.int))else none
 | _=>none
theorem ZwI: OCn ZjZ Zm2:=fun H vs ts t F hp r h=>by
 unfold Zm2 at h
 split at h
 ·obtain⟨v,rfl,r'⟩:=r.one_inv
  cases r' with
  | ref e hs=>
   obtain⟨ks,h1,h⟩:=Zz0.mp h
   split at h
   ·rename_i h64
    cases h
    refine⟨_,[(Zc3 ks).map V.int],_,?_,ZdG (ZmD (Zc3 ks)),fun a m=>?_,fun _=>?_⟩
    ·simp only[ZjZ,e,Option.bind_some,ZjR hs h1]
     rw[if_pos (by rw[hs.length];exact h64)]
    ·rcases Zz7.mp m with rfl | m
     ·exact .inl (Zz10 _)
     ·cases m
    ·simp
   ·cases h
 ·cases h
noncomputable def Znn(p q r:PE): PE:=fun σ=>(p σ).bind fun t=>(q σ).bind fun k=>(r σ).bind fun b=>match t,k,b with
 | .lst ts,.int k,.int b=>(Zc2 ts).bind fun ns=>if b=1∧k∈ns.drop 1 then some (.int ((1+(ns.drop 1).idxOf k:Nat):Int))else none
 | _,_,_=>none
section
variable {O N M K:List Nat} {u u' u'':Bool}
theorem E.index{e1 e2 e3:Ex}{p1 p2 p3:PE}(x:E O N u e1 p1)(y:E O M u' e2 p2)(z:E O K u'' e3 p3): E O [] true (Znm e1 e2 e3) (Znn p1 p2 p3):=fun c ρ σ H Φ t s h=>by
 obtain⟨t1,h1,h⟩:=Zz0.mp h
 obtain⟨t2,h2,h⟩:=Zz0.mp h
 obtain⟨t3,h3,h⟩:=Zz0.mp h
 obtain⟨v1,X,F1,a1,a2,_,_⟩:=x c ρ σ H Φ t1 s h1
 obtain⟨v2,Y,F2,b1,b2,_,_⟩:=y c ρ σ (H++X) Φ t2 (s.ext X) h2
 obtain⟨v3,Z,F3,c1,c2,_,_⟩:=z c ρ σ (H++X++Y) Φ t3 ((s.ext X).ext Y) h3
 have a3:=(a2.ext Y).ext Z
 split at h
 ·obtain⟨ns,e1,h⟩:=Zz0.mp h
  split at h
  ·rename_i hc
   cases h
   cases b2
   cases c2
   cases a3 with
   | ref e hs=>
    refine⟨_,X++Y++Z,[],?_,.int _,by simp,by simp⟩
    have e':=e
    simp only[Znm,a1,b1,c1,Option.bind_some,Zkk,e',ZjR hs e1]
    rw[if_pos hc]
    simp
  ·cases h
 ·cases h
end
section
variable {σ:TL} {Q:T→Prop}
end
end TM
end
section
namespace TM
open PySem PM
theorem ZpC{nx:Nx}{put:V→Lc→Option Lc}{b:Sm}(hp:∀v ρ ρ',put v ρ=some ρ'→ρ' 0=ρ 0)(hb:Keep0 b): ∀n i,Keep0 (Zc1 nx put b n i)
 | 0,_=>fun _ _ _ h=>by cases h
 | n+1,i=>fun ρ H r h=>by
  obtain⟨o,_,h⟩:=Zz0.mp h
  split at h
  ·cases h;rfl
  ·obtain⟨ρ1,e1,h⟩:=Zz0.mp h
   obtain⟨q,e2,h⟩:=Zz0.mp h
   have k:=(hb _ _ _ e2).trans (hp _ _ _ e1)
   split at h
   ·cases h;exact k
   ·exact(ZpC hp hb n (i+1) _ _ _ h).trans k
theorem Zqd{g:Src}{put:V→Lc→Option Lc}{b:Sm}(hp:∀v ρ ρ',put v ρ=some ρ'→ρ' 0=ρ 0)(hb:Keep0 b): Keep0 (Zcb g put b):=fun ρ H r h=>by
 obtain⟨z,_,h⟩:=Zz0.mp h
 exact ZpC hp hb _ _ _ _ _ h
theorem ZpD{i:Nat}(hi:0≠i): ∀v ρ ρ',PM.put1 i v ρ=some ρ'→ρ' 0=ρ 0:=fun v ρ ρ' h=>by
 cases h
 simp[upd,hi]
end TM
end
section
namespace My
open PySem
section
variable {prog:Program} {w:World} {A:Around} {E:Value→Shared→Prop} {s:Shared}
theorem fill_range{R:Result→Shared→Prop}{r:Addr}{a b c:Int}{t u v:Tok}{n:Nat}(hr:IsRange s.heap r a b c t u v)(hn:Builtin.Range.rangeSize a b c=n)(hlen:n≤2 ^ 24)(S:Addr)(res:Value)(c₀:Nat)
  (at_S:s.heap.get? S=some { cls:=.type "list",data:=.seq #[] c₀ }) (ito:Obj) {St:Nat→Heap→Prop} (W:Walks prog w A.in1 s.heap.objs.size [s.heap.objs.size] [s.heap.objs.size] n (fun i v=>∃t,v=.int (a+i*c) t) St)
  (st:∀g:Heap,g.get? s.heap.objs.size=some ito→St 0 g)
  (iter:∀(Q:Value→Shared→Prop) (E':Value→Shared→Prop),Q (.ref s.heap.objs.size) { s with heap:=s.heap.push ito }→wpAny (model prog w) A.in1 (pyIter (.ref r)) Q E' s) (hito:(s.heap.push ito).get? s.heap.objs.size=some ito)
  (out:∀g tk acc k,(∀b o,b≠S→s.heap.get? b=some o→g.get? b=some o)→g.get? S=some { cls:=.type "list",dict:=none,data:=.seq acc k,slots:=#[] }→ItemsOf (fun i v=>∃t,v=.int (a+i*c) t) acc n→R (.ok (.ret res)) { s with heap:=g,toks:=tk }):
  wpAny (model prog w) A.in1 (Builtin.List.listExtendWith (.ref S) (.ref r) res)
   (fun fin s'=>match fin with
    | .done f=>R (.ok f) s'
    | .again c'=>c'.quiet=true∧codeAny (model prog w) A c' R s') (fun e s'=>R (.error e) s') s:=by
 have ne_r:S≠r:=fun e=>by rw[e,hr]at at_S;simp at at_S
 have ne_I:S≠s.heap.objs.size:=Nat.ne_of_lt (Heap.lt_size at_S)
 have off:S∉[s.heap.objs.size]:=fun q=>ne_I (Zz9.mp q)
 have loop:∀(g:Heap) (k tk:Nat),g.get? s.heap.objs.size=some ito→(∀b o,b≠S→s.heap.get? b=some o→g.get? b=some o)→g.get? S=some { cls:=.type "list",data:=.seq #[] k } →
   codeAny (model prog w) A (.builtin "list.extend.loop" ⟨[.ref S,.ref s.heap.objs.size,res],[]⟩) R { s with heap:=g,toks:=tk }:=by
  intro g k tk at_I keeps at_S'
  refine codeAny_extend_loopS W.toS (by rw[sizeLine_eq];omega) S off res n 0 _ #[] k rfl (Nat.zero_le _) (st _ at_I) at_S' (ItemsOf.nil _) fun s' acc k' mv at_S'' its=>?_
  rw[Moved.eq_with mv]
  refine out s'.heap s'.toks acc k' (fun b o bS e=>mv.heap b o (fun q=>?_) (keeps b o bS e)) at_S'' its
  rcases Zz7.mp q with q | q
  ·exact bS q
  ·exact absurd (Heap.lt_size e) (by rw[List.mem_singleton.mp q];exact Nat.lt_irrefl _)
 unfold Builtin.List.listExtendWith
 refine wpAny_bind (wpAny_typeOf (T:="range") ⟨_,hr,rfl⟩ ?_)
 have z1:Builtin.List.listSameRef (.ref S) (.ref r)=false:=by simp[Builtin.List.listSameRef,ne_r]
 have z2:(Value.type "range" == Value.type "list")=false:=by decide
 have z3:(Value.type "range" == Value.type "tuple")=false:=by decide
 simp only[z1,z2,z3,Bool.or_false,Bool.false_eq_true,if_false]
 refine wpAny_bind (iter _ _ ?_)
 refine wpAny_bind (wpAny_holding (wpAny_hint_range (n:=n) (Heap.get?_push_of_some _ hr) hn hlen ?_))
 have at_S1:=Heap.get?_push_of_some ito at_S
 refine wpAny_ite_split (fun _=>?_) (fun _=>wpAny_pure ⟨plainId_quiet F.plain_extend_loop _,loop _ c₀ _ hito (fun b o _ e=>Heap.get?_push_of_some _ e) at_S1⟩)
 refine wpAny_bind (wpAny_rule ?_);refine wpAny_bind ?_
 show wpAny _ _ (updateSeq S (·.push .none) >>= fun _=>updateSeq S (·.pop)) _ _ _;refine wpAny_bind (wpAny_updateSeq at_S1 rfl ?_)
 have at_S2:=Heap.get?_update_self (Obj.mapSeq (·.push Value.none)) at_S1 rfl
 refine wpAny_updateSeq (hz:=by seq_fits) at_S2 rfl ?_
 have at_S3:=Heap.get?_update_self (Obj.mapSeq (·.pop)) at_S2 rfl
 refine wpAny_pure ⟨plainId_quiet F.plain_extend_loop _,loop _ _ _ ?_ (fun b o bS e=>?_) at_S3⟩
 ·exact(Heap.get?_update_other _ _ ne_I).trans ((Heap.get?_update_other _ _ ne_I).trans hito)
 ·exact(Heap.get?_update_other _ _ (Ne.symm bS)).trans ((Heap.get?_update_other _ _ (Ne.symm bS)).trans (Heap.get?_push_of_some _ e))
theorem fill_any{R:Result→Shared→Prop}{r:Addr}{a b c:Int}{t u v:Tok}{n:Nat}(hh:A.handled=none)(hr:IsRange s.heap r a b c t u v)(hn:Builtin.Range.rangeSize a b c=n)(hlen:n≤2 ^ 24)(S:Addr)(res:Value)(c₀:Nat)
  (at_S:s.heap.get? S=some { cls:=.type "list",data:=.seq #[] c₀ })
  (out:∀g tk acc k,(∀b o,b≠S→s.heap.get? b=some o→g.get? b=some o)→g.get? S=some { cls:=.type "list",dict:=none,data:=.seq acc k,slots:=#[] }→ItemsOf (fun i v=>∃t,v=.int (a+i*c) t) acc n→R (.ok (.ret res)) { s with heap:=g,toks:=tk }):
  wpAny (model prog w) A.in1 (Builtin.List.listExtendWith (.ref S) (.ref r) res)
   (fun fin s'=>match fin with
    | .done f=>R (.ok f) s'
    | .again c'=>c'.quiet=true∧codeAny (model prog w) A c' R s') (fun e s'=>R (.error e) s') s:=by
 by_cases sm:Builtin.Range.small a b c=true
 ·refine fill_range hr hn hlen S res c₀ at_S _ (Walks.range (prog:=prog) (w:=w) (A:=A.in1) hh s.heap.objs.size a c n) (fun g at_g=>?_) (fun Q' E' q=>wpAny_pyIter_range hr sm q) (Heap.get?_push_size _ rfl) out
  show IsRangeIter _ _ _ _ _
  rw[hn]at at_g
  simpa using at_g
 ·refine fill_range hr hn hlen S res c₀ at_S _ (Walks.longrange (prog:=prog) (w:=w) (A:=A.in1) hh s.heap.objs.size a c n) (fun g at_g=>?_) (fun Q' E' q=>wpAny_pyIter_longrange hr (by simpa using sm) q) (Heap.get?_push_size _ rfl) out
  show IsLongIter _ _ _ _ _
  rw[hn]at at_g
  simpa using at_g
theorem list_any{Q:Value→Shared→Prop}{r:Addr}{a b c:Int}{t u v:Tok}{n:Nat}(hh:A.handled=none)(hr:IsRange s.heap r a b c t u v)(hn:Builtin.Range.rangeSize a b c=n)(hlen:n≤2 ^ 24)
  (out:∀g tk acc k,(∀b o,s.heap.get? b=some o→g.get? b=some o)→g.get? s.heap.objs.size=some { cls:=.type "list",dict:=none,data:=.seq acc k,slots:=#[] }→ItemsOf (fun i v=>∃t,v=.int (a+i*c) t) acc n →
   Q (.ref s.heap.objs.size) { s with heap:=g,toks:=tk }):
  wpAny (model prog w) A (call (.type "list") [.ref r]) Q E s:=by
 refine callType_codes (Q₁:=fun obj s₁=>obj=.ref s.heap.objs.size∧s₁ = { s with heap:=s.heap.push { cls:=.type "list",data:=.seq #[] } }) F.called_list (F.typeCall_list_1 _) F.entry_list_init (code_list_new _ ⟨rfl,rfl⟩) fun obj s₁ h₁=>?_
 obtain⟨rfl,rfl⟩:=h₁
 have at_S:(s.heap.push { cls:=.type "list",data:=.seq #[] }).get? s.heap.objs.size=some { cls:=.type "list",data:=.seq #[] }:=Heap.get?_push_size _ rfl
 refine⟨⟨_,at_S,rfl⟩,F.args_list_init_2 _ _,?_⟩
 have hr':=Heap.get?_push_of_some { cls:=.type "list",data:=.seq #[] } hr
 have ne_r:s.heap.objs.size≠r:=fun e=>absurd (Heap.lt_size hr) (by rw[←e];exact Nat.lt_irrefl _)
 show wpAny _ _ (do let old ←Builtin.List.listItems (.ref s.heap.objs.size);Builtin.List.listUpdate (.ref s.heap.objs.size) (fun _=>#[]);letGo old.toList.reverse;Builtin.List.listExtendWith (.ref s.heap.objs.size) (.ref r) .none) _ _ _
 refine wpAny_bind ?_;unfold Builtin.List.listItems;refine wpAny_bind (wpAny_seqItems at_S rfl (wpAny_pure ?_))
 show wpAny _ _ (updateSeq s.heap.objs.size (fun _=>#[]) >>= fun _=>letGo (#[]:Array Value).toList.reverse >>= fun _=>Builtin.List.listExtendWith (.ref s.heap.objs.size) (.ref r) .none) _ _ _
 refine wpAny_bind (wpAny_updateSeq at_S rfl ?_)
 have at_S2:=Heap.get?_update_self (Obj.mapSeq (fun _=>(#[]:Array Value))) at_S rfl
 have oth:∀b o,b≠s.heap.objs.size→s.heap.get? b=some o→((s.heap.push { cls:=.type "list",data:=.seq #[] }).update s.heap.objs.size (Obj.mapSeq (fun _=>(#[]:Array Value)))).get? b=some o:=fun b o hb e=>(Heap.get?_update_other _ _ (Ne.symm hb)).trans (Heap.get?_push_of_some _ e)
 have hr2:=oth r _ (Ne.symm ne_r) hr
 refine wpAny_bind (wpAny_letGo ?_)
 refine' fill_any (t:=t) (u:=u) (v:=v) (A:=A.in1) (R:=wants (fun r s₂=>r=Value.none∧Q (Value.ref s.heap.objs.size) s₂) E) hh ?_ hn hlen s.heap.objs.size .none ?k0 ?k2 fun g tk acc k keeps at_g its=>?k3
 case k2=>exact at_S2
 ·exact hr2
 case k3=>exact⟨rfl,out g tk acc k (fun b o e=>keeps b o (Nat.ne_of_lt (Heap.lt_size e)) (oth b o (Nat.ne_of_lt (Heap.lt_size e)) e)) at_g its⟩
end
end My
end
section
namespace PM
open PySem PySem.W PySem.Calls PyProof.Rows PyProof
noncomputable def ZdB(a:Int)(n:Nat): List V:=(List.range n).map fun(i:Nat)=>V.int (a+i)
noncomputable def Ziu: List V→Hp→Option (V×Hp)
 | [.int a,.int b],H=>if 0≤b-a∧b-a≤1000 then some (.ref H.length,H++[ZdB a (b-a).toNat])else none
 | _,_=>none
theorem ZwJ{W:Wd}{a:Int}: ∀{n:Nat} {xs:List Value},xs.length=n→(∀(j:Nat) (v:Value),xs[j]?=some v→∃t:Tok,v=Value.int (a+(j:Int)*1) t)→VRs W (ZdB a n) xs:=by
 intro n
 induction n generalizing a with
 | zero=>
  intro xs hl _
  have:xs=[]:=List.length_eq_zero_iff.mp hl
  subst this
  exact .nil
 | succ n ih=>
  intro xs hl hv
  cases xs with
  | nil=>cases hl
  | cons v xs=>
   obtain⟨t,e⟩:=hv 0 v rfl
   subst e
   have r:ZdB a (n+1)=V.int (a+((0:Nat):Int)*1)::ZdB (a+1) n:=by
    simp only[ZdB,List.range_succ_eq_map,List.map_cons,List.map_map]
    refine congr (congrArg _ (congrArg _ (by omega))) ?_
    apply List.map_congr_left
    intro i _
    show V.int _=V.int _
    congr 1
    simp only[Nat.succ_eq_add_one]
    omega
   rw[r]
   refine .cons (.int _ t) (ih (by simpa using hl) fun j u hu=>?_)
   obtain⟨t',e'⟩:=hv (j+1) u (by simpa using hu)
   refine⟨t',?_⟩
   rw[e']
   congr 1
   omega
section
variable {prog:Program} {w:World} {Γ:Cx}
theorem ZxS{x x2:Str}{np pos np2 pos2:Pos}{e:Expr}{es:List Expr}{g:Exs}(hn:Nm prog w Γ x (.type "list"))(hr:Nm prog w Γ x2 (.type "range"))(h:Js prog w Γ (e::es) g)
  (he:starEach (e::es) Γ.env=(false,eval e Γ.env)::starEach es Γ.env:=by rfl) (hp:∀pos,(backTo pos (starEach es Γ.env)).any (·.1)=false:=by intro _;rfl):J prog w Γ (.Call (.Name x np) [.Call (.Name x2 np2) (e::es) [] pos2] [] pos) (ZU Ziu g):=by
 intro W ρ H fr s Q E v H' r hf post
 obtain⟨p,e1,hf⟩:=Zz0.mp hf
 refine wpAny_Call_ofName (hn.use r ?_)
 refine PySem.Pv.callWith_type1 (wpAny_items_cons (wpAny_Call_ofName (hr.use r (PySem.Pv.callWith_type1 (h pos2 W ρ H fr s _ E _ _ r e1 fun W1 k1 t1 xs l1 r1 x1=>?_) he (hp pos2)))) rfl) rfl rfl
 obtain⟨vs,H1⟩:=p
 dsimp only at hf x1 r1
 unfold Ziu at hf
 split at hf
 ·obtain⟨y,z,ex,ry,rz⟩:=x1.two
  subst ex
  cases ry
  cases rz
  split at hf
  ·rename_i _ _ a b _ _ hc
   cases hf
   refine call_range_2 (wpAny_items_nil ?_)
   refine My.list_any (n:=(b-a).toNat) Γ.hh (IsRange.new ..) ?_ (by omega) fun g tk acc k up hg its=>?_
   ·unfold Builtin.Range.rangeSize
    rw[if_pos (by decide)]
    split
    ·omega
    ·omega
   have e:acc=acc.toList.toArray:=by simp
   obtain⟨W2,l2,r2,v2⟩:=(r1.push _).listAt (xs:=acc.toList) up (by rw[hg]) (ZwJ (a:=a) (n:=(b-a).toNat) (by have:=its.1;simpa using this) fun j v hv=>its.2 j v (by simpa using hv)) (by simp[ZdB,LEN];omega)
   exact post W2 g tk _ (l1.trans l2) r2 v2
  ·cases hf
 ·cases hf
end
end PM
end
section
namespace TM
open PySem PM
noncomputable def Ziv: List T→Option T
 | [.int a,.int b]=>if 0≤b-a∧b-a≤1000 then some (.lst (tab (b-a).toNat fun i=>.int (a+i)))else none
 | _=>none
theorem ZxT: OCn Ziu Ziv:=fun H vs ts t F hp r h=>by
 unfold Ziv at h
 split at h
 ·split at h
  ·rename_i a b hc
   cases h
   cases r with
   | cons r1 r2=>
   obtain⟨v,rfl,r'⟩:=r2.one_inv
   cases r1
   cases r'
   have e1:ZdB a (b-a).toNat=((List.range (b-a).toNat).map fun(i:Nat)=>a+(i:Int)).map V.int:=by rw[ZdB,List.map_map];rfl
   have e2:(tab (b-a).toNat fun i=>T.int (a+i))=((List.range (b-a).toNat).map fun(i:Nat)=>a+(i:Int)).map T.int:=by rw[tab,List.map_map];rfl
   refine⟨_,[ZdB a (b-a).toNat],_,by simp only[Ziu];rw[if_pos hc],by rw[e1,e2];exact ZdG (ZmD _),fun q m=>?_,fun _=>?_⟩
   ·rcases Zz7.mp m with rfl | m
    ·exact .inl (Zz10 _)
    ·cases m
   ·simp
  ·cases h
 ·cases h
section
variable {Q:T→Prop}
theorem ZwK{a b:Int}{n:Nat}(h:b=a+n)(hn:n≤1000)(q:Q (.lst (tab n fun i=>.int (a+i)))): Pk (Ziv [.int a,.int b]) Q:=by
 refine⟨_,?_,q⟩
 simp only[Ziv]
 rw[if_pos (by omega),show(b-a).toNat=n by omega]
end
end TM
end
section
namespace TM
open PySem PM
def EN(O N:List Nat)(e:Ex)(p:PE): Prop:=∀(c:Ctx) (ρ:Lc) (σ:TL) (H:Hp) (Φ:Nat→List Nat) (ts:List T),St c O ρ σ H Φ→p σ=some (.lst ts) →
 ∃a vs X F,e ρ H=some (.ref a,H++X)∧(H++X)[a]?=some vs∧RFs (H++X) vs ts F∧H.length≤a∧a∉F∧∀b∈F,From H N σ Φ b
section
variable {O N M K:List Nat} {u u':Bool}
theorem EN.own{e:Ex}{p:PE}(x:E O [] true e p): EN O [] e p:=fun c ρ σ H Φ ts s h=>by
 obtain⟨v,X,F,a1,a2,a3,a4⟩:=x c ρ σ H Φ _ s h
 cases a2 with
 | @ref a vs _ G e1 hs=>
  have nd:=a4 rfl
  rw[List.nodup_cons]at nd
  exact⟨a,vs,X,G,a1,e1,hs,(a3 a Zz5).nil,nd.1,fun b m=>a3 b (Zz2 _ m)⟩
theorem ZAF{e:Ex}{p:PE}{lo hi:Pt}{plo phi:PPt}(x:E O N u e p)(y:Pe O lo plo)(z:Pe O hi phi): EN O N (ZcZ e lo hi) (Zci p plo phi):=fun c ρ σ H Φ ts0 s h=>by
 obtain⟨t1,h1,h⟩:=Zz0.mp h
 obtain⟨a,h2,h⟩:=Zz0.mp h
 obtain⟨b,h3,h⟩:=Zz0.mp h
 obtain⟨v,X,F,a1,a2,a3,a4⟩:=x c ρ σ H Φ t1 s h1
 obtain⟨o1,Y,b1,b2⟩:=y c ρ σ (H++X) Φ a (s.ext X) h2
 obtain⟨o2,Z,c1,c2⟩:=z c ρ σ (H++X++Y) Φ b ((s.ext X).ext Y) h3
 cases a2 with
 | none=>cases h
 | bool=>cases h
 | int=>cases h
 | str=>cases h
 | tup=>cases h
 | @ref i vs ts F e1 hs=>
 cases h
 have e3:((H++X)++(Y++Z))[i]?=Option.some vs:=by rw[List.getElem?_append_left (Zz6.mp e1).1];exact e1
 have hs':=hs.ext (Y++Z)
 have hlen:=hs.length
 obtain⟨G,g1,g2⟩:=hs'.pick (sliceRange (sliceBounds a b none vs.length).1 (sliceBounds a b none vs.length).2.1 (sliceBounds a b none vs.length).2.2)
 have g1':RFs (H++X++(Y++Z)) (ZaL vs a b) (ZaL ts a b) G:=by unfold ZaL;rw[←hlen];exact g1
 refine⟨(H++X++(Y++Z)).length,ZaL vs a b,X++(Y++Z)++[ZaL vs a b],G,?_,?_,?_,?_,fun m=>?_,fun q m=>a3 q (Zz2 _ (g2 q m))⟩
 ·simp only[ZcZ,a1,Option.bind_some,b1,c1,b2,c2]
  rw[List.append_assoc (H++X),e3]
  simp
 ·simp
 ·have:=g1'.ext [ZaL vs a b]
  simpa using this
 ·simp
 ·exact absurd (g1'.lt _ m) (Nat.lt_irrefl _)
end
section
variable {R:T→Prop} {N:TL→Prop} {σ:TL}
end
end TM
end
section
open PySem PySem.W PySem.Calls PyProof.Rows
namespace PM
section
variable {prog:Program} {w:World} {Γ:Cx}
theorem ZwL{e:Expr}{lo hi:Option Expr}{p pos:Pos}{f:Ex}{a b:Pt}(h:J prog w Γ e f)(hlo:JP prog w Γ lo a)(hhi:JP prog w Γ hi b)(hs:∀a c,subscripted (.Slice lo hi Option.none p) false (.ref a) (.ref c)=operate [.ref c,.ref a] (getItem (.ref a) (.ref c)):=by intros;with_unfolding_all rfl): J prog w Γ (.Subscript e (.Slice lo hi Option.none p) pos) (ZcZ f a b):=by
 intro W ρ H fr s Q E v H' r hf post
 obtain⟨p,e1,hf⟩:=Zz0.mp hf
 obtain⟨q,e2,hf⟩:=Zz0.mp hf
 obtain⟨u,e3,hf⟩:=Zz0.mp hf
 obtain⟨ka,e4,hf⟩:=Zz0.mp hf
 obtain⟨kb,e5,hf⟩:=Zz0.mp hf
 refine Subscript_ (h W ρ H fr s _ E _ _ r e1 fun W1 k1 t1 x l1 r1 x1=>?_)
 refine wpAny_Slice (hlo W1 ρ _ fr _ _ E _ _ r1 e2 fun W2 k2 t2 y l2 r2 y2=>?_)
 refine hhi W2 ρ _ fr _ _ E _ _ r2 e3 fun W3 k3 t3 z l3 r3 z3=>?_
 have x3:=x1.mono (l2.trans l3)
 obtain⟨v1,H1⟩:=p
 simp only at hf x3
 cases x3 with
 | none=>cases hf
 | bool _=>cases hf
 | int _ _=>cases hf
 | str _ _=>cases hf
 | tup _ _ _=>cases hf
 | @ref i a ea=>
  obtain⟨vs,hvs,e6⟩:=Zz0.mp hf
  cases e6
  obtain⟨hl,xs,kk,hg,hv⟩:=r3.at hvs ea
  have isl:k3.IsList a xs.toArray:=⟨_,hg,rfl,kk,rfl⟩
  have hp:VRs W3 (ZaL vs ka kb) (ZaL xs ka kb):=by
   unfold ZaL
   rw[hv.length]
   exact hv.pick _
  have hx:slicePick xs.toArray ka kb Option.none=(ZaL xs ka kb).toArray:=by
   unfold slicePick ZaL
   simp
  obtain⟨W4,l4,r4,v4⟩:=(r3.push { cls:=.type "slice",data:=.fields #[y,z,.none] }).list (k:=0) hp (Nat.le_trans (ZqE vs ka kb) hl)
  have hQ:=post W4 _ t3 _ (((l1.trans l2).trans l3).trans l4) r4 v4
  rw[evalPart_none]
  refine wpAny_pure (kba_turn (value':=.Name (Str.ofString "_") ⟨0,0,0,0⟩) (fun _=>rfl) ?_)
  refine subscriptTail_ops (T:="list") ((isl.push _).typeIs) list_getitem_lookup ?_ (hs _ _) (fun _=>rfl)
  refine wpAny_getItem_list_slice (isl.push _) (Heap.IsSliceOf.new ..) ((y2.mono l3).part e4) (z3.part e5) .none (by simp) ?_ (ZcD (by simp[hv.length];exact hl))
  rw[hx]
  exact hQ
end
end PM
end
section
namespace PM
open PySem PySem.W PySem.Calls PyProof.Rows PyProof PySem.Spec
noncomputable def Zkl: Expr→Bool
 | .Starred _ _=>true
 | _=>false
theorem ZnL{e:Expr}{es:List Expr}{env:Env}(h:Zkl e=false): starEach (e::es) env=(false,eval e env)::starEach es env:=by
 cases e <;> first | rfl | cases h
noncomputable def Zkm: List Expr→Bool
 | []=>true
 | e::es=>!Zkl e && Zkm es
theorem ZsA{env:Env}: ∀{es:List Expr} (pos:Pos),Zkm es=true→(backTo pos (starEach es env)).any (·.1)=false
 | [],pos,_=>by rfl
 | e::es,pos,h=>by
  simp only[Zkm,Bool.and_eq_true,Bool.not_eq_true']at h
  have ih:=ZsA (env:=env) (es:=es) pos h.2
  rw[ZnL h.1]
  unfold backTo at ih ⊢
  simp only[List.map_cons,List.any_cons,Bool.false_or]
  exact ih
section
variable {prog:Program} {w:World} {Γ:Cx}
theorem jc{e:Expr}{es:List Expr}{f:Ex}{g:Exs}(h1:J prog w Γ e f)(h2:Js prog w Γ es g)(hs:Zkl e=false:=by exact rfl): Js prog w Γ (e::es) (Zt f g):=Zxa h1 h2 (ZnL hs)
end
section
variable {prog:Program} {w:World} {K:Frag} {p:Program} {loose:List Str} {mean:ExcName→Option Value} {mg mb:Str→Option Value}
theorem ZwM{f:Addr}{room:Nat}: Def prog w K p loose mean mg mb f room (fun _ _=>none):=by
 intro Γ dp un clr hd hu W ρ H fr s Q E as xs v H' r hx hF post
 cases hF
end
end PM
end
section
namespace PM
open PySem PySem.W PySem.Calls PyProof.Rows PyProof PySem.Spec
section
variable {prog:Program} {w:World} {Γ:Cx}
theorem ln1{α:Type _}: ∀{xs:List α},xs.length=1→∃x0,xs=[x0]
 | [x0],_=>⟨x0,rfl⟩
theorem ln2{α:Type _}: ∀{xs:List α},xs.length=2→∃x0 x1,xs=[x0,x1]
 | [x0,x1],_=>⟨x0,x1,rfl⟩
theorem ln3{α:Type _}: ∀{xs:List α},xs.length=3→∃x0 x1 x2,xs=[x0,x1,x2]
 | [x0,x1,x2],_=>⟨x0,x1,x2,rfl⟩
theorem ln4{α:Type _}: ∀{xs:List α},xs.length=4→∃x0 x1 x2 x3,xs=[x0,x1,x2,x3]
 | [x0,x1,x2,x3],_=>⟨x0,x1,x2,x3,rfl⟩
theorem ln5{α:Type _}: ∀{xs:List α},xs.length=5→∃x0 x1 x2 x3 x4,xs=[x0,x1,x2,x3,x4]
 | [x0,x1,x2,x3,x4],_=>⟨x0,x1,x2,x3,x4,rfl⟩
theorem ln6{α:Type _}: ∀{xs:List α},xs.length=6→∃x0 x1 x2 x3 x4 x5,xs=[x0,x1,x2,x3,x4,x5]
 | [x0,x1,x2,x3,x4,x5],_=>⟨x0,x1,x2,x3,x4,x5,rfl⟩
theorem ln7{α:Type _}: ∀{xs:List α},xs.length=7→∃x0 x1 x2 x3 x4 x5 x6,xs=[x0,x1,x2,x3,x4,x5,x6]
 | [x0,x1,x2,x3,x4,x5,x6],_=>⟨x0,x1,x2,x3,x4,x5,x6,rfl⟩
theorem jI{k:Int}{n:Nat}{pos:Pos}: J prog w Γ (.Constant (.int k) n pos) (ZR k):=J.int _ _ _
theorem jN{n:Nat}{pos:Pos}: J prog w Γ (.Constant .none n pos) Zaq:=J.none _ _
theorem jB{b:Bool}{n:Nat}{pos:Pos}: J prog w Γ (.Constant (.bool b) n pos) (Zkz b):=J.bool _ _ _
theorem jS{x:Str}{n:Nat}{pos:Pos}: J prog w Γ (.Constant (.str x) n pos) (Ze7 x):=J.str _ _ _
theorem cO{elt iter:Expr}{x:Str}{px:Pos}{ifs:List Expr}{scope:Scope}{pos:Pos}{cl:List (Str×Addr)}{t:Nat}{g:Src}{c:Ts}{f:Ex}(hg:JI prog w Γ iter g)(hel:∀C ρ,J prog w (Za3 Γ scope cl C [(x,t)] ρ) elt f)(hif:∀C ρ,JF prog w (Za3 Γ scope cl C [(x,t)] ρ) ifs c)
  (hclos:closureFor scope Γ.env=pure cl:=by with_unfolding_all rfl) (hcell:∀y∈scope.names,y.2≠.cell:=by decide) (hkind:scope.kind=.function:=by exact rfl) (hnames:∀y∈scope.names,y.2=.local→scope.names.lookup y.1=some .local:=by decide) (hx:scope.names.lookup x=some .local:=by exact rfl) (hs:∀x,foldedSetIterable iter Γ.env x=pure x:=by intro _;rfl):
  J prog w Γ (.ListComp elt [⟨.Name x px,iter,ifs,0⟩] scope pos) (ZbL g (put1 t) c f):=ZyC hg hel hif hclos hcell hkind hnames hx hs
theorem cT{elt iter:Expr}{x x₂:Str}{px px₂ tp:Pos}{kt:Nat}{scope:Scope}{pos:Pos}{cl:List (Str×Addr)}{t t₂:Nat}{g:Src}{f:Ex}(hg:JI2 prog w Γ iter g)(hel:∀C ρ,J prog w (Za3 Γ scope cl C [(x,t),(x₂,t₂)] ρ) elt f)
  (hclos:closureFor scope Γ.env=pure cl:=by with_unfolding_all rfl) (hcell:∀y∈scope.names,y.2≠.cell:=by decide) (hkind:scope.kind=.function:=by exact rfl) (hnames:∀y∈scope.names,y.2=.local→scope.names.lookup y.1=some .local:=by decide) (hx:scope.names.lookup x=some .local:=by exact rfl) (hx₂:scope.names.lookup x₂=some .local:=by exact rfl) (hxx:x≠x₂:=by decide) (htt:t≠t₂:=by decide) (hs:∀x,foldedSetIterable iter Γ.env x=pure x:=by intro _;rfl):
  J prog w Γ (.ListComp elt [⟨.Tuple [.Name x px,.Name x₂ px₂] kt tp,iter,[],0⟩] scope pos) (ZbL g (Zdi t t₂) ZbP f):=Zxf hg hel hclos hcell hkind hnames hx hx₂ hxx htt hs
theorem sO{elt iter:Expr}{x y:Str}{px py pos spos:Pos}{ifs:List Expr}{scope:Scope}{cl:List (Str×Addr)}{t i:Nat}{g:Src}{c:Ts}{f:Ex}(hy:Sto prog w Γ y i)(hg:JI prog w Γ iter g)(hel:∀C ρ,J prog w (Za3 Γ scope cl C [(x,t)] ρ) elt f)(hif:∀C ρ,JF prog w (Za3 Γ scope cl C [(x,t)] ρ) ifs c)
  (hsw:swapsWith (.ListComp elt [⟨.Name x px,iter,ifs,0⟩] scope pos) (some (.Name y py)) spos.line Γ.env=pure true:=by rfl)
  (hclos:closureFor scope Γ.env=pure cl:=by with_unfolding_all rfl) (hcell:∀y∈scope.names,y.2≠.cell:=by decide) (hkind:scope.kind=.function:=by exact rfl) (hnames:∀y∈scope.names,y.2=.local→scope.names.lookup y.1=some .local:=by decide) (hx:scope.names.lookup x=some .local:=by exact rfl) (hs:∀x,foldedSetIterable iter Γ.env x=pure x:=by intro _;rfl):
  S1 prog w Γ (.Assign [.Name y py] (.ListComp elt [⟨.Name x px,iter,ifs,0⟩] scope pos) spos) (Zar i (ZbL g (put1 t) c f)):=ZuR hy hg hel hif hsw hclos hcell hkind hnames hx hs
theorem sT{elt iter:Expr}{x x₂ y:Str}{px px₂ tp py pos spos:Pos}{kt:Nat}{scope:Scope}{cl:List (Str×Addr)}{t t₂ i:Nat}{g:Src}{f:Ex}(hy:Sto prog w Γ y i)(hg:JI2 prog w Γ iter g)(hel:∀C ρ,J prog w (Za3 Γ scope cl C [(x,t),(x₂,t₂)] ρ) elt f)
  (hsw:swapsWith (.ListComp elt [⟨.Tuple [.Name x px,.Name x₂ px₂] kt tp,iter,[],0⟩] scope pos) (some (.Name y py)) spos.line Γ.env=pure true:=by rfl)
  (hclos:closureFor scope Γ.env=pure cl:=by with_unfolding_all rfl) (hcell:∀y∈scope.names,y.2≠.cell:=by decide) (hkind:scope.kind=.function:=by exact rfl) (hnames:∀y∈scope.names,y.2=.local→scope.names.lookup y.1=some .local:=by decide) (hx:scope.names.lookup x=some .local:=by exact rfl) (hx₂:scope.names.lookup x₂=some .local:=by exact rfl) (hxx:x≠x₂:=by decide) (htt:t≠t₂:=by decide) (hs:∀x,foldedSetIterable iter Γ.env x=pure x:=by intro _;rfl):
  S1 prog w Γ (.Assign [.Name y py] (.ListComp elt [⟨.Tuple [.Name x px,.Name x₂ px₂] kt tp,iter,[],0⟩] scope pos) spos) (Zar i (ZbL g (Zdi t t₂) ZbP f)):=Zus hy hg hel hsw hclos hcell hkind hnames hx hx₂ hxx htt hs
end
section
variable {prog:Program} {w:World} {dp un:Nat} {gd:Option (List Code)} {cn:Str} {cs:Scope} {L a:Addr} {ccd:Value} {cl:List (Str×Addr)} {outer:List Env} {h₀:Heap} {hu:un+200<cLine} {names:List Str}
theorem vL{x:Str}{i:Nat}{pos:Pos}(hi:names[i]?=some x:=by rfl)(hx:cs.names.lookup x=some .local:=by exact rfl)(hk:cs.kind=.function:=by exact rfl)(hd:(x == ("__debug__":Str))=false:=by exact rfl): J prog w (Zbv dp un gd cn cs L a ccd cl outer h₀ hu names) (.Name x pos) (Zp i):=ZkB (ZyA hi hx hk hd)
theorem vC{x:Str}{i:Nat}{pos:Pos}(hi:names[i]?=some x:=by rfl)(hx:cs.names.lookup x=some .cell:=by exact rfl)(hk:cs.kind=.function:=by exact rfl)(hd:(x == ("__debug__":Str))=false:=by exact rfl): J prog w (Zbv dp un gd cn cs L a ccd cl outer h₀ hu names) (.Name x pos) (Zp i):=ZkB (ZyB hi hx hk hd)
theorem sL{x:Str}{i:Nat}(nd:names.Nodup:=by decide)(hi:names[i]?=some x:=by rfl)(hx:cs.names.lookup x=some .local:=by exact rfl)(hk:cs.kind=.function:=by exact rfl): Sto prog w (Zbv dp un gd cn cs L a ccd cl outer h₀ hu names) x i:=Zxc nd hi hx hk
theorem sC{x:Str}{i:Nat}(nd:names.Nodup:=by decide)(hi:names[i]?=some x:=by rfl)(hx:cs.names.lookup x=some .cell:=by exact rfl)(hk:cs.kind=.function:=by exact rfl)(hcl:(cl.lookup x).isSome=true:=by exact rfl): Sto prog w (Zbv dp un gd cn cs L a ccd cl outer h₀ hu names) x i:=Zxd nd hi hx hk hcl
end
section
variable {prog:Program} {w:World} {K:Frag} {p:Program} {loose:List Str} {mean:ExcName→Option Value} {mg mb:Str→Option Value} {Γ:Cx} {dp un:Nat}
theorem nB{x:Str}{v:Value}(clr:Clr K p loose mean mg mb Γ dp un)(e:nsIn K mainGlobals x=some Option.none:=by k_is)(hv:bootBuiltins x=some v:=by boot_by_name)(hn:x≠"__name__":=by decide)(hg:Γ.env.globals=mainGlobals:=by exact rfl)(hb:Γ.env.builtins=builtinsNs:=by exact rfl)(hk:Γ.env.scope.kind=.function:=by exact rfl)(hx:Γ.env.kindOf x=some .globalImplicit:=by exact rfl)(hd:(x == ("__debug__":Str))=false:=by exact rfl): Nm prog w Γ x v:=Zwm clr e hv hn hg hb hk hx hd
theorem cF{x:Str}{np pos:Pos}{f:Addr}{room:Nat}{e:Expr}{es:List Expr}{g:Exs}{o:List V→Hp→Option (V×Hp)}(clr:Clr K p loose mean mg mb Γ dp un)(D:Def prog w K p loose mean mg mb f room o)(h:Js prog w Γ (e::es) g)
  (en:nsIn K mainGlobals x=some (some (.ref f)):=by k_is) (hg:Γ.env.globals=mainGlobals:=by exact rfl) (hk:Γ.env.scope.kind=.function:=by exact rfl) (hx:Γ.env.kindOf x=some .globalImplicit:=by exact rfl) (hd0:(x == ("__debug__":Str))=false:=by exact rfl)
  (hkeep:keepIn K (.ref f)=true:=by k_is) (hd:dp+room<recursionLimit:=by omega) (hu:un+10*room+300<cLine:=by omega)
  (he:Zkl e=false:=by exact rfl) (hp:Zkm es=true:=by exact rfl):J prog w Γ (.Call (.Name x np) (e::es) [] pos) (ZU o g):=Zxg clr (ZyG clr en hg hk hx hd0) hkeep D hd hu h (ZnL he) (fun pos=>ZsA pos hp)
theorem ZP{name qual:Str}{params:Arguments}{body:List Stmt}{scope:Scope}{dV kV doc pm cdv ct oc:Value}{an od:Option Addr}{osl:Array (Option Value)}{f:Addr}{names:List Str}{n room:Nat}{g:Sm}
  (hbody:∀(dp un:Nat) (gd:Option (List Code)) (L:Addr) (outer:List Env) (h₀:Heap) (hu:un+200<cLine),Clr K p loose mean mg mb (Zbv dp un gd qual scope L f cdv (cellsFrom (L+1) scope.names []) outer h₀ hu names) dp un→dp+room<recursionLimit→un+10*room+300<cLine →
   Ss prog w (Zbv dp un gd qual scope L f cdv (cellsFrom (L+1) scope.names []) outer h₀ hu names) body g)
  (ho:K.lookup f=some ⟨oc,od,.func (fnOf name qual params body scope dV kV doc pm an cdv ct),osl⟩:=by k_is) (hcd:codeIn K cdv qual=true:=by k_is) (nd:names.Nodup:=by decide) (hn:n≤names.length:=by decide)
  (hbind:∀s xs,xs.length=n→BindsTo s (fnOf name qual params body scope dV kV doc pm an cdv ct) ⟨xs,[]⟩ ((names.take n).zip xs):=by
   intro s xs hx
   first
   | (obtain⟨x0,rfl⟩:=ln1 hx;exact BindsTo.of_eq rfl)
   | (obtain⟨x0,x1,rfl⟩:=ln2 hx;exact BindsTo.of_eq rfl)
   | (obtain⟨x0,x1,x2,rfl⟩:=ln3 hx;exact BindsTo.of_eq rfl)
   | (obtain⟨x0,x1,x2,x3,rfl⟩:=ln4 hx;exact BindsTo.of_eq rfl)
   | (obtain⟨x0,x1,x2,x3,x4,rfl⟩:=ln5 hx;exact BindsTo.of_eq rfl)
   | (obtain⟨x0,x1,x2,x3,x4,x5,rfl⟩:=ln6 hx;exact BindsTo.of_eq rfl)
   | (obtain⟨x0,x1,x2,x3,x4,x5,x6,rfl⟩:=ln7 hx;exact BindsTo.of_eq rfl)) (hkinds:∀x∈names.take n,scope.names.lookup x=some .local∨scope.names.lookup x=some .cell:=by decide) (hone:((cellsFrom 0 scope.names []).map (·.1)).Nodup:=by decide +kernel)
  (hco:scope.isCoroutine=false:=by exact rfl) (hgen:scope.isGenerator=false:=by exact rfl) (hk:scope.kind=.function:=by exact rfl):
  Def prog w K p loose mean mg mb f (room+1) (ZF n g):=Zr0 ho hcd nd hn hbind hkinds hone hco hgen hk hbody
end
section
variable {prog:Program} {w:World} {Γ:Cx} {scope:Scope} {cl:List (Str×Addr)} {C:Addr} {ts:List (Str×Nat)} {ρ0:Lc}
theorem vO{x:Str}{t:Nat}{pos:Pos}(hm:(x,t)∈ts:=by first | exact Zz5 | exact Zz2 _ Zz5)(hk:scope.kind=.function:=by exact rfl)(hl:(compEnvC scope cl C Γ.env).kindOf x=some .local:=by exact rfl)(hd:(x == ("__debug__":Str))=false:=by exact rfl): J prog w (Za3 Γ scope cl C ts ρ0) (.Name x pos) (Zp t):=ZkB (Zxi hm hk hl hd)
end
section
variable {prog:Program} {w:World} {dp un:Nat} {gd:Option (List Code)} {cn:Str} {cs:Scope} {L a:Addr} {ccd:Value} {clf:List (Str×Addr)} {outer:List Env} {h₀:Heap} {hu:un+200<cLine} {names:List Str} {scope:Scope} {cl:List (Str×Addr)} {C:Addr} {ts:List (Str×Nat)} {ρ0:Lc}
theorem vD{x:Str}{i:Nat}{pos:Pos}(hi:names[i]?=some x:=by rfl)(hx:cs.names.lookup x=some .cell:=by exact rfl)(hne:∀p∈ts,p.2≠i:=by decide)(hcl:cl.lookup x=clf.lookup x:=by exact rfl)(hk:scope.kind=.function:=by exact rfl)(hl:(compEnvC scope cl C (envX cn cs L a ccd clf)).kindOf x=some .cell:=by exact rfl)(hd:(x == ("__debug__":Str))=false:=by exact rfl):
  J prog w (Za3 (Zbv dp un gd cn cs L a ccd clf outer h₀ hu names) scope cl C ts ρ0) (.Name x pos) (Zp i):=ZkB (Zxj hi hx hne hcl hk hl hd)
end
end PM
end
noncomputable section
open PySem PM TM
namespace L
variable {H:Hp} {a:V} {t:T} {F:List Nat} {ρ:Lc} {σ:TL}
def Zg3: XS [] [] [] false:=⟨_,_,(Zm (ZG (i:=2) (O':=[]) (ZQ ZZ (ZQ Zbe (ZQ Zbe (Za 1) (Za 1)) (Zc 7919)) (Zc 11))) (Zm (ZK (Zw (Zr Zfb (Zag Zau (Zb (Za 0) Zd)) (Zc 0))) (ZG (i:=2) (O':=[]) (ZQ ZZ (Za 2) (Zo Zn (Za 0) (Zr ZaB (Za 1) (Zag Zau (Zb (Za 0) Zd)))))) ZM) (Zz (Za 2))))⟩
def Zo3:=ZF 2 (XS.g Zg3)
def ZlA:=ZI 2 (XS.q Zg3)
theorem Zo4: SimF false Zo3 ZlA:=ZT (XS.h Zg3)
def Zhn: XS [] [] [] false:=⟨_,_,(Zz (Zr ZaB (Zr ZaB (ZQ Zbe (Zs Zo4 (Zb (Za 0) (Zb (Za 1) Zd))) (Zc 48271)) (Zc 2147483647)) (Za 2)))⟩
def ZdN:=ZF 3 (XS.g Zhn)
def Zb0:=ZI 3 (XS.q Zhn)
theorem Zbg: SimF false ZdN Zb0:=ZT (XS.h Zhn)
def ZgU: XS [] [] [] false:=⟨_,_,(Zm (ZG (i:=2) (O':=[]) (Zs Zo4 (Zb (Za 0) (Zb (Za 1) Zd)))) (Zm (ZG (i:=3) (O':=[]) (Zo Zn (E.list (Zb (Zc 3) (Zb (Zc 9) (Zb (Zr ZnF (Zc 10) (Zc 9)) (Zb (Zr ZnF (Zc 10) (Zc 40)) Zd))))) (Zr ZaB (Zr ZaB (ZQ Zbe (Za 2) (Zc 69621)) (Zc 2147483629)) (Zc 4)))) (Zz (Zr Za1 (Zr ZaB (ZQ Zbe (Za 2) (Zr ZnF (Zc 48271) (Zc 9))) (ZQ ZZ (ZQ Zbe (Zc 2) (Za 3)) (Zc 1))) (Za 3)))))⟩
def Zlq:=ZF 2 (XS.g ZgU)
def Zi0:=ZI 2 (XS.q ZgU)
theorem ZdJ: SimF false Zlq Zi0:=ZT (XS.h ZgU)
def Zg4: XS [] [] [] false:=⟨_,_,(Zm (ZG (i:=2) (O':=[]) (Zs Zbg (Zb (Za 0) (Zb (Za 1) (Zb (Zc 42) Zd))))) (Zm (ZK (Zw (Zr Zc6 (Zr ZaB (Za 2) (Zc 6)) (Zc 2))) (Zz (ZY)) ZM) (Zm (ZK (Zw (Zr Zc6 (Zr ZaB (Za 2) (Zc 6)) (Zc 4))) (Zz (Zc 0)) ZM) (Zm (ZK (Zw (Zr Zad (Zr ZaB (Za 2) (Zc 6)) (Zc 4))) (Zz (Zr ZcO (Za 2) (Zc 6))) ZM) (Zz (Zag Zea (Zb (Zs ZdJ (Zb (Za 0) (Zb (Za 1) Zd))) Zd)))))))⟩
def Zo5:=ZF 2 (XS.g Zg4)
def ZlB:=ZI 2 (XS.q Zg4)
theorem Zi6: SimF false Zo5 ZlB:=ZT (XS.h Zg4)
def ZgD: XS [] [] [] false:=⟨_,_,(Zm (ZK (Zw (Zr Zad (Za 0) (Zc 0))) (Zz (E.tup (Zb (Zc 0) (Zb (Za 1) Zd)))) ZM) (Zz (E.tup (Zb (Za 0) (Zb (Zr ZaB (Za 1) (Za 0)) Zd)))))⟩
def Zow:=ZF 2 (XS.g ZgD)
def Zla:=ZI 2 (XS.q ZgD)
theorem ZiU: SimF false Zow Zla:=ZT (XS.h ZgD)
def Zho: XS [] [] [] false:=⟨_,_,(Zm (ZG (i:=3) (O':=[]) (Zs Zbg (Zb (Za 0) (Zb (Za 1) (Zb (Zc 60) Zd))))) (Zm (ZK (Zw (Zr Zc6 (Zr ZaB (Za 3) (Zc 5)) (Zc 2))) (Zz (E.tup (Zb (Zc 1) (Zb (Zc 0) Zd)))) ZM) (Zm (ZK (Zw (Zr Zad (Zr ZaB (Za 3) (Zc 5)) (Zc 2))) (Zz (E.tup (Zb (Zc 0) (Zb (Za 2) Zd)))) ZM) (Zm (ZK (Zw (Zr Zad (Zr ZaB (Za 3) (Zc 5)) (Zc 3))) (Zz (Zs ZiU (Zb (ZQ ZZ (Zr ZcO (Za 3) (Zc 5)) (Zc 1)) (Zb (Za 2) Zd)))) ZM) (Zz (Zs ZiU (Zb (Zag Zea (Zb (Zs ZdJ (Zb (Za 0) (Zb (Za 1) Zd))) Zd)) (Zb (Za 2) Zd))))))))⟩
def ZpE:=ZF 3 (XS.g Zho)
def ZlS:=ZI 3 (XS.q Zho)
theorem ZuW: SimF false ZpE ZlS:=ZT (XS.h Zho)
def Zhp: XS [] [5] [] true:=⟨_,_,(Zm (ZG (i:=3) (O':=[]) (ZQ ZZ (E.list (Zb (Zc 0) Zd)) (Za 2))) (Zm (ZG (i:=4) (O':=[]) (Zag Zau (Zb (Za 3) Zd))) (Zm (ZbJ (i:=5) (O':=[5]) (E.list Zd)) (Zm (Zbm (Gs.range (Zb (Za 4) Zd)) (PutOk.one (j:=6)) (by decide) (by decide) (Zm (ZbJ (i:=7) (O':=[5,7]) (Za0 (O':=[]) (E.list Zd))) (Zm (Zbm (Gs.range (Zb (Za 4) Zd)) (PutOk.one (j:=8)) (by decide) (by decide) (Zm (ZG (i:=9) (O':=[5,7]) (Zs Zi6 (Zb (Za 0) (Zb (ZQ ZZ (ZQ ZZ (Za 1) (ZQ Zbe (Za 6) (Za 4))) (Za 8)) Zd)))) (Zm (ZK (Zw (Zr Zch (Za 9) (ZY))) (ZG (i:=9) (O':=[5,7]) (ZQ ZZ (Zr Za1 (Zo Zn (Za 3) (Za 6)) (Zo Zn (Za 3) (Za 8))) (Za 9))) ZM) (ZnH (x:=7) (O':=[5,7]) (by decide) Zby (Za0 (O':=[5]) (E.flat (Za 9))) (by decide) (by decide))))) (Zm (S.put (x:=7) (O':=[5,7]) (by decide) (Za0 (O':=[5]) (Zc 0)) Zby (Za 6) (by decide) (by decide)) (ZnH (x:=5) (O':=[5]) (by decide) Zby (Za0 (O':=[7]) (E.own (i:=7) (by decide))) (by decide) (by decide)))))) (Zab (E.tup (Zez (E.own (i:=5) (by decide)) (Zez (ZcE (Gs.range (Zb (Zr Za1 (Za 4) (Zc 1)) Zd)) (PutOk.one (j:=100)) (by decide) Zam (Za0 (O':=[]) (E.flat (Zs ZuW (Zb (Za 0) (Zb (ZQ ZZ (ZQ ZZ (Za 1) (ZQ Zbe (Za 4) (Za 4))) (Za 100)) (Zb (Zo Zn (Za 2) (Za 100)) Zd))))))) Zd (by decide) (by decide)) (by decide) (by decide))))))))⟩
def ZpF:=ZF 3 (XS.g Zhp)
def Zjh:=ZI 3 (XS.q Zhp)
theorem ZpG: SimF true ZpF Zjh:=ZT (XS.h Zhp)
def ZlT: Sm:=Z5 (sIf (Zap (ZA oIs (Zp 0) (Zaq))) (Zak (Zaq)) ZaM) (Zak (Zcw (Zt (ZbL (Zfa (ZA Z4 (Zp 0) (ZR 0))) (put1 100) ZbP (ZU ZeM (Zt (Zp 100) ZO))) (Zt (ZU ZeM (Zt (ZA Z4 (Zp 0) (ZR 1)) ZO)) ZO))))
def ZpH:=ZF 1 ZlT
def ZlU: PS:=(Z8 (qIf (Zat (ZB qIs (Zh 0) (ZaJ))) (Zax (ZaJ)) ZaV) (Zax (ZdE (Zq (Zbj (Zdl (ZB Z2 (Zh 0) (ZH 0))) (ZaU 100) Za8 (ZV ZeO (Zq (Zh 100) ZD))) (Zq (ZV ZeO (Zq (ZB Z2 (Zh 0) (ZH 1)) ZD)) ZD)))))
def Zhq:=ZI 1 ZlU
theorem ZpI: SimF false ZpH Zhq:=ZT (show S [] [] [] false ZlT ZlU from(Zm (ZK (Zw (Zr Za9 (Za 0) (ZY))) (Zz (ZY)) ZM) (Zz (E.tup (Zb (ZbH (Gs.seq (Zo Zn (Za 0) (Zc _))) PutOk.one (by decide) Zam (ZjO ZfL (Zb (Za 100) Zd))) (Zb (ZjO ZfL (Zb (Zo Zn (Za 0) (Zc _)) Zd)) Zd))))))
def Zg5: XS [] [] [] false:=⟨_,_,(Zz ((ZsS (E.sh (Zr Za9 (Za 1) (ZY))) (E.sh ((ZdA (E.sh (Zr Zch (Za 0) (ZY))) (E.sh (Zr ZkS (Za 0) (Za 1)))))))))⟩
def Zo6:=ZF 2 (XS.g Zg5)
def ZlC:=ZI 2 (XS.q Zg5)
theorem Zo7: SimF false Zo6 ZlC:=ZT (XS.h Zg5)
def Zhr: XS [] [] [] false:=⟨_,_,(Zm (ZK (Zw (Zr Zad (Zo Zn (Za 0) (Zc 0)) (Zc 0))) (Zz (Zr Zad (Za 1) (Zo Zn (Za 0) (Zc 1)))) ZM) (Zz (Zr Zad (Zr ZaB (Za 1) (Zo Zn (Za 0) (Zc 0))) (Zo Zn (Za 0) (Zc 1)))))⟩
def ZpJ:=ZF 2 (XS.g Zhr)
def ZlV:=ZI 2 (XS.q Zhr)
theorem Zhs: SimF false ZpJ ZlV:=ZT (XS.h Zhr)
def ZgE: XS [] [] [] false:=⟨_,_,(Zm (ZK (Zw (Zr Zad (Zo Zn (Za 1) (Zc 0)) (Zc 0))) (Zz (Zr Zad (Za 0) (Za 1))) ZM) (Zz ((ZdA (E.sh (Zr Zad (Zr ZaB (Zo Zn (Za 0) (Zc 0)) (Zo Zn (Za 1) (Zc 0))) (Zc 0))) (E.sh (Zs Zhs (Zb (Za 1) (Zb (Zo Zn (Za 0) (Zc 1)) Zd))))))))⟩
def Zox:=ZF 2 (XS.g ZgE)
def Zlb:=ZI 2 (XS.q ZgE)
theorem ZtE: SimF false Zox Zlb:=ZT (XS.h ZgE)
def ZgF: XS [] [] [] false:=⟨_,_,(Zm (ZK (Zw (Zr Zad (Zo Zn (Za 1) (Zc 0)) (Zc 0))) (Zz (Zr Zad (Za 0) (Za 1))) ZM) (Zz ((ZdA (E.sh (Zr Zad (Zr ZaB (Zo Zn (Za 0) (Zc 0)) (Zo Zn (Za 1) (Zc 0))) (Zc 0))) (E.sh (Zr Zad (Zr ZaB (Zr Za1 (Zo Zn (Za 0) (Zc 1)) (Zo Zn (Za 1) (Zc 1))) (Zo Zn (Za 1) (Zc 0))) (Zc 0)))))))⟩
def Zoy:=ZF 2 (XS.g ZgF)
def Zlc:=ZI 2 (XS.q ZgF)
theorem ZtF: SimF false Zoy Zlc:=ZT (XS.h ZgF)
def Zg6: XS [] [] [] false:=⟨_,_,(Zm (ZK (Zw (Zr Za9 (Za 1) (ZY))) (Zz (E.bool true)) ZM) (Zz ((ZdA (E.sh (Zr Zch (Za 0) (ZY))) (E.sh (Zr ZkS (Za 0) (Za 1)))))))⟩
def Zo8:=ZF 2 (XS.g Zg6)
def ZlD:=ZI 2 (XS.q Zg6)
theorem Zuv: SimF false Zo8 ZlD:=ZT (XS.h Zg6)
def Zel: XS [] [] [] false:=⟨_,_,(Zm (ZK (ZaH (Zw (Zr Za9 (Za 0) (ZY))) (ZaH (Zw (Zr Za9 (Za 1) (ZY))) Zb2)) (Zz (Zr Za9 (Za 0) (ZY))) ZM) (Zm (Zbm (Gs.range (Zb (Zag Zau (Zb (Zo Zn (Za 0) (Zc 0)) Zd)) Zd)) (PutOk.one (j:=2)) (by decide) (by decide) (Zbm (Gs.range (Zb (Zag Zau (Zb (Zo Zn (Za 0) (Zc 0)) Zd)) Zd)) (PutOk.one (j:=3)) (by decide) (by decide) (ZK (ZbT (Zw (Zs Zuv (Zb (Zo Zn (Zo Zn (Zo Zn (Za 0) (Zc 0)) (Za 2)) (Za 3)) (Zb (Zo Zn (Zo Zn (Zo Zn (Za 1) (Zc 0)) (Za 2)) (Za 3)) Zd))))) (Zz (E.bool false)) ZM))) (Zm (Zbm (Gs.range (Zb (Zag Zau (Zb (Zo Zn (Za 0) (Zc 1)) Zd)) Zd)) (PutOk.one (j:=4)) (by decide) (by decide) (ZK (ZbT (Zw (Zs ZtF (Zb (Zo Zn (Zo Zn (Za 0) (Zc 1)) (Za 4)) (Zb (Zo Zn (Zo Zn (Za 1) (Zc 1)) (Za 4)) Zd))))) (Zz (E.bool false)) ZM)) (Zz (E.bool true)))))⟩
def ZoL:=ZF 2 (XS.g Zel)
def Zdo:=ZI 2 (XS.q Zel)
theorem ZoM: SimF false ZoL Zdo:=ZT (XS.h Zel)
def ZhN: XS [] [] [] false:=⟨_,_,(Zm (ZG (i:=0) (O':=[]) (Zag Zea (Zb (Za 0) Zd))) (Zm (ZG (i:=1) (O':=[]) (Zag Zea (Zb (Za 1) Zd))) (Zm (ZjT (Zw (Zr ZbM (Za 1) (Zc 0))) (Zm (ZG (i:=2) (O':=[]) (Zr ZaB (Za 0) (Za 1))) (Zm (ZG (i:=0) (O':=[]) (Za 1)) (ZG (i:=1) (O':=[]) (Za 2)))) 1000000) (Zz (Za 0)))))⟩
def Zqe:=ZF 2 (XS.g ZhN)
def Zmk:=ZI 2 (XS.q ZhN)
theorem ZvL: SimF false Zqe Zmk:=ZT (XS.h ZhN)
def Zgj: XS [] [] [] false:=⟨_,_,(Zm (ZG (i:=3) (O':=[]) (Zs Zbg (Zb (Za 0) (Zb (Za 1) (Zb (Zc 4) Zd))))) (Zm (ZK (Zw (Zr Zad (Za 3) (Zc 0))) (Zz (E.tup (Zb (Zc 1) (Zb (Zc 0) Zd)))) ZM) (Zm (ZK (Zw (Zr Zad (Za 3) (Zc 1))) (Zz (Zs ZiU (Zb (Zs ZvL (Zb (Zo Zn (Za 2) (Zc 0)) (Zb (Zs ZdJ (Zb (Za 0) (Zb (Za 1) Zd))) Zd))) (Zb (Zo Zn (Za 2) (Zc 1)) Zd)))) ZM) (Zz (Za 2)))))⟩
def Zn4:=ZF 3 (XS.g Zgj)
def ZkX:=ZI 3 (XS.q Zgj)
theorem ZsX: SimF false Zn4 ZkX:=ZT (XS.h Zgj)
def Zg7: XS [] [4] [] false:=⟨_,_,(Zm (ZG (i:=3) (O':=[]) (Zag Zau (Zb (Zo Zn (Za 2) (Zc 0)) Zd))) (Zm (ZbJ (i:=4) (O':=[4]) (ZcE (Gs.seq (Zo Zn (Za 2) (Zc 0))) (PutOk.one (j:=100)) (by decide) Zam (ZjP ZfL (Zb (Za 100) Zd)))) (Zm (Zbm (Gs.range (Zb (Za 3) Zd)) (PutOk.one (j:=5)) (by decide) (by decide) (Zbm (Gs.range (Zb (Za 3) Zd)) (PutOk.one (j:=6)) (by decide) (by decide) (Zm (ZG (i:=7) (O':=[4]) (Zs Zi6 (Zb (Za 0) (Zb (ZQ ZZ (ZQ ZZ (Za 1) (ZQ Zbe (Za 5) (Za 3))) (Za 6)) Zd)))) (ZK (Zbi (Zw (Zr ZbM (Za 5) (Za 6))) (Zbi (Zw (Zr Za9 (Za 7) (ZY))) Zam)) (S.put (x:=4) (O':=[4]) (by decide) (Za0 (O':=[]) (ZY)) (ZeP Zby (Za 5)) (Za 6) (by decide) (by decide)) (ZK (Zbi (Zw (Zr ZbM (Za 5) (Za 6))) (Zbi (Zw (Zr Zch (Zo Zn (Zo Zn (Za 4) (Za 5)) (Za 6)) (ZY))) Zam)) (S.put (x:=4) (O':=[4]) (by decide) (Za0 (O':=[]) (Zir ZZ (Zo Zn (Zo Zn (Za 4) (Za 5)) (Za 6)) (Za 7))) (ZeP Zby (Za 5)) (Za 6) (by decide) (by decide)) ZM))))) (Zz (E.tup (Zb (Za 4) (Zb (ZbH (Gs.range (Zb (Zr Za1 (Za 3) (Zc 1)) Zd)) (PutOk.one (j:=102)) (by decide) Zam (Zs ZsX (Zb (Za 0) (Zb (ZQ ZZ (ZQ ZZ (Za 1) (ZQ Zbe (Za 3) (Za 3))) (Za 102)) (Zb (Zo Zn (Zo Zn (Za 2) (Zc 1)) (Za 102)) Zd))))) Zd)))))))⟩
def Zo9:=ZF 3 (XS.g Zg7)
def Zi7:=ZI 3 (XS.q Zg7)
theorem Zpa: SimF false Zo9 Zi7:=ZT (XS.h Zg7)
def ZgV: XS [] [3,4] [] false:=⟨_,_,(Zm (ZbJ (i:=3) (O':=[3]) (ZcE (Gs.seq (Zo Zn (Za 2) (Zc 0))) (PutOk.one (j:=100)) (by decide) Zam (ZjP ZfL (Zb (Za 100) Zd)))) (Zm (ZbJ (i:=4) (O':=[3,4]) (Za0 (O':=[]) (ZjP ZfL (Zb (Zo Zn (Za 2) (Zc 1)) Zd)))) (Zm (ZG (i:=5) (O':=[3,4]) (Zs Zbg (Zb (Za 0) (Zb (Za 1) (Zb (Zag Zau (Zb (Za 3) Zd)) Zd))))) (Zm (ZG (i:=6) (O':=[3,4]) (Zs Zbg (Zb (Za 0) (Zb (ZQ ZZ (Za 1) (Zc 1)) (Zb (Zag Zau (Zb (Za 3) Zd)) Zd))))) (Zm (ZG (i:=7) (O':=[3,4]) (Zs Zbg (Zb (Za 0) (Zb (ZQ ZZ (Za 1) (Zc 2)) (Zb (Zc 5) Zd))))) (Zm (ZK (Zbi (Zw (Zr Zc6 (Za 7) (Zc 3))) (Zbi (Zw (Zr ZbM (Za 5) (Za 6))) (Zbi (Zw (Zr Za9 (Zo Zn (Zo Zn (Za 3) (Za 5)) (Za 6)) (ZY))) Zam))) (S.put (x:=3) (O':=[3,4]) (by decide) (Za0 (O':=[4]) (E.flat (Zs ZdJ (Zb (Za 0) (Zb (ZQ ZZ (Za 1) (Zc 3)) Zd))))) (ZeP Zby (Za 5)) (Za 6) (by decide) (by decide)) (ZK (Zbi (Zw (Zr Zc6 (Za 7) (Zc 3))) (Zbi (Zw (Zr ZbM (Za 5) (Za 6))) Zam)) (S.put (x:=3) (O':=[3,4]) (by decide) (Za0 (O':=[4]) (Zr Za1 (Zr Za1 (Zo Zn (Zo Zn (Za 3) (Za 5)) (Za 6)) (Zc 1)) (Zs Zbg (Zb (Za 0) (Zb (ZQ ZZ (Za 1) (Zc 3)) (Zb (Zc 4) Zd)))))) (ZeP Zby (Za 5)) (Za 6) (by decide) (by decide)) (ZK (Zw (Zr Zfb (Zag Zau (Zb (Za 4) Zd)) (Zc 0))) (Zm (ZG (i:=8) (O':=[3,4]) (Zs Zbg (Zb (Za 0) (Zb (Za 1) (Zb (Zag Zau (Zb (Za 4) Zd)) Zd))))) (Zm (ZG (i:=9) (O':=[3,4]) (Za0 (O':=[]) (E.flat (Zo Zn (Za 4) (Za 8))))) (S.put (x:=4) (O':=[3,4]) (by decide) (Za0 (O':=[3]) (E.flat (Zs ZiU (Zb (ZQ Zbe (Zo Zn (Za 9) (Zc 0)) (ZQ ZZ (Zc 1) (Zr ZaB (Za 7) (Zc 2)))) (Zb (ZQ ZZ (Zo Zn (Za 9) (Zc 1)) (Zs Zbg (Zb (Za 0) (Zb (ZQ ZZ (Za 1) (Zc 3)) (Zb (Zc 3) Zd))))) Zd))))) Zby (Za 8) (by decide) (by decide)))) ZM))) (Zz (E.tup (Zb (Za 3) (Zb (Za 4) Zd))))))))))⟩
def ZoN:=ZF 3 (XS.g ZgV)
def Zlr:=ZI 3 (XS.q ZgV)
theorem Zt9: SimF false ZoN Zlr:=ZT (XS.h ZgV)
def ZhO: XS [] [] [] false:=⟨_,_,(Zm (ZG (i:=2) (O':=[]) (Zag Zea (Zb (Za 0) Zd))) (Zm (ZG (i:=3) (O':=[]) (Zag Zea (Zb (Za 1) Zd))) (Zm (ZjT (Zw (Zr ZbM (Za 3) (Zc 0))) (Zm (ZG (i:=4) (O':=[]) (Zr ZaB (Za 2) (Za 3))) (Zm (ZG (i:=2) (O':=[]) (Za 3)) (ZG (i:=3) (O':=[]) (Za 4)))) 1000000) (Zz (Za 2)))))⟩
def Zqf:=ZF 2 (XS.g ZhO)
def Zml:=ZI 2 (XS.q ZhO)
theorem Zjw: SimF false Zqf Zml:=ZT (XS.h ZhO)
def Ziw: XS [] [] [] false:=⟨_,_,(Zm (ZK (Zw (Zr Zc6 (Za 0) (Zc 0))) (S.no (g:=PM.sNo) (O':=[])) ZM) (Zm (ZK (Zw (Zr Zad (Za 0) (Zc 0))) (Zz (E.tup (Zb (Zc 0) (Zb (Za 1) Zd)))) ZM) (Zz (E.tup (Zb (Za 0) (Zb (Zr ZaB (Za 1) (Za 0)) Zd))))))⟩
def Zsb:=ZF 2 (XS.g Ziw)
def Zno:=ZI 2 (XS.q Ziw)
theorem Zf0: SimF false Zsb Zno:=ZT (XS.h Ziw)
def ZhP: XS [] [] [] false:=⟨_,_,(Zm (ZG (i:=2) (O':=[]) (Zr ZaB (Za 0) (Za 1))) (Zm (ZG (i:=3) (O':=[]) (Za 1)) (Zm (ZG (i:=4) (O':=[]) (Zc 1)) (Zm (ZG (i:=5) (O':=[]) (Zc 0)) (Zm (ZjT (Zw (Zr ZbM (Za 3) (Zc 0))) (Zm (ZG (i:=6) (O':=[]) (Zr ZcO (Za 2) (Za 3))) (Zm (ZG (i:=7) (O':=[]) (Zr Za1 (Za 2) (ZQ Zbe (Za 6) (Za 3)))) (Zm (ZG (i:=8) (O':=[]) (Zr Za1 (Za 4) (ZQ Zbe (Za 6) (Za 5)))) (Zm (ZG (i:=2) (O':=[]) (Za 3)) (Zm (ZG (i:=4) (O':=[]) (Za 5)) (Zm (ZG (i:=3) (O':=[]) (Za 7)) (ZG (i:=5) (O':=[]) (Za 8)))))))) 1000000) (Zz (Zr ZaB (Za 4) (Za 1))))))))⟩
def Zqg:=ZF 2 (XS.g ZhP)
def Zmm:=ZI 2 (XS.q ZhP)
theorem ZvM: SimF false Zqg Zmm:=ZT (XS.h ZhP)
def Zht: XS [] [] [] false:=⟨_,_,(Zm (ZK (Zw (Zr Zad (Zo Zn (Za 0) (Zc 0)) (Zc 0))) (Zz (Zd9 (Zw (Zs Zhs (Zb (Za 1) (Zb (Zo Zn (Za 0) (Zc 1)) Zd)))) (E.sh (Za 0)) (E.sh (ZY)))) ZM) (Zm (ZK (Zw (Zr Zad (Zo Zn (Za 1) (Zc 0)) (Zc 0))) (Zz (Zd9 (Zw (Zs Zhs (Zb (Za 0) (Zb (Zo Zn (Za 1) (Zc 1)) Zd)))) (E.sh (Za 1)) (E.sh (ZY)))) ZM) (Zm (ZG (i:=2) (O':=[]) (Zs Zjw (Zb (Zo Zn (Za 0) (Zc 0)) (Zb (Zo Zn (Za 1) (Zc 0)) Zd)))) (Zm (ZG (i:=3) (O':=[]) (Zr Za1 (Zo Zn (Za 1) (Zc 1)) (Zo Zn (Za 0) (Zc 1)))) (Zm (ZK (Zw (Zr ZbM (Zr ZaB (Za 3) (Za 2)) (Zc 0))) (Zz (ZY)) ZM) (Zm (ZG (i:=4) (O':=[]) (Zr ZcO (Zo Zn (Za 1) (Zc 0)) (Za 2))) (Zm (ZG (i:=5) (O':=[]) (ZQ Zbe (Zr ZcO (Za 3) (Za 2)) (Zs ZvM (Zb (Zr ZcO (Zo Zn (Za 0) (Zc 0)) (Za 2)) (Zb (Za 4) Zd))))) (Zz (Zs Zf0 (Zb (ZQ Zbe (Zo Zn (Za 0) (Zc 0)) (Za 4)) (Zb (ZQ ZZ (Zo Zn (Za 0) (Zc 1)) (ZQ Zbe (Zo Zn (Za 0) (Zc 0)) (Za 5))) Zd)))))))))))⟩
def ZpK:=ZF 2 (XS.g Zht)
def ZlW:=ZI 2 (XS.q Zht)
theorem ZlX: SimF false ZpK ZlW:=ZT (XS.h Zht)
def Zg8: XS [] [] [] false:=⟨_,_,(Zz (Zs Zf0 (Zb (Zs Zjw (Zb (Zo Zn (Za 0) (Zc 0)) (Zb (Zo Zn (Za 1) (Zc 0)) Zd))) (Zb (ZQ ZZ (Zo Zn (Za 0) (Zc 1)) (Zo Zn (Za 1) (Zc 1))) Zd))))⟩
def ZlE:=ZF 2 (XS.g Zg8)
def Zi8:=ZI 2 (XS.q Zg8)
theorem ZlF: SimF false ZlE Zi8:=ZT (XS.h Zg8)
def ZgW: XS [] [] [] false:=⟨_,_,(Zz (Zs Zf0 (Zb (ZQ Zbe (Zo Zn (Za 0) (Zc 0)) (Zag Zea (Zb (Za 1) Zd))) (Zb (ZQ Zbe (Zo Zn (Za 0) (Zc 1)) (Za 1)) Zd))))⟩
def Zls:=ZF 2 (XS.g ZgW)
def Zi1:=ZI 2 (XS.q ZgW)
theorem Zlt: SimF false Zls Zi1:=ZT (XS.h ZgW)
def ZgX: XS [] [] [] false:=⟨_,_,(Zm (ZK (Zw (Zr Zad (Zo Zn (Za 0) (Zc 0)) (Zc 0))) (Zz (Zd9 (Zw (Zr ZkS (Zo Zn (Za 0) (Zc 1)) (Za 1))) (E.sh (Zo Zn (Za 0) (Zc 1))) (E.sh (ZY)))) ZM) (Zz (Zr Za1 (Za 1) (Zr ZaB (Zr Za1 (Za 1) (Zo Zn (Za 0) (Zc 1))) (Zo Zn (Za 0) (Zc 0))))))⟩
def ZoO:=ZF 2 (XS.g ZgX)
def Zlu:=ZI 2 (XS.q ZgX)
theorem Zua: SimF false ZoO Zlu:=ZT (XS.h ZgX)
def Zh3: XS [] [] [] false:=⟨_,_,(Zz (Zd9 (Zw (Zs Zo7 (Zb (Za 0) (Zb (Za 1) Zd)))) (E.sh (Za 0)) (E.sh (Za 1))))⟩
def ZmE:=ZF 2 (XS.g Zh3)
def ZjB:=ZI 2 (XS.q Zh3)
theorem ZqQ: SimF false ZmE ZjB:=ZT (XS.h Zh3)
def Zhu: XS [] [] [] false:=⟨_,_,(Zm (ZK (ZaH (Zw (Zr Za9 (Za 0) (ZY))) (ZaH (Zw (Zr Za9 (Za 1) (ZY))) Zb2)) (Zz (ZY)) ZM) (Zz (ZQ ZZ (Za 0) (Za 1))))⟩
def ZpL:=ZF 2 (XS.g Zhu)
def ZlY:=ZI 2 (XS.q Zhu)
theorem Zfp: SimF false ZpL ZlY:=ZT (XS.h Zhu)
def Zgp: XS [] [] [] true:=⟨_,_,(Zab (ZcE (Gs.zip (Za 0) (Za 2)) (PutOk.two (i:=100) (j:=101)) (by decide) Zam (E.flat (Zs ZqQ (Zb (Za 100) (Zb (Zs Zfp (Zb (Za 1) (Zb (Za 101) Zd))) Zd))))))⟩
def Zob:=ZF 3 (XS.g Zgp)
def Zk1:=ZI 3 (XS.q Zgp)
theorem Zs7: SimF true Zob Zk1:=ZT (XS.h Zgp)
def Zg9: XS [] [] [] true:=⟨_,_,(Zab (ZcE (Gs.seq (Za 0)) (PutOk.one (j:=100)) (by decide) Zam (Zan Zs7 (Zb (Za 100) (Zb (Zo Zn (Za 100) (Za 1)) (Zb (Zo Zn (Za 0) (Za 1)) Zd))))))⟩
def Zpb:=ZF 2 (XS.g Zg9)
def ZlG:=ZI 2 (XS.q Zg9)
theorem Zpc: SimF true Zpb ZlG:=ZT (XS.h Zg9)
def Zgy: XS [] [] [] false:=⟨_,_,(Zz (Zag ZzO (Zb (ZbH (Gs.range (Zb (Zag Zau (Zb (Za 0) Zd)) Zd)) (PutOk.one (j:=100)) (by decide) Zam (Zr Zc6 (Zo Zn (Zo Zn (Za 0) (Za 100)) (Za 100)) (Zc 0))) Zd)))⟩
def Zom:=ZF 1 (XS.g Zgy)
def Zk6:=ZI 1 (XS.q Zgy)
theorem Zon: SimF false Zom Zk6:=ZT (XS.h Zgy)
def Zh4: XS [] [1] [] true:=⟨_,_,(Zm (ZG (i:=1) (O':=[]) (Za 0)) (Zm (Zzg (Gs.range (Zb (Zag Zau (Zb (Za 0) Zd)) Zd)) (PutOk.one (j:=2)) (PutOk.one (j:=2)) (by decide) (by decide) (by decide) (Zm (ZbJ (i:=1) (O':=[1]) (Zan Zpc (Zb (Za 1) (Zb (Za 2) Zd)))) (ZK (Zw (Zs Zon (Zb (Za 1) Zd))) (Zab (ZY)) ZM)) (Zm (ZbJ (i:=1) (O':=[1]) (Za0 (O':=[]) (Zan Zpc (Zb (Za 1) (Zb (Za 2) Zd))))) (ZK (Zw (Zs Zon (Zb (Za 1) Zd))) (Zab (ZY)) ZM))) (Zab (E.own (i:=1) (by decide)))))⟩
def ZfD:=ZF 1 (XS.g Zh4)
def Zh5:=ZI 1 (XS.q Zh4)
theorem ZwN: SimF true ZfD Zh5:=ZT (XS.h Zh4)
def Zha: XS [] [] [] false:=⟨_,_,(Zz ((ZdA (E.sh (ZdF (K:="int") (Za 0))) (E.sh (ZzM (ZdF (K:="bool") (Za 0)))))))⟩
def Zpd:=ZF 1 (XS.g Zha)
def ZlH:=ZI 1 (XS.q Zha)
theorem ZlI: SimF false Zpd ZlH:=ZT (XS.h Zha)
def Zhv: XS [] [] [] false:=⟨_,_,(Zm (ZK (ZaH (ZbT (Zw (ZdF (K:="list") (Za 0)))) (ZaH (Zw (Zr ZbM (Zag Zau (Zb (Za 0) Zd)) (Za 1))) Zb2)) (Zz (E.bool false)) ZM) (Zm (Zbm (Gs.range (Zb (Za 1) Zd)) (PutOk.one (j:=2)) (by decide) (by decide) (Zm (ZK (ZaH (ZbT (Zw (ZdF (K:="list") (Zo Zn (Za 0) (Za 2))))) (ZaH (Zw (Zr ZbM (Zag Zau (Zb (Zo Zn (Za 0) (Za 2)) Zd)) (Za 1))) Zb2)) (Zz (E.bool false)) ZM) (Zm (Zbm (Gs.seq (Zo Zn (Za 0) (Za 2))) (PutOk.one (j:=3)) (by decide) (by decide) (ZK (Zbi (Zw (Zr Zch (Za 3) (ZY))) (Zbi (ZbT (Zw (Zs ZlI (Zb (Za 3) Zd)))) Zam)) (Zz (E.bool false)) ZM)) (ZK (Zw (Zr ZbM (Zo Zn (Zo Zn (Za 0) (Za 2)) (Za 2)) (Zc 0))) (Zz (E.bool false)) ZM)))) (Zz (E.bool true))))⟩
def ZpM:=ZF 2 (XS.g Zhv)
def ZlZ:=ZI 2 (XS.q Zhv)
theorem ZuX: SimF false ZpM ZlZ:=ZT (XS.h Zhv)
def ZgG: XS [] [] [] false:=⟨_,_,(Zz (ZQ ZZ (E.list (Zb (E.tup (Zb (Zc 0) (Zb (Zc 0) Zd))) Zd)) (Za 0)))⟩
def ZgH:=ZF 1 (XS.g ZgG)
def ZgI:=ZI 1 (XS.q ZgG)
theorem Zld: SimF false ZgH ZgI:=ZT (XS.h ZgG)
def Zgz: XS [] [] [] false:=⟨_,_,(Zm (ZG (i:=3) (O':=[]) (Zo Zn (Za 1) (Za 2))) (Zm (Zbm (ZxN (Za 1)) (PutOk.two (i:=4) (j:=5)) (by decide) (by decide) (ZK (Zbi (Zw (Zr Zch (Za 3) (ZY))) (Zbi (Zw (Zr Zad (Zs Zfp (Zb (Zo Zn (Zo Zn (Za 0) (Za 2)) (Za 4)) (Zb (Zo Zn (Zo Zn (Za 0) (Za 4)) (Za 2)) Zd))) (Zc 0))) Zam)) (ZG (i:=3) (O':=[]) (Zs ZlX (Zb (Za 3) (Zb (Zs ZlF (Zb (Za 5) (Zb (E.tup (Zb (Zc 0) (Zb (Zo Zn (Zo Zn (Za 0) (Za 2)) (Za 4)) Zd))) Zd))) Zd)))) ZM)) (Zz (Za 3))))⟩
def ZgA:=ZF 3 (XS.g Zgz)
def Zek:=ZI 3 (XS.q Zgz)
theorem Zoo: SimF false ZgA Zek:=ZT (XS.h Zgz)
def ZgJ: Sm:=Z5 (sIf (Zap (ZA oIs (Zp 0) (Zaq))) (Zak (Zaq)) ZaM) (Z5 (Zar 1 (ZU ZgH (Zt (ZA Z4 (Zp 0) (ZR 1)) ZO))) (Z5 (Zar 2 (ZbL (Zcr (Zt (ZR 1) (Zt (ZU Zcx (Zt (Zp 1) ZO)) ZO))) (put1 100) ZbP (ZU ZgA (Zt (ZA Z4 (Zp 0) (ZR 0)) (Zt (Zp 1) (Zt (Zp 100) ZO)))))) (Z5 (sIf (Zap (ZA oIn (Zaq) (Zp 2))) (Zak (Zaq)) ZaM) (Zak (Zcw (Zt (ZA Z4 (Zp 0) (ZR 0)) (Zt (Zp 2) ZO)))))))
def ZdI:=ZF 1 ZgJ
def ZgK: PS:=(Z8 (qIf (Zat (ZB qIs (Zh 0) (ZaJ))) (Zax (ZaJ)) ZaV) (Z8 (ZaO 1 (ZV ZgI (Zq (ZB Z2 (Zh 0) (ZH 1)) ZD))) (Z8 (ZaO 2 (Zbj (ZbI (Zq (ZH 1) (Zq (ZV ZbQ (Zq (Zh 1) ZD)) ZD))) (ZaU 100) Za8 (ZV Zek (Zq (ZB Z2 (Zh 0) (ZH 0)) (Zq (Zh 1) (Zq (Zh 100) ZD)))))) (Z8 (qIf (Zat (ZB qIn (ZaJ) (Zh 2))) (Zax (ZaJ)) ZaV) (Zax (ZdE (Zq (ZB Z2 (Zh 0) (ZH 0)) (Zq (Zh 2) ZD))))))))
def Zdn:=ZI 1 ZgK
theorem ZtG: SimF false ZdI Zdn:=ZT (show S [] [] [] false ZgJ ZgK from(Zm (ZK (Zw (Zr Za9 (Za 0) (ZY))) (Zz (ZY)) ZM) (Zm (ZG (O':=[]) (Zs Zld (Zb (Zo Zn (Za 0) (Zc _)) Zd))) (Zm (ZG (O':=[]) (ZbH (Gs.range (Zb (Zc _) (Zb (Zag Zau (Zb (Za 1) Zd)) Zd))) PutOk.one (by decide) Zam (Zs Zoo (Zb (Zo Zn (Za 0) (Zc _)) (Zb (Za 1) (Zb (Za 100) Zd)))))) (Zm (ZK (Zw (Zr Zgf (ZY) (Za 2))) (Zz (ZY)) ZM) (Zz (E.tup (Zb (Zo Zn (Za 0) (Zc _)) (Zb (Za 2) Zd)))))))))
def Zkn: Sm:=Z5 (sIf (Zap (ZA oIs (Zp 0) (Zaq))) (Zak (Zaq)) ZaM) (Z5 (Zar 1 (ZU ZfD (Zt (ZA Z4 (Zp 0) (ZR 0)) ZO))) (Z5 (sIf (Zap (ZA oIs (Zp 1) (Zaq))) (Zak (Zaq)) ZaM) (Zak (Zcw (Zt (Zp 1) (Zt (ZA Z4 (Zp 0) (ZR 1)) ZO))))))
def Zd4:=ZF 1 Zkn
def Zko: PS:=(Z8 (qIf (Zat (ZB qIs (Zh 0) (ZaJ))) (Zax (ZaJ)) ZaV) (Z8 (ZaO 1 (ZV Zh5 (Zq (ZB Z2 (Zh 0) (ZH 0)) ZD))) (Z8 (qIf (Zat (ZB qIs (Zh 1) (ZaJ))) (Zax (ZaJ)) ZaV) (Zax (ZdE (Zq (Zh 1) (Zq (ZB Z2 (Zh 0) (ZH 1)) ZD)))))))
def Zd5:=ZI 1 Zko
def Znp: Sm:=Zak (ZU ZdI (Zt (ZU Zd4 (Zt (Zp 0) ZO)) ZO))
def Zkp:=ZF 1 Znp
def Zkq: PS:=(Zax (ZV Zdn (Zq (ZV Zd5 (Zq (Zh 0) ZD)) ZD)))
def Zil: T→Bool
 | .none=>true
 | .tup [_,.lst ts]=>T.flats ts
 | _=>false
def Zix: List T→Option T:=fun ts=>(ZI 1 Zkq ts).bind fun t=>if Zil t then some t else none
theorem Zsc(hp:0<H.length)(r:RF H a t F): St ⟨H,[],fun x=>x∈F⟩ [] (fun i=>[a][i]?) (fun i=>[t][i]?) H (fun _=>F):=by
 refine⟨fun i u e=>?_,fun i u e x m=>.inr m,fun i hi=>(nomatch hi),Nat.le_refl _,fun x _ _=>rfl,hp,by simp⟩
 cases i with
 | zero=>cases e;exact⟨a,rfl,r⟩
 | succ i=>simp at e
theorem Zrt(e:ρ 0=some a)(r:RF H a t F)(ht:t≠.none): sIf (Zap (ZA oIs (Zp 0) (Zaq))) (Zak (Zaq)) ZaM ρ H=some (none,ρ,H):=by
 cases r <;> first | exact absurd rfl ht | simp[sIf,Zap,ZA,Zp,e,Zaq,oIs,Zcq,ZaM]
theorem Zru(e:σ 0=some t)(ht:t≠.none): qIf (Zat (ZB qIs (Zh 0) (ZaJ))) (Zax (ZaJ)) ZaV σ=some (none,σ):=by
 cases t <;> first | exact absurd rfl ht | simp[qIf,Zat,ZB,Zh,e,ZaJ,qIs,Zbx,ZaV]
theorem Zrv(e:σ 0=some .none): qIf (Zat (ZB qIs (Zh 0) (ZaJ))) (Zax (ZaJ)) ZaV σ=some (some .none,σ):=by
 simp[qIf,Zat,ZB,Zh,e,ZaJ,qIs,Zbx,Zax]
theorem Zn0{a b:PS}{σ1:TL}(h:a σ=some (none,σ1)): Z8 a b σ=b σ1:=by simp only[Z8,h,Option.bind_some]
theorem ZsT{a b:PS}{σ1:TL}(h:a σ=some (some t,σ1)): Z8 a b σ=some (some t,σ1):=by simp only[Z8,h,Option.bind_some]
theorem Ze5{a b:Sm}{ρ1:Lc}{H1:Hp}(h:a ρ H=some (none,ρ1,H1)): Z5 a b ρ H=b ρ1 H1:=by simp only[Z5,h,Option.bind_some]
theorem ZzZ{a b:Sm}{ρ1:Lc}{H1:Hp}{v:V}(h:a ρ H=some (some v,ρ1,H1)): Z5 a b ρ H=some (some v,ρ1,H1):=by simp only[Z5,h,Option.bind_some]
theorem ZuY{u:T}(hp:0<H.length)(r:RF H a t F)(h:Zd5 [t]=some u):
  (u=.none∧∃X,Zd4 [a] H=some (.none,H++X))∨∃w0 v1 u0 u1 X F0 F1,u=.tup [u0,u1]∧Zd4 [a] H=some (.tup [w0,v1],H++X)∧RF (H++X) w0 u0 F0∧F0.Nodup∧(∀x∈F0,H.length≤x)∧RF (H++X) v1 u1 F1:=by
 have st:=Zsc hp r
 unfold Zd5 ZI at h
 simp only[List.length_cons,List.length_nil,Nat.zero_add,if_true]at h
 obtain⟨r1,h,h0⟩:=Zz1.mp h
 unfold Zko at h
 by_cases hn:t=.none
 ·subst hn
  rw[ZsT (Zrv rfl)]at h
  cases h
  cases h0
  cases r
  exact .inl ⟨rfl,[],by simp[Zd4,ZF,Zkn,Z5,sIf,Zap,ZA,Zp,Zaq,oIs,Zcq,Zak]⟩
 ·rw[Zn0 (Zru (σ:=fun i=>[t][i]?) rfl hn)]at h
  have ev:∀b:Sm,Z5 (sIf (Zap (ZA oIs (Zp 0) (Zaq))) (Zak (Zaq)) ZaM) b (fun i=>[a][i]?) H=b (fun i=>[a][i]?) H:=fun b=>Ze5 (Zrt rfl r hn)
  obtain⟨r2,h1',h⟩:=Zz0.mp h
  obtain⟨u0,h1,e1⟩:=Zz1.mp h1'
  subst e1
  have x1:E [] [] true (ZU ZfD (Zt (ZA Z4 (Zp 0) (ZR 0)) ZO)) (ZV Zh5 (Zq (ZB Z2 (Zh 0) (ZH 0)) ZD)):=Zan ZwN (Zb (Zo Zn (Za 0) (Zc _)) Zd)
  obtain⟨w0,X,F0,a1,a2,a3,a4⟩:=x1 _ _ _ _ _ _ st h1
  have new:∀x∈F0,H.length≤x:=fun x m=>(a3 x m).nil
  have e2:Zar 1 (ZU ZfD (Zt (ZA Z4 (Zp 0) (ZR 0)) ZO)) (fun i=>[a][i]?) H=some (none,upd (fun i=>[a][i]?) 1 w0,H++X):=by simp only[Zar,a1,Option.map_some]
  simp only at h
  have ev2:∀b:Sm,Z5 (Zar 1 (ZU ZfD (Zt (ZA Z4 (Zp 0) (ZR 0)) ZO))) b (fun i=>[a][i]?) H=b (upd (fun i=>[a][i]?) 1 w0) (H++X):=fun b=>Ze5 e2
  have fin:∀o,Z5 (sIf (Zap (ZA oIs (Zp 1) (Zaq))) (Zak (Zaq)) ZaM) (Zak (Zcw (Zt (Zp 1) (Zt (ZA Z4 (Zp 0) (ZR 1)) ZO)))) (upd (fun i=>[a][i]?) 1 w0) (H++X)=some o→Zd4 [a] H=some (o.1.getD .none,o.2.2):=fun o ho=>by
   unfold Zd4 ZF Zkn
   simp only[List.length_cons,List.length_nil,Nat.zero_add,if_true]
   rw[ev,ev2,ho]
   rfl
  by_cases hu:u0=.none
  ·subst hu
   cases a2
   obtain⟨r3,h2,h⟩:=Zz0.mp h
   have:r3=(some .none,ZW (fun i=>[t][i]?) 1 .none):=by
    have:=h2
    simp[qIf,Zat,ZB,Zh,ZW,ZaJ,qIs,Zbx,Zax]at this
    exact this.symm
   subst this
   cases h
   cases h0
   refine .inl ⟨rfl,X,fin (some .none,upd (fun i=>[a][i]?) 1 .none,H++X) ?_⟩
   exact ZzZ (by simp[sIf,Zap,ZA,Zp,upd,Zaq,oIs,Zcq,Zak])
  ·have e3:sIf (Zap (ZA oIs (Zp 1) (Zaq))) (Zak (Zaq)) ZaM (upd (fun i=>[a][i]?) 1 w0) (H++X)=some (none,upd (fun i=>[a][i]?) 1 w0,H++X):=by
    cases a2 <;> first | exact(hu rfl).elim | simp[sIf,Zap,ZA,Zp,upd,Zaq,oIs,Zcq,ZaM]
   have e4:qIf (Zat (ZB qIs (Zh 1) (ZaJ))) (Zax (ZaJ)) ZaV (ZW (fun i=>[t][i]?) 1 u0)=some (none,ZW (fun i=>[t][i]?) 1 u0):=by
    cases u0 <;> first | exact(hu rfl).elim | simp[qIf,Zat,ZB,Zh,ZW,ZaJ,qIs,Zbx,ZaV]
   rw[Zn0 e4]at h
   obtain⟨u',h5,h6⟩:=Zz1.mp h
   subst h6
   obtain⟨us,h7,h8⟩:=Zz1.mp h5
   subst h8
   obtain⟨q0,g1,h9⟩:=Zz0.mp h7
   obtain⟨qs,g2,h10⟩:=Zz0.mp h9
   cases h10
   obtain⟨q1,g3,g6⟩:=Zz0.mp g2
   obtain⟨qs',g4,g7⟩:=Zz0.mp g6
   cases g7
   cases g4
   have eq0:q0=u0:=by
    have:ZW (fun i=>[t][i]?) 1 u0 1=some q0:=g1
    simp[ZW]at this
    exact this.symm
   subst eq0
   have g5:Z2 t (.int 1)=some q1:=by
    have:=g3
    simpa [ZB,Zh,ZW,ZH]using this
   obtain⟨v1,F1,b1,b2,b3⟩:=Zn _ _ _ _ _ _ _ _ (r.ext X) (RF.int (H:=H++X) 1) g5
   cases h0
   refine .inr ⟨w0,v1,q0,q1,X,F0,F1,rfl,fin (some (.tup [w0,v1]),upd (fun i=>[a][i]?) 1 w0,H++X) ?_,a2,a4 rfl,new,b2⟩
   rw[Ze5 e3]
   simp[Zak,Zcw,Zt,Zp,upd,ZA,ZR,b1,ZO,ZaZ]
theorem Zqh{put:T→TL→Option TL}{f:PE}{σ:TL}: ∀{ts us:List T},Zcv put Za8 f σ ts=some us→T.flats us=true→Zcv put Za8 (ZcN f) σ ts=some us
 | [],_,h,_=>h
 | t::ts,us,h,hf=>by
  obtain⟨σ1,h1,h⟩:=Zz0.mp h
  simp only[Za8,Option.bind_some,if_true]at h
  obtain⟨x,h2,h⟩:=Zz0.mp h
  obtain⟨xs,h3,h⟩:=Zz1.mp h
  subst h
  simp only[T.flats,Bool.and_eq_true]at hf
  simp only[Zcv,h1,Option.bind_some,Za8,if_true,ZcN,h2,hf.1,Zqh h3 hf.2,Option.map_some]
theorem ZpN{u:T}(hp:0<H.length)(r:RF H a t F)(h:Zdn [t]=some u)(ok:Zil u=true):
  (u=.none∧∃X,ZdI [a] H=some (.none,H++X))∨∃w0 w1 u0 u1 X F1,u=.tup [u0,u1]∧Z4 a (.int 0) H=some (w0,H)∧Z2 t (.int 0)=some u0∧ZdI [a] H=some (.tup [w0,w1],H++X)∧RF (H++X) w1 u1 F1∧F1.Nodup∧(∀x∈F1,H.length≤x):=by
 have st:=Zsc hp r
 have hfull:=h
 unfold Zdn ZI at h
 simp only[List.length_cons,List.length_nil,Nat.zero_add,if_true]at h
 obtain⟨r1,h,h0⟩:=Zz1.mp h
 unfold ZgK at h
 by_cases hn:t=.none
 ·subst hn
  rw[ZsT (Zrv rfl)]at h
  cases h
  cases h0
  cases r
  exact .inl ⟨rfl,[],by simp[ZdI,ZF,ZgJ,Z5,sIf,Zap,ZA,Zp,Zaq,oIs,Zcq,Zak]⟩
 ·rw[Zn0 (Zru (σ:=fun i=>[t][i]?) rfl hn)]at h
  have ev:∀b:Sm,Z5 (sIf (Zap (ZA oIs (Zp 0) (Zaq))) (Zak (Zaq)) ZaM) b (fun i=>[a][i]?) H=b (fun i=>[a][i]?) H:=fun b=>Ze5 (Zrt rfl r hn)
  obtain⟨r2,h1',h⟩:=Zz0.mp h
  obtain⟨t1,h1,e1⟩:=Zz1.mp h1'
  subst e1
  have x1:E [] ([0]++[]) false (ZU ZgH (Zt (ZA Z4 (Zp 0) (ZR 1)) ZO)) (ZV ZgI (Zq (ZB Z2 (Zh 0) (ZH 1)) ZD)):=Zs Zld (Zb (Zo Zn (Za 0) (Zc _)) Zd)
  obtain⟨v1,X1,Fr,a1,a2,a3,_⟩:=x1 _ _ _ _ _ _ st h1
  have st1:=(st.ext X1).put (j:=1) (by simp) a2 (fun x m=>st.from_src (a3 x m)) (fun i hi=>(nomatch hi))
  have ev1:∀b:Sm,Z5 (Zar 1 (ZU ZgH (Zt (ZA Z4 (Zp 0) (ZR 1)) ZO))) b (fun i=>[a][i]?) H=b (upd (fun i=>[a][i]?) 1 v1) (H++X1):=fun b=>Ze5 (by simp only[Zar,a1,Option.map_some])
  simp only at h
  obtain⟨r3,h2',h⟩:=Zz0.mp h
  obtain⟨t2,h2,e2⟩:=Zz1.mp h2'
  subst e2
  simp only at h
  generalize hσ:ZW (fun i=>[t][i]?) 1 t1=σ1 at *
  generalize hρ:upd (fun i=>[a][i]?) 1 v1=ρ1 at *
  have hρ0:ρ1 0=some a:=by rw[←hρ];simp[upd]
  have hσ0:σ1 0=some t:=by rw[←hσ];simp[ZW]
  have x2:∀ts,T.flats ts=true→Zbj (ZbI (Zq (ZH 1) (Zq (ZV ZbQ (Zq (Zh 1) ZD)) ZD))) (ZaU 100) Za8 (ZV Zek (Zq (ZB Z2 (Zh 0) (ZH 0)) (Zq (Zh 1) (Zq (Zh 100) ZD)))) σ1=some (.lst ts)→∃w X G,ZbL (Zcr (Zt (ZR 1) (Zt (ZU Zcx (Zt (Zp 1) ZO)) ZO))) (put1 100) ZbP (ZU ZgA (Zt (ZA Z4 (Zp 0) (ZR 0)) (Zt (Zp 1) (Zt (Zp 100) ZO)))) ρ1 (H++X1)=some (w,H++X1++X)∧RF (H++X1++X) w (.lst ts) G∧G.Nodup∧∀x∈G,(H++X1).length≤x:=fun ts hf he=>by
   have y:E [] [] true (ZbL (Zcr (Zt (ZR 1) (Zt (ZU Zcx (Zt (Zp 1) ZO)) ZO))) (put1 100) ZbP (ZU ZgA (Zt (ZA Z4 (Zp 0) (ZR 0)) (Zt (Zp 1) (Zt (Zp 100) ZO))))) (Zbj (ZbI (Zq (ZH 1) (Zq (ZV ZbQ (Zq (Zh 1) ZD)) ZD))) (ZaU 100) Za8 (ZcN (ZV Zek (Zq (ZB Z2 (Zh 0) (ZH 0)) (Zq (Zh 1) (Zq (Zh 100) ZD)))))):=ZcE (Gs.range (Zb (Zc _) (Zb (Zag Zau (Zb (Za 1) Zd)) Zd))) PutOk.one (by decide) Zam (E.flat (Zs Zoo (Zb (Zo Zn (Za 0) (Zc _)) (Zb (Za 1) (Zb (Za 100) Zd)))))
   have he2:Zbj (ZbI (Zq (ZH 1) (Zq (ZV ZbQ (Zq (Zh 1) ZD)) ZD))) (ZaU 100) Za8 (ZcN (ZV Zek (Zq (ZB Z2 (Zh 0) (ZH 0)) (Zq (Zh 1) (Zq (Zh 100) ZD))))) σ1=some (.lst ts):=by
    obtain⟨zs,g1,g2⟩:=Zz0.mp he
    split at g2
    ·rename_i hl
     obtain⟨us,g3,g4⟩:=Zz1.mp g2
     cases g4
     simp only[Zbj,g1,Option.bind_some]
     rw[if_pos hl,Zqh g3 hf]
     rfl
    ·cases g2
   obtain⟨w,X,G,b1,b2,b3,b4⟩:=y _ _ _ _ _ _ st1 he2
   exact⟨w,X,G,b1,b2,b4 rfl,fun x m=>(b3 x m).nil⟩
  obtain⟨ts,rfl⟩:∃ts,t2=.lst ts:=by
   obtain⟨zs,g1,g2⟩:=Zz0.mp h2
   split at g2
   ·obtain⟨us,g3,g4⟩:=Zz1.mp g2
    exact⟨us,g4.symm⟩
   ·cases g2
  by_cases hu:u=.none
  ·subst hu
   obtain⟨v,X,G,c1,c2,_⟩:=ZtG H [a] [t] .none F hp (RFs.one r) hfull
   cases c2
   exact .inl ⟨rfl,X,c1⟩
  ·obtain⟨r4,h3,h⟩:=Zz0.mp h
   obtain⟨b,h4,h5⟩:=Zz0.mp h3
   cases b with
   | true=>
    simp only[if_true]at h5
    cases h5
    cases h
    cases h0
    exact absurd rfl hu
   | false=>
    cases h5
    simp only at h
    obtain⟨u',h6,h7⟩:=Zz1.mp h
    subst h7
    obtain⟨us,h8,h9⟩:=Zz1.mp h6
    subst h9
    obtain⟨q0,g1,h10⟩:=Zz0.mp h8
    obtain⟨qs,g2,h11⟩:=Zz0.mp h10
    cases h11
    obtain⟨q1,g3,g6⟩:=Zz0.mp g2
    obtain⟨qs',g4,g7⟩:=Zz0.mp g6
    cases g7
    cases g4
    have eq1:q1=.lst ts:=by
     have:ZW σ1 2 (.lst ts) 2=some q1:=g3
     simp[ZW]at this
     exact this.symm
    subst eq1
    have g5:Z2 t (.int 0)=some q0:=by
     have:=g1
     simpa [ZB,Zh,ZW,ZH,hσ0]using this
    cases h0
    obtain⟨w,X,G,b1,b2,b3,b4⟩:=x2 ts ok h2
    obtain⟨w0,F0,i1,i2,i3⟩:=Zn _ _ _ _ _ _ _ _ r (RF.int (H:=H) 0) g5
    have st2:=(st1.ext X).put (j:=2) (by simp) b2 (fun x m=>.inl (by have:=b4 x m;simp at this;show H.length≤x;omega)) (fun i hi=>(nomatch hi))
    have bt:Bt [] (Zap (ZA oIn (Zaq) (Zp 2))) (Zat (ZB qIn (ZaJ) (Zh 2))):=Zw (Zr Zgf ZY (Za 2))
    obtain⟨Y,k1⟩:=bt _ _ _ _ _ _ st2 h4
    refine .inr ⟨w0,w,q0,.lst ts,X1++X++Y,G,rfl,i1,g5,?_,by rw[←List.append_assoc,←List.append_assoc];exact b2.ext Y,b3,fun x m=>by have:=b4 x m;simp at this;omega⟩
    unfold ZdI ZF ZgJ
    simp only[List.length_cons,List.length_nil,Nat.zero_add,if_true]
    rw[ev,ev1,Ze5 (ρ1:=upd ρ1 2 w) (H1:=H++X1++X) (by simp only[Zar,b1,Option.map_some]),Ze5 (ρ1:=upd ρ1 2 w) (H1:=H++X1++X++Y) (by simp only[sIf,k1,Option.bind_some];rfl)]
    have hidx:=(Zmh i1 (X1++X++Y)).2
    have hr:(upd ρ1 2 w) 0=some a:=by simp[upd,hρ0]
    have h2w:(upd ρ1 2 w) 2=some w:=by simp[upd]
    simp only[←List.append_assoc]at hidx ⊢
    generalize H++X1++X++Y=K at *
    have e5:Zcw (Zt (ZA Z4 (Zp 0) (ZR 0)) (Zt (Zp 2) ZO)) (upd ρ1 2 w) K=some (.tup [w0,w],K):=by
     simp only[Zcw,Zt,ZA,Zp,hr,h2w,ZR,ZO,Option.map_some,Option.bind_some,hidx]
     rw[if_pos (by rw[ZaZ];simp)]
    simp only[Zak,e5,Option.map_some]
    rfl
theorem Zsd: SimF true Zkp Zix:=fun H vs ts t F1 hp r h=>by
 obtain⟨t',h1,h2⟩:=Zz0.mp h
 by_cases ok:Zil t'=true
 ·rw[if_pos ok]at h2
  cases h2
  unfold ZI at h1
  split at h1
  ·rename_i hl
   obtain⟨t0,rfl⟩:∃t0,ts=[t0]:=List.length_eq_one_iff.mp hl
   obtain⟨a,rfl,r0⟩:=r.one_inv
   obtain⟨r1,h3,h4⟩:=Zz1.mp h1
   obtain⟨u,h5,h6⟩:=Zz1.mp h3
   subst h6
   cases h4
   obtain⟨us,h7,h8⟩:=Zz0.mp h5
   obtain⟨q0,g1,h9⟩:=Zz0.mp h7
   obtain⟨qs,g2,h10⟩:=Zz0.mp h9
   cases h10
   cases g2
   have g3:Zd5 [t0]=some q0:=by
    have:=g1
    simpa [ZV,Zq,Zh,ZD]using this
   have g4:Zdn [q0]=some u:=h8
   have run:∀v1 X1 v2 X2,Zd4 [a] H=some (v1,H++X1)→ZdI [v1] (H++X1)=some (v2,H++X1++X2)→Zkp [a] H=some (v2,H++(X1++X2)):=fun v1 X1 v2 X2 e1 e2=>by
    simp[Zkp,ZF,Znp,Zak,ZU,Zt,Zp,ZO,e1,e2]
   rcases ZuY hp r0 g3 with⟨rfl,X,e1⟩ | ⟨w0,v1,u0,u1,X,F0,F2,rfl,e1,a1,a2,a3,a4⟩
   ·have hp2:0<(H++X).length:=by rw[List.length_append];omega
    rcases ZpN hp2 (.none (H:=H++X)) g4 ok with⟨rfl,Y,e2⟩ | ⟨_,_,_,_,_,_,_,e2,_⟩
    ·exact⟨.none,X++Y,[],run _ _ _ _ e1 e2,.none,by simp,by simp⟩
    ·cases e2
   ·have hp2:0<(H++X).length:=by rw[List.length_append];omega
    rcases ZpN hp2 (.tup (.cons a1 (.one a4))) g4 ok with⟨rfl,Y,e2⟩ | ⟨x0,w1,y0,y1,Y,F1',rfl,e3,e4,e2,b1,b2,b3⟩
    ·exact⟨.none,X++Y,[],run _ _ _ _ e1 e2,.none,by simp,by simp⟩
    ·have ex:x0=w0:=by
      have:Z4 (.tup [w0,v1]) (.int 0) (H++X)=some (w0,H++X):=by simp[Z4,seqIndex?]
      rw[this]at e3
      cases e3
      rfl
     have ey:y0=u0:=by
      have:Z2 (.tup [u0,u1]) (.int 0)=some u0:=by simp[Z2,seqIndex?]
      rw[this]at e4
      cases e4
      rfl
     subst ex ey
     have nd:(F0++F1').Nodup:=by
      rw[List.nodup_append]
      refine⟨a2,b2,fun x hx y hy e=>?_⟩
      have:=a1.lt x hx
      have:=b3 y hy
      omega
     have nw:∀x∈F0++F1',H.length≤x:=fun x m=>by
      rcases Zz8.mp m with m | m
      ·exact a3 x m
      ·have:=b3 x m;rw[List.length_append]at this;omega
     exact⟨.tup [x0,w1],X++Y,F0++F1',run _ _ _ _ e1 e2,by rw[←List.append_assoc];exact .tup (.cons (a1.ext Y) (.one b1)),fun x m=>.inl (nw x m),fun _=>⟨nd,nw⟩⟩
  ·cases h1
 ·rw[if_neg ok]at h2
  cases h2
def Zgq: XS [] [] [] false:=⟨_,_,(Zm (ZK (Zw (Zr Zch (Za 0) (ZY))) (Zz (Zs Zua (Zb (Za 1) (Zb (Za 0) Zd)))) ZM) (Zm (ZK (Zw (Zr Zad (Zo Zn (Za 1) (Zc 0)) (Zc 0))) (Zz (Zo Zn (Za 1) (Zc 1))) ZM) (Zz (ZY))))⟩
def Zk2:=ZF 2 (XS.g Zgq)
def ZiT:=ZI 2 (XS.q Zgq)
theorem Zs8: SimF false Zk2 ZiT:=ZT (XS.h Zgq)
def Zle: Sm:=Z5 (Zar 3 (ZeX ZO)) (Z5 (Zcb (ZkM (Zp 0) (Zp 2)) (Zdi 4 5) (Z5 (Zar 6 (ZU Zk2 (Zt (Zp 4) (Zt (ZU ZlE (Zt (Zp 1) (Zt (ZU Zls (Zt (Zp 5) (Zt (eUn ZiM (ZR 1)) ZO))) ZO))) ZO)))) (Z5 (sIf (Zga (Zap (ZA oIs (Zp 6) (Zaq))) (Zga (Zap (ZA Znc (Zp 4) (Zaq))) ZbP)) (Zak (Zaq)) ZaM) (Zc5 (ZjN (Zp 3) (Zp 6)))))) (Zak (Zp 3)))
def Zoz:=ZF 3 Zle
def Zlf: PS:=(Z8 (ZaO 3 (Zcu ZD)) (Z8 (Zcz (ZkU (Zh 0) (Zh 2)) (Ze3 4 5) (Z8 (ZaO 6 (ZV ZiT (Zq (Zh 4) (Zq (ZV Zi8 (Zq (Zh 1) (Zq (ZV Zi1 (Zq (Zh 5) (Zq (pUn ZiQ (ZH 1)) ZD))) ZD))) ZD)))) (Z8 (qIf (Zgd (Zat (ZB qIs (Zh 6) (ZaJ))) (Zgd (Zat (ZB ZfV (Zh 4) (ZaJ))) Za8)) (Zax (ZaJ)) ZaV) (Zge 3 [] Zbt (ZcN (Zh 6)))))) (Zax (Zh 3))))
def Zlg:=ZI 3 Zlf
theorem ZtH: SimF false Zoz Zlg:=ZT (show S [] [3] [] false Zle Zlf from(Zm (ZbJ (O':=[3]) (E.list Zd)) (Zm (Zbm (Gs.zip (Za 0) (Za 2)) PutOk.two (by decide) (by decide) (Zm (ZG (O':=[3]) (Zs Zs8 (Zb (Za 4) (Zb (Zs ZlF (Zb (Za 1) (Zb (Zs Zlt (Zb (Za 5) (Zb (Zb7 Zb8 (Zc _)) Zd))) Zd))) Zd)))) (Zm (ZK (Zbi (Zw (Zr Za9 (Za 6) (ZY))) (Zbi (Zw (Zr Zch (Za 4) (ZY))) Zam)) (Zz (ZY)) ZM) (ZnH (O':=[3]) (by decide) Zby (Za0 (O':=[]) (E.flat (Za 6))) (by decide) (by decide))))) (Zz (Za 3)))))
def Zfw: XS [] [] [] false:=⟨_,_,(Zm (ZK (Zw (Zr Za9 (Za 0) (ZY))) (Zz (ZY)) ZM) (Zm (ZG (i:=1) (O':=[]) (Zs Zld (Zb (Zo Zn (Za 0) (Zc 1)) Zd))) (Zm (ZG (i:=2) (O':=[]) (ZbH (Gs.zip (Zo Zn (Za 0) (Zc 0)) (Za 1)) (PutOk.two (i:=100) (j:=101)) (by decide) Zam (Zs ZtH (Zb (Za 100) (Zb (Za 101) (Zb (Za 1) Zd)))))) (Zm (ZK (Zw (Zr Zgf (ZY) (Za 2))) (Zz (ZY)) ZM) (Zz (E.tup (Zb (Za 2) (Zb (Zo Zn (Za 0) (Zc 1)) Zd))))))))⟩
def Zqi:=ZF 1 (XS.g Zfw)
def ZhQ:=ZI 1 (XS.q Zfw)
theorem ZvN: SimF false Zqi ZhQ:=ZT (XS.h Zfw)
def ZfN: XS [] [] [] true:=⟨_,_,(Zab (Zan Zsd (Zb (Zs ZvN (Zb (Zs Zsd (Zb (Za 0) Zd)) Zd)) Zd)))⟩
def Zj0:=ZF 1 (XS.g ZfN)
def ZaG:=ZI 1 (XS.q ZfN)
theorem Zdt: SimF true Zj0 ZaG:=ZT (XS.h ZfN)
def Zhb: XS [] [] [] false:=⟨_,_,(Zm (ZK (ZaH (ZbT (Zw (ZdF (K:="tuple") (Za 0)))) (ZaH (Zw (Zr ZbM (Zag Zau (Zb (Za 0) Zd)) (Zc 2))) (ZaH (ZbT (Zw (Zs ZuX (Zb (Zo Zn (Za 0) (Zc 0)) (Zb (ZQ ZZ (Za 1) (Zc 1)) Zd))))) Zb2))) (Zz (E.bool false)) ZM) (Zm (ZK (ZaH (ZbT (Zw (ZdF (K:="list") (Zo Zn (Za 0) (Zc 1))))) (ZaH (Zw (Zr ZbM (Zag Zau (Zb (Zo Zn (Za 0) (Zc 1)) Zd)) (Za 1))) Zb2)) (Zz (E.bool false)) ZM) (Zm (Zbm (Gs.seq (Zo Zn (Za 0) (Zc 1))) (PutOk.one (j:=2)) (by decide) (by decide) (Zm (ZK (ZaH (ZbT (Zw (ZdF (K:="tuple") (Za 2)))) (ZaH (Zw (Zr ZbM (Zag Zau (Zb (Za 2) Zd)) (Zc 2))) Zb2)) (Zz (E.bool false)) ZM) (Zm (ZK (ZaH (ZbT (Zw (Zs ZlI (Zb (Zo Zn (Za 2) (Zc 0)) Zd)))) (ZaH (ZbT (Zw (Zs ZlI (Zb (Zo Zn (Za 2) (Zc 1)) Zd)))) Zb2)) (Zz (E.bool false)) ZM) (ZK (ZaH (Zw (Zr Zc6 (Zo Zn (Za 2) (Zc 0)) (Zc 0))) (ZaH (Zbi (Zw (Zr Zfb (Zo Zn (Za 2) (Zc 0)) (Zc 0))) (Zbi (ZbT (ZwF ZkS Zc6 (Zc 0) (Zo Zn (Za 2) (Zc 1)) (Zo Zn (Za 2) (Zc 0)))) Zam)) Zb2)) (Zz (E.bool false)) ZM)))) (Zz (E.bool true)))))⟩
def Zpe:=ZF 2 (XS.g Zhb)
def ZlJ:=ZI 2 (XS.q Zhb)
theorem Zuw: SimF false Zpe ZlJ:=ZT (XS.h Zhb)
def ZgB: XS [] [] [] false:=⟨_,_,(Zz (E.tup (Zb (Zs Zfp (Zb (Zo Zn (Za 0) (Zc 0)) (Zb (Zo Zn (Za 1) (Zc 0)) Zd))) (Zb (Zs Zfp (Zb (Zo Zn (Za 0) (Zc 1)) (Zb (Zo Zn (Za 1) (Zc 1)) Zd))) Zd))))⟩
def Zop:=ZF 2 (XS.g ZgB)
def Zk7:=ZI 2 (XS.q ZgB)
theorem Zto: SimF false Zop Zk7:=ZT (XS.h ZgB)
def Zhc: XS [] [] [] false:=⟨_,_,(Zm (ZK (Zw (Zr Za9 (Za 0) (ZY))) (Zz (ZY)) ZM) (Zz (ZQ Zbe (Za 0) (Za 1))))⟩
def ZlK:=ZF 2 (XS.g Zhc)
def Zi9:=ZI 2 (XS.q Zhc)
theorem Zhd: SimF false ZlK Zi9:=ZT (XS.h Zhc)
def Zgr: XS [] [] [] false:=⟨_,_,(Zm (ZK (Zw (Zr Zad (Za 1) (Zc 0))) (Zz (E.tup (Zb (Zc 0) (Zb (Zc 0) Zd)))) ZM) (Zm (ZG (i:=2) (O':=[]) (Zs Zhd (Zb (Zo Zn (Za 0) (Zc 0)) (Zb (Za 1) Zd)))) (Zm (ZG (i:=3) (O':=[]) (Zs Zhd (Zb (Zo Zn (Za 0) (Zc 1)) (Zb (Za 1) Zd)))) (Zm (ZK (Zw (Zr Zc6 (Za 1) (Zc 0))) (Zz (E.tup (Zb (Za 3) (Zb (Za 2) Zd)))) ZM) (Zz (E.tup (Zb (Za 2) (Zb (Za 3) Zd))))))))⟩
def Zoc:=ZF 2 (XS.g Zgr)
def Zk3:=ZI 2 (XS.q Zgr)
theorem Zs9: SimF false Zoc Zk3:=ZT (XS.h Zgr)
def ZgL: XS [] [] [] false:=⟨_,_,(Zm (ZG (i:=2) (O':=[]) (E.tup (Zb (Zo Zn (Za 0) (Zc 0)) (Zb (Zo Zn (Za 0) (Zc 0)) Zd)))) (Zm (Zbm (Gs.zip (Zkg (k:=1) (Za 0)) (Za 1)) (PutOk.two (i:=3) (j:=4)) (by decide) (by decide) (ZG (i:=2) (O':=[]) (Zs Zto (Zb (Za 2) (Zb (Zs Zs9 (Zb (Za 4) (Zb (Za 3) Zd))) Zd))))) (Zz (Za 2))))⟩
def ZoA:=ZF 2 (XS.g ZgL)
def Zlh:=ZI 2 (XS.q ZgL)
theorem ZtI: SimF false ZoA Zlh:=ZT (XS.h ZgL)
def Zhw: XS [] [] [] false:=⟨_,_,(Zm (ZG (i:=2) (O':=[]) (E.tup (Zb (Zc 0) (Zb (Zo Zn (Za 0) (Zc 0)) Zd)))) (Zm (Zbm (Gs.zip (Zkg (k:=1) (Za 0)) (Za 1)) (PutOk.two (i:=3) (j:=4)) (by decide) (by decide) (ZG (i:=2) (O':=[]) (Zs ZlF (Zb (Za 2) (Zb (Zs Zlt (Zb (Za 4) (Zb (Za 3) Zd))) Zd))))) (Zz (Za 2))))⟩
def Zl0:=ZF 2 (XS.g Zhw)
def Zhx:=ZI 2 (XS.q Zhw)
theorem Zfq: SimF false Zl0 Zhx:=ZT (XS.h Zhw)
def ZhR: XS [] [] [] false:=⟨_,_,(Zz ((ZdA (E.sh (Zr Zch (Za 0) (ZY))) (ZdA (E.sh (Zr Zch (Za 1) (ZY))) (E.sh (Zr Zfb (Za 0) (Za 1)))))))⟩
def Zqj:=ZF 2 (XS.g ZhR)
def ZhS:=ZI 2 (XS.q ZhR)
theorem ZvO: SimF false Zqj ZhS:=ZT (XS.h ZhR)
def Zm3(F:List V→Hp→Option (V×Hp)): Sm:=Z5 (sIf (Zap (eIs "list" (Zp 0))) (Zak (ZbL (Zfa (Zp 0)) (put1 100) ZbP (ZU F (Zt (Zp 100) ZO)))) ZaM) (Z5 (sIf (Zap (eIs "tuple" (Zp 0))) (Zak (ZU ZfJ (Zt (ZbL (Zfa (Zp 0)) (put1 102) ZbP (ZU F (Zt (Zp 102) ZO))) ZO))) ZaM) (Zak (Zp 0)))
def ZfE: Nat→List V→Hp→Option (V×Hp)
 | 0=>fun _ _=>none
 | n+1=>ZF 1 (Zm3 (ZfE n))
def Zrw: List V→Hp→Option (V×Hp):=ZfE 9
def ZfO(F:List T→Option T): PS:=(Z8 (qIf (Zat (pIs "list" (Zh 0))) (Zax (Zbj (Zdl (Zh 0)) (ZaU 100) Za8 (ZV F (Zq (Zh 100) ZD)))) ZaV) (Z8 (qIf (Zat (pIs "tuple" (Zh 0))) (Zax (ZV ZjS (Zq (Zbj (Zdl (Zh 0)) (ZaU 102) Za8 (ZV F (Zq (Zh 102) ZD))) ZD))) ZaV) (Zax (ZcN (Zh 0)))))
def ZeB: Nat→List T→Option T
 | 0=>fun _=>none
 | n+1=>ZI 1 (ZfO (ZeB n))
def Zj1: List T→Option T:=ZeB 9
theorem ZmF: ∀n:Nat,SimF true (ZfE n) (ZeB n)
 | 0=>ZvI
 | n+1=>ZT (show S [] [] [] true (Zm3 (ZfE n)) (ZfO (ZeB n))from(Zm (ZK (Zw (ZdF (Za 0))) (Zab (ZcE (Gs.seq (Za 0)) PutOk.one (by decide) Zam (Zan (ZmF n) (Zb (Za 100) Zd)))) ZM) (Zm (ZK (Zw (ZdF (Za 0))) (Zab (ZxQ ZwG (Zez (ZcE (Gs.seq (Za 0)) PutOk.one (by decide) Zam (Zan (ZmF n) (Zb (Za 102) Zd))) Zd (by decide) (by decide)))) ZM) (Zab (E.flat (Za 0))))))
theorem Zj2: SimF true Zrw Zj1:=ZmF 9
def ZgM: XS [] [] [] true:=⟨_,_,(Zab (ZcE (Gs.range (Zb (ZQ ZZ (Za 1) (Zc 1)) Zd)) (PutOk.one (j:=100)) (by decide) Zam (Zd9 (Zw (Zr Zad (Za 0) (Za 100))) (Zc 0) (ZY))))⟩
def ZoB:=ZF 2 (XS.g ZgM)
def ZgN:=ZI 2 (XS.q ZgM)
theorem ZoC: SimF true ZoB ZgN:=ZT (XS.h ZgM)
def Zkr: Sm:=Zak (ZA Zaz (ZA Zaz (ZcZ (Zp 0) Ze0 (Ze1 (ZA Ze8 (Zp 1) (ZR 1)))) (ZeX (Zt (Zp 2) ZO))) (ZcZ (Zp 0) (Ze1 (Zp 1)) Ze0))
def Ziy:=ZF 3 Zkr
def Znq: PS:=(Zax (pFl (ZB Zaj (ZB Zaj (Zci (Zh 0) ZcI (ZcJ (ZB Zdj (Zh 1) (ZH 1)))) (Zcu (Zq (Zh 2) ZD))) (Zci (Zh 0) (ZcJ (Zh 1)) ZcI))))
def Zks:=ZI 3 Znq
theorem Zse: SimF true Ziy Zks:=ZT (show S [] [] [] true Zkr Znq from(Zab (Zir ZZ (ZQ ZZ (Zii (Za 0) Pe.none (Pe.some (Zr Za1 (Za 1) (Zc _)))) (E.list (Zb (Za 2) Zd))) (Zii (Za 0) (Pe.some (Za 1)) Pe.none))))
def Zhy: XS [] [2] [] true:=⟨_,_,(Zm (ZbJ (i:=2) (O':=[2]) (ZcE (Gs.seq (Za 0)) (PutOk.one (j:=100)) (by decide) Zam (Zan Zse (Zb (Za 100) (Zb (ZQ ZZ (Za 1) (Zc 1)) (Zb (ZY) Zd)))))) (Zm (S.put (x:=2) (O':=[2]) (by decide) (Za0 (O':=[]) (Zan ZoC (Zb (Za 1) (Zb (Zr Za1 (Zag Zau (Zb (Za 0) Zd)) (Zc 1)) Zd)))) Zby (Za 1) (by decide) (by decide)) (Zab (E.own (i:=2) (by decide)))))⟩
def ZpO:=ZF 2 (XS.g Zhy)
def Zl1:=ZI 2 (XS.q Zhy)
theorem ZuZ: SimF true ZpO Zl1:=ZT (XS.h Zhy)
def Zji: Sm:=Z5 (ZcQ (ZA Z4 (Zp 2) (ZR 1)) (ZA Z4 (Zp 0) (Zp 1)) (ZR 0)) (ZcQ (ZU ZlK (Zt (ZA Z4 (Zp 2) (ZR 0)) (Zt (eUn ZiM (ZR 1)) ZO))) (ZA Z4 (Zp 0) (ZR 0)) (Zp 1))
def ZpP:=ZF 3 Zji
def Zl2: PS:=(Z8 (ZbZ 0 [] (ZcN (ZB Z2 (Zh 2) (ZH 1))) (ZfX Zbt (Zh 1)) (ZH 0)) (ZbZ 0 [] (ZcN (ZV Zi9 (Zq (ZB Z2 (Zh 2) (ZH 0)) (Zq (pUn ZiQ (ZH 1)) ZD)))) (ZfX Zbt (ZH 0)) (Zh 1)))
def Zl3:=Zeh 3 Zl2
theorem Zu0: SimM ZpP Zl3:=ZjX (show S [0] [0] [0] false Zji Zl2 from(Zm (S.put (O':=[0]) (by decide) (Za0 (O':=[]) (E.flat (Zo Zn (Za 2) (Zc _)))) (ZeP Zby (Za 1)) (Zc _) (by decide) (by decide)) (S.put (O':=[0]) (by decide) (Za0 (O':=[]) (E.flat (Zs Zhd (Zb (Zo Zn (Za 2) (Zc _)) (Zb (Zb7 Zb8 (Zc _)) Zd))))) (ZeP Zby (Zc _)) (Za 1) (by decide) (by decide)))) (by decide) (by unfold Zji;repeat' first | exact Keep0.next | exact Zju | exact Keep0.ret | exact Keep0.put | apply Keep0.seq | apply Zjv | exact Keep0.set (by decide))
def Ziz: XS [] [4] [] true:=⟨_,_,(Zm (ZK (Zw (Zr Za9 (Za 0) (ZY))) (Zab (ZY)) ZM) (Zm (ZbJ (i:=4) (O':=[4]) (Zan ZuZ (Zb (Zo Zn (Za 0) (Zc 0)) (Zb (Za 1) Zd)))) (Zm (ZeR (x:=4) (O':=[4]) (by decide) Zu0 (Zb (Za 1) (Zb (Za 2) Zd)) (by decide) (by decide)) (Zab (Zan Zdt (Zb (E.tup (Zb (Za 4) (Zb (Zs Zse (Zb (Zo Zn (Za 0) (Zc 1)) (Zb (Za 1) (Zb (Za 3) Zd)))) Zd))) Zd))))))⟩
def ZiA:=ZF 4 (XS.g Ziz)
def Zdg:=ZI 4 (XS.q Ziz)
theorem Znr: SimF true ZiA Zdg:=ZT (XS.h Ziz)
def ZhT: XS [] [3,4] [] true:=⟨_,_,(Zm (ZG (i:=2) (O':=[]) (Zag Zau (Zb (Zo Zn (Za 0) (Zc 1)) Zd))) (Zm (ZbJ (i:=3) (O':=[3]) (ZcE (Gs.seq (Zo Zn (Za 0) (Zc 0))) (PutOk.one (j:=100)) (by decide) Zam (Zir ZZ (Za 100) (ZQ Zbe (E.list (Zb (ZY) Zd)) (Za 1))))) (Zm (ZbJ (i:=4) (O':=[3,4]) (Za0 (O':=[]) (ZcE (Gs.range (Zb (ZQ ZZ (Za 2) (Zc 1)) (Zb (ZQ ZZ (ZQ ZZ (Za 2) (Za 1)) (Zc 1)) Zd))) (PutOk.one (j:=102)) (by decide) Zam (Zan ZoC (Zb (Za 102) (Zb (ZQ ZZ (Za 2) (Za 1)) Zd)))))) (Zab (E.tup (Zez (Zzh (E.own (i:=3) (by decide)) (E.own (i:=4) (by decide)) (by decide) (by decide)) (Zez (Zir ZZ (Zo Zn (Za 0) (Zc 1)) (ZQ Zbe (E.list (Zb (E.tup (Zb (Zc 1) (Zb (Zc 0) Zd))) Zd)) (Za 1))) Zd (by decide) (by decide)) (by decide) (by decide)))))))⟩
def Zmn:=ZF 2 (XS.g ZhT)
def ZhU:=ZI 2 (XS.q ZhT)
theorem ZvP: SimF true Zmn ZhU:=ZT (XS.h ZhT)
def Zjj: Sm:=ZcQ (ZU ZmE (Zt (ZA Z4 (ZA Z4 (Zp 0) (Zp 1)) (Zp 2)) (Zt (Zp 3) ZO))) (ZA Z4 (Zp 0) (Zp 1)) (Zp 2)
def Zhz:=ZF 4 Zjj
def Zl4: PS:=(ZbZ 0 [] (ZcN (ZV ZjB (Zq (ZB Z2 (ZB Z2 (Zh 0) (Zh 1)) (Zh 2)) (Zq (Zh 3) ZD)))) (ZfX Zbt (Zh 1)) (Zh 2))
def Zfr:=Zeh 4 Zl4
theorem Zjk: SimM Zhz Zfr:=ZjX (show S [0] [0] [0] false Zjj Zl4 from(S.put (O':=[0]) (by decide) (Za0 (O':=[]) (E.flat (Zs ZqQ (Zb (Zo Zn (Zo Zn (Za 0) (Za 1)) (Za 2)) (Zb (Za 3) Zd))))) (ZeP Zby (Za 1)) (Za 2) (by decide) (by decide))) (by decide) (by unfold Zjj;repeat' first | exact Keep0.next | exact Zju | exact Keep0.ret | exact Keep0.put | apply Keep0.seq | apply Zjv | exact Keep0.set (by decide))
def Zgk: XS [] [3] [] true:=⟨_,_,(Zm (ZbJ (i:=3) (O':=[3]) (Zan Zj2 (Zb (Za 0) Zd))) (Zm (Zbm (Gs.zip (Za 1) (Za 2)) (PutOk.two (i:=4) (j:=5)) (by decide) (by decide) (Zbm (Gs.zip (Za 1) (Za 5)) (PutOk.two (i:=6) (j:=7)) (by decide) (by decide) (ZeR (x:=3) (O':=[3]) (by decide) Zjk (Zb (Za 4) (Zb (Za 6) (Zb (Za 7) Zd))) (by decide) (by decide)))) (Zab (E.own (i:=3) (by decide)))))⟩
def Zn5:=ZF 3 (XS.g Zgk)
def ZkY:=ZI 3 (XS.q Zgk)
theorem ZsY: SimF true Zn5 ZkY:=ZT (XS.h Zgk)
def ZhV: XS [] [3] [] true:=⟨_,_,(Zm (ZbJ (i:=3) (O':=[3]) (ZjP ZfL (Zb (Zo Zn (Za 0) (Zc 1)) Zd))) (Zm (Zbm (Gs.zip (Za 1) (Zo Zn (Za 2) (Zc 1))) (PutOk.two (i:=4) (j:=5)) (by decide) (by decide) (S.put (x:=3) (O':=[3]) (by decide) (Za0 (O':=[]) (E.flat (Zs ZlX (Zb (Zo Zn (Za 3) (Zr Za1 (Za 4) (Zc 1))) (Zb (Za 5) Zd))))) Zby (Zr Za1 (Za 4) (Zc 1)) (by decide) (by decide))) (Zm (ZK (Zw (Zr Zgf (ZY) (Za 3))) (Zab (ZY)) ZM) (Zab (E.tup (Zez (Zan ZsY (Zb (Zo Zn (Za 0) (Zc 0)) (Zb (ZQ ZZ (E.list (Zb (Zc 0) Zd)) (Za 1)) (Zb (Zo Zn (Za 2) (Zc 0)) Zd)))) (Zez (E.own (i:=3) (by decide)) Zd (by decide) (by decide)) (by decide) (by decide)))))))⟩
def Zmo:=ZF 3 (XS.g ZhV)
def Zfx:=ZI 3 (XS.q ZhV)
theorem ZvQ: SimF true Zmo Zfx:=ZT (XS.h ZhV)
def Zmp: Sm:=Z5 (Zar 3 (ZA Zaz (ZeX (Zt (ZU Zlq (Zt (Zp 0) (Zt (Zp 1) ZO))) ZO)) (ZA Zgc (ZeX (Zt (ZR 0) ZO)) (Zp 2)))) (Z5 (Zar 4 (ZU ZdN (Zt (Zp 0) (Zt (Zp 1) (Zt (ZR 6) ZO))))) (Z5 (sIf (tOr (Zap (ZA oEq (Zp 4) (ZR 0))) (tOr (Zap (ZA oEq (Zp 2) (ZR 0))) ZfT)) (Zak (Zp 3)) ZaM) (Z5 (Zar 5 (ZA Zaz (ZR 1) (ZU ZdN (Zt (Zp 0) (Zt (ZA Zaz (Zp 1) (ZR 1)) (Zt (Zp 2) ZO)))))) (Z5 (sIf (Zap (ZA oEq (Zp 4) (ZR 1))) (ZcQ (ZA Ze8 (ZU ZdN (Zt (Zp 0) (Zt (ZA Zaz (Zp 1) (ZR 2)) (Zt (ZR 13) ZO)))) (ZR 6)) (Zp 3) (Zp 5)) ZaM) (Z5 (sIf (tOr (Zap (ZA oEq (Zp 4) (ZR 2))) (tOr (Zap (ZA oEq (Zp 4) (ZR 3))) ZfT)) (Z5 (Zar 6 (ZA Zaz (ZR 1) (ZU ZdN (Zt (Zp 0) (Zt (ZA Zaz (Zp 1) (ZR 2)) (Zt (Zp 2) ZO)))))) (Z5 (ZcQ (ZR 1) (Zp 3) (Zp 5)) (ZcQ (ZA Ze8 (ZA Z4 (Zp 3) (Zp 6)) (ZR 1)) (Zp 3) (Zp 6)))) ZaM) (Z5 (sIf (Zap (ZA oEq (Zp 4) (ZR 4))) (Zcb (Zcr (Zt (Zp 2) ZO)) (put1 7) (ZcQ (ZA Ze8 (ZU ZdN (Zt (Zp 0) (Zt (ZA Zaz (ZA Zaz (Zp 1) (ZR 1)) (Zp 7)) (Zt (ZR 7) ZO)))) (ZR 3)) (Zp 3) (ZA Zaz (Zp 7) (ZR 1)))) ZaM) (Z5 (sIf (Zap (ZA oEq (Zp 4) (ZR 5))) (Zcb (Zcr (Zt (Zp 2) ZO)) (put1 7) (ZcQ (ZA Ze8 (ZU ZdN (Zt (Zp 0) (Zt (ZA Zaz (ZA Zaz (Zp 1) (ZR 1)) (Zp 7)) (Zt (ZR 2000000001) ZO)))) (ZR 1000000000)) (Zp 3) (ZA Zaz (Zp 7) (ZR 1)))) ZaM) (Zak (Zp 3)))))))))
def Zqk:=ZF 3 Zmp
def Zmq: PS:=(Z8 (ZaO 3 (pFl (ZB Zaj (Zcu (Zq (ZV Zi0 (Zq (Zh 0) (Zq (Zh 1) ZD))) ZD)) (ZB Zdk (Zcu (Zq (ZH 0) ZD)) (Zh 2))))) (Z8 (ZaO 4 (ZV Zb0 (Zq (Zh 0) (Zq (Zh 1) (Zq (ZH 6) ZD))))) (Z8 (qIf (bOr (Zat (ZB qEq (Zh 4) (ZH 0))) (bOr (Zat (ZB qEq (Zh 2) (ZH 0))) Zis)) (Zax (Zh 3)) ZaV) (Z8 (ZaO 5 (ZB Zaj (ZH 1) (ZV Zb0 (Zq (Zh 0) (Zq (ZB Zaj (Zh 1) (ZH 1)) (Zq (Zh 2) ZD)))))) (Z8 (qIf (Zat (ZB qEq (Zh 4) (ZH 1))) (ZbZ 3 [] (ZB Zdj (ZV Zb0 (Zq (Zh 0) (Zq (ZB Zaj (Zh 1) (ZH 2)) (Zq (ZH 13) ZD)))) (ZH 6)) Zbt (Zh 5)) ZaV) (Z8 (qIf (bOr (Zat (ZB qEq (Zh 4) (ZH 2))) (bOr (Zat (ZB qEq (Zh 4) (ZH 3))) Zis)) (Z8 (ZaO 6 (ZB Zaj (ZH 1) (ZV Zb0 (Zq (Zh 0) (Zq (ZB Zaj (Zh 1) (ZH 2)) (Zq (Zh 2) ZD)))))) (Z8 (ZbZ 3 [] (ZH 1) Zbt (Zh 5)) (ZbZ 3 [] (ZB Zdj (ZB Z2 (Zh 3) (Zh 6)) (ZH 1)) Zbt (Zh 6)))) ZaV) (Z8 (qIf (Zat (ZB qEq (Zh 4) (ZH 4))) (Zcz (ZbI (Zq (Zh 2) ZD)) (ZaU 7) (ZbZ 3 [] (ZB Zdj (ZV Zb0 (Zq (Zh 0) (Zq (ZB Zaj (ZB Zaj (Zh 1) (ZH 1)) (Zh 7)) (Zq (ZH 7) ZD)))) (ZH 3)) Zbt (ZB Zaj (Zh 7) (ZH 1)))) ZaV) (Z8 (qIf (Zat (ZB qEq (Zh 4) (ZH 5))) (Zcz (ZbI (Zq (Zh 2) ZD)) (ZaU 7) (ZbZ 3 [] (ZB Zdj (ZV Zb0 (Zq (Zh 0) (Zq (ZB Zaj (ZB Zaj (Zh 1) (ZH 1)) (Zh 7)) (Zq (ZH 2000000001) ZD)))) (ZH 1000000000)) Zbt (ZB Zaj (Zh 7) (ZH 1)))) ZaV) (Zax (Zh 3))))))))))
def Zmr:=ZI 3 Zmq
theorem Zql: SimF true Zqk Zmr:=ZT (show S [] [3] [] true Zmp Zmq from(Zm (ZbJ (O':=[3]) (Zir ZZ (E.list (Zb (Zs ZdJ (Zb (Za 0) (Zb (Za 1) Zd))) Zd)) (ZQ Zbe (E.list (Zb (Zc _) Zd)) (Za 2)))) (Zm (ZG (O':=[3]) (Zs Zbg (Zb (Za 0) (Zb (Za 1) (Zb (Zc _) Zd))))) (Zm (ZK (ZaH (Zw (Zr Zad (Za 4) (Zc _))) (ZaH (Zw (Zr Zad (Za 2) (Zc _))) Zb2)) (Zab (E.own (by decide))) ZM) (Zm (ZG (O':=[3]) (ZQ ZZ (Zc _) (Zs Zbg (Zb (Za 0) (Zb (ZQ ZZ (Za 1) (Zc _)) (Zb (Za 2) Zd)))))) (Zm (ZK (Zw (Zr Zad (Za 4) (Zc _))) (S.put (O':=[3]) (by decide) (Za0 (O':=[]) (Zr Za1 (Zs Zbg (Zb (Za 0) (Zb (ZQ ZZ (Za 1) (Zc _)) (Zb (Zc _) Zd)))) (Zc _))) Zby (Za 5) (by decide) (by decide)) ZM) (Zm (ZK (ZaH (Zw (Zr Zad (Za 4) (Zc _))) (ZaH (Zw (Zr Zad (Za 4) (Zc _))) Zb2)) (Zm (ZG (O':=[3]) (ZQ ZZ (Zc _) (Zs Zbg (Zb (Za 0) (Zb (ZQ ZZ (Za 1) (Zc _)) (Zb (Za 2) Zd)))))) (Zm (S.put (O':=[3]) (by decide) (Za0 (O':=[]) (Zc _)) Zby (Za 5) (by decide) (by decide)) (S.put (O':=[3]) (by decide) (Za0 (O':=[]) (Zr Za1 (Zo Zn (Za 3) (Za 6)) (Zc _))) Zby (Za 6) (by decide) (by decide)))) ZM) (Zm (ZK (Zw (Zr Zad (Za 4) (Zc _))) (Zbm (Gs.range (Zb (Za 2) Zd)) PutOk.one (by decide) (by decide) (S.put (O':=[3]) (by decide) (Za0 (O':=[]) (Zr Za1 (Zs Zbg (Zb (Za 0) (Zb (ZQ ZZ (ZQ ZZ (Za 1) (Zc _)) (Za 7)) (Zb (Zc _) Zd)))) (Zc _))) Zby (ZQ ZZ (Za 7) (Zc _)) (by decide) (by decide))) ZM) (Zm (ZK (Zw (Zr Zad (Za 4) (Zc _))) (Zbm (Gs.range (Zb (Za 2) Zd)) PutOk.one (by decide) (by decide) (S.put (O':=[3]) (by decide) (Za0 (O':=[]) (Zr Za1 (Zs Zbg (Zb (Za 0) (Zb (ZQ ZZ (ZQ ZZ (Za 1) (Zc _)) (Za 7)) (Zb (Zc _) Zd)))) (Zc _))) Zby (ZQ ZZ (Za 7) (Zc _)) (by decide) (by decide))) ZM) (Zab (E.own (by decide))))))))))))
def Zgs: XS [] [] [] false:=⟨_,_,(Zz (Zr Zad (ZjO ZwI (Zb (ZbH (Gs.seq (Zkg (k:=1) (Za 0))) (PutOk.one (j:=100)) (by decide) (Zw (Zr ZbM (Za 100) (Zc 0))) (Za 100)) Zd)) (E.list (Zb (Zb7 Zb8 (Zc 1)) (Zb (Zc 1) Zd)))))⟩
def Zod:=ZF 1 (XS.g Zgs)
def Zk4:=ZI 1 (XS.q Zgs)
theorem Zta: SimF false Zod Zk4:=ZT (XS.h Zgs)
def ZgC: XS [] [] [] false:=⟨_,_,(Zm (ZG (i:=1) (O':=[]) (Zo Zn (Za 0) (Zc 0))) (Zz (ZbH (Gs.range (Zb (Zc 1) (Zb (Zag Zau (Zb (Za 1) Zd)) Zd))) (PutOk.one (j:=100)) (by decide) Zam (E.tup (Zb (Zs Zhd (Zb (Zo Zn (Zo Zn (Za 1) (Zc 0)) (Za 100)) (Zb (Zb7 Zb8 (Zc 1)) Zd))) (Zb (Zo Zn (Zo Zn (Za 1) (Za 100)) (Zc 0)) Zd))))))⟩
def Zoq:=ZF 1 (XS.g ZgC)
def Zk8:=ZI 1 (XS.q ZgC)
theorem Ztp: SimF false Zoq Zk8:=ZT (XS.h ZgC)
def ZhA: XS [] [] [] false:=⟨_,_,(Zm (ZK (Zw (Zs Zta (Zb (Za 1) Zd))) (Zz (Zs Zfp (Zb (Zo Zn (Zo Zn (Zo Zn (Za 0) (Zc 0)) (E.index (Za 1) (Zc 1) (Zc 1))) (E.index (Za 1) (Zb7 Zb8 (Zc 1)) (Zc 1))) (Zb (Zo Zn (Za 1) (Zc 0)) Zd)))) ZM) (Zz (Zo Zn (Zs ZtI (Zb (Za 1) (Zb (Zs Ztp (Zb (Za 0) Zd)) Zd))) (Zc 1))))⟩
def Zl5:=ZF 2 (XS.g ZhA)
def ZhB:=ZI 2 (XS.q ZhA)
theorem ZhC: SimF false Zl5 ZhB:=ZT (XS.h ZhA)
def Zhe: XS [] [] [] false:=⟨_,_,(Zz (ZbH (Gs.seq (Za 0)) (PutOk.one (j:=100)) (by decide) Zam (ZQ Zbe (Za 100) (Za 1))))⟩
def ZlL:=ZF 2 (XS.g Zhe)
def Zja:=ZI 2 (XS.q Zhe)
theorem Zen: SimF false ZlL Zja:=ZT (XS.h Zhe)
def ZfP: XS [] [] [] false:=⟨_,_,(Zz (Zs Zhd (Zb (Zs ZhC (Zb (Za 0) (Zb (Zs Zen (Zb (Za 1) (Zb (Zb7 Zb8 (Zc 1)) Zd))) Zd))) (Zb (Zb7 Zb8 (Zc 1)) Zd))))⟩
def Zm4:=ZF 2 (XS.g ZfP)
def ZdX:=ZI 2 (XS.q ZfP)
theorem Zrx: SimF false Zm4 ZdX:=ZT (XS.h ZfP)
def Zhf: XS [] [] [] false:=⟨_,_,(Zz (ZQ ZZ (Zo Zn (Za 0) (Zc 0)) (Zag ZzN (Zb (ZbH (Gs.range (Zb (Zag Zau (Zb (Za 1) Zd)) Zd)) (PutOk.one (j:=100)) (by decide) Zam (ZQ Zbe (Zo Zn (Za 0) (ZQ ZZ (Za 100) (Zc 1))) (Zo Zn (Za 1) (Za 100)))) Zd))))⟩
def Zpf:=ZF 2 (XS.g Zhf)
def Zjb:=ZI 2 (XS.q Zhf)
theorem Zpg: SimF false Zpf Zjb:=ZT (XS.h Zhf)
def ZhD: XS [] [] [] false:=⟨_,_,(Zz (ZbH (Gs.zip (Za 0) (Za 1)) (PutOk.two (i:=100) (j:=101)) (by decide) Zam (ZQ ZZ (Za 100) (Za 101))))⟩
def ZpQ:=ZF 2 (XS.g ZhD)
def Zl6:=ZI 2 (XS.q ZhD)
theorem Zu1: SimF false ZpQ Zl6:=ZT (XS.h ZhD)
def ZhE: XS [] [] [] false:=⟨_,_,(Zz (Zs Zu1 (Zb (Za 0) (Zb (Zs Zen (Zb (Za 1) (Zb (Zb7 Zb8 (Zc 1)) Zd))) Zd))))⟩
def Zl7:=ZF 2 (XS.g ZhE)
def Zjl:=ZI 2 (XS.q ZhE)
theorem Zjm: SimF false Zl7 Zjl:=ZT (XS.h ZhE)
def ZgY: XS [] [] [] false:=⟨_,_,(Zz (ZbH (Gs.seq (Za 2)) (PutOk.one (j:=100)) (by decide) Zam (Zs ZhC (Zb (Za 0) (Zb (Zs Zjm (Zb (Za 1) (Zb (Za 100) Zd))) Zd)))))⟩
def ZoP:=ZF 3 (XS.g ZgY)
def Zlv:=ZI 3 (XS.q ZgY)
theorem Zub: SimF false ZoP Zlv:=ZT (XS.h ZgY)
def ZhW: XS [] [] [] false:=⟨_,_,(Zz (ZbH (Gs.range (Zb (ZQ ZZ (Za 1) (Zc 1)) Zd)) (PutOk.one (j:=100)) (by decide) Zam (Zd9 (Zbi (Zw (Zr Zfb (Za 0) (Zc 0))) (Zbi (Zw (Zr Zad (Za 100) (Za 0))) Zam)) (E.sh (Zc 1)) (E.sh (Zc 0)))))⟩
def Zfy:=ZF 2 (XS.g ZhW)
def ZdQ:=ZI 2 (XS.q ZhW)
theorem Zeu: SimF false Zfy ZdQ:=ZT (XS.h ZhW)
def ZfF: XS [] [] [] true:=⟨_,_,(Zm (ZK (Zw (Zr Za9 (Za 0) (ZY))) (Zab (ZY)) ZM) (Zm (ZG (i:=2) (O':=[]) (ZQ ZZ (E.list (Zb (Zs Zeu (Zb (Zc 0) (Zb (Zag Zau (Zb (Zo Zn (Za 0) (Zc 1)) Zd)) Zd))) Zd)) (Za 1))) (Zm (ZG (i:=3) (O':=[]) (ZbH (Gs.seq (Za 2)) (PutOk.one (j:=100)) (by decide) Zam (Zs Zub (Zb (Za 0) (Zb (Za 100) (Zb (Za 2) Zd)))))) (Zm (ZG (i:=4) (O':=[]) (ZbH (Gs.seq (Za 1)) (PutOk.one (j:=102)) (by decide) Zam (Zs Zfq (Zb (Za 102) (Zb (Zo Zn (Za 0) (Zc 1)) Zd))))) (Zab (Zan Zdt (Zb (E.tup (Zb (Za 3) (Zb (Za 4) Zd))) Zd)))))))⟩
def Zh6:=ZF 2 (XS.g ZfF)
def ZbN:=ZI 2 (XS.q ZfF)
theorem ZmG: SimF true Zh6 ZbN:=ZT (XS.h ZfF)
def ZgZ: XS [] [] [] false:=⟨_,_,(Zz (Zs Zfp (Zb (Zs ZhC (Zb (Za 0) (Zb (Zs Zjm (Zb (Za 1) (Zb (Za 2) Zd))) Zd))) (Zb (Za 3) Zd))))⟩
def Zi2:=ZF 4 (XS.g ZgZ)
def Zg0:=ZI 4 (XS.q ZgZ)
theorem ZoQ: SimF false Zi2 Zg0:=ZT (XS.h ZgZ)
def ZiV: Sm:=Z5 (Zar 4 (ZU Zcx (Zt (ZA Z4 (Zp 1) (ZR 1)) ZO))) (Zcb (Zcr (Zt (ZA Zaz (Zp 4) (ZR 1)) ZO)) (put1 5) (Zcb (Zcr (Zt (ZA Zaz (Zp 4) (ZR 1)) ZO)) (put1 6) (Z5 (Zar 7 (ZU Zl7 (Zt (ZU Zfy (Zt (Zp 5) (Zt (Zp 4) ZO))) (Zt (ZU Zfy (Zt (Zp 6) (Zt (Zp 4) ZO))) ZO)))) (Zc5 (ZU Zhz (Zt (Zp 0) (Zt (Zp 5) (Zt (Zp 6) (Zt (ZU Zi2 (Zt (Zp 1) (Zt (Zp 7) (Zt (Zp 2) (Zt (Zp 3) ZO))))) ZO)))))))))
def ZoD:=ZF 4 ZiV
def Zli: PS:=(Z8 (ZaO 4 (ZV ZbQ (Zq (ZB Z2 (Zh 1) (ZH 1)) ZD))) (Zcz (ZbI (Zq (ZB Zaj (Zh 4) (ZH 1)) ZD)) (ZaU 5) (Zcz (ZbI (Zq (ZB Zaj (Zh 4) (ZH 1)) ZD)) (ZaU 6) (Z8 (ZaO 7 (ZV Zjl (Zq (ZV ZdQ (Zq (Zh 5) (Zq (Zh 4) ZD))) (Zq (ZV ZdQ (Zq (Zh 6) (Zq (Zh 4) ZD))) ZD)))) (Zgg 0 Zfr (Zq (Zh 5) (Zq (Zh 6) (Zq (ZV Zg0 (Zq (Zh 1) (Zq (Zh 7) (Zq (Zh 2) (Zq (Zh 3) ZD))))) ZD))))))))
def Zlj:=Zeh 4 Zli
theorem ZtJ: SimM ZoD Zlj:=ZjX (show S [0] [0] [0] false ZiV Zli from(Zm (ZG (O':=[0]) (Zag Zau (Zb (Zo Zn (Za 1) (Zc _)) Zd))) (Zbm (Gs.range (Zb (ZQ ZZ (Za 4) (Zc _)) Zd)) PutOk.one (by decide) (by decide) (Zbm (Gs.range (Zb (ZQ ZZ (Za 4) (Zc _)) Zd)) PutOk.one (by decide) (by decide) (Zm (ZG (O':=[0]) (Zs Zjm (Zb (Zs Zeu (Zb (Za 5) (Zb (Za 4) Zd))) (Zb (Zs Zeu (Zb (Za 6) (Zb (Za 4) Zd))) Zd)))) (ZeR (O':=[0]) (by decide) Zjk (Zb (Za 5) (Zb (Za 6) (Zb (Zs ZoQ (Zb (Za 1) (Zb (Za 7) (Zb (Za 2) (Zb (Za 3) Zd))))) Zd))) (by decide) (by decide))))))) (by decide) (by unfold ZiV;repeat' first | exact Keep0.next | exact Zju | exact Keep0.ret | exact Keep0.put | apply Keep0.seq | apply Zjv | exact Keep0.set (by decide) | apply Zqd (ZpD (by decide)))
def Zg1: XS [] [] [] false:=⟨_,_,(Zm (ZK (Zw (Zr Za9 (Za 0) (ZY))) (Zz (ZY)) ZM) (Zz (Zr ZcO (Za 0) (Za 1))))⟩
def Zi3:=ZF 2 (XS.g Zg1)
def Zg2:=ZI 2 (XS.q Zg1)
theorem Zi4: SimF false Zi3 Zg2:=ZT (XS.h Zg1)
def ZiW: Sm:=Z5 (Zar 4 (ZU Zcx (Zt (ZA Z4 (Zp 1) (ZR 1)) ZO))) (Zcb (Zcr (Zt (ZR 1) (Zt (ZA Zaz (Zp 4) (ZR 1)) ZO))) (put1 5) (Z5 (Zar 6 (ZA Z4 (Zp 2) (Zp 5))) (Z5 (Zar 7 (ZU Zi2 (Zt (Zp 1) (Zt (ZU ZlL (Zt (ZU Zfy (Zt (Zp 5) (Zt (Zp 4) ZO))) (Zt (Zp 6) ZO))) (Zt (Zp 2) (Zt (Zp 3) ZO)))))) (Z5 (sIf (Zap (ZA oGt (Zp 6) (ZR 0))) (Zc5 (ZU Zhz (Zt (Zp 0) (Zt (Zp 5) (Zt (ZR 0) (Zt (ZU Zi3 (Zt (Zp 7) (Zt (Zp 6) ZO))) ZO)))))) ZaM) (sIf (Zap (ZA oLt (Zp 6) (ZR 0))) (Zc5 (ZU Zhz (Zt (Zp 0) (Zt (ZR 0) (Zt (Zp 5) (Zt (ZU Zi3 (Zt (Zp 7) (Zt (eUn ZiM (Zp 6)) ZO))) ZO)))))) ZaM)))))
def ZoE:=ZF 4 ZiW
def Zlk: PS:=(Z8 (ZaO 4 (ZV ZbQ (Zq (ZB Z2 (Zh 1) (ZH 1)) ZD))) (Zcz (ZbI (Zq (ZH 1) (Zq (ZB Zaj (Zh 4) (ZH 1)) ZD))) (ZaU 5) (Z8 (ZaO 6 (ZB Z2 (Zh 2) (Zh 5))) (Z8 (ZaO 7 (ZV Zg0 (Zq (Zh 1) (Zq (ZV Zja (Zq (ZV ZdQ (Zq (Zh 5) (Zq (Zh 4) ZD))) (Zq (Zh 6) ZD))) (Zq (Zh 2) (Zq (Zh 3) ZD)))))) (Z8 (qIf (Zat (ZB qGt (Zh 6) (ZH 0))) (Zgg 0 Zfr (Zq (Zh 5) (Zq (ZH 0) (Zq (ZV Zg2 (Zq (Zh 7) (Zq (Zh 6) ZD))) ZD)))) ZaV) (qIf (Zat (ZB qLt (Zh 6) (ZH 0))) (Zgg 0 Zfr (Zq (ZH 0) (Zq (Zh 5) (Zq (ZV Zg2 (Zq (Zh 7) (Zq (pUn ZiQ (Zh 6)) ZD))) ZD)))) ZaV))))))
def Zll:=Zeh 4 Zlk
theorem ZtK: SimM ZoE Zll:=ZjX (show S [0] [0] [0] false ZiW Zlk from(Zm (ZG (O':=[0]) (Zag Zau (Zb (Zo Zn (Za 1) (Zc _)) Zd))) (Zbm (Gs.range (Zb (Zc _) (Zb (ZQ ZZ (Za 4) (Zc _)) Zd))) PutOk.one (by decide) (by decide) (Zm (ZG (O':=[0]) (Zo Zn (Za 2) (Za 5))) (Zm (ZG (O':=[0]) (Zs ZoQ (Zb (Za 1) (Zb (Zs Zen (Zb (Zs Zeu (Zb (Za 5) (Zb (Za 4) Zd))) (Zb (Za 6) Zd))) (Zb (Za 2) (Zb (Za 3) Zd)))))) (Zm (ZK (Zw (Zr Zfb (Za 6) (Zc _))) (ZeR (O':=[0]) (by decide) Zjk (Zb (Za 5) (Zb (Zc _) (Zb (Zs Zi4 (Zb (Za 7) (Zb (Za 6) Zd))) Zd))) (by decide) (by decide)) ZM) (ZK (Zw (Zr Zc6 (Za 6) (Zc _))) (ZeR (O':=[0]) (by decide) Zjk (Zb (Zc _) (Zb (Za 5) (Zb (Zs Zi4 (Zb (Za 7) (Zb (Zb7 Zb8 (Za 6)) Zd))) Zd))) (by decide) (by decide)) ZM))))))) (by decide) (by unfold ZiW;repeat' first | exact Keep0.next | exact Zju | exact Keep0.ret | exact Keep0.put | apply Keep0.seq | apply Zjv | exact Keep0.set (by decide) | apply Zqd (ZpD (by decide)))
def Zev: XS [] [3] [] true:=⟨_,_,(Zm (ZK (ZaH (Zw (Zr Za9 (Za 0) (ZY))) (ZaH (Zw (Zs ZvO (Zb (Zs Zrx (Zb (Za 0) (Zb (Za 1) Zd))) (Zb (Za 2) Zd)))) Zb2)) (Zab (ZY)) ZM) (Zm (ZbJ (i:=3) (O':=[3]) (Zan Zj2 (Zb (Zo Zn (Za 0) (Zc 0)) Zd))) (Zm (ZeR (x:=3) (O':=[3]) (by decide) ZtJ (Zb (Za 0) (Zb (Za 1) (Zb (Za 2) Zd))) (by decide) (by decide)) (Zm (ZeR (x:=3) (O':=[3]) (by decide) ZtK (Zb (Za 0) (Zb (Za 1) (Zb (Za 2) Zd))) (by decide) (by decide)) (Zab (Zan Zdt (Zb (E.tup (Zb (Za 3) (Zb (Zo Zn (Za 0) (Zc 1)) Zd))) Zd)))))))⟩
def Zqm:=ZF 3 (XS.g Zev)
def ZcC:=ZI 3 (XS.q Zev)
theorem ZhX: SimF true Zqm ZcC:=ZT (XS.h Zev)
def Zfg: XS [] [] [] true:=⟨_,_,(Zm (ZK (Zw (Za 2)) (Zab (Zan ZhX (Zb (Za 0) (Zb (Za 1) (Zb (Zb7 Zb8 (Zc 1)) Zd))))) ZM) (Zab (Zan ZhX (Zb (Za 0) (Zb (Zs Zen (Zb (Za 1) (Zb (Zb7 Zb8 (Zc 1)) Zd))) (Zb (Zc 0) Zd))))))⟩
def ZoR:=ZF 3 (XS.g Zfg)
def Zfh:=ZI 3 (XS.q Zfg)
theorem Zuc: SimF true ZoR Zfh:=ZT (XS.h Zfg)
def Zgt: XS [] [] [] false:=⟨_,_,(Zz (Zs Zf0 (Zb (Zs Zjw (Zb (Zo Zn (Za 0) (Zc 0)) (Zb (Za 1) Zd))) (Zb (Zo Zn (Za 0) (Zc 1)) Zd))))⟩
def Zoe:=ZF 2 (XS.g Zgt)
def Zk5:=ZI 2 (XS.q Zgt)
theorem Zof: SimF false Zoe Zk5:=ZT (XS.h Zgt)
def ZgO: XS [] [] [] false:=⟨_,_,(Zm (ZG (i:=4) (O':=[]) (Zo Zn (Za 1) (Za 3))) (Zm (ZG (i:=5) (O':=[]) (Zo Zn (Za 0) (Zr Za1 (Za 3) (Zc 1)))) (Zm (ZK (Zw (Zr ZbM (Zag Zea (Zb (Za 4) Zd)) (Zc 1))) (Zz (Za 5)) ZM) (Zm (ZG (i:=6) (O':=[]) (Zs Zjm (Zb (Za 1) (Zb (Zs Zen (Zb (Zs Zeu (Zb (Za 3) (Zb (Zag Zau (Zb (Za 0) Zd)) Zd))) (Zb (Za 4) Zd))) Zd)))) (Zz (Zs ZlX (Zb (Za 5) (Zb (Zs Zof (Zb (Zs Zlt (Zb (Zs Zfq (Zb (Za 6) (Zb (Za 0) Zd))) (Zb (Zb7 Zb8 (Za 4)) Zd))) (Zb (Za 2) Zd))) Zd))))))))⟩
def ZoF:=ZF 4 (XS.g ZgO)
def ZiX:=ZI 4 (XS.q ZgO)
theorem ZtL: SimF false ZoF ZiX:=ZT (XS.h ZgO)
def Zfk: XS [] [] [] true:=⟨_,_,(Zm (ZK (Zw (Zr Za9 (Za 0) (ZY))) (Zab (ZY)) ZM) (Zm (ZG (i:=3) (O':=[]) (ZbH (Gs.range (Zb (Zc 1) (Zb (Zag Zau (Zb (Za 1) Zd)) Zd))) (PutOk.one (j:=100)) (by decide) Zam (Zs ZtL (Zb (Zo Zn (Za 0) (Zc 1)) (Zb (Za 1) (Zb (Za 2) (Zb (Za 100) Zd))))))) (Zm (ZK (Zw (Zr Zgf (ZY) (Za 3))) (Zab (ZY)) ZM) (Zab (Zan Zdt (Zb (E.tup (Zb (Zo Zn (Za 0) (Zc 0)) (Zb (Za 3) Zd))) Zd))))))⟩
def Zph:=ZF 3 (XS.g Zfk)
def Zdp:=ZI 3 (XS.q Zfk)
theorem Zpi: SimF true Zph Zdp:=ZT (XS.h Zfk)
def Zfl: XS [] [] [] true:=⟨_,_,(Zm (ZK (ZbT (Zw (Zs Zhs (Zb (Zs Zof (Zb (Zs Zfq (Zb (Za 1) (Zb (Zo Zn (Za 0) (Zc 1)) Zd))) (Zb (Za 2) Zd))) (Zb (Zc 0) Zd))))) (Zab (ZY)) ZM) (Zab (Zan Zpi (Zb (Za 0) (Zb (Za 1) (Zb (Za 2) Zd))))))⟩
def Zpj:=ZF 3 (XS.g Zfl)
def Zhg:=ZI 3 (XS.q Zfl)
theorem Zpk: SimF true Zpj Zhg:=ZT (XS.h Zfl)
def Zej: XS [] [] [] true:=⟨_,_,(Zm (ZK (Zw (Zs ZtE (Zb (Zs Zfq (Zb (Za 1) (Zb (Zo Zn (Za 0) (Zc 1)) Zd))) (Zb (E.tup (Zb (Za 2) (Zb (Zc 0) Zd))) Zd)))) (Zab (ZY)) ZM) (Zm (ZK (Zw (Zr Zad (Za 2) (Zc 2))) (Zab (Zan Zpk (Zb (Za 0) (Zb (ZQ ZZ (E.list (Zb (ZQ ZZ (Zo Zn (Za 1) (Zc 0)) (Zc 1)) Zd)) (Zkg (k:=1) (Za 1))) (Zb (Zc 2) Zd))))) ZM) (Zab (Zan Zj2 (Zb (Za 0) Zd)))))⟩
def Zog:=ZF 3 (XS.g Zej)
def Zff:=ZI 3 (XS.q Zej)
theorem Ztb: SimF true Zog Zff:=ZT (XS.h Zej)
def Zhh: XS [] [] [] true:=⟨_,_,(Zm (ZK (ZbT (Zw (Zs Zhs (Zb (Zs Zfq (Zb (Za 1) (Zb (Zo Zn (Za 0) (Zc 1)) Zd))) (Zb (Zc 0) Zd))))) (Zab (ZY)) ZM) (Zm (ZG (i:=2) (O':=[]) (Zs ZhX (Zb (Zs ZhX (Zb (Za 0) (Zb (Za 1) (Zb (Zc 0) Zd)))) (Zb (Zs Zen (Zb (Za 1) (Zb (Zb7 Zb8 (Zc 1)) Zd))) (Zb (Zc 0) Zd))))) (Zab (Zan Zpi (Zb (Za 2) (Zb (Za 1) (Zb (Zc 0) Zd)))))))⟩
def Zpl:=ZF 2 (XS.g Zhh)
def Zhi:=ZI 2 (XS.q Zhh)
theorem Zux: SimF true Zpl Zhi:=ZT (XS.h Zhh)
def Zeq: XS [] [] [] false:=⟨_,_,(Zm (ZK (Zbi (Zw (Zr Zch (Za 0) (ZY))) (Zbi (Zw (Zs Zo7 (Zb (Zs ZhC (Zb (Za 0) (Zb (Za 1) Zd))) (Zb (Zc 0) Zd)))) Zam)) (Zz (Zs ZhX (Zb (Za 0) (Zb (Za 1) (Zb (Zb7 Zb8 (Zc 1)) Zd))))) ZM) (Zz (Za 0)))⟩
def ZpR:=ZF 2 (XS.g Zeq)
def ZdO:=ZI 2 (XS.q Zeq)
theorem ZpS: SimF false ZpR ZdO:=ZT (XS.h Zeq)
def Zgu: XS [] [] [] true:=⟨_,_,(Zab (Zan Zj2 (Zb (Zs ZpS (Zb (Zs ZpS (Zb (Za 0) (Zb (Za 1) Zd))) (Zb (Zs Zen (Zb (Za 1) (Zb (Zb7 Zb8 (Zc 1)) Zd))) Zd))) Zd)))⟩
def Zoh:=ZF 2 (XS.g Zgu)
def Zgv:=ZI 2 (XS.q Zgu)
theorem Ztc: SimF true Zoh Zgv:=ZT (XS.h Zgu)
def ZeT: XS [] [] [] true:=⟨_,_,(Zm (ZK (Zw (Zr Za9 (Za 0) (ZY))) (Zab (ZY)) ZM) (Zm (ZK (Zw (Zr Zad (Zo Zn (Za 1) (Zc 0)) (E.str (Str.ofString "under")))) (Zab (Zan Zuc (Zb (Za 0) (Zb (Zo Zn (Za 1) (Zc 1)) (Zb (Za 2) Zd))))) ZM) (Zm (ZK (Zw (Zr Zad (Zo Zn (Za 1) (Zc 0)) (E.str (Str.ofString "same")))) (Zab (Zd9 (Zw (Za 2)) (Zan Zux (Zb (Za 0) (Zb (Zo Zn (Za 1) (Zc 1)) Zd))) (Zan Ztc (Zb (Za 0) (Zb (Zo Zn (Za 1) (Zc 1)) Zd))))) ZM) (Zab (Zd9 (Zw (Za 2)) (Zan Zpk (Zb (Za 0) (Zb (Zo Zn (Za 1) (Zc 1)) (Zb (Zo Zn (Za 1) (Zc 2)) Zd)))) (Zan Ztb (Zb (Za 0) (Zb (Zo Zn (Za 1) (Zc 1)) (Zb (Zo Zn (Za 1) (Zc 2)) Zd)))))))))⟩
def Zsf:=ZF 3 (XS.g ZeT)
def Zdh:=ZI 3 (XS.q ZeT)
theorem Zzi: SimF true Zsf Zdh:=ZT (XS.h ZeT)
def Zm5: PS:=(Zax (ZB Zaj (ZB Zaj (Zci (Zh 0) ZcI (ZcJ (ZB Zdj (Zh 1) (ZH 1)))) (Zcu (Zq (Zh 2) ZD))) (Zci (Zh 0) (ZcJ (Zh 1)) ZcI)))
def ZdY:=ZI 3 Zm5
theorem Zry: SimF false Ziy ZdY:=ZT (show S [] [] [] false Zkr Zm5 from(Zz (ZQ ZZ (ZQ ZZ (Zii (Za 0) Pe.none (Pe.some (Zr Za1 (Za 1) (Zc _)))) (E.list (Zb (Za 2) Zd))) (Zii (Za 0) (Pe.some (Za 1)) Pe.none))))
def ZhF: XS [] [] [] false:=⟨_,_,(Zz (ZbH (Gs.range (Zb (Zc 1) (Zb (ZQ ZZ (Za 0) (Zc 1)) Zd))) (PutOk.one (j:=100)) (by decide) Zam (Zs Zeu (Zb (Za 100) (Zb (Za 1) Zd)))))⟩
def ZhG:=ZF 2 (XS.g ZhF)
def Zer:=ZI 2 (XS.q ZhF)
theorem Zl8: SimF false ZhG Zer:=ZT (XS.h ZhF)
def Zl9: Sm:=Z5 (Zar 4 (ZU Zj0 (Zt (Zp 0) ZO))) (Z5 (sIf (tOr (Zap (ZA oIs (Zp 4) (Zaq))) (tOr (Zap (ZA oIs (Zp 3) (Zaq))) ZfT)) (Zak (Zaq)) ZaM) (Z5 (Zar 5 (ZU Zcx (Zt (ZA Z4 (Zp 4) (ZR 1)) ZO))) (Z5 (Zar 6 (ZA Zaz (ZA Zaz (Zp 5) (ZU Zcx (Zt (Zp 2) ZO))) (ZR 1))) (Z5 (Zar 7 (ZU Zh6 (Zt (Zp 4) (Zt (ZA Zaz (ZU ZhG (Zt (Zp 5) (Zt (Zp 5) ZO))) (Zp 2)) ZO)))) (Z5 (sIf (Zap (ZA oIs (Zp 7) (Zaq))) (Zak (Zaq)) ZaM) (Z5 (Zar 8 (ZU Zj0 (Zt (ZU Zmo (Zt (ZU Zmn (Zt (Zp 7) (Zt (ZR 1) ZO))) (Zt (ZU Ziu (Zt (ZA Zaz (Zp 5) (ZR 1)) (Zt (ZA Zaz (Zp 6) (ZR 1)) ZO))) (Zt (Zp 3) ZO)))) ZO))) (Zak (ZU Zh6 (Zt (Zp 8) (Zt (ZU Ziy (Zt (ZU ZhG (Zt (Zp 5) (Zt (Zp 6) ZO))) (Zt (Zp 1) (Zt (ZU Zfy (Zt (Zp 6) (Zt (Zp 6) ZO))) ZO)))) ZO))))))))))
def ZpT:=ZF 4 Zl9
def ZhH: PS:=(Z8 (ZaO 4 (ZV ZaG (Zq (Zh 0) ZD))) (Z8 (qIf (bOr (Zat (ZB qIs (Zh 4) (ZaJ))) (bOr (Zat (ZB qIs (Zh 3) (ZaJ))) Zis)) (Zax (ZaJ)) ZaV) (Z8 (ZaO 5 (ZV ZbQ (Zq (ZB Z2 (Zh 4) (ZH 1)) ZD))) (Z8 (ZaO 6 (ZB Zaj (ZB Zaj (Zh 5) (ZV ZbQ (Zq (Zh 2) ZD))) (ZH 1))) (Z8 (ZaO 7 (ZV ZbN (Zq (Zh 4) (Zq (ZB Zaj (ZV Zer (Zq (Zh 5) (Zq (Zh 5) ZD))) (Zh 2)) ZD)))) (Z8 (qIf (Zat (ZB qIs (Zh 7) (ZaJ))) (Zax (ZaJ)) ZaV) (Z8 (ZaO 8 (ZV ZaG (Zq (ZV Zfx (Zq (ZV ZhU (Zq (Zh 7) (Zq (ZH 1) ZD))) (Zq (ZV Ziv (Zq (ZB Zaj (Zh 5) (ZH 1)) (Zq (ZB Zaj (Zh 6) (ZH 1)) ZD))) (Zq (Zh 3) ZD)))) ZD))) (Zax (ZV ZbN (Zq (Zh 8) (Zq (ZV ZdY (Zq (ZV Zer (Zq (Zh 5) (Zq (Zh 6) ZD))) (Zq (Zh 1) (Zq (ZV ZdQ (Zq (Zh 6) (Zq (Zh 6) ZD))) ZD)))) ZD)))))))))))
def Zda:=ZI 4 ZhH
theorem Zu2: SimF true ZpT Zda:=ZT (show S [] [] [] true Zl9 ZhH from(Zm (ZG (O':=[]) (Zs Zdt (Zb (Za 0) Zd))) (Zm (ZK (ZaH (Zw (Zr Za9 (Za 4) (ZY))) (ZaH (Zw (Zr Za9 (Za 3) (ZY))) Zb2)) (Zab (ZY)) ZM) (Zm (ZG (O':=[]) (Zag Zau (Zb (Zo Zn (Za 4) (Zc _)) Zd))) (Zm (ZG (O':=[]) (ZQ ZZ (ZQ ZZ (Za 5) (Zag Zau (Zb (Za 2) Zd))) (Zc _))) (Zm (ZG (O':=[]) (Zs ZmG (Zb (Za 4) (Zb (ZQ ZZ (Zs Zl8 (Zb (Za 5) (Zb (Za 5) Zd))) (Za 2)) Zd)))) (Zm (ZK (Zw (Zr Za9 (Za 7) (ZY))) (Zab (ZY)) ZM) (Zm (ZG (O':=[]) (Zs Zdt (Zb (Zs ZvQ (Zb (Zs ZvP (Zb (Za 7) (Zb (Zc _) Zd))) (Zb (ZjO ZxT (Zb (ZQ ZZ (Za 5) (Zc _)) (Zb (ZQ ZZ (Za 6) (Zc _)) Zd))) (Zb (Za 3) Zd)))) Zd))) (Zab (Zan ZmG (Zb (Za 8) (Zb (Zs Zry (Zb (Zs Zl8 (Zb (Za 5) (Zb (Za 6) Zd))) (Zb (Za 1) (Zb (Zs Zeu (Zb (Za 6) (Zb (Za 6) Zd))) Zd)))) Zd))))))))))))
def Zgl: XS [] [] [] false:=⟨_,_,(Zz (E.tup (Zb (Zs Zi4 (Zb (Zo Zn (Za 0) (Zc 0)) (Zb (Za 1) Zd))) (Zb (Zs Zi4 (Zb (Zo Zn (Za 0) (Zc 1)) (Zb (Za 1) Zd))) Zd))))⟩
def ZkZ:=ZF 2 (XS.g Zgl)
def Zgm:=ZI 2 (XS.q Zgl)
theorem Zn6: SimF false ZkZ Zgm:=ZT (XS.h Zgl)
def Zgn: XS [] [] [] false:=⟨_,_,(Zm (ZG (i:=2) (O':=[]) (Zs Zn6 (Zb (Za 0) (Zb (Za 1) Zd)))) (Zm (ZK (Zbi (Zw (Zr Zch (Zo Zn (Za 2) (Zc 0)) (ZY))) (Zbi (Zw (Zr Zad (Zo Zn (Za 2) (Zc 0)) (Zo Zn (Za 2) (Zc 1)))) Zam)) (Zz (E.tup (Zb (Zr ZaB (Zo Zn (Za 0) (Zc 0)) (Za 1)) (Zb (Zr ZaB (Zo Zn (Za 0) (Zc 1)) (Za 1)) Zd)))) ZM) (Zz (E.tup (Zb (Zc 0) (Zb (Zr Za1 (Za 1) (Zc 1)) Zd))))))⟩
def Zk0:=ZF 2 (XS.g Zgn)
def Zgo:=ZI 2 (XS.q Zgn)
theorem ZsZ: SimF false Zk0 Zgo:=ZT (XS.h Zgn)
def ZgP: XS [] [] [] false:=⟨_,_,(Zm (ZG (i:=2) (O':=[]) (Zs Zjw (Zb (Zo Zn (Za 0) (Zc 0)) (Zb (Za 1) Zd)))) (Zm (ZK (Zw (Zr Zad (Za 2) (Za 1))) (Zz (E.tup (Zb (Zc 0) (Zb (Zr ZaB (Zo Zn (Za 0) (Zc 1)) (Za 1)) Zd)))) ZM) (Zz (Zs Zf0 (Zb (Za 2) (Zb (Zo Zn (Za 0) (Zc 1)) Zd))))))⟩
def Zlm:=ZF 2 (XS.g ZgP)
def ZgQ:=ZI 2 (XS.q ZgP)
theorem ZtM: SimF false Zlm ZgQ:=ZT (XS.h ZgP)
def ZgR: XS [] [] [] false:=⟨_,_,(Zm (ZK (Zw (Zr Zad (Zr ZaB (Zo Zn (Za 0) (Zc 0)) (Za 1)) (Zc 0))) (Zz (Zs Zf0 (Zb (Zr ZcO (Zo Zn (Za 0) (Zc 0)) (Za 1)) (Zb (Zr ZcO (Zo Zn (Za 0) (Zc 1)) (Za 1)) Zd)))) ZM) (Zz (E.tup (Zb (Zc 1) (Zb (Zc 0) Zd)))))⟩
def Zln:=ZF 2 (XS.g ZgR)
def ZgS:=ZI 2 (XS.q ZgR)
theorem ZtN: SimF false Zln ZgS:=ZT (XS.h ZgR)
def Zms: Sm:=Z5 (sIf (Zap (ZA oEq (ZA Z4 (Zp 1) (ZR 0)) (Ze7 (Str.ofString "set")))) (Z5 (Zar 2 (ZU Zcx (Zt (ZA Z4 (Zp 0) (ZR 1)) ZO))) (Zak (ZU Zh6 (Zt (Zp 0) (Zt (ZU Ziy (Zt (ZU ZhG (Zt (Zp 2) (Zt (Zp 2) ZO))) (Zt (ZA Z4 (Zp 1) (ZR 1)) (Zt (ZA Z4 (Zp 1) (ZR 2)) ZO)))) ZO))))) ZaM) (Z5 (sIf (Zap (ZA oEq (ZA Z4 (Zp 1) (ZR 0)) (Ze7 (Str.ofString "any")))) (Zak (ZU ZiA (Zt (Zp 0) (Zt (ZA Z4 (Zp 1) (ZR 1)) (Zt (Zcw (Zt (ZA Z4 (Zp 1) (ZR 2)) (Zt (ZA Z4 (Zp 1) (ZR 3)) ZO))) (Zt (Zcw (Zt (ZR 1) (Zt (ZR 0) ZO))) ZO)))))) ZaM) (Z5 (Zar 3 (Zcw (Zt (ZU Zm4 (Zt (Zp 0) (Zt (ZA Z4 (Zp 1) (ZR 2)) ZO))) (Zt (ZU Zl5 (Zt (Zp 0) (Zt (ZA Z4 (Zp 1) (ZR 2)) ZO))) ZO)))) (Z5 (Zar 4 (ZU Zl0 (Zt (ZA Z4 (Zp 1) (ZR 2)) (Zt (ZA Z4 (Zp 0) (ZR 1)) ZO)))) (Z5 (sIf (Zap (ZA oEq (ZA Z4 (Zp 1) (ZR 0)) (Ze7 (Str.ofString "part")))) (Zak (ZU ZiA (Zt (Zp 0) (Zt (ZA Z4 (Zp 1) (ZR 1)) (Zt (ZU ZkZ (Zt (Zp 3) (Zt (ZA Z4 (Zp 1) (ZR 3)) ZO))) (Zt (ZU Zln (Zt (Zp 4) (Zt (ZA Z4 (Zp 1) (ZR 3)) ZO))) ZO)))))) ZaM) (Zak (ZU ZiA (Zt (Zp 0) (Zt (ZA Z4 (Zp 1) (ZR 1)) (Zt (ZU Zk0 (Zt (Zp 3) (Zt (ZA Z4 (Zp 1) (ZR 3)) ZO))) (Zt (ZU Zlm (Zt (Zp 4) (Zt (ZA Z4 (Zp 1) (ZR 3)) ZO))) ZO))))))))))
def Zqn:=ZF 2 Zms
def ZhY: PS:=(Z8 (qIf (Zat (ZB qEq (ZB Z2 (Zh 1) (ZH 0)) (ZiO (Str.ofString "set")))) (Z8 (ZaO 2 (ZV ZbQ (Zq (ZB Z2 (Zh 0) (ZH 1)) ZD))) (Zax (ZV ZbN (Zq (Zh 0) (Zq (ZV ZdY (Zq (ZV Zer (Zq (Zh 2) (Zq (Zh 2) ZD))) (Zq (ZB Z2 (Zh 1) (ZH 1)) (Zq (ZB Z2 (Zh 1) (ZH 2)) ZD)))) ZD))))) ZaV) (Z8 (qIf (Zat (ZB qEq (ZB Z2 (Zh 1) (ZH 0)) (ZiO (Str.ofString "any")))) (Zax (ZV Zdg (Zq (Zh 0) (Zq (ZB Z2 (Zh 1) (ZH 1)) (Zq (ZdE (Zq (ZB Z2 (Zh 1) (ZH 2)) (Zq (ZB Z2 (Zh 1) (ZH 3)) ZD))) (Zq (ZdE (Zq (ZH 1) (Zq (ZH 0) ZD))) ZD)))))) ZaV) (Z8 (ZaO 3 (ZdE (Zq (ZV ZdX (Zq (Zh 0) (Zq (ZB Z2 (Zh 1) (ZH 2)) ZD))) (Zq (ZV ZhB (Zq (Zh 0) (Zq (ZB Z2 (Zh 1) (ZH 2)) ZD))) ZD)))) (Z8 (ZaO 4 (ZV Zhx (Zq (ZB Z2 (Zh 1) (ZH 2)) (Zq (ZB Z2 (Zh 0) (ZH 1)) ZD)))) (Z8 (qIf (Zat (ZB qEq (ZB Z2 (Zh 1) (ZH 0)) (ZiO (Str.ofString "part")))) (Zax (ZV Zdg (Zq (Zh 0) (Zq (ZB Z2 (Zh 1) (ZH 1)) (Zq (ZV Zgm (Zq (Zh 3) (Zq (ZB Z2 (Zh 1) (ZH 3)) ZD))) (Zq (ZV ZgS (Zq (Zh 4) (Zq (ZB Z2 (Zh 1) (ZH 3)) ZD))) ZD)))))) ZaV) (Zax (ZV Zdg (Zq (Zh 0) (Zq (ZB Z2 (Zh 1) (ZH 1)) (Zq (ZV Zgo (Zq (Zh 3) (Zq (ZB Z2 (Zh 1) (ZH 3)) ZD))) (Zq (ZV ZgQ (Zq (Zh 4) (Zq (ZB Z2 (Zh 1) (ZH 3)) ZD))) ZD)))))))))))
def Zbo:=ZI 2 ZhY
theorem ZvR: SimF true Zqn Zbo:=ZT (show S [] [] [] true Zms ZhY from(Zm (ZK (Zw (Zr Zad (Zo Zn (Za 1) (Zc _)) (E.str _))) (Zm (ZG (O':=[]) (Zag Zau (Zb (Zo Zn (Za 0) (Zc _)) Zd))) (Zab (Zan ZmG (Zb (Za 0) (Zb (Zs Zry (Zb (Zs Zl8 (Zb (Za 2) (Zb (Za 2) Zd))) (Zb (Zo Zn (Za 1) (Zc _)) (Zb (Zo Zn (Za 1) (Zc _)) Zd)))) Zd))))) ZM) (Zm (ZK (Zw (Zr Zad (Zo Zn (Za 1) (Zc _)) (E.str _))) (Zab (Zan Znr (Zb (Za 0) (Zb (Zo Zn (Za 1) (Zc _)) (Zb (E.tup (Zb (Zo Zn (Za 1) (Zc _)) (Zb (Zo Zn (Za 1) (Zc _)) Zd))) (Zb (E.tup (Zb (Zc _) (Zb (Zc _) Zd))) Zd)))))) ZM) (Zm (ZG (O':=[]) (E.tup (Zb (Zs Zrx (Zb (Za 0) (Zb (Zo Zn (Za 1) (Zc _)) Zd))) (Zb (Zs ZhC (Zb (Za 0) (Zb (Zo Zn (Za 1) (Zc _)) Zd))) Zd)))) (Zm (ZG (O':=[]) (Zs Zfq (Zb (Zo Zn (Za 1) (Zc _)) (Zb (Zo Zn (Za 0) (Zc _)) Zd)))) (Zm (ZK (Zw (Zr Zad (Zo Zn (Za 1) (Zc _)) (E.str _))) (Zab (Zan Znr (Zb (Za 0) (Zb (Zo Zn (Za 1) (Zc _)) (Zb (Zs Zn6 (Zb (Za 3) (Zb (Zo Zn (Za 1) (Zc _)) Zd))) (Zb (Zs ZtN (Zb (Za 4) (Zb (Zo Zn (Za 1) (Zc _)) Zd))) Zd)))))) ZM) (Zab (Zan Znr (Zb (Za 0) (Zb (Zo Zn (Za 1) (Zc _)) (Zb (Zs ZsZ (Zb (Za 3) (Zb (Zo Zn (Za 1) (Zc _)) Zd))) (Zb (Zs ZtM (Zb (Za 4) (Zb (Zo Zn (Za 1) (Zc _)) Zd))) Zd))))))))))))
def ZcV: XS [] [3] [] true:=⟨_,_,(Zm (ZbJ (i:=3) (O':=[3]) (Zan Zdt (Zb (Za 0) Zd))) (Zm (ZK (ZaH (Zw (Zr Za9 (Za 3) (ZY))) (ZaH (Zw (Zr Zgf (Zo Zn (Za 1) (Zc 0)) (E.tup (Zb (E.str (Str.ofString "go")) (Zb (E.str (Str.ofString "say")) Zd))))) Zb2)) (Zab (E.own (i:=3) (by decide))) ZM) (Zm (ZK (Zw (Zr Zad (Zo Zn (Za 1) (Zc 0)) (E.str (Str.ofString "when")))) (Zab (Zan Zzi (Zb (Za 3) (Zb (Zo Zn (Za 1) (Zc 1)) (Zb (Zo Zn (Za 1) (Zc 2)) Zd))))) ZM) (Zm (ZK (Zw (Zr Zad (Zo Zn (Za 1) (Zc 0)) (E.str (Str.ofString "call")))) (Zab (Zan Zu2 (Zb (Za 3) (Zb (Zo Zn (Za 1) (Zc 1)) (Zb (Zo Zn (Za 1) (Zc 3)) (Zb (Zo Zn (Za 2) (Zo Zn (Za 1) (Zc 2))) Zd)))))) ZM) (Zab (Zan ZvR (Zb (Za 3) (Zb (Za 1) Zd))))))))⟩
def Zqo:=ZF 3 (XS.g ZcV)
def Zbp:=ZI 3 (XS.q ZcV)
theorem Zqp: SimF true Zqo Zbp:=ZT (XS.h ZcV)
def Zhj: XS [] [3] [] false:=⟨_,_,(Zm (ZbJ (i:=3) (O':=[3]) (Zan Zql (Zb (Za 0) (Zb (Za 1) (Zb (Zag Zau (Zb (Za 2) Zd)) Zd))))) (Zm (ZG (i:=4) (O':=[3]) (Zs Zbg (Zb (Za 0) (Zb (ZQ ZZ (Za 1) (Zc 4)) (Zb (Zc 90) Zd))))) (Zm (ZK (Zw (Zr Zfb (Zr ZaB (Za 4) (Zc 5)) (Zc 0))) (S.put (x:=3) (O':=[3]) (by decide) (Za0 (O':=[]) (Zr Za1 (ZQ ZZ (Zr Za1 (Zo Zn (Za 3) (Zc 0)) (Zs Zpg (Zb (Za 3) (Zb (Za 2) Zd)))) (Zr ZaB (Za 4) (Zc 5))) (Zc 3))) Zby (Zc 0) (by decide) (by decide)) ZM) (Zm (ZK (Zw (Zr Zad (Zr ZaB (Zr ZcO (Za 4) (Zc 5)) (Zc 3)) (Zc 0))) (Zz (E.tup (Zb (E.str (Str.ofString "under")) (Zb (Za 3) Zd)))) ZM) (Zm (ZK (Zw (Zr Zad (Zr ZaB (Zr ZcO (Za 4) (Zc 5)) (Zc 3)) (Zc 1))) (Zz (E.tup (Zb (E.str (Str.ofString "same")) (Zb (Za 3) Zd)))) ZM) (Zz (E.tup (Zb (E.str (Str.ofString "even")) (Zb (Za 3) (Zb (ZQ ZZ (Zc 1) (Zr ZcO (Za 4) (Zc 15))) Zd))))))))))⟩
def Zpm:=ZF 3 (XS.g Zhj)
def ZlM:=ZI 3 (XS.q Zhj)
theorem Zuy: SimF false Zpm ZlM:=ZT (XS.h Zhj)
def ZhI: XS [] [] [] false:=⟨_,_,(Zm (ZG (i:=3) (O':=[]) (Zs Zi6 (Zb (Za 0) (Zb (Za 1) Zd)))) (Zm (ZG (i:=4) (O':=[]) (Zs Zi6 (Zb (Za 0) (Zb (ZQ ZZ (Za 1) (Zc 1)) Zd)))) (Zm (ZK (Zw (Zr Zch (Za 3) (ZY))) (ZG (i:=3) (O':=[]) (Zr Za1 (Za 2) (Za 3))) ZM) (Zm (ZK (Zw (Zr Zch (Za 4) (ZY))) (ZG (i:=4) (O':=[]) (ZQ ZZ (Za 2) (Za 4))) ZM) (Zz (E.tup (Zb (Za 3) (Zb (Za 4) Zd))))))))⟩
def ZpU:=ZF 3 (XS.g ZhI)
def Zma:=ZI 3 (XS.q ZhI)
theorem Zu3: SimF false ZpU Zma:=ZT (XS.h ZhI)
def ZgT: XS [] [] [] false:=⟨_,_,(Zm (ZG (i:=2) (O':=[]) (ZQ ZZ (Zc 1) (Zs Zbg (Zb (Za 0) (Zb (Zc 4) (Zb (Zag Zau (Zb (Za 1) Zd)) Zd)))))) (Zm (ZG (i:=3) (O':=[]) (Zs Zql (Zb (Za 0) (Zb (Zc 5) (Zb (Zag Zau (Zb (Za 1) Zd)) Zd))))) (Zm (ZG (i:=4) (O':=[]) (ZQ ZZ (Zc 1) (Zs Zbg (Zb (Za 0) (Zb (Zc 9) (Zb (Zc 6) Zd)))))) (Zm (ZG (i:=5) (O':=[]) (Zs Zbg (Zb (Za 0) (Zb (Zc 10) (Zb (Zc 5) Zd))))) (Zm (ZK (Zw (Zr Zad (Za 5) (Zc 0))) (Zz (E.tup (Zb (E.str (Str.ofString "set")) (Zb (Za 2) (Zb (Za 3) Zd))))) ZM) (Zm (ZK (Zw (Zr Zad (Za 5) (Zc 1))) (Zz (E.tup (Zb (E.str (Str.ofString "part")) (Zb (Za 2) (Zb (Za 3) (Zb (Za 4) Zd)))))) ZM) (Zm (ZK (Zw (Zr Zad (Za 5) (Zc 2))) (Zz (E.tup (Zb (E.str (Str.ofString "rest")) (Zb (Za 2) (Zb (Za 3) (Zb (Za 4) Zd)))))) ZM) (Zm (ZK (Zw (Zr Zad (Za 5) (Zc 3))) (Zm (ZG (i:=6) (O':=[]) (Zs Zu3 (Zb (Za 0) (Zb (Zc 11) (Zb (Zs ZdJ (Zb (Za 0) (Zb (Zc 13) Zd))) Zd))))) (Zz (E.tup (Zb (E.str (Str.ofString "any")) (Zb (Za 2) (Zb (Zo Zn (Za 6) (Zc 0)) (Zb (Zo Zn (Za 6) (Zc 1)) Zd))))))) ZM) (Zz (E.tup (Zb (E.str (Str.ofString "call")) (Zb (Za 2) (Zb (Zc 0) (Zb (Zii (E.list (Zb (Za 3) Zd)) Pe.none (Pe.some (Zs Zbg (Zb (Za 0) (Zb (Zc 14) (Zb (Zc 3) Zd)))))) Zd))))))))))))))⟩
def ZoG:=ZF 2 (XS.g ZgT)
def Zlo:=ZI 2 (XS.q ZgT)
theorem ZtO: SimF false ZoG Zlo:=ZT (XS.h ZgT)
def ZhJ: XS [] [] [] false:=⟨_,_,(Zz ((ZsS (E.sh (Zr Za9 (Za 0) (ZY))) (E.sh (Zs Zuw (Zb (Za 0) (Zb (Za 1) Zd)))))))⟩
def ZpV:=ZF 2 (XS.g ZhJ)
def Zmb:=ZI 2 (XS.q ZhJ)
theorem ZpW: SimF false ZpV Zmb:=ZT (XS.h ZhJ)
def Zgw: XS [] [] [] false:=⟨_,_,(Zm (ZG (i:=5) (O':=[]) (Zag Zau (Zb (Zo Zn (Za 0) (Zc 1)) Zd))) (Zm (ZG (i:=6) (O':=[]) (E.list (Zb (Zs ZpI (Zb (Za 0) Zd)) (Zb (Zs ZpI (Zb (Za 1) Zd)) Zd)))) (Zm (ZG (i:=7) (O':=[]) (Zs Zqp (Zb (Za 0) (Zb (Za 2) (Zb (Za 3) Zd))))) (Zm (ZG (i:=8) (O':=[]) (Zs Zqp (Zb (Za 1) (Zb (Za 2) (Zb (Za 4) Zd))))) (Zm (ZK (ZaH (Zw (Zr ZbM (Za 0) (Zo Zn (Za 6) (Zc 0)))) (ZaH (Zw (Zr ZbM (Za 1) (Zo Zn (Za 6) (Zc 1)))) Zb2)) (Zz (E.bool false)) ZM) (Zz ((ZdA (E.sh (Zs ZpW (Zb (Za 7) (Zb (Za 5) Zd)))) (ZdA (E.sh (Zs ZpW (Zb (Za 8) (Zb (Za 5) Zd)))) (E.sh (Zs ZoM (Zb (Za 7) (Zb (Za 8) Zd)))))))))))))⟩
def Zoi:=ZF 5 (XS.g Zgw)
def Zgx:=ZI 5 (XS.q Zgw)
theorem Zoj: SimF false Zoi Zgx:=ZT (XS.h Zgw)
def Zh7: XS [] [] [] false:=⟨_,_,(Zm (ZG (i:=1) (O':=[]) (Zo Zn (E.list (Zb (Zc 1) (Zb (Zc 2) (Zb (Zc 1) (Zb (Zc 1) (Zb (Zc 2) (Zb (Zc 1) (Zb (Zc 2) (Zb (Zc 1) (Zb (Zc 3) Zd)))))))))) (Zs Zbg (Zb (Za 0) (Zb (Zc 0) (Zb (Zc 9) Zd)))))) (Zm (ZG (i:=2) (O':=[]) (ZbH (Gs.range (Zb (Za 1) Zd)) (PutOk.one (j:=100)) (by decide) Zam (Zs ZdJ (Zb (Za 0) (Zb (ZQ ZZ (Zc 1) (Za 100)) Zd))))) (Zm (ZG (i:=3) (O':=[]) (Zs ZpG (Zb (Za 0) (Zb (Zc 20) (Zb (Za 2) Zd))))) (Zm (ZK (Zw (Zr Zad (Zs Zbg (Zb (Za 0) (Zb (Zc 15) (Zb (Zc 5) Zd)))) (Zc 1))) (ZG (i:=3) (O':=[]) (Zs Zt9 (Zb (Za 0) (Zb (Zc 16) (Zb (Za 3) Zd))))) ZM) (Zm (ZG (i:=4) (O':=[]) (Zs Zpa (Zb (Za 0) (Zb (Zc 40) (Zb (Za 3) Zd))))) (Zm (ZK (ZbT (Zw (Zs ZoM (Zb (Zs Zdt (Zb (Za 3) Zd)) (Zb (Zs Zdt (Zb (Za 4) Zd)) Zd))))) (Zz (E.bool false)) ZM) (Zm (ZG (i:=5) (O':=[]) (Zs Zuy (Zb (Za 0) (Zb (Zc 55) (Zb (Za 2) Zd))))) (Zm (ZK (ZbT (Zw (Zs Zoj (Zb (Za 3) (Zb (Za 4) (Zb (E.tup (Zb (E.str (Str.ofString "when")) (Zb (Za 5) (Zb (Zr Zad (Zs Zbg (Zb (Za 0) (Zb (Zc 14) (Zb (Zc 2) Zd)))) (Zc 0)) Zd)))) (Zb (E.list Zd) (Zb (E.list Zd) Zd)))))))) (Zz (E.bool false)) ZM) (Zm (ZG (i:=6) (O':=[]) (Zs ZtO (Zb (Za 0) (Zb (Za 2) Zd)))) (Zm (ZG (i:=7) (O':=[]) (E.list (Zb (Zs ZdJ (Zb (Za 0) (Zb (Zc 6) Zd))) Zd))) (Zm (ZK (Zw (Zr Zad (Zo Zn (Za 6) (Zc 0)) (E.str (Str.ofString "call")))) (ZG (i:=7) (O':=[]) (ZQ ZZ (ZbH (Gs.seq (Zo Zn (Za 6) (Zc 3))) (PutOk.one (j:=102)) (by decide) Zam (Zs Zpg (Zb (Za 102) (Zb (Za 2) Zd)))) (Za 7))) ZM) (Zm (ZG (i:=8) (O':=[]) (Zs ZpG (Zb (Za 0) (Zb (Zc 41) (Zb (Za 7) Zd))))) (Zm (ZG (i:=9) (O':=[]) (Zs Zpa (Zb (Za 0) (Zb (Zc 51) (Zb (Za 8) Zd))))) (Zz (Zs Zoj (Zb (Za 3) (Zb (Za 4) (Zb (Za 6) (Zb (E.list (Zb (Za 8) Zd)) (Zb (E.list (Zb (Za 9) Zd)) Zd))))))))))))))))))))⟩
def ZqR:=ZF 1 (XS.g Zh7)
def ZmH:=ZI 1 (XS.q Zh7)
theorem ZwO: SimF false ZqR ZmH:=ZT (XS.h Zh7)
end L
end
section
open PySem PySem.W PyProof.Rows PM TM My
local macro_rules | `(tactic| tm_at "r")=>`(tactic| assumption)
local macro_rules | `(tactic| tm_at "r")=>`(tactic| exact rfl)
local macro_rules | `(tactic| tm_at "r")=>`(tactic| ((with_reducible apply Zwy);decide;tm_at "r"))
local macro_rules | `(tactic| tm_at "r")=>`(tactic| ((with_reducible apply ZxL);decide;tm_at "r"))
local macro_rules | `(tactic| tm_at "r")=>`(tactic| with_reducible exact ZbG)
local macro_rules | `(tactic| tm_at "r")=>`(tactic| with_reducible assumption)
local macro_rules|`(tactic|walk_at "r")=>`(tactic|first | tm_at "r" | fail)
local macro_rules | `(tactic| tm_at "y")=>`(tactic| (simp only[Bool.not_eq_true',Bool.not_eq_false',decide_eq_true_eq,decide_eq_false_iff_not,beq_iff_eq,beq_eq_false_iff_ne,ne_eq,Bool.not_true,Bool.not_false,not_false_eq_true,not_true_eq_false,bne_iff_ne,Decidable.not_not,List.length_map] <;> first | done | omega | assumption))
local macro_rules | `(tactic| tm_at "y")=>`(tactic| (with_reducible assumption))
local macro_rules | `(tactic| tm_at "y")=>`(tactic| rfl)
local macro_rules|`(tactic|walk_at "y")=>`(tactic|first | tm_at "y" | fail)
local macro_rules | `(tactic| tm_at "f")=>`(tactic| exact Zhm fun i hi=>by(first | rfl | exact ZeH | exact ZeA))
local macro_rules | `(tactic| tm_at "f")=>`(tactic| exact ZeA)
local macro_rules | `(tactic| tm_at "f")=>`(tactic| exact ZeH)
local macro_rules | `(tactic| tm_at "f")=>`(tactic| rfl)
local macro_rules|`(tactic|walk_at "f")=>`(tactic|first | tm_at "f" | fail)
local macro_rules | `(tactic| tm_at "o")=>`(tactic| ((with_reducible apply Zy3);(first | decide | omega)))
local macro_rules | `(tactic| tm_at "o")=>`(tactic| with_reducible refine Zza ?_)
local macro_rules | `(tactic| tm_at "o")=>`(tactic| with_reducible refine tk_all ?_)
local macro_rules | `(tactic| tm_at "o")=>`(tactic| with_reducible refine ZxF ?_)
local macro_rules | `(tactic| tm_at "o")=>`(tactic| with_reducible refine tk_list1t ?_)
local macro_rules | `(tactic| tm_at "o")=>`(tactic| with_reducible refine Zwt ?_)
local macro_rules | `(tactic| tm_at "o")=>`(tactic| ((with_reducible apply Zrn);omega))
local macro_rules | `(tactic| tm_at "o")=>`(tactic| ((with_reducible apply ZjV);(first | decide | omega);rfl))
local macro_rules | `(tactic| tm_at "o")=>`(tactic| ((with_reducible apply ZxE);(first | decide | omega);rfl))
local macro_rules | `(tactic| tm_at "o")=>`(tactic| ((with_reducible apply ZxD);(first | decide | omega);(first | decide | omega)))
local macro_rules | `(tactic| tm_at "o")=>`(tactic| ((with_reducible apply ZxC);(first | assumption | omega)))
local macro_rules | `(tactic| tm_at "o")=>`(tactic| with_reducible refine ZxB ?_)
local macro_rules | `(tactic| tm_at "o")=>`(tactic| with_reducible refine Zy9 ?_)
local macro_rules | `(tactic| tm_at "o")=>`(tactic| with_reducible refine ZxA ?_)
local macro_rules | `(tactic| tm_at "o")=>`(tactic| with_reducible refine Zxz ?_)
local macro_rules | `(tactic| tm_at "o")=>`(tactic| with_reducible refine tk_notl ?_)
local macro_rules | `(tactic| tm_at "o")=>`(tactic| with_reducible refine Zxy ?_)
local macro_rules | `(tactic| tm_at "o")=>`(tactic| with_reducible refine Zxx ?_)
local macro_rules | `(tactic| tm_at "o")=>`(tactic| with_reducible refine Zy8 ?_)
local macro_rules | `(tactic| tm_at "o")=>`(tactic| with_reducible refine Zy7 ?_)
local macro_rules | `(tactic| tm_at "o")=>`(tactic| with_reducible refine Zy6 ?_)
local macro_rules | `(tactic| tm_at "o")=>`(tactic| with_reducible refine Zy5 ?_)
local macro_rules | `(tactic| tm_at "o")=>`(tactic| with_reducible refine tk_neb ?_)
local macro_rules | `(tactic| tm_at "o")=>`(tactic| with_reducible refine tk_eqb ?_)
local macro_rules | `(tactic| tm_at "o")=>`(tactic| with_reducible refine ZzY ?_)
local macro_rules | `(tactic| tm_at "o")=>`(tactic| with_reducible refine ZzX ?_)
local macro_rules | `(tactic| tm_at "o")=>`(tactic| with_reducible refine tk_min ?_)
local macro_rules | `(tactic| tm_at "o")=>`(tactic| with_reducible refine tk_max ?_)
local macro_rules | `(tactic| tm_at "o")=>`(tactic| with_reducible refine Zy4 ?_)
local macro_rules | `(tactic| tm_at "o")=>`(tactic| with_reducible refine tk_ge ?_)
local macro_rules | `(tactic| tm_at "o")=>`(tactic| with_reducible refine ZzW ?_)
local macro_rules | `(tactic| tm_at "o")=>`(tactic| with_reducible refine ZzV ?_)
local macro_rules | `(tactic| tm_at "o")=>`(tactic| with_reducible refine ZzU ?_)
local macro_rules | `(tactic| tm_at "o")=>`(tactic| with_reducible refine Zy2 ?_)
local macro_rules | `(tactic| tm_at "o")=>`(tactic| with_reducible refine Zy1 ?_)
local macro_rules | `(tactic| tm_at "o")=>`(tactic| with_reducible refine Zni ?_)
local macro_rules|`(tactic|walk_at "o")=>`(tactic|first | tm_at "o" | fail)
local macro_rules | `(tactic| tm_at "1")=>`(tactic| tm_at "o")
local macro_rules | `(tactic| tm_at "1")=>`(tactic| ((with_reducible apply ZqM);tm_at "r";(first | assumption | omega);(first | assumption | omega)))
local macro_rules | `(tactic| tm_at "1")=>`(tactic| ((with_reducible apply Zwx);tm_at "r";(first | assumption | omega)))
local macro_rules | `(tactic| tm_at "1")=>`(tactic| ((with_reducible apply ZxI);tm_at "r";(first | (rw[Zaa];omega) | (simp;done))))
local macro_rules | `(tactic| tm_at "1")=>`(tactic| ((with_reducible apply ZxH);tm_at "r";(first | (rw[Zaa];omega) | (simp;done))))
local macro_rules | `(tactic| tm_at "1")=>`(tactic| with_reducible refine ZxK ?_)
local macro_rules | `(tactic| tm_at "1")=>`(tactic| with_reducible refine Zzc ?_)
local macro_rules | `(tactic| tm_at "1")=>`(tactic| with_reducible refine ZxJ ?_)
local macro_rules | `(tactic| tm_at "1")=>`(tactic| with_reducible refine Zzb ?_)
local macro_rules | `(tactic| tm_at "1")=>`(tactic| with_reducible refine Zi.mn ?_)
local macro_rules | `(tactic| tm_at "1")=>`(tactic| with_reducible refine Zi.eq ?_)
local macro_rules | `(tactic| tm_at "1")=>`(tactic| with_reducible refine ZwH ?_)
local macro_rules | `(tactic| tm_at "1")=>`(tactic| with_reducible refine ZxP ?_)
local macro_rules | `(tactic| tm_at "1")=>`(tactic| with_reducible refine ZxO ?_)
local macro_rules | `(tactic| tm_at "1")=>`(tactic| with_reducible refine Znj ?_)
local macro_rules | `(tactic| tm_at "1")=>`(tactic| ((with_reducible apply Rn.one);omega))
local macro_rules | `(tactic| tm_at "1")=>`(tactic| with_reducible refine Zww ?_)
local macro_rules | `(tactic| tm_at "1")=>`(tactic| with_reducible refine Sq.tup ?_)
local macro_rules | `(tactic| tm_at "1")=>`(tactic| with_reducible refine Sq.lst ?_)
local macro_rules | `(tactic| tm_at "1")=>`(tactic| with_reducible refine ZjW ?_)
local macro_rules|`(tactic|tm_at "1")=>`(tactic|(refine And.intro (show T.flatIn _ = true by walk_at "f") ?_))
local macro_rules|`(tactic|tm_at "1")=>`(tactic|(refine And.intro (show T.flat _ = true by walk_at "f") ?_))
local macro_rules | `(tactic| tm_at "1")=>`(tactic| ((with_reducible apply Zr7);rfl))
local macro_rules | `(tactic| tm_at "1")=>`(tactic| ((with_reducible apply Zy0);tm_at "y"))
local macro_rules | `(tactic| tm_at "1")=>`(tactic| ((with_reducible apply ZyZ);tm_at "y"))
local macro_rules | `(tactic| tm_at "1")=>`(tactic| ((with_reducible apply ZyP);tm_at "r"))
local macro_rules | `(tactic| tm_at "1")=>`(tactic| with_reducible refine ZyO ?_)
local macro_rules | `(tactic| tm_at "1")=>`(tactic| with_reducible refine Zxo ?_)
local macro_rules | `(tactic| tm_at "1")=>`(tactic| with_reducible refine ZyN ?_)
local macro_rules | `(tactic| tm_at "1")=>`(tactic| with_reducible refine ZyM ?_)
local macro_rules | `(tactic| tm_at "1")=>`(tactic| with_reducible refine Znh ?_)
local macro_rules | `(tactic| tm_at "1")=>`(tactic| with_reducible refine Zr6 ?_)
local macro_rules | `(tactic| tm_at "1")=>`(tactic| with_reducible refine tk_exp ?_)
local macro_rules | `(tactic| tm_at "1")=>`(tactic| with_reducible refine ZyY ?_)
local macro_rules | `(tactic| tm_at "1")=>`(tactic| with_reducible refine ZyX ?_)
local macro_rules | `(tactic| tm_at "1")=>`(tactic| with_reducible refine Zxw ?_)
local macro_rules | `(tactic| tm_at "1")=>`(tactic| with_reducible refine tk_truth_n ?_)
local macro_rules | `(tactic| tm_at "1")=>`(tactic| with_reducible refine ZuU ?_)
local macro_rules | `(tactic| tm_at "1")=>`(tactic| with_reducible refine ZyW ?_)
local macro_rules | `(tactic| tm_at "1")=>`(tactic| with_reducible refine Zxv ?_)
local macro_rules | `(tactic| tm_at "1")=>`(tactic| with_reducible refine Zws ?_)
local macro_rules | `(tactic| tm_at "1")=>`(tactic| with_reducible refine Zxu ?_)
local macro_rules | `(tactic| tm_at "1")=>`(tactic| with_reducible refine Zxt ?_)
local macro_rules | `(tactic| tm_at "1")=>`(tactic| with_reducible refine ZyV ?_)
local macro_rules | `(tactic| tm_at "1")=>`(tactic| with_reducible refine ZzT ?_)
local macro_rules | `(tactic| tm_at "1")=>`(tactic| with_reducible refine ZzS ?_)
local macro_rules | `(tactic| tm_at "1")=>`(tactic| with_reducible refine ZyU ?_)
local macro_rules | `(tactic| tm_at "1")=>`(tactic| with_reducible refine ZyT ?_)
local macro_rules | `(tactic| tm_at "1")=>`(tactic| with_reducible refine ZzR ?_)
local macro_rules | `(tactic| tm_at "1")=>`(tactic| with_reducible refine ZzQ ?_)
local macro_rules | `(tactic| tm_at "1")=>`(tactic| with_reducible refine Zxs ?_)
local macro_rules | `(tactic| tm_at "1")=>`(tactic| with_reducible refine Zxp ?_)
local macro_rules | `(tactic| tm_at "1")=>`(tactic| with_reducible refine Zxr ?_)
local macro_rules | `(tactic| tm_at "1")=>`(tactic| with_reducible refine ZyS ?_)
local macro_rules | `(tactic| tm_at "1")=>`(tactic| with_reducible refine ZyR ?_)
local macro_rules | `(tactic| tm_at "1")=>`(tactic| with_reducible refine Zxq ?_)
local macro_rules | `(tactic| tm_at "1")=>`(tactic| with_reducible refine ZzP ?_)
local macro_rules | `(tactic| tm_at "1")=>`(tactic| with_reducible refine ZyQ ?_)
local macro_rules|`(tactic|walk_at "1")=>`(tactic|first | tm_at "1" | fail)
local macro_rules|`(tactic|walk_at "z")=>`(tactic|repeat' (first | tm_at "1" | fail))
namespace L
open PySem PySem.W PyProof.Rows PM TM My
variable {a v:Option Int} {B N b i j k m n:Nat} {ns:List Int} {c:Nat→Int} {K K' M d r top x y:Int} {G G' G2 w Γ:Nat→Nat→Option Int} {σ:TL} {g:PE} {Q:T→Prop} {R R' R2:Nat→Int×Int} {p q:Int×Int} {β:Type} {o:Option (Int×Int)} {ts:List T} {D T0 t:T} {l:List Nat} {C:Nat→Nat→Int} {ρ:Nat→Option (Int×Int)}
section
variable {Q:T→Prop}
theorem ZAA(h:Q (.int T9)): Pk (Zef (.int 10) (.int 9)) Q:=by
 have:=ZzL []
 simp only[oPow]at this
 split at this
 ·rename_i hc
  refine⟨_,by simp only[Zef];rw[if_pos hc],?_⟩
  simp only[Option.some.injEq,Prod.mk.injEq,V.int.injEq,and_true]at this
  rw[this];exact h
 ·cases this
theorem ZAa(h:Q (.int T40)): Pk (Zef (.int 10) (.int 40)) Q:=by
 have:=ZyL []
 simp only[oPow]at this
 split at this
 ·rename_i hc
  refine⟨_,by simp only[Zef];rw[if_pos hc],?_⟩
  simp only[Option.some.injEq,Prod.mk.injEq,V.int.injEq,and_true]at this
  rw[this];exact h
 ·cases this
theorem ZAb(h:Q (.int M9)): Pk (Zef (.int 48271) (.int 9)) Q:=by
 have:=ZyK []
 simp only[oPow]at this
 split at this
 ·rename_i hc
  refine⟨_,by simp only[Zef];rw[if_pos hc],?_⟩
  simp only[Option.some.injEq,Prod.mk.injEq,V.int.injEq,and_true]at this
  rw[this];exact h
 ·cases this
theorem ZcW{a b:Int}(h1:-(2 ^ 64)<b)(h2:b<2 ^ 64)(h:Q (.int (a*b))): Pk (Zdk (.int a) (.int b)) Q:=Zcs (ZvE h1 h2) h
theorem ZxU{a b:Int}(h1:-(2 ^ 64)<a)(h2:a<2 ^ 64)(h:Q (.int (a*b))): Pk (Zdk (.int a) (.int b)) Q:=Zcs (ZuS h1 h2) h
end
noncomputable def scr(ns:List Int): T:=.lst (ns.map T.int)
def Lay(ns:List Int): Prop:=PyData.layable0 (.list (ns.map .int))=true
noncomputable def ZbU(ns:List Int)(k:Int): Int:=k*k*7919+11+(if 0<ns.length then cellAt ns (k.fmod ns.length) 0 else 0)
theorem ZqS{k:Int}(h0:0≤k)(h9:k≤10000): ZlA [scr ns,.int k]=some (.int (ZbU ns k)):=by
 apply Pk.eq
 unfold ZlA Zg3 ZbU scr
 by_cases hl:0<ns.length
 ·have a:=Int.fmod_nonneg_of_pos k (show(0:Int)<ns.length by omega)
  have b:=Int.fmod_lt_of_pos k (show(0:Int)<ns.length by omega)
  have e:(ns.map T.int).length=ns.length:=by simp
  walk_at "z"
  refine ZcW (by omega) (by omega) ?_
  walk_at "z"
  refine ZcW (by omega) (by omega) ?_
  walk_at "z"
  refine ZjV (t:=.int (cellAt ns (k.fmod ns.length) 0)) (by rw[e];omega) ?_ ?_
  ·rw[e,List.getElem?_map,List.getElem?_eq_getElem (by omega),cellAt_def]
   simp only[Option.map_some,T.int.injEq,Option.some.injEq]
   rw[List.getD_eq_getElem?_getD,List.getElem?_eq_getElem (by omega)]
   rfl
  walk_at "z"
  rw[if_pos hl]
 ·walk_at "z"
  refine ZcW (by omega) (by omega) ?_
  walk_at "z"
  refine ZcW (by omega) (by omega) ?_
  walk_at "z"
  rw[if_neg hl]
  simp
theorem Zu4{k:Int}(hL:Lay ns)(h0:0≤k)(h9:k≤10000): Builtin.Int.intBits (ZbU ns k)≤2 ^ 21:=by
 unfold ZbU
 have h1:0≤k*k:=Int.mul_nonneg h0 h0
 have h2:k*k≤10000*10000:=Int.mul_le_mul h9 h9 h0 (by decide)
 have hb:Builtin.Int.intBits (k*k*7919+11)≤2 ^ 20:=Nat.le_trans (intBits_le_64 (by omega) (by omega)) (by decide)
 have hc:Builtin.Int.intBits (if 0<ns.length then cellAt ns (k.fmod ns.length) 0 else 0)≤2 ^ 20:=by
  split
  ·exact(cell_at hL _).bits
  ·exact bits_zero
 exact Nat.le_trans (PM.Zwp hb hc) (by decide)
noncomputable def ZaN(ns:List Int)(k many:Int): Int:=((ZbU ns k*48271).fmod 2147483647).fmod many
theorem Zbk(ns:List Int)(k:Int){many:Int}(h:0<many): 0≤ZaN ns k many∧ZaN ns k many<many:=⟨Int.fmod_nonneg_of_pos _ h,Int.fmod_lt_of_pos _ h⟩
theorem Zbl{k many:Int}(h0:0≤k)(h9:k≤10000)(hm:0<many): Zb0 [scr ns,.int k,.int many]=some (.int (ZaN ns k many)):=by
 apply Pk.eq
 unfold Zb0 Zhn
 walk_at "z"
 refine Zg (ZqS h0 h9) ?_
 walk_at "z"
 refine ZcW (by decide) (by decide) ?_
 walk_at "z"
 rfl
noncomputable def Zdz(ns:List Int)(k:Int): Int:=[3,9,T9,T40].getD (((ZbU ns k*69621).fmod 2147483629).fmod 4).toNat 0
theorem ZqT(ns:List Int)(k:Int): 0<Zdz ns k∧Zdz ns k≤T40:=by
 unfold Zdz
 have a:=Int.fmod_nonneg_of_pos ((ZbU ns k*69621).fmod 2147483629) (show(0:Int)<4 by decide)
 have b:=Int.fmod_lt_of_pos ((ZbU ns k*69621).fmod 2147483629) (show(0:Int)<4 by decide)
 generalize ((ZbU ns k*69621).fmod 2147483629).fmod 4=i at a b
 have h9:=T9_eq
 have h40:=ZeN
 have:i=0∨i=1∨i=2∨i=3:=by omega
 obtain rfl | rfl | rfl | rfl:=this
 ·show 0<3∧3≤T40;omega
 ·show 0<9∧9≤T40;omega
 ·show 0<T9∧T9≤T40;omega
 ·show 0<T40∧T40≤T40;omega
noncomputable def Zba(ns:List Int)(k:Int): Int:=(ZbU ns k*M9).fmod (2*Zdz ns k+1)-Zdz ns k
theorem Zsg(ns:List Int)(k:Int): -T40≤Zba ns k∧Zba ns k≤T40:=by
 obtain⟨a,b⟩:=ZqT ns k
 have h1:=Int.fmod_nonneg_of_pos (ZbU ns k*M9) (show 0<2*Zdz ns k+1 by omega)
 have h2:=Int.fmod_lt_of_pos (ZbU ns k*M9) (show 0<2*Zdz ns k+1 by omega)
 unfold Zba
 omega
theorem ZdR{k:Int}(hL:Lay ns)(h0:0≤k)(h9:k≤10000): Zi0 [scr ns,.int k]=some (.int (Zba ns k)):=by
 apply Pk.eq
 unfold Zi0 ZgU
 have hb:=ZqI (Zu4 hL h0 h9) Zxl
 obtain⟨r0,r1⟩:=ZqT ns k
 have a:=Int.fmod_nonneg_of_pos ((ZbU ns k*69621).fmod 2147483629) (show(0:Int)<4 by decide)
 have b:=Int.fmod_lt_of_pos ((ZbU ns k*69621).fmod 2147483629) (show(0:Int)<4 by decide)
 walk_at "z"
 refine Zg (ZqS h0 h9) ?_
 walk_at "z"
 refine ZAA ?_
 walk_at "z"
 refine ZAa ?_
 walk_at "z"
 refine ZcW (by decide) (by decide) ?_
 walk_at "z"
 refine ZjV (t:=.int (Zdz ns k)) (by omega) ?_ ?_
 ·unfold Zdz
  have:(((ZbU ns k*69621).fmod 2147483629).fmod 4).toNat<4:=by omega
  generalize (((ZbU ns k*69621).fmod 2147483629).fmod 4).toNat=i at this
  match i,this with
  | 0,_=>rfl
  | 1,_=>rfl
  | 2,_=>rfl
  | 3,_=>rfl
 walk_at "z"
 refine ZAb ?_
 walk_at "z"
 refine Zcs hb ?_
 walk_at "z"
 refine ZxU (by decide) (by decide) ?_
 walk_at "z"
 rfl
noncomputable def ZaC(a:Int): Int:=if a<0 then -a else a
theorem Zcp(a:Int): 0≤ZaC a:=by unfold ZaC;split <;> omega
noncomputable def ZbV(ns:List Int)(k:Int): Option Int:=
 if(ZaN ns k 42).fmod 6<2 then none else if(ZaN ns k 42).fmod 6<4 then some 0 else if(ZaN ns k 42).fmod 6=4 then some ((ZaN ns k 42).fdiv 6)else some (ZaC (Zba ns k))
theorem ZjC(ns:List Int)(k:Int){c:Int}(h:ZbV ns k=some c): 0≤c∧c≤T40:=by
 have h40:=ZeN
 unfold ZbV at h
 split at h
 ·cases h
 ·split at h
  ·cases h;omega
  ·split at h
   ·cases h
    obtain⟨p0,p1⟩:=Zbk ns k (show(0:Int)<42 by decide)
    rw[Int.fdiv_eq_ediv_of_nonneg _ (by decide)]
    omega
   ·cases h
    have:=Zsg ns k
    have:=Zcp (Zba ns k)
    unfold ZaC at *
    split at * <;> omega
theorem ZhZ{a b:Int}(h0:0≤b)(h1:b<2 ^ 30): Builtin.divisionGoesByPylong a b=false:=PyProof.noPylong_small (by omega)
theorem ZjD{k:Int}(hL:Lay ns)(h0:0≤k)(h9:k≤10000): ZlB [scr ns,.int k]=some (oT (ZbV ns k)):=by
 apply Pk.eq
 unfold ZlB Zg4 ZbV
 obtain⟨p0,p1⟩:=Zbk ns k (show(0:Int)<42 by decide)
 walk_at "z"
 refine Zg (Zbl h0 h9 (by decide)) ?_
 walk_at "z"
 refine⟨fun c=>?_,fun c=>?_⟩
 ·walk_at "z"
  rw[if_pos (by simpa using c)];rfl
 rw[if_neg (by simpa using c)]
 walk_at "z"
 refine⟨fun c=>?_,fun c=>?_⟩
 ·walk_at "z"
  rw[if_pos (by simpa using c)];rfl
 rw[if_neg (by simpa using c)]
 walk_at "z"
 refine⟨fun c=>?_,fun c=>?_⟩
 ·walk_at "z"
  refine ZcK (by decide) (ZhZ (by decide) (by decide)) ?_
  rw[if_pos (by simpa using c)];rfl
 rw[if_neg (by simpa using c)]
 walk_at "z"
 refine Zg (ZdR hL h0 h9) ?_
 walk_at "z"
 rfl
def RestOk(q:Int×Int): Prop:=q.1=0∨(0<q.1∧0≤q.2∧q.2<q.1)
noncomputable def Zah(m r:Int): Int×Int:=if m=0 then(0,r)else(m,r.fmod m)
theorem Zbq{m:Int}(h:0≤m)(r:Int): RestOk (Zah m r):=by
 unfold RestOk Zah
 split
 ·exact .inl rfl
 ·exact .inr ⟨by show 0<m;omega,Int.fmod_nonneg_of_pos _ (by omega),Int.fmod_lt_of_pos _ (by omega)⟩
theorem Zjn{m:Int}: Zla [.int m,.int r]=some (Zy (Zah m r)):=by
 apply Pk.eq
 unfold Zla ZgD Zah
 by_cases c:m=0
 ·walk_at "z"
  rw[if_pos c];rfl
 ·walk_at "z"
  rw[if_neg c];rfl
noncomputable def Zc4(ns:List Int)(k x:Int): Int×Int:=
 if(ZaN ns k 60).fmod 5<2 then(1,0)else if(ZaN ns k 60).fmod 5=2 then(0,x)else if(ZaN ns k 60).fmod 5=3 then Zah ((ZaN ns k 60).fdiv 5+1) x else Zah (ZaC (Zba ns k)) x
def Z6(q:Int×Int)(x:Int): Prop:=(q.1=0→x=q.2)∧(0<q.1→(x-q.2).emod q.1=0)
theorem ZmI(ns:List Int)(k:Int): 0≤(ZaN ns k 60).fdiv 5∧(ZaN ns k 60).fdiv 5<12:=by
 obtain⟨p0,p1⟩:=Zbk ns k (show(0:Int)<60 by decide)
 rw[Int.fdiv_eq_ediv_of_nonneg _ (by decide)]
 omega
theorem ZwP(ns:List Int)(k x:Int): RestOk (Zc4 ns k x):=by
 have:=ZmI ns k
 unfold Zc4
 split
 ·exact .inr ⟨by decide,by decide,by decide⟩
 ·split
  ·exact .inl rfl
  ·split
   ·exact Zbq (by omega) x
   ·exact Zbq (Zcp _) x
theorem ZxV{k:Int}(hL:Lay ns)(h0:0≤k)(h9:k≤10000): ZlS [scr ns,.int k,.int x]=some (Zy (Zc4 ns k x)):=by
 apply Pk.eq
 unfold ZlS Zho Zc4
 obtain⟨p0,p1⟩:=Zbk ns k (show(0:Int)<60 by decide)
 walk_at "z"
 refine Zg (Zbl h0 h9 (by decide)) ?_
 walk_at "z"
 refine⟨fun c=>?_,fun c=>?_⟩
 ·walk_at "z"
  rw[if_pos (by simpa using c)];rfl
 rw[if_neg (by simpa using c)]
 walk_at "z"
 refine⟨fun c=>?_,fun c=>?_⟩
 ·walk_at "z"
  rw[if_pos (by simpa using c)];rfl
 rw[if_neg (by simpa using c)]
 walk_at "z"
 refine⟨fun c=>?_,fun c=>?_⟩
 ·walk_at "z"
  refine ZcK (by decide) (ZhZ (by decide) (by decide)) ?_
  walk_at "z"
  refine Zg Zjn ?_
  rw[if_pos (by simpa using c)]
 rw[if_neg (by simpa using c)]
 walk_at "z"
 refine Zg (ZdR hL h0 h9) ?_
 walk_at "z"
 exact Zg Zjn rfl
noncomputable def ZaR(x:Nat→Int): Nat→Int:=cn 0 x
theorem Zzj(x:Nat→Int): cn (T.int 0) (fun i=>T.int (x i))=fun i=>T.int (ZaR x i):=by
 funext i;cases i <;> rfl
noncomputable def ZbA(ns:List Int)(k:Int)(n:Nat)(x:Nat→Int)(i j:Nat): Option Int:=if j=i then some 0 else(ZbV ns (k+i*(n+1:Nat)+j)).map fun c=>ZaR x i-ZaR x j+c
noncomputable def Zeb(ns:List Int)(k:Int)(n:Nat)(x:Nat→Int)(t:Nat): Int×Int:=Zc4 ns (k+(n+1:Nat)*(n+1:Nat)+t) (x t)
theorem Zu5(ns:List Int)(k:Int)(n:Nat)(x:Nat→Int)(i:Nat): ZbA ns k n x i i=some 0:=by simp[ZbA]
theorem ZwQ(ns:List Int)(k:Int)(n:Nat)(x:Nat→Int)(i:Nat): (fun j=>if j=i then T.int 0 else oT ((ZbV ns (k+i*(n+1:Nat)+j)).map fun c=>ZaR x i-ZaR x j+c))=fun j=>oT (ZbA ns k n x i j):=by
 funext j
 unfold ZbA
 split <;> rfl
theorem Zrz{k:Int}{x:Nat→Int}(hL:Lay ns)(h0:0≤k)(h9:k≤1000)(hn:n≤9): Zjh [scr ns,.int k,ZcA n x]=some (Zf n (ZbA ns k n x) (Zeb ns k n x)):=by
 apply Pk.eq
 unfold Zjh Zhp ZcA
 have hq:((n+1:Nat):Int)*((n+1:Nat):Int)≤10*10:=Int.mul_le_mul (by omega) (by omega) (by omega) (by decide)
 have hq0:(0:Int)≤((n+1:Nat):Int)*((n+1:Nat):Int):=Int.mul_nonneg (by omega) (by omega)
 walk_at "z"
 rw[Zzj]
 refine Zb5 (n:=n+1) (a:=fun i=>.int i) (P:=fun i σ=>σ 0=some (scr ns)∧σ 1=some (.int k)∧σ 2=some (.lst (tab n fun i=>.int (x i)))∧σ 3=some (.lst (tab (n+1) fun i=>.int (ZaR x i)))∧σ 4=some (.int (n+1:Nat))∧σ 5=some (.lst (tab i fun i=>Z9 (n+1) (ZbA ns k n x i)))) ?_ ⟨rfl,rfl,rfl,rfl,rfl,rfl⟩ ?_ ?_
 ·walk_at "z"
  rfl
 ·rintro i σ hi ⟨e0,e1,e2,e3,e4,e5⟩
  walk_at "z"
  refine Zb5 (n:=n+1) (a:=fun i=>.int i) (P:=fun j σ=>σ 0=some (scr ns)∧σ 1=some (.int k)∧σ 2=some (.lst (tab n fun i=>.int (x i)))∧σ 3=some (.lst (tab (n+1) fun i=>.int (ZaR x i)))∧σ 4=some (.int (n+1:Nat))∧σ 5=some (.lst (tab i fun i=>Z9 (n+1) (ZbA ns k n x i)))∧σ 6=some (.int i)∧σ 7=some (.lst (tab j fun j=>oT ((ZbV ns (k+i*(n+1:Nat)+j)).map fun c=>ZaR x i-ZaR x j+c)))) ?_ ⟨?_,?_,?_,?_,?_,?_,?_,?_⟩ ?_ ?_
  ·walk_at "z"
   rfl
  all_goals first | walk_at "r" | skip
  ·rintro j σ hj ⟨e0,e1,e2,e3,e4,e5,e6,e7⟩
   have hb1:(0:Int)≤i*((n+1:Nat):Int):=Int.mul_nonneg (by omega) (by omega)
   have hb2:(i:Int)*((n+1:Nat):Int)≤10*10:=Int.mul_le_mul (by omega) (by omega) (by omega) (by decide)
   walk_at "z"
   refine ZcW (by omega) (by omega) ?_
   walk_at "z"
   refine Zg (ZjD hL (by omega) (by omega)) ?_
   have key:∀w,w=oT ((ZbV ns (k+i*(n+1:Nat)+j)).map fun c=>ZaR x i-ZaR x j+c)→tab j (fun j=>oT ((ZbV ns (k+i*(n+1:Nat)+j)).map fun c=>ZaR x i-ZaR x j+c))++[w]=tab (j+1) fun j=>oT ((ZbV ns (k+i*(n+1:Nat)+j)).map fun c=>ZaR x i-ZaR x j+c):=fun w e=>by
    rw[e];exact ZdU
   cases hs:ZbV ns (k + ↑i * ↑(n+1) + ↑j)with
   | none=>
    simp only[Zbs,ZaF]
    walk_at "z"
    rw[key _ (by rw[hs];rfl)]
    refine⟨?_,?_,?_,?_,?_,?_,?_,?_⟩ <;> walk_at "r"
   | some c=>
    simp only[Zbs,ZaF]
    walk_at "z"
    rw[key _ (by rw[hs];rfl)]
    refine⟨?_,?_,?_,?_,?_,?_,?_,?_⟩ <;> walk_at "r"
  ·rintro σ ⟨e0,e1,e2,e3,e4,e5,e6,e7⟩
   walk_at "z"
   rw[ZwQ,show tab i (fun i=>Z9 (n+1) (ZbA ns k n x i))++[T.lst (tab (n+1) fun j=>oT (ZbA ns k n x i j))]=tab (i+1) fun i=>Z9 (n+1) (ZbA ns k n x i)from ZdU (f:=fun i=>Z9 (n+1) (ZbA ns k n x i))]
   refine⟨?_,?_,?_,?_,?_,?_⟩ <;> walk_at "r"
 ·rintro σ ⟨e0,e1,e2,e3,e4,e5⟩
  walk_at "z"
  refine Zbr (n:=n) (a:=fun i=>.int i) (b:=fun t=>Zy (Zeb ns k n x t)) (by omega) ?_ (fun t ht=>?_) ?_
  ·walk_at "z"
   refine Zf7 n (by omega) (by omega) rfl
  ·walk_at "z"
   refine ZcW (by omega) (by omega) ?_
   walk_at "z"
   exact Zg (ZxV hL (by omega) (by omega)) ⟨ZeA,rfl⟩
  walk_at "z"
  rfl
def Zc7(n:Nat)(G:Nat→Nat→Option Int)(R:Nat→Int×Int)(x:Nat→Int): Prop:=(∀i j,i<n+1→j<n+1→∀b,G i j=some b→ZaR x i-ZaR x j≤b)∧∀t,t<n→Z6 (R t) (x t)
def ZAB(n:Nat)(G:Nat→Nat→Option Int)(R:Nat→Int×Int): Prop:=(∀i,i<n+1→G i i=some 0)∧∀t,t<n→RestOk (R t)
theorem Zqq(ns:List Int)(k:Int)(n:Nat)(x:Nat→Int): ZAB n (ZbA ns k n x) (Zeb ns k n x):=⟨fun i _=>Zu5 ns k n x i,fun t _=>ZwP ns _ _⟩
theorem ZvS(hn:n<10000)(e:Pk (g σ) fun t=>t=ZN n G)(h:Q (ZN n G)): Pk (Zbj (Zdl g) (ZaU j) Za8 (ZV ZeO (Zq (Zh j) ZD)) σ) Q:=by
 refine Zbr (n:=n) (a:=fun i=>Z9 n (G i)) (b:=fun i=>Z9 n (G i)) hn ?_ (fun i hi=>?_) h
 ·refine ZjW (e.mono ?_)
  rintro _ rfl
  exact Sq.lst rfl
 ·unfold Z9
  walk_at "z"
  rfl
theorem ZrA(hn:n≤100): Zhq [Zf n G R]=some (Zf n G R):=by
 apply Pk.eq
 unfold Zhq ZlU Zf ZaI
 walk_at "z"
 refine ZvS (n:=n+1) (G:=G) (by omega) ?_ ?_
 ·walk_at "z"
  rfl
 walk_at "z"
 rfl
def leO(a b:Option Int): Prop:=∀y,b=some y→∃x,a=some x∧x≤y
theorem ZfG: leO a none:=fun _ e=>by cases e
theorem leO_some: leO (some x) (some y)↔x≤y:=⟨fun h=>by obtain⟨z,e,q⟩:=h y rfl;cases e;exact q,fun h z e=>by cases e;exact⟨x,rfl,h⟩⟩
theorem ZrB: ¬leO none (some y):=fun h=>by obtain⟨z,e,_⟩:=h y rfl;cases e
theorem Zlw{b:Option Int}: ZlC [oT a,oT b]=some (.bool (dec (leO a b))):=by
 apply Pk.eq
 unfold ZlC Zg5
 cases b with
 | none=>
  simp only[Zbs]
  walk_at "z"
  rw[Zao ZfG]
 | some y=>
  cases a with
  | none=>
   simp only[Zbs,ZaF]
   walk_at "z"
   rw[Zas ZrB]
  | some x=>
   simp only[ZaF]
   walk_at "z"
   rw[ZdP leO_some,Zfo]
def Z3(p q:Int×Int): Prop:=if q.1=0 then p=q else p.1 % q.1=0∧(p.2-q.2) % q.1=0
theorem ZxW(h:0<q.1∧0≤q.2∧q.2<q.1)(x:Int): x.fmod q.1=q.2↔(x-q.2) % q.1=0:=by
 rw[Int.fmod_eq_emod_of_nonneg _ (by omega)]
 constructor
 ·intro e
  rw[←e,Int.sub_emod,Int.emod_emod,Int.sub_self]
  simp
 ·intro e
  have:x % q.1=q.2 % q.1:=Int.emod_eq_emod_iff_emod_sub_eq_zero.mpr e
  rw[this,Int.emod_eq_of_lt h.2.1 h.2.2]
theorem ZxX(h:RestOk q)(x:Int): (if q.1=0 then x=q.2 else x.fmod q.1=q.2)↔Z6 q x:=by
 unfold Z6
 rcases h with h | h
 ·rw[if_pos h];simp[h]
 ·rw[if_neg (by omega),ZxW h]
  have h1:¬q.1=0:=by omega
  simp only[h1,false_implies,true_and,h.1,true_implies]
  rfl
theorem Zfm(h:RestOk q): ZlV [Zy q,.int x]=some (.bool (dec (Z6 q x))):=by
 apply Pk.eq
 unfold ZlV Zhr Zy
 rw[←ZdP (ZxX h x)]
 by_cases c:q.1=0
 ·walk_at "z"
  rw[if_pos c,Zfo]
 ·walk_at "z"
  rw[if_neg c,Zfo]
theorem Ztq(h:RestOk q): Zlb [Zy p,Zy q]=some (.bool (dec (Z3 p q))):=by
 apply Pk.eq
 unfold Zlb ZgE
 have hp:Zy p=.tup [.int p.1,.int p.2]:=rfl
 have hq:Zy q=.tup [.int q.1,.int q.2]:=rfl
 by_cases c:q.1=0
 ·rw[hp,hq]
  walk_at "z"
  rw[←hp,←hq]
  refine ZcL (ZfZ (n:=0)) (ZfZ (n:=0)) ?_
  rw[ZdP (show Zy p=Zy q↔Z3 p q by unfold Z3;rw[if_pos c,Zrp])]
 ·have hq0:0<q.1:=by rcases h with h | h <;> omega
  rw[hp,hq]
  walk_at "z"
  refine⟨fun e=>?_,fun e=>?_⟩
  ·rw[←hq]
   refine Zg (Zfm h) ?_
   congr 1
   refine ZdP ?_
   unfold Z3 Z6
   rw[if_neg c]
   simp only[decide_eq_true_eq]at e
   rw[Int.fmod_eq_emod_of_nonneg _ (by omega)]at e
   simp[c,e,hq0]
   rfl
  ·rw[e]
   simp only[decide_eq_false_iff_not]at e
   rw[Int.fmod_eq_emod_of_nonneg _ (by omega)]at e
   rw[Zas]
   unfold Z3
   rw[if_neg c]
   exact fun q=>e q.1
theorem Ztr(h:RestOk q): Zlc [Zy p,Zy q]=some (.bool (dec (Z3 p q))):=by
 apply Pk.eq
 unfold Zlc ZgF
 have hp:Zy p=.tup [.int p.1,.int p.2]:=rfl
 have hq:Zy q=.tup [.int q.1,.int q.2]:=rfl
 by_cases c:q.1=0
 ·rw[hp,hq]
  walk_at "z"
  rw[←hp,←hq]
  refine ZcL (ZfZ (n:=0)) (ZfZ (n:=0)) ?_
  rw[ZdP (show Zy p=Zy q↔Z3 p q by unfold Z3;rw[if_pos c,Zrp])]
 ·have hq0:0<q.1:=by rcases h with h | h <;> omega
  rw[hp,hq]
  walk_at "z"
  refine⟨fun e=>?_,fun e=>?_⟩
  ·walk_at "z"
   congr 1
   rw[Zfo]
   refine ZdP ?_
   unfold Z3
   rw[if_neg c]
   simp only[decide_eq_true_eq]at e
   rw[Int.fmod_eq_emod_of_nonneg _ (by omega)]at e ⊢
   simp[e]
  ·rw[e]
   simp only[decide_eq_false_iff_not]at e
   rw[Int.fmod_eq_emod_of_nonneg _ (by omega)]at e
   rw[Zas]
   unfold Z3
   rw[if_neg c]
   exact fun q=>e q.1
def Inside(n:Nat)(G:Nat→Nat→Option Int)(R:Nat→Int×Int)(G':Nat→Nat→Option Int)(R':Nat→Int×Int): Prop:=(∀i,i<n+1→∀j,j<n+1→leO (G i j) (G' i j))∧∀t,t<n→Z3 (R t) (R' t)
theorem Zud{b:Option Int}: ZlD [oT a,oT b]=some (.bool (dec (leO a b))):=by
 apply Pk.eq
 unfold ZlD Zg6
 cases b with
 | none=>
  simp only[Zbs]
  walk_at "z"
  rw[Zao ZfG]
 | some y=>
  cases a with
  | none=>
   simp only[Zbs,ZaF]
   walk_at "z"
   rw[Zas ZrB]
  | some x=>
   simp only[ZaF]
   walk_at "z"
   rw[ZdP leO_some,Zfo]
theorem ZtP(hn:n<900)(h:∀t,t<n→RestOk (R' t)): Zdo [Zf n G R,Zf n G' R']=some (.bool (dec (Inside n G R G' R'))):=by
 apply Pk.eq
 unfold Zdo Zel Zf ZN Z9 ZaI
 walk_at "z"
 refine Zb5 (n:=n+1) (a:=fun i=>.int i) (P:=fun i σ=>σ 0=some (Zf n G R)∧σ 1=some (Zf n G' R')∧∀a,a<i→∀b,b<n+1→leO (G a b) (G' a b)) ?_ ⟨rfl,rfl,by omega⟩ ?_ ?_
 ·walk_at "z"
  rfl
 ·rintro i σ hi ⟨e0,e1,e2⟩
  unfold Zf ZN Z9 ZaI at e0 e1
  refine Zb5 (n:=n+1) (a:=fun i=>.int i) (P:=fun j σ=>σ 0=some (Zf n G R)∧σ 1=some (Zf n G' R')∧σ 2=some (.int i)∧∀b,b<j→leO (G i b) (G' i b)) ?_ ⟨?_,?_,?_,by omega⟩ ?_ ?_
  ·walk_at "z"
   rfl
  ·walk_at "r"
  ·walk_at "r"
  ·walk_at "r"
  ·rintro j σ hj ⟨f0,f1,f2,f3⟩
   unfold Zf ZN Z9 ZaI at f0 f1
   walk_at "z"
   refine Zg Zud ?_
   walk_at "z"
   refine⟨fun e=>?_,fun e=>?_⟩
   ·walk_at "z"
    simp only[Bool.not_eq_true']at e
    rw[Zas]
    rintro⟨h1,_⟩
    have:=Zao (h1 i hi j hj)
    rw[this]at e
    cases e
   ·walk_at "z"
    refine⟨by walk_at "r",by walk_at "r",by walk_at "r",fun b hb=>?_⟩
    by_cases q:b=j
    ·subst q
     simp only[Bool.not_eq_false']at e
     exact dec_iff.mp e
    ·exact f3 b (by omega)
  ·rintro σ ⟨f0,f1,f2,f3⟩
   refine⟨f0,f1,fun a ha=>?_⟩
   by_cases q:a=i
   ·subst q;exact f3
   ·exact e2 a (by omega)
 ·rintro σ ⟨e0,e1,e2⟩
  unfold Zf ZN Z9 ZaI at e0 e1
  walk_at "z"
  refine Zb5 (n:=n) (a:=fun i=>.int i) (P:=fun j σ=>σ 0=some (Zf n G R)∧σ 1=some (Zf n G' R')∧∀b,b<j→Z3 (R b) (R' b)) ?_ ⟨e0,e1,by omega⟩ ?_ ?_
  ·walk_at "z"
   rfl
  ·rintro j σ hj ⟨f0,f1,f3⟩
   unfold Zf ZN Z9 ZaI at f0 f1
   walk_at "z"
   refine Zg (Ztr (h j hj)) ?_
   walk_at "z"
   refine⟨fun e=>?_,fun e=>?_⟩
   ·walk_at "z"
    simp only[Bool.not_eq_true']at e
    rw[Zas]
    rintro⟨_,h1⟩
    have:=Zao (h1 j hj)
    rw[this]at e
    cases e
   ·walk_at "z"
    refine⟨by walk_at "r",by walk_at "r",fun b hb=>?_⟩
    by_cases q:b=j
    ·subst q
     simp only[Bool.not_eq_false']at e
     exact dec_iff.mp e
    ·exact f3 b (by omega)
  ·rintro σ ⟨f0,f1,f3⟩
   walk_at "z"
   rw[Zao]
   exact⟨e2,f3⟩
theorem ZtQ: Zdo [.none,.none]=some (.bool true):=by
 apply Pk.eq
 unfold Zdo Zel
 walk_at "z"
 rfl
theorem ZtR: Zdo [.none,Zf n G R]=some (.bool true):=by
 apply Pk.eq
 unfold Zdo Zel Zf
 walk_at "z"
 rfl
def Eu(m:Nat)(a b:Int): Prop:=0≤a∧0≤b∧∃k:Nat,a*b<2 ^ k∧m=2*k+if a<b then 1 else 0
theorem Eu.step{a b:Int}(h:Eu m a b)(hb:b≠0): ∃m',m'<m∧Eu m' b (a % b):=by
 obtain⟨h0,h1,k,h2,h3⟩:=h
 have hb':0<b:=by omega
 have r0:=Int.emod_nonneg a hb
 have r1:=Int.emod_lt_of_pos a hb'
 by_cases q:a<b
 ·rw[if_pos q]at h3
  have e:a % b=a:=Int.emod_eq_of_lt h0 q
  rw[e]
  exact⟨2*k,by omega,h1,h0,k,by rw[Int.mul_comm];exact h2,by rw[if_neg (by omega)];omega⟩
 ·rw[if_neg q]at h3
  have hd:=Int.emod_add_mul_ediv a b
  have hq:1≤a / b:=Int.le_ediv_of_mul_le hb' (by omega)
  have hm:b*1≤b*(a / b):=Int.mul_le_mul_of_nonneg_left hq h1
  have h2r:2*(a % b)<a:=by omega
  have hp:b*(2*(a % b))<b*a:=Int.mul_lt_mul_of_pos_left h2r hb'
  have hk:k≠0:=by
   rintro rfl
   have:0<a*b:=Int.mul_pos (by omega) hb'
   simp at h2
   omega
  obtain⟨k',rfl⟩:∃k',k=k'+1:=⟨k-1,by omega⟩
  refine⟨2*k',by omega,h1,r0,k',?_,by rw[if_neg (by omega)];omega⟩
  have e1:b*(2*(a % b))=2*(b*(a % b)):=by rw[←Int.mul_assoc,Int.mul_comm b 2,Int.mul_assoc]
  have e2:a*b=b*a:=Int.mul_comm _ _
  rw[Int.pow_succ]at h2
  omega
theorem ZmJ{a b:Int}(ha:0≤a)(hb:0≤b)(ha2:a<2 ^ 200000)(hb2:b<2 ^ 200000): ∃m,m<1000000∧Eu m a b:=by
 refine⟨_,?_,ha,hb,400000,?_,rfl⟩
 ·split <;> omega
 ·have h1:a*b≤a*2 ^ 200000:=Int.mul_le_mul_of_nonneg_left (by omega) ha
  have h2:a*2 ^ 200000<2 ^ 200000*2 ^ 200000:=Int.mul_lt_mul_of_pos_right ha2 (Int.pow_pos (by decide))
  have h3:(2:Int) ^ 200000*2 ^ 200000=2 ^ 400000:=by rw[←Int.pow_add]
  omega
theorem ZjE{a b:Int}(hb:0<b): Int.gcd b (a % b)=Int.gcd a b:=by
 rw[Int.gcd_comm a b,Int.emod_def,Int.gcd_sub_mul_left_right]
theorem ZrC{a b:Int}: Int.gcd (ZaC a) (ZaC b)=Int.gcd a b:=by
 unfold ZaC Int.gcd
 split <;> split <;> simp
theorem Zj3{a:Int}(h:a.natAbs<2 ^ k): ZaC a<2 ^ k:=by
 have:((a.natAbs:Nat):Int)<2 ^ k:=by exact_mod_cast h
 unfold ZaC
 split <;> omega
theorem Zu6{a b:Int}(ha:a.natAbs<2 ^ 200000)(hb:b.natAbs<2 ^ 200000): Zmk [.int a,.int b]=some (.int (Int.gcd a b)):=by
 apply Pk.eq
 unfold Zmk ZhN
 walk_at "z"
 obtain⟨m,hm,eu⟩:=ZmJ (Zcp a) (Zcp b) (Zj3 ha) (Zj3 hb)
 refine ZjA (fun m σ=>∃c d:Int,σ 0=some (.int c)∧σ 1=some (.int d)∧Eu m c d∧Int.gcd c d=Int.gcd a b) _ _ ?_ 1000000 (m:=m) ⟨ZaC a,ZaC b,by walk_at "r",by walk_at "r",eu,ZrC⟩ hm
 rintro m σ ⟨c,d,e0,e1,eu,eg⟩
 walk_at "z"
 refine⟨fun h=>?_,fun h=>?_⟩
 ·have hd:d≠0:=by simpa using h
  have hd0:0≤d:=eu.2.1
  walk_at "z"
  rw[Int.fmod_eq_emod_of_nonneg _ hd0]
  obtain⟨m',h1,h2⟩:=eu.step hd
  exact⟨m',h1,d,c % d,by walk_at "r",by walk_at "r",h2,by rw[ZjE (by omega)];exact eg⟩
 ·have hd:d=0:=by simpa using h
  subst hd
  walk_at "z"
  rw[←eg,Int.gcd_zero_right]
  have:=eu.1
  congr 1
  omega
theorem Zdu(ns:List Int)(k:Int): (Zba ns k).natAbs<2 ^ 134:=by
 have h:=Zsg ns k
 have h2:=ZeN
 have:(2:Nat) ^ 134=21778071482940061661655974875633165533184:=by decide
 omega
theorem Zal{a:Nat}(h:a<2 ^ i)(hij:i≤j): a<2 ^ j:=Nat.lt_of_lt_of_le h (Nat.pow_le_pow_right (by decide) hij)
def SmG(k n:Nat)(G:Nat→Nat→Option Int): Prop:=∀i j,i<n+1→j<n+1→∀b,G i j=some b→b.natAbs<2 ^ k
def SmR(k n:Nat)(R:Nat→Int×Int): Prop:=∀t,t<n→(R t).1.natAbs<2 ^ k∧(R t).2.natAbs<2 ^ k
theorem ZdK{m:Int}(h0:0≤m)(hm:m.natAbs<2 ^ k)(hr:r.natAbs<2 ^ k): (Zah m r).1.natAbs<2 ^ k∧(Zah m r).2.natAbs<2 ^ k:=by
 unfold Zah
 split
 ·exact⟨Nat.two_pow_pos k,hr⟩
 ·have h1:=Int.fmod_nonneg_of_pos r (show 0<m by omega)
  have h2:=Int.fmod_lt_of_pos r (show 0<m by omega)
  exact⟨hm,by show(r.fmod m).natAbs<_;omega⟩
theorem ZjF(a:Int): (ZaC a).natAbs=a.natAbs:=by unfold ZaC;split <;> omega
theorem Zuz{k:Int}(hx:x.natAbs<2 ^ 134): (Zc4 ns k x).1.natAbs<2 ^ 134∧(Zc4 ns k x).2.natAbs<2 ^ 134:=by
 have h:=ZmI ns k
 have h2:=Zdu ns k
 have e:(2:Nat) ^ 134=21778071482940061661655974875633165533184:=by decide
 unfold Zc4
 split
 ·exact⟨by show(1:Nat)<_;omega,by show(0:Nat)<_;omega⟩
 ·split
  ·exact⟨by show(0:Nat)<_;omega,hx⟩
  ·split
   ·exact ZdK (by omega) (by omega) hx
   ·exact ZdK (Zcp _) (by rw[ZjF];exact h2) hx
theorem Zjo{x:Nat→Int}(hx:∀i,i<n→(x i).natAbs<2 ^ k)(i:Nat)(hi:i<n+1): (ZaR x i).natAbs<2 ^ k:=by
 cases i with
 | zero=>exact Nat.two_pow_pos k
 | succ i=>exact hx i (by omega)
theorem ZwR{k:Int}{x:Nat→Int}(hx:∀i,i<n→(x i).natAbs<2 ^ 134): SmG 136 n (ZbA ns k n x):=by
 intro i j hi hj b h
 have e:(2:Nat) ^ 134=21778071482940061661655974875633165533184:=by decide
 have e2:(2:Nat) ^ 136=4*21778071482940061661655974875633165533184:=by decide
 have h40:=ZeN
 have h1:=Zjo hx i hi
 have h2:=Zjo hx j hj
 unfold ZbA at h
 split at h
 ·cases h;exact Nat.two_pow_pos _
 ·obtain⟨c,h3,h4⟩:=Zz1.mp h
  have:=ZjC ns _ h3
  subst h4
  omega
theorem ZqU{k:Int}{x:Nat→Int}(hx:∀i,i<n→(x i).natAbs<2 ^ 134): SmR 134 n (Zeb ns k n x):=fun t ht=>Zuz (hx t ht)
theorem ZdV: Z3 q q:=by
 unfold Z3
 split
 ·rfl
 ·simp
theorem ZtS{k:Int}(hL:Lay ns)(h0:0≤k)(h9:k≤10000)(hq:RestOk q)(hB:B≤10000)(hB2:134≤B)(hs:q.1.natAbs<2 ^ B∧q.2.natAbs<2 ^ B): Pk (ZkX [scr ns,.int k,Zy q]) fun t=>∃p,t=Zy p∧RestOk p∧Z3 q p∧p.1.natAbs<2 ^ B∧p.2.natAbs<2 ^ B:=by
 unfold ZkX Zgj
 have he:Zy q=.tup [.int q.1,.int q.2]:=rfl
 have h1B:1<2 ^ B:=Zal (i:=1) (by decide) (by omega)
 obtain⟨p0,p1⟩:=Zbk ns k (show(0:Int)<4 by decide)
 walk_at "z"
 refine Zg (Zbl h0 h9 (by decide)) ?_
 walk_at "z"
 refine⟨fun c=>?_,fun c=>?_⟩
 ·walk_at "z"
  refine⟨(1,0),rfl,.inr ⟨by decide,by decide,by decide⟩,?_,h1B,by show(0:Nat)<_;omega⟩
  unfold Z3
  rw[if_neg (by decide)]
  exact⟨by show q.1 % 1=0;omega,by show(q.2-0) % 1=0;omega⟩
 walk_at "z"
 refine⟨fun c=>?_,fun c=>?_⟩
 ·rw[he]
  walk_at "z"
  refine Zg (ZdR hL h0 h9) ?_
  walk_at "z"
  refine Zg (Zu6 (Zal hs.1 (by omega)) (Zal (Zdu ns k) (by omega))) ?_
  walk_at "z"
  refine Zg Zjn ⟨_,rfl,Zbq (by omega) _,?_,ZdK (by omega) ?_ hs.2⟩
  ·unfold Z3 Zah
   by_cases z:((Int.gcd q.1 (Zba ns k):Nat):Int)=0
   ·rw[if_pos z]
    have:q.1=0:=by
     have:=Int.gcd_eq_zero_iff.mp (show Int.gcd q.1 (Zba ns k)=0 by omega)
     exact this.1
    simp[←this]
   ·rw[if_neg z]
    simp only[z,if_false]
    refine⟨Int.emod_eq_zero_of_dvd (Int.gcd_dvd_left ..),?_⟩
    have hg:(0:Int)≤((Int.gcd q.1 (Zba ns k):Nat):Int):=by omega
    rw[Int.fmod_eq_emod_of_nonneg _ hg,Int.sub_emod,Int.emod_emod,Int.sub_self]
    simp
  ·by_cases z:q.1=0
   ·rw[z,Int.gcd_zero_left];simpa using Zal (Zdu ns k) hB2
   ·have:=Int.gcd_le_natAbs_left (b:=Zba ns k) z
    simp only[Int.natAbs_natCast]
    omega
 ·walk_at "z"
  exact⟨q,rfl,hq,ZdV,hs⟩
theorem Zqr{g:PG}{a:Nat→T}{f:PE}(e:β→T)(P:Nat→β→Prop)(hn:n<10000)(hg:Pl (g σ) fun ts=>ts=tab n a)(hf:∀i,i<n→Pk (f (ZW σ j (a i))) fun t=>∃y,t=e y∧P i y)(d:β)(h:∀y:Nat→β,(∀i,i<n→P i (y i))→Q (.lst (tab n fun i=>e (y i)))): Pk (Zbj g (ZaU j) Za8 f σ) Q:=by
 have hc:∃y:Nat→β,∀i,i<n→Pk (f (ZW σ j (a i))) (fun t=>t=e (y i))∧P i (y i):=by
  have hx:∀i,∃y:β,i<n→Pk (f (ZW σ j (a i))) (fun t=>t=e y)∧P i y:=fun i=>by
   by_cases q:i<n
   ·obtain⟨t,e1,y,e2,p⟩:=hf i q
    exact⟨y,fun _=>⟨⟨t,e1,e2⟩,p⟩⟩
   ·exact⟨d,fun h=>absurd h q⟩
  exact⟨fun i=>Classical.choose (hx i),fun i=>Classical.choose_spec (hx i)⟩
 obtain⟨y,hy⟩:=hc
 exact Zbr hn hg (fun i hi=>(hy i hi).1) (h y fun i hi=>(hy i hi).2)
theorem ZpX(hn:n<10000)(e:Pk (g σ) fun t=>t=ZN n G)(h:Q (ZN n G)): Pk (Zbj (Zdl g) (ZaU j) Za8 (pFl (ZV ZeO (Zq (Zh j) ZD))) σ) Q:=by
 refine Zbr (n:=n) (a:=fun i=>Z9 n (G i)) (b:=fun i=>Z9 n (G i)) hn ?_ (fun i hi=>?_) h
 ·refine ZjW (e.mono ?_)
  rintro _ rfl
  exact Sq.lst rfl
 ·unfold Z9
  walk_at "z"
  rfl
noncomputable def Zay(G:Nat→Nat→Option Int)(i j:Nat)(v:Option Int): Nat→Nat→Option Int:=fun a b=>if a=i∧b=j then v else G a b
theorem Zf1: T.lst (tab n fun a=>T.lst (tab n fun b=>if a=i∧b=j then oT v else oT (G a b)))=ZN n (Zay G i j v):=by
 unfold ZN Z9 Zay
 congr 2
 funext a
 congr 2
 funext b
 split <;> rfl
theorem Zim: Zay G i j v i j=v:=by simp[Zay]
theorem Zdd{a:Nat}(h:¬(a=i∧b=j)): Zay G i j v a b=G a b:=by simp[Zay,h]
theorem Za6: leO a a:=fun y e=>⟨y,e,Int.le_refl y⟩
theorem Zcf{b c:Option Int}(h:leO a b)(k:leO b c): leO a c:=fun y e=>by
 obtain⟨x,e1,l1⟩:=k y e
 obtain⟨w,e2,l2⟩:=h x e1
 exact⟨w,e2,by omega⟩
def Wide(B n:Nat)(G G':Nat→Nat→Option Int): Prop:=(∀i j,i<n+1→j<n+1→leO (G i j) (G' i j))∧(∀i,i<n+1→G' i i=G i i)∧SmG B n G'
theorem ZqV{k:Int}(hL:Lay ns)(h0:0≤k)(h9:k≤1000)(hn:n≤9)(hB:B≤10000)(hB2:134≤B)(hR:∀t,t<n→RestOk (R t))(sR:SmR B n R)(sG:SmG B n G): Pk (Zi7 [scr ns,.int k,Zf n G R]) fun t=>∃G' R',t=Zf n G' R'∧Wide (B+1) n G G'∧∀t,t<n→RestOk (R' t)∧Z3 (R t) (R' t)∧(R' t).1.natAbs<2 ^ B∧(R' t).2.natAbs<2 ^ B:=by
 unfold Zi7 Zg7
 have ht:Zf n G R=.tup [.lst (tab (n+1) fun i=>Z9 (n+1) (G i)),.lst (tab n fun i=>Zy (R i))]:=rfl
 have hq:((n+1:Nat):Int)*((n+1:Nat):Int)≤10*10:=Int.mul_le_mul (by omega) (by omega) (by omega) (by decide)
 have hq0:(0:Int)≤((n+1:Nat):Int)*((n+1:Nat):Int):=Int.mul_nonneg (by omega) (by omega)
 rw[ht]
 walk_at "z"
 refine ZpX (n:=n+1) (G:=G) (by omega) ?_ ?_
 ·walk_at "z"
  rfl
 walk_at "z"
 refine Zb5 (n:=n+1) (a:=fun i=>.int i) (P:=fun i σ=>∃Γ,σ 0=some (scr ns)∧σ 1=some (.int k)∧σ 2=some (Zf n G R)∧σ 3=some (.int (n+1:Nat))∧σ 4=some (ZN (n+1) Γ)∧Wide (B+1) n G Γ∧∀a b,i≤a→Γ a b=G a b) ?_ ⟨G,rfl,rfl,rfl,rfl,rfl,⟨fun _ _ _ _=>Za6,fun _ _=>rfl,fun i j hi hj b h=>Zal (sG i j hi hj b h) (by omega)⟩,fun _ _ _=>rfl⟩ ?_ ?_
 ·walk_at "z"
  rfl
 ·rintro i σ hi ⟨Γ0,e0,e1,e2,e3,e4,w0,s0⟩
  refine Zb5 (n:=n+1) (a:=fun i=>.int i) (P:=fun j σ=>∃Γ,σ 0=some (scr ns)∧σ 1=some (.int k)∧σ 2=some (Zf n G R)∧σ 3=some (.int (n+1:Nat))∧σ 4=some (ZN (n+1) Γ)∧σ 5=some (.int i)∧Wide (B+1) n G Γ∧∀a b,(i<a∨a=i∧j≤b)→Γ a b=G a b) ?_ ⟨Γ0,by walk_at "r",by walk_at "r",by walk_at "r",by walk_at "r",by walk_at "r",by walk_at "r",w0,fun a b h=>s0 a b (by omega)⟩ ?_ ?_
  ·walk_at "z"
   rfl
  ·rintro j σ hj ⟨Γ,e0,e1,e2,e3,e4,e5,w,st⟩
   have hb1:(0:Int)≤i*((n+1:Nat):Int):=Int.mul_nonneg (by omega) (by omega)
   have hb2:(i:Int)*((n+1:Nat):Int)≤10*10:=Int.mul_le_mul (by omega) (by omega) (by omega) (by decide)
   unfold ZN Z9 at e4
   walk_at "z"
   refine ZcW (by omega) (by omega) ?_
   walk_at "z"
   refine Zg (ZjD hL (by omega) (by omega)) ?_
   have upd:∀v,(∀b,v=some b→b.natAbs<2 ^ (B+1))→leO (G i j) v→i≠j→Wide (B+1) n G (Zay Γ i j v):=fun v hv hl hij=>by
    refine⟨fun a b ha hb=>?_,fun a ha=>?_,fun a b ha hb c hc=>?_⟩
    ·by_cases q:a=i∧b=j
     ·obtain⟨rfl,rfl⟩:=q;rw[Zim];exact hl
     ·rw[Zdd q];exact w.1 a b ha hb
    ·rw[Zdd (by omega)];exact w.2.1 a ha
    ·by_cases q:a=i∧b=j
     ·obtain⟨rfl,rfl⟩:=q;rw[Zim]at hc;exact hv c hc
     ·rw[Zdd q]at hc;exact w.2.2 a b ha hb c hc
   have rest:∀v a b,(i<a∨a=i∧j+1≤b)→Zay Γ i j v a b=G a b:=fun v a b h=>by
    rw[Zdd (by omega)];exact st a b (by omega)
   have hst:Γ i j=G i j:=st i j (by omega)
   by_cases hij:i=j
   ·subst hij
    cases ZbV ns (k + ↑i * ↑(n+1) + ↑i)with
    | none=>
     simp only[Zbs]
     walk_at "z"
     exact⟨Γ,by walk_at "r",by walk_at "r",by walk_at "r",by walk_at "r",by walk_at "r",by walk_at "r",w,fun a b h=>st a b (by omega)⟩
    | some c=>
     simp only[ZaF]
     walk_at "z"
     exact⟨Γ,by walk_at "r",by walk_at "r",by walk_at "r",by walk_at "r",by walk_at "r",by walk_at "r",w,fun a b h=>st a b (by omega)⟩
   ·have hij':(i:Int)≠(j:Int):=by omega
    cases hs:ZbV ns (k + ↑i * ↑(n+1) + ↑j)with
    | none=>
     simp only[Zbs]
     walk_at "z"
     rw[←Zbs,Zf1]
     exact⟨Zay Γ i j none,by walk_at "r",by walk_at "r",by walk_at "r",by walk_at "r",by walk_at "r",by walk_at "r",upd none (by simp) ZfG hij,rest none⟩
    | some c=>
     have hc:=ZjC ns _ hs
     have h40:=ZeN
     have e134:(2:Nat) ^ 134=21778071482940061661655974875633165533184:=by decide
     have hpB:(2:Nat) ^ 134≤2 ^ B:=Nat.pow_le_pow_right (by decide) hB2
     have hpB1:(2:Nat) ^ (B+1)=2 ^ B*2:=Nat.pow_succ ..
     simp only[ZaF]
     cases hg:Γ i j with
     | none=>
      walk_at "z"
      rw[hg,Zbs]
      walk_at "z"
      exact⟨Γ,by walk_at "r",by walk_at "r",by walk_at "r",by walk_at "r",by walk_at "r",by walk_at "r",w,fun a b h=>st a b (by omega)⟩
     | some g=>
      walk_at "z"
      rw[hg,ZaF]
      walk_at "z"
      rw[hg,ZaF]
      walk_at "z"
      rw[←ZaF (c:=g+c),Zf1]
      have hg2:G i j=some g:=hst▸hg
      have hgs:=sG i j (by omega) (by omega) g hg2
      exact⟨Zay Γ i j (some (g+c)),by walk_at "r",by walk_at "r",by walk_at "r",by walk_at "r",by walk_at "r",by walk_at "r",upd _ (fun b e=>by cases e;omega) (by rw[hg2];exact leO_some.mpr (by omega)) hij,rest _⟩
  ·rintro σ ⟨Γ,e0,e1,e2,e3,e4,e5,w,st⟩
   exact⟨Γ,e0,e1,e2,e3,e4,w,fun a b h=>st a b (by omega)⟩
 ·rintro σ ⟨Γ,e0,e1,e2,e3,e4,w,_⟩
  have e2':σ 2=some (.tup [.lst (tab (n+1) fun i=>Z9 (n+1) (G i)),.lst (tab n fun i=>Zy (R i))]):=e2
  walk_at "z"
  refine Zqr Zy (fun t p=>RestOk p∧Z3 (R t) p∧p.1.natAbs<2 ^ B∧p.2.natAbs<2 ^ B) (n:=n) (a:=fun i=>.int i) (by omega) ?_ (fun t ht=>?_) (1,0) (fun R' hR'=>?_)
  ·walk_at "z"
   refine Zf7 n (by omega) (by omega) rfl
  ·walk_at "z"
   refine ZcW (by omega) (by omega) ?_
   walk_at "z"
   exact ZtS hL (by omega) (by omega) (hR t ht) hB hB2 (sR t ht)
  walk_at "z"
  exact⟨Γ,R',rfl,w,hR'⟩
theorem Zf2{k:Int}(h0:0≤k)(h1:k<n): ∃i:Nat,k=i∧i<n:=⟨k.toNat,by omega,by omega⟩
theorem Zjp{a b:Int}(ha:a.natAbs<2 ^ 200000)(hb:b.natAbs<2 ^ 200000): Zml [.int a,.int b]=some (.int (Int.gcd a b)):=by
 apply Pk.eq
 unfold Zml ZhO
 walk_at "z"
 obtain⟨m,hm,eu⟩:=ZmJ (Zcp a) (Zcp b) (Zj3 ha) (Zj3 hb)
 refine ZjA (fun m σ=>∃c d:Int,σ 2=some (.int c)∧σ 3=some (.int d)∧Eu m c d∧Int.gcd c d=Int.gcd a b) _ _ ?_ 1000000 (m:=m) ⟨ZaC a,ZaC b,by walk_at "r",by walk_at "r",eu,ZrC⟩ hm
 rintro m σ ⟨c,d,e0,e1,eu,eg⟩
 walk_at "z"
 refine⟨fun h=>?_,fun h=>?_⟩
 ·have hd:d≠0:=by simpa using h
  have hd0:0≤d:=eu.2.1
  walk_at "z"
  rw[Int.fmod_eq_emod_of_nonneg _ hd0]
  obtain⟨m',h1,h2⟩:=eu.step hd
  exact⟨m',h1,d,c % d,by walk_at "r",by walk_at "r",h2,by rw[ZjE (by omega)];exact eg⟩
 ·have hd:d=0:=by simpa using h
  subst hd
  walk_at "z"
  rw[←eg,Int.gcd_zero_right]
  have:=eu.1
  congr 1
  omega
def Bd(k:Nat)(x:Int): Prop:=x.natAbs<2 ^ k
theorem Bd.mono(h:Bd i x)(hij:i≤j): Bd j x:=Zal h hij
theorem Zdc(h:Bd i x)(k:Bd j y)(hi:i≤1000000)(hj:j≤1000000): mulOk x y=true:=ZqI (Nat.le_trans (PyProof.Rows.intBits_le h) (Nat.le_trans hi (by decide))) (Nat.le_trans (PyProof.Rows.intBits_le k) (Nat.le_trans hj (by decide)))
theorem Bd.mul(h:Bd i x)(k:Bd j y): Bd (i+j) (x*y):=by
 unfold Bd at *
 rw[Int.natAbs_mul,Nat.pow_add]
 exact Nat.mul_lt_mul'' h k
theorem Bd.add(h:Bd i x)(k:Bd i y): Bd (i+1) (x+y):=by
 unfold Bd at *
 rw[Nat.pow_succ]
 omega
theorem Bd.sub(h:Bd i x)(k:Bd i y): Bd (i+1) (x-y):=by
 unfold Bd at *
 rw[Nat.pow_succ]
 omega
theorem ZeU(h:Bd i y)(hi:i≤9000): Builtin.divisionGoesByPylong x y=false:=by
 refine PyProof.noPylong_of_log2 ?_
 by_cases h0:y.natAbs=0
 ·rw[h0];decide +kernel
 ·exact Nat.lt_of_lt_of_le ((Nat.log2_lt h0).mpr h) hi
theorem Zec(h:Bd i y)(h0:0≤x)(h1:x≤y): Bd i x:=by unfold Bd at *;omega
theorem ZcB(h:1≤i): Bd i 1:=Zal (i:=1) (by decide) h
theorem Zbb: Bd i 0:=Nat.two_pow_pos i
theorem Zu7{a b:Int}(hb:0<b)(kb:Bd k b)(hk:k≤8000)(ha:0≤a)(hg:Int.gcd a b=1): Pk (Zmm [.int a,.int b]) fun t=>∃x:Int,t=.int x∧0≤x∧x<b∧∃q,a*x=1+b*q:=by
 unfold Zmm ZhP
 walk_at "z"
 rw[Int.fmod_eq_emod_of_nonneg _ (by omega)]
 have r0:=Int.emod_nonneg a (show b≠0 by omega)
 have r1:=Int.emod_lt_of_pos a hb
 have hlt:∀x:Int,0≤x→x≤b→x<2 ^ 200000:=fun x h0 h1=>by
  have h2:b.natAbs<2 ^ 200000:=Zal kb (by omega)
  have h3:((b.natAbs:Nat):Int)<2 ^ 200000:=by exact_mod_cast h2
  omega
 obtain⟨m,hm,eu⟩:=ZmJ r0 (show 0≤b by omega) (hlt _ r0 (by omega)) (hlt b (by omega) (by omega))
 have hg0:Int.gcd (a % b) b=1:=by
  rw[Int.gcd_comm,ZjE hb];exact hg
 refine ZjA (fun m σ=>∃l r s t:Int,σ 1=some (.int b)∧σ 2=some (.int l)∧σ 3=some (.int r)∧σ 4=some (.int s)∧σ 5=some (.int t)∧Eu m l r∧Int.gcd l r=1∧l≤b∧r≤b∧(∃q,s*a=l+b*q)∧(∃q,t*a=r+b*q)∧(s.natAbs:Int)*r+(t.natAbs:Int)*l≤b∧(1≤l∨t=0)) _ _ ?_ 1000000 (m:=m) ⟨a % b,b,1,0,by walk_at "r",by walk_at "r",by walk_at "r",by walk_at "r",by walk_at "r",eu,hg0,by omega,by omega,⟨a / b,?_⟩,⟨-1,by omega⟩,by simp,.inr rfl⟩ hm
 ·rintro m σ ⟨l,r,s,t,e1,e2,e3,e4,e5,eu,gl,lb,rb,⟨q1,h1⟩,⟨q2,h2⟩,hb1,hl⟩
  walk_at "z"
  refine⟨fun h=>?_,fun h=>?_⟩
  ·have hr:r≠0:=by simpa using h
   have hr0:0≤r:=eu.2.1
   have hl0:0≤l:=eu.1
   have hrp:0<r:=by omega
   have kr:Bd k r:=Zec kb hr0 rb
   have kl:Bd k l:=Zec kb hl0 lb
   have hdiv0:0≤l / r:=Int.ediv_nonneg hl0 hr0
   have hdiv1:l / r≤l:=Int.ediv_le_self _ hl0
   have ks:(s.natAbs:Int)≤b:=by
    have:(s.natAbs:Int)*1≤(s.natAbs:Int)*r:=Int.mul_le_mul_of_nonneg_left (by omega) (by omega)
    have:0≤(t.natAbs:Int)*l:=Int.mul_nonneg (by omega) hl0
    omega
   have kt:(t.natAbs:Int)≤b:=by
    rcases hl with hl | hl
    ·have:(t.natAbs:Int)*1≤(t.natAbs:Int)*l:=Int.mul_le_mul_of_nonneg_left (by omega) (by omega)
     have:0≤(s.natAbs:Int)*r:=Int.mul_nonneg (by omega) hr0
     omega
    ·rw[hl];simp;omega
   have kt':Bd k t:=by unfold Bd at *;omega
   have kd:Bd k (l / r):=Zec kl hdiv0 hdiv1
   walk_at "z"
   refine ZcK hr (ZeU kr (by omega)) ?_
   rw[Int.fdiv_eq_ediv_of_nonneg _ hr0]
   walk_at "z"
   refine Zcs (Zdc kd kr (by omega) (by omega)) ?_
   walk_at "z"
   refine Zcs (Zdc kd kt' (by omega) (by omega)) ?_
   walk_at "z"
   have hover:l-l / r*r=l % r:=by
    have:=Int.emod_add_mul_ediv l r
    rw[Int.mul_comm r (l / r)]at this
    omega
   rw[hover]
   obtain⟨m',hm1,hm2⟩:=eu.step hr
   have o0:=Int.emod_nonneg l hr
   have o1:=Int.emod_lt_of_pos l hrp
   refine⟨m',hm1,r,l % r,t,s-l / r*t,by walk_at "r",by walk_at "r",by walk_at "r",by walk_at "r",by walk_at "r",hm2,by rw[ZjE hrp];exact gl,rb,by omega,⟨q2,h2⟩,⟨q1-l / r*q2,?_⟩,?_,.inl (by omega)⟩
   ·rw[Int.sub_mul,h1,Int.mul_assoc,h2,Int.mul_add,Int.mul_sub,←hover]
    have e1:b*(l / r*q2)=l / r*(b*q2):=by rw[←Int.mul_assoc,Int.mul_comm b,Int.mul_assoc]
    rw[e1]
    omega
   ·have ht:((s-l / r*t).natAbs:Int)≤(s.natAbs:Int)+l / r*(t.natAbs:Int):=by
     have h3:(s-l / r*t).natAbs≤s.natAbs+(l / r*t).natAbs:=by omega
     have h4:(l / r*t).natAbs=(l / r).natAbs*t.natAbs:=Int.natAbs_mul ..
     have h5:(((l / r).natAbs*t.natAbs:Nat):Int)=l / r*(t.natAbs:Int):=by
      rw[Int.natCast_mul,Int.natAbs_of_nonneg hdiv0]
     rw[h4]at h3
     omega
    have h6:((s-l / r*t).natAbs:Int)*r≤((s.natAbs:Int)+l / r*(t.natAbs:Int))*r:=Int.mul_le_mul_of_nonneg_right ht hr0
    have h7:((s.natAbs:Int)+l / r*(t.natAbs:Int))*r=(s.natAbs:Int)*r+(t.natAbs:Int)*(l / r*r):=by
     rw[Int.add_mul,Int.mul_comm (l / r) (t.natAbs:Int),Int.mul_assoc]
    have h8:(t.natAbs:Int)*(l % r)+(t.natAbs:Int)*(l / r*r)=(t.natAbs:Int)*l:=by
     rw[←Int.mul_add,←hover]
     congr 1
     omega
    omega
  ·have hr:r=0:=by simpa using h
   subst hr
   rw[Int.gcd_zero_right]at gl
   have hl1:l=1:=by have:=eu.1;omega
   subst hl1
   walk_at "z"
   rw[Int.fmod_eq_emod_of_nonneg _ (by omega)]
   refine⟨s % b,rfl,Int.emod_nonneg _ (by omega),Int.emod_lt_of_pos _ hb,q1-s / b*a,?_⟩
   have h3:=Int.emod_add_mul_ediv s b
   have h4:s % b=s-b*(s / b):=by omega
   rw[h4,Int.mul_sub,Int.mul_comm a s,h1,Int.mul_sub]
   have e1:a*(b*(s / b))=b*(s / b*a):=by rw[Int.mul_comm a,Int.mul_assoc]
   rw[e1]
   omega
 ·have h3:=Int.emod_add_mul_ediv a b
  rw[Int.one_mul]
  omega
theorem Zfi{m:Int}(h:0≤m): Zno [.int m,.int r]=some (Zy (Zah m r)):=by
 apply Pk.eq
 unfold Zno Ziw Zah
 by_cases c:m=0
 ·walk_at "z"
  rw[if_pos c];rfl
 ·walk_at "z"
  rw[if_neg c];rfl
theorem ZbE(h:0≤q.1)(x:Int): Z6 q x↔q.1 ∣ x-q.2:=by
 unfold Z6
 by_cases c:q.1=0
 ·rw[c]
  simp
  omega
 ·have:0<q.1:=by omega
  simp only[c,false_implies,true_and,this,true_implies]
  exact(Int.dvd_iff_emod_eq_zero).symm
theorem ZvT{m:Int}(h:0≤m): 0≤(Zah m r).1:=by unfold Zah;split <;> simp[h]
theorem Zdb{m:Int}(h:0≤m)(x:Int): Z6 (Zah m r) x↔m ∣ x-r:=by
 rw[ZbE (ZvT h)]
 unfold Zah
 split
 ·rename_i c;subst c;rfl
 ·show m ∣ x-r.fmod m↔_
  rw[Int.fmod_eq_emod_of_nonneg _ h]
  have h1:x-r % m=(x-r)+m*(r / m):=by have:=Int.emod_add_mul_ediv r m;omega
  rw[h1]
  constructor
  ·intro q
   have:=Int.dvd_sub q (Int.dvd_mul_right m (r / m))
   rwa [Int.add_sub_cancel]at this
  ·intro q
   exact Int.dvd_add q (Int.dvd_mul_right m (r / m))
theorem RestOk.nn(h:RestOk q): 0≤q.1:=by rcases h with h | h <;> omega
theorem RestOk.self(h:RestOk q): Z6 q q.2:=by rw[ZbE h.nn];simp
theorem ZlN(hp:RestOk p)(hq:RestOk q)(h:∀x,Z6 p x↔Z6 q x): p=q:=by
 have e1:∀x,p.1 ∣ x-p.2↔q.1 ∣ x-q.2:=fun x=>by rw[←ZbE hp.nn,←ZbE hq.nn];exact h x
 have a1:q.1 ∣ p.2-q.2:=(e1 p.2).mp (by simp)
 have a2:q.1 ∣ p.2+p.1-q.2:=(e1 (p.2+p.1)).mp (by rw[show p.2+p.1-p.2=p.1 by omega];exact Int.dvd_refl _)
 have b1:p.1 ∣ q.2-p.2:=(e1 q.2).mpr (by simp)
 have b2:p.1 ∣ q.2+q.1-p.2:=(e1 (q.2+q.1)).mpr (by rw[show q.2+q.1-q.2=q.1 by omega];exact Int.dvd_refl _)
 have c1:q.1 ∣ p.1:=by have:=Int.dvd_sub a2 a1;rwa [show p.2+p.1-q.2-(p.2-q.2)=p.1 by omega]at this
 have c2:p.1 ∣ q.1:=by have:=Int.dvd_sub b2 b1;rwa [show q.2+q.1-p.2-(q.2-p.2)=q.1 by omega]at this
 have em:p.1=q.1:=Int.dvd_antisymm hp.nn hq.nn c2 c1
 have er:p.2=q.2:=by
  rcases hp with hp | hp
  ·rw[hp]at em
   rw[←em]at a1
   have:=Int.zero_dvd.mp a1
   omega
  ·rcases hq with hq | hq
   ·omega
   ·rw[←em]at a1 hq
    obtain⟨k,hk⟩:=a1
    have:k=0:=by
     rcases Int.lt_trichotomy k 0 with h | h | h
     ·have:p.1*k≤p.1*(-1):=Int.mul_le_mul_of_nonneg_left (by omega) (by omega)
      omega
     ·exact h
     ·have:p.1*1≤p.1*k:=Int.mul_le_mul_of_nonneg_left (by omega) (by omega)
      omega
    subst this
    simp at hk
    omega
 exact Prod.ext em er
def RBd(k:Nat)(q:Int×Int): Prop:=Bd k q.1∧Bd k q.2
theorem Zh0{m:Int}(h0:0≤m)(hm:Bd k m)(hr:Bd k r): RBd k (Zah m r):=ZdK h0 hm hr
noncomputable def ZbF(p q:Int×Int): Int×Int:=Zah (Int.gcd p.1 q.1) (p.2+q.2)
theorem ZmK(p q:Int×Int): RestOk (ZbF p q):=Zbq (by omega) _
theorem Zlx(hk:k≤200000)(hp:Bd k p.1)(hq:Bd k q.1): Zi8 [Zy p,Zy q]=some (Zy (ZbF p q)):=by
 apply Pk.eq
 unfold Zi8 Zg8 Zy ZbF
 walk_at "z"
 refine Zg (Zjp (Zal hp hk) (Zal hq hk)) ?_
 walk_at "z"
 exact Zg (Zfi (by omega)) rfl
noncomputable def ZbO(p:Int×Int)(k:Int): Int×Int:=Zah (p.1*ZaC k) (p.2*k)
theorem Zlp{c:Int}(hk:k≤200000)(hp0:0≤p.1)(hp:RBd k p)(hc:Bd k c): Zi1 [Zy p,.int c]=some (Zy (ZbO p c)):=by
 apply Pk.eq
 unfold Zi1 ZgW Zy ZbO
 have ha:Bd k (ZaC c):=by unfold Bd at *;rw[ZjF];exact hc
 walk_at "z"
 refine Zcs (Zdc hp.1 ha (by omega) (by omega)) ?_
 walk_at "z"
 refine Zcs (Zdc hp.2 hc (by omega) (by omega)) ?_
 walk_at "z"
 exact Zg (Zfi (Int.mul_nonneg hp0 (Zcp c))) rfl
noncomputable def ZcM(p:Int×Int)(top:Int): Option Int:=if p.1=0 then(if p.2≤top then some p.2 else none)else some (top-(top-p.2) % p.1)
theorem ZtT(hp:0≤p.1): Zlu [Zy p,.int top]=some (oT (ZcM p top)):=by
 apply Pk.eq
 unfold Zlu ZgX Zy ZcM
 by_cases c:p.1=0
 ·rw[if_pos c]
  by_cases d:p.2≤top
  ·walk_at "z"
   rw[if_pos d];rfl
  ·walk_at "z"
   rw[if_neg d];rfl
 ·rw[if_neg c]
  walk_at "z"
  rw[Int.fmod_eq_emod_of_nonneg _ hp]
  rfl
noncomputable def oR: Option (Int×Int)→T
 | none=>.none
 | some q=>Zy q
def Met(p q:Int×Int)(o:Option (Int×Int)): Prop:=match o with
 | none=>∀x,¬(Z6 p x∧Z6 q x)
 | some r=>RestOk r∧(∀x,Z6 r x↔Z6 p x∧Z6 q x)
theorem ZpY{a b:Option (Int×Int)}(ha:Met p q a)(hb:Met p q b): a=b:=by
 cases a with
 | none=>
  cases b with
  | none=>rfl
  | some r=>exact absurd ((hb.2 r.2).mp hb.1.self) (ha r.2)
 | some s=>
  cases b with
  | none=>exact absurd ((ha.2 s.2).mp ha.1.self) (hb s.2)
  | some r=>rw[ZlN ha.1 hb.1 fun x=>(ha.2 x).trans (hb.2 x).symm]
theorem Zjc(hk:k≤8000)(op:RestOk p)(oq:RestOk q)(bp:RBd k p)(bq:RBd k q): Pk (ZlW [Zy p,Zy q]) fun t=>∃o,t=oR o∧Met p q o∧∀r,o=some r→(r=p∨r=q∨(p.1≠0∧q.1≠0∧r.1=Int.lcm p.1 q.1)):=by
 unfold ZlW Zht
 have ep:Zy p=.tup [.int p.1,.int p.2]:=rfl
 have eq:Zy q=.tup [.int q.1,.int q.2]:=rfl
 have np:=op.nn
 have nq:=oq.nn
 by_cases c1:p.1=0
 ·rw[ep]
  walk_at "z"
  refine Zg (Zfm oq) ?_
  walk_at "z"
  have hone:∀x,Z6 p x↔x=p.2:=fun x=>by rw[ZbE np,c1,Int.zero_dvd];omega
  refine⟨fun e=>?_,fun e=>?_⟩
  ·walk_at "z"
   refine⟨some p,rfl,⟨op,fun x=>⟨fun h=>⟨h,?_⟩,fun h=>h.1⟩⟩,fun r e=>by cases e;exact .inl rfl⟩
   rw[(hone x).mp h];exact dec_iff.mp e
  ·walk_at "z"
   refine⟨none,rfl,fun x h=>?_,by simp⟩
   have:=(hone x).mp h.1
   subst this
   have h2:=Zao h.2
   rw[h2]at e
   cases e
 by_cases c2:q.1=0
 ·have hone:∀x,Z6 q x↔x=q.2:=fun x=>by rw[ZbE nq,c2,Int.zero_dvd];omega
  rw[ep,eq]
  walk_at "z"
  rw[←ep]
  refine Zg (Zfm op) ?_
  walk_at "z"
  refine⟨fun e=>?_,fun e=>?_⟩
  ·walk_at "z"
   refine⟨some q,rfl,⟨oq,fun x=>⟨fun h=>⟨?_,h⟩,fun h=>h.2⟩⟩,fun r e=>by cases e;exact .inr (.inl rfl)⟩
   rw[(hone x).mp h];exact dec_iff.mp e
  ·walk_at "z"
   refine⟨none,rfl,fun x h=>?_,by simp⟩
   have:=(hone x).mp h.2
   subst this
   have h2:=Zao h.1
   rw[h2]at e
   cases e
 ·have pp:0<p.1:=by omega
  have pq:0<q.1:=by omega
  obtain⟨g,hg⟩:∃g:Nat,Int.gcd p.1 q.1=g:=⟨_,rfl⟩
  have hg0:0<(g:Int):=by
   have:Int.gcd p.1 q.1≠0:=fun h=>c1 (Int.gcd_eq_zero_iff.mp h).1
   omega
  have gp:(g:Int) ∣ p.1:=by rw[←hg];exact Int.gcd_dvd_left ..
  have gq:(g:Int) ∣ q.1:=by rw[←hg];exact Int.gcd_dvd_right ..
  obtain⟨a,ea⟩:=gp
  obtain⟨b,eb⟩:=gq
  have ha:0<a:=by
   rcases Int.lt_trichotomy a 0 with h | h | h
   ·have:=Int.mul_neg_of_pos_of_neg hg0 h;omega
   ·subst h;simp at ea;omega
   ·exact h
  have hb:0<b:=by
   rcases Int.lt_trichotomy b 0 with h | h | h
   ·have:=Int.mul_neg_of_pos_of_neg hg0 h;omega
   ·subst h;simp at eb;omega
   ·exact h
  have da:p.1 / g=a:=by rw[ea];exact Int.mul_ediv_cancel_left _ (by omega)
  have db:q.1 / g=b:=by rw[eb];exact Int.mul_ediv_cancel_left _ (by omega)
  have kg:Bd k (g:Int):=Zec bp.1 (by omega) (by
   rw[ea]
   have:(g:Int)*1≤g*a:=Int.mul_le_mul_of_nonneg_left (by omega) (by omega)
   omega)
  have kb:Bd k b:=Zec bq.1 (by omega) (by
   rw[eb]
   have:1*b≤g*b:=Int.mul_le_mul_of_nonneg_right (by omega) (by omega)
   omega)
  have cop:Int.gcd a b=1:=by
   have h1:=Int.gcd_mul_left (g:Int) a b
   rw[←ea,←eb,hg,Int.natAbs_natCast]at h1
   have h2:g*1=g*Int.gcd a b:=by omega
   exact(Nat.eq_of_mul_eq_mul_left (by omega) h2).symm
  rw[ep,eq]
  walk_at "z"
  refine Zg (Zjp (Zal bp.1 (by omega)) (Zal bq.1 (by omega))) ?_
  rw[hg]
  walk_at "z"
  rw[Int.fmod_eq_emod_of_nonneg _ (by omega)]
  by_cases c3:(q.2-p.2) % (g:Int)=0
  ·obtain⟨d,ed⟩:=Int.dvd_of_emod_eq_zero c3
   have dd:(q.2-p.2) / g=d:=by rw[ed];exact Int.mul_ediv_cancel_left _ (by omega)
   have kd:Bd (k+1) d:=by
    have h1:Bd (k+1) (q.2-p.2):=Bd.sub bq.2 bp.2
    unfold Bd at *
    rw[ed,Int.natAbs_mul]at h1
    have:1*d.natAbs≤(g:Int).natAbs*d.natAbs:=Nat.mul_le_mul_right _ (by omega)
    omega
   walk_at "z"
   refine ZcK (by omega) (ZeU kg (by omega)) ?_
   rw[Int.fdiv_eq_ediv_of_nonneg _ (by omega),db]
   walk_at "z"
   refine ZcK (by omega) (ZeU kg (by omega)) ?_
   rw[Int.fdiv_eq_ediv_of_nonneg _ (by omega),dd]
   walk_at "z"
   refine ZcK (by omega) (ZeU kg (by omega)) ?_
   rw[Int.fdiv_eq_ediv_of_nonneg _ (by omega),da]
   walk_at "z"
   refine(Zu7 hb kb hk (by omega) cop).mono ?_
   rintro _ ⟨y,rfl,y0,y1,z,hz⟩
   have ky:Bd k y:=Zec kb y0 (by omega)
   walk_at "z"
   refine Zcs (Zdc kd ky (by omega) (by omega)) ?_
   walk_at "z"
   refine Zcs (Zdc bp.1 kb (by omega) (by omega)) ?_
   walk_at "z"
   refine Zcs (Zdc bp.1 (Bd.mul kd ky) (by omega) (by omega)) ?_
   walk_at "z"
   have hL:(p.1*b).natAbs=Int.lcm p.1 q.1:=by
    have h1:=Int.gcd_mul_lcm p.1 q.1
    rw[hg]at h1
    have h2:p.1.natAbs*q.1.natAbs=g*(p.1*b).natAbs:=by
     rw[Int.natAbs_mul]
     conv=>lhs;rw[show q.1.natAbs=g*b.natAbs by rw[eb,Int.natAbs_mul,Int.natAbs_natCast]]
     rw[←Nat.mul_assoc,Nat.mul_comm p.1.natAbs g,Nat.mul_assoc]
    have h3:g*Int.lcm p.1 q.1=g*(p.1*b).natAbs:=by omega
    exact(Nat.eq_of_mul_eq_mul_left (by omega) h3).symm
   have hpb:0<p.1*b:=Int.mul_pos pp hb
   refine Zg (Zfi (by omega)) ⟨some _,rfl,⟨Zbq (by omega) _,fun x=>?_⟩,fun r e=>?_⟩
   ·rw[Zdb (by omega),ZbE np,ZbE nq]
    have hx0:p.1*(d*y)=(q.2-p.2)+q.1*(d*z):=by
     rw[ed,ea,eb]
     have:(g:Int)*a*(d*y)=g*d*(a*y):=by
      rw[Int.mul_assoc,Int.mul_assoc,Int.mul_left_comm a d y]
     rw[this,hz,Int.mul_add,Int.mul_one]
     congr 1
     rw[Int.mul_assoc,Int.mul_assoc,Int.mul_left_comm d b z]
    constructor
    ·intro h
     have h1:p.1 ∣ x-(p.2+p.1*(d*y)):=Int.dvd_trans (Int.dvd_mul_right _ _) h
     have h2:q.1 ∣ x-(p.2+p.1*(d*y)):=Int.dvd_trans ⟨a,by rw[ea,eb];rw[Int.mul_assoc,Int.mul_assoc,Int.mul_comm a b]⟩ h
     refine⟨?_,?_⟩
     ·have:=Int.dvd_add h1 (Int.dvd_mul_right p.1 (d*y))
      rwa [show x-(p.2+p.1*(d*y))+p.1*(d*y)=x-p.2 by omega]at this
     ·have:=Int.dvd_add h2 (Int.dvd_mul_right q.1 (d*z))
      rwa [show x-(p.2+p.1*(d*y))+q.1*(d*z)=x-q.2 by omega]at this
    ·rintro⟨h1,h2⟩
     have h3:p.1 ∣ x-(p.2+p.1*(d*y)):=by
      have:=Int.dvd_sub h1 (Int.dvd_mul_right p.1 (d*y))
      rwa [show x-p.2-p.1*(d*y)=x-(p.2+p.1*(d*y))by omega]at this
     have h4:q.1 ∣ x-(p.2+p.1*(d*y)):=by
      have:=Int.dvd_sub h2 (Int.dvd_mul_right q.1 (d*z))
      rwa [show x-q.2-q.1*(d*z)=x-(p.2+p.1*(d*y))by omega]at this
     have h5:=Int.lcm_dvd (Int.dvd_natAbs.mpr h3) (Int.dvd_natAbs.mpr h4)
     rw[←hL]at h5
     have h6:(((p.1*b).natAbs:Nat):Int) ∣ (((x-(p.2+p.1*(d*y))).natAbs:Nat):Int):=Int.natCast_dvd_natCast.mpr h5
     exact Int.natAbs_dvd.mp (Int.dvd_natAbs.mp h6)
   ·cases e
    refine .inr (.inr ⟨c1,c2,?_⟩)
    unfold Zah
    rw[if_neg (by omega)]
    show p.1*b=_
    rw[←hL]
    omega
  ·walk_at "z"
   refine⟨none,rfl,fun x h=>c3 ?_,by simp⟩
   rw[ZbE np,ZbE nq]at h
   have h1:(g:Int) ∣ x-p.2:=Int.dvd_trans ⟨a,ea⟩ h.1
   have h2:(g:Int) ∣ x-q.2:=Int.dvd_trans ⟨b,eb⟩ h.2
   have h3:=Int.dvd_sub h1 h2
   rw[show x-p.2-(x-q.2)=q.2-p.2 by omega]at h3
   exact Int.emod_eq_zero_of_dvd h3
noncomputable def ZaP(a b:Option Int): Option Int:=if dec (leO a b)then a else b
noncomputable def addO: Option Int→Option Int→Option Int
 | some a,some b=>some (a+b)
 | _,_=>none
theorem addO_some{b:Option Int}{c:Int}: addO a b=some c↔∃x y,a=some x∧b=some y∧x+y=c:=by
 cases a <;> cases b <;> simp[addO]
theorem leO_total{b:Option Int}(h:¬leO a b): leO b a:=by
 cases a with
 | none=>exact ZfG
 | some x=>
  cases b with
  | none=>exact absurd ZfG h
  | some y=>rw[leO_some]at h ⊢;omega
theorem Zd6{b:Option Int}: leO (ZaP a b) a:=by
 unfold ZaP
 split
 ·exact Za6
 ·rename_i h;exact leO_total fun q=>h (Zao q)
theorem Zns{b:Option Int}: leO (ZaP a b) b:=by
 unfold ZaP
 split
 ·rename_i h;exact dec_iff.mp h
 ·exact Za6
theorem ZfQ(a b:Option Int): ZaP a b=a∨ZaP a b=b:=by
 unfold ZaP;split <;> simp
theorem ZxY{b c:Option Int}(h:leO c a)(k:leO c b): leO c (ZaP a b):=by
 rcases ZfQ a b with e | e <;> rw[e] <;> assumption
theorem Zj4{b:Option Int}(h:leO a b): ZaP a b=a:=by unfold ZaP;rw[Zao h];rfl
theorem Zdr{b c d:Option Int}(h:leO a c)(k:leO b d): leO (addO a b) (addO c d):=by
 intro y e
 obtain⟨p,q,rfl,rfl,rfl⟩:=addO_some.mp e
 obtain⟨p',rfl,l1⟩:=h p rfl
 obtain⟨q',rfl,l2⟩:=k q rfl
 exact⟨p'+q',rfl,by omega⟩
theorem Zsh: addO a (some 0)=a:=by cases a <;> simp[addO]
theorem Zsi: addO (some 0) a=a:=by cases a <;> simp[addO]
theorem Zjq{b c:Option Int}: addO (addO a b) c=addO a (addO b c):=by cases a <;> cases b <;> cases c <;> simp[addO,Int.add_assoc]
theorem Zfn{b:Option Int}: ZlY [oT a,oT b]=some (oT (addO a b)):=by
 apply Pk.eq
 unfold ZlY Zhu
 cases a with
 | none=>
  rw[Zbs]
  walk_at "z"
  rfl
 | some x=>
  cases b with
  | none=>
   rw[Zbs,ZaF]
   walk_at "z"
   rfl
  | some y=>
   rw[ZaF,ZaF]
   walk_at "z"
   rfl
theorem Zqs{b:Option Int}: ZjB [oT a,oT b]=some (oT (ZaP a b)):=by
 apply Pk.eq
 unfold ZjB Zh3 ZaP
 walk_at "z"
 refine Zg Zlw ?_
 walk_at "z"
 refine⟨fun e=>?_,fun e=>?_⟩
 ·walk_at "z"
  rw[e];rfl
 ·walk_at "z"
  rw[e];rfl
noncomputable def Zbw(G:Nat→Nat→Option Int)(m:Nat): Nat→Nat→Option Int:=fun i j=>ZaP (G i j) (addO (G i m) (G m j))
theorem Zs0{a b:Nat→Option Int}{c:Option Int}(hn:n<10000): Zk1 [Z9 n a,oT c,Z9 n b]=some (Z9 n fun j=>ZaP (a j) (addO c (b j))):=by
 apply Pk.eq
 unfold Zk1 Zgp Z9
 walk_at "z"
 refine ZmB (n:=n) (a:=fun j=>oT (a j)) (b:=fun j=>oT (b j)) (c:=fun j=>oT (ZaP (a j) (addO c (b j)))) hn ?_ (fun j hj=>?_) ?_
 ·walk_at "z"
  rfl
 ·walk_at "z"
  refine Zg Zfn ?_
  walk_at "z"
  exact Zg Zqs ⟨ZeH,rfl⟩
 rfl
theorem Zue(hn:n<10000)(hm:m<n): ZlG [ZN n G,.int m]=some (ZN n (Zbw G m)):=by
 apply Pk.eq
 unfold ZlG Zg9 ZN
 walk_at "z"
 refine Zbr (n:=n) (a:=fun i=>Z9 n (G i)) (b:=fun i=>Z9 n (Zbw G m i)) hn ?_ (fun i hi=>?_) ?_
 ·walk_at "z"
  rfl
 ·have h:Z9 n (G i)=.lst (tab n fun j=>oT (G i j)):=rfl
  rw[h]
  walk_at "z"
  rw[←h]
  exact Zg (Zs0 hn) rfl
 rfl
def Neg(n:Nat)(G:Nat→Nat→Option Int): Prop:=∃i,i<n∧∃b,G i i=some b∧b<0
theorem ZwS(hn:n≤1000)(hd:∀i,i<n→∃b,G i i=some b): Zk6 [ZN n G]=some (.bool (dec (Neg n G))):=by
 apply Pk.eq
 unfold Zk6 Zgy ZN Z9
 walk_at "z"
 refine Zbr (n:=n) (a:=fun i=>.int i) (b:=fun i=>.bool (dec (∃b,G i i=some b∧b<0))) (by omega) ?_ (fun i hi=>?_) ?_
 ·walk_at "z"
  rfl
 ·walk_at "z"
  obtain⟨b,e⟩:=hd i hi
  rw[e,ZaF]
  walk_at "z"
  rw[Zfo]
  congr 1
  refine ZdP ⟨fun h=>⟨b,rfl,h⟩,?_⟩
  rintro⟨c,e,h⟩
  cases e
  exact h
 walk_at "z"
 rfl
noncomputable def clG(G:Nat→Nat→Option Int): Nat→Nat→Nat→Option Int
 | 0=>G
 | m+1=>Zbw (clG G m) m
theorem ZqW(h:∃b,G i i=some b): ∃b,Zbw G m i i=some b:=by
 obtain⟨b,e⟩:=h
 have:=Zd6 (a:=G i i) (b:=addO (G i m) (G m i))
 rw[e]at this
 obtain⟨c,e2,_⟩:=this b rfl
 exact⟨c,by unfold Zbw;rw[e];exact e2⟩
theorem Zm6{n:Nat}{G:Nat→Nat→Option Int}(hd:∀i,i<n→∃b,G i i=some b): ∀m i,i<n→∃b,clG G m i i=some b
 | 0=>hd
 | m+1=>fun i hi=>ZqW (Zm6 hd m i hi)
theorem ZvU(h0:0<n)(hn:n≤1000)(hd:∀i,i<n→∃b,G i i=some b): Pk (Zh5 [ZN n G]) fun t=>(t=ZN n (clG G n)∧∀m,m<n→¬Neg n (clG G (m+1)))∨(t=.none∧∃m,m<n∧Neg n (clG G (m+1))):=by
 unfold Zh5 Zh4
 have hg:ZN n G=.lst (tab n fun i=>Z9 n (G i)):=rfl
 walk_at "z"
 refine ZxR (n:=n) (a:=fun i=>.int i) h0 ?_ (P:=fun i σ=>σ 1=some (ZN n (clG G i))∧∀m,m<i→¬Neg n (clG G (m+1))) ⟨rfl,by omega⟩ ?_ ?_
 ·walk_at "z"
  rw[hg]
  walk_at "z"
  rfl
 ·rintro i σ hi ⟨e1,e2⟩
  walk_at "z"
  refine Zg (Zue (by omega) hi) ?_
  walk_at "z"
  refine Zg (ZwS hn fun a ha=>ZqW (Zm6 hd i a ha)) ?_
  walk_at "z"
  refine⟨fun e=>?_,fun e=>?_⟩
  ·walk_at "z"
   exact .inr ⟨rfl,i,hi,dec_iff.mp e⟩
  ·walk_at "z"
   refine⟨by walk_at "r",fun m hm=>?_⟩
   by_cases q:m=i
   ·subst q
    intro h
    have h2:dec (Neg n (Zbw (clG G m) m))=true:=Zao h
    rw[h2]at e
    cases e
   ·exact e2 m (by omega)
 ·rintro σ ⟨e1,e2⟩
  walk_at "z"
  exact .inl ⟨rfl,e2⟩
theorem ZkE{G:Nat→Nat→Option Int}: ∀m i j,leO (clG G m i j) (G i j)
 | 0=>fun _ _=>Za6
 | m+1=>fun i j=>Zcf Zd6 (ZkE m i j)
theorem ZdZ(hd:∀i,i<n→G i i=some 0)(hn:∀k,k<m→¬Neg n (clG G (k+1))): ∀i,i<n→clG G m i i=some 0:=by
 intro i hi
 obtain⟨b,e⟩:=Zm6 (fun i hi=>⟨0,hd i hi⟩) m i hi
 have h:=ZkE m i i (G:=G)
 rw[hd i hi,e]at h
 have h1:=leO_some.mp h
 have h2:¬b<0:=fun q=>by
  cases m with
  | zero=>have:=hd i hi;rw[show clG G 0 i i=G i i from rfl,this]at e;cases e;omega
  | succ m=>exact hn m (by omega) ⟨i,hi,b,e,q⟩
 rw[e,show b=0 by omega]
theorem Znt{n:Nat}{G:Nat→Nat→Option Int}(hd:∀i,i<n→G i i=some 0): ∀m,m≤n→(∀k,k<m→¬Neg n (clG G (k+1)))→∀k,k<m→∀i j,i<n→j<n→leO (clG G m i j) (addO (clG G m i k) (clG G m k j))
 | 0,_,_,k,hk=>by omega
 | m+1,hm,hn,k,hk=>by
  intro i j hi hj
  have z:=ZdZ hd (fun k hk=>hn k (by omega):∀k,k<m→_)
  have ih:=Znt hd m (by omega) (fun k hk=>hn k (by omega))
  generalize hD:clG G m=D at z ih
  have hs:clG G (m+1)=Zbw D m:=by rw[←hD];rfl
  rw[hs]
  have zm:=z m (by omega)
  have cm:∀a,Zbw D m a m=D a m:=fun a=>by unfold Zbw;rw[zm,Zsh];exact Zj4 Za6
  have rm:∀b,Zbw D m m b=D m b:=fun b=>by unfold Zbw;rw[zm,Zsi];exact Zj4 Za6
  by_cases q:k=m
  ·subst q
   rw[cm,rm]
   exact Zns
  ·have hk':k<m:=by omega
   have t1:=ih k hk' i j hi hj
   have t2:=ih k hk' i m hi (by omega)
   have t3:=ih k hk' m j (by omega) hj
   have t4:=ih k hk' m m (by omega) (by omega)
   rw[zm]at t4
   have dn:leO (Zbw D m i j) (addO (D i m) (D m j)):=Zns
   have d0:leO (Zbw D m i j) (D i j):=Zd6
   rcases ZfQ (D i k) (addO (D i m) (D m k))with e1 | e1 <;> rcases ZfQ (D k j) (addO (D k m) (D m j))with e2 | e2
   ·rw[show Zbw D m i k=_ from e1,show Zbw D m k j=_ from e2]
    exact Zcf d0 t1
   ·rw[show Zbw D m i k=_ from e1,show Zbw D m k j=_ from e2,←Zjq]
    exact Zcf dn (Zdr t2 Za6)
   ·rw[show Zbw D m i k=_ from e1,show Zbw D m k j=_ from e2,Zjq]
    exact Zcf dn (Zdr Za6 t3)
   ·rw[show Zbw D m i k=_ from e1,show Zbw D m k j=_ from e2,Zjq,←Zjq (a:=D m k)]
    refine Zcf dn (Zdr Za6 ?_)
    have:=Zdr t4 (Za6 (a:=D m j))
    rwa [Zsi]at this
def ZAc(n:Nat)(G:Nat→Nat→Option Int)(y:Nat→Int): Prop:=∀i j,i<n→j<n→∀b,G i j=some b→y i-y j≤b
theorem Zmt{k:Int}: ZlH [.int k]=some (.bool true):=by
 apply Pk.eq
 unfold ZlH Zha
 walk_at "z"
 rfl
theorem ZxZ(hn:n≤1000)(hd:∀i,i<n→G i i=some 0): ZlZ [ZN n G,.int n]=some (.bool true):=by
 apply Pk.eq
 unfold ZlZ Zhv ZN Z9
 walk_at "z"
 refine Zb5 (n:=n) (a:=fun i=>.int i) (P:=fun i σ=>σ 0=some (ZN n G)∧σ 1=some (.int n)) ?_ ⟨rfl,rfl⟩ ?_ ?_
 ·walk_at "z"
  rfl
 ·rintro i σ hi ⟨e0,e1⟩
  unfold ZN Z9 at e0
  walk_at "z"
  refine Zb5 (n:=n) (a:=fun j=>oT (G i j)) (P:=fun j σ=>σ 0=some (ZN n G)∧σ 1=some (.int n)∧σ 2=some (.int i)) ?_ ⟨by walk_at "r",by walk_at "r",by walk_at "r"⟩ ?_ ?_
  ·walk_at "z"
   rfl
  ·rintro j σ hj ⟨f0,f1,f2⟩
   cases G i j with
   | none=>
    rw[Zbs]
    walk_at "z"
    exact⟨by walk_at "r",by walk_at "r",by walk_at "r"⟩
   | some b=>
    rw[ZaF]
    walk_at "z"
    refine Zg Zmt ?_
    walk_at "z"
    exact⟨by walk_at "r",by walk_at "r",by walk_at "r"⟩
  ·rintro σ ⟨f0,f1,f2⟩
   unfold ZN Z9 at f0
   walk_at "z"
   rw[hd i hi,ZaF]
   walk_at "z"
   exact⟨by walk_at "r",by walk_at "r"⟩
 ·rintro σ ⟨e0,e1⟩
  walk_at "z"
  rfl
noncomputable def Z1(R:Nat→Int×Int): Nat→Int×Int:=cn (0,0) R
theorem ZAd(R:Nat→Int×Int): cn (T.tup [.int 0,.int 0]) (fun i=>Zy (R i))=fun i=>Zy (Z1 R i):=by
 funext i;cases i <;> rfl
theorem Zor(hn:n<9000): ZgI [ZaI n R]=some (ZaI (n+1) (Z1 R)):=by
 apply Pk.eq
 unfold ZgI ZgG ZaI
 walk_at "z"
 rw[ZAd]
def RB(M:Int)(k:Nat)(q:Int×Int): Prop:=RestOk q∧(q.1=0∨q.1 ∣ M)∧Bd k q.2
theorem RB.mono(h:RB M i q)(hij:i≤j): RB M j q:=⟨h.1,h.2.1,h.2.2.mono hij⟩
theorem RB.bd(hM:0<M)(bM:Bd k M)(h:RB M k q): RBd k q:=by
 refine⟨?_,h.2.2⟩
 rcases h.2.1 with e | e
 ·rw[e];exact Zbb
 ·exact Zec bM h.1.nn (Int.le_of_dvd hM e)
theorem ZfH(h:∀t,t<n→RB M k (R t)): ∀i,i<n+1→RB M k (Z1 R i)
 | 0,_=>⟨.inl rfl,.inl rfl,Zbb⟩
 | i+1,hi=>h i (by omega)
def Zdv(n:Nat)(G:Nat→Nat→Option Int)(R:Nat→Int×Int)(i:Nat)(m:Nat)(x:Int): Prop:=Z6 (Z1 R i) x∧∀j,j<m→∀a b,G i j=some a→G j i=some b→a+b=0→Z6 (Z1 R j) (x-a)
def Zkt(n:Nat)(G:Nat→Nat→Option Int)(R:Nat→Int×Int)(M:Int)(k:Nat)(i m:Nat)(o:Option (Int×Int)): Prop:=match o with
 | none=>∀x,¬Zdv n G R i m x
 | some q=>RB M k q∧∀x,Z6 q x↔Zdv n G R i m x
theorem ZuA(h:RestOk q)(a x:Int): Z6 (ZbF q (0,a)) x↔Z6 q (x-a):=by
 unfold ZbF
 rw[Zdb (by omega),ZbE h.nn]
 simp only[Int.gcd_zero_right]
 rw[Int.natAbs_of_nonneg h.nn,show x-(q.2+a)=x-a-q.2 by omega]
theorem Ztd(hn:n≤100)(hi:i<n+1)(hk:k≤7000)(hM:0<M)(bM:Bd k M)(bG:∀a b c,a<n+1→b<n+1→G a b=some c→Bd k c)(hR:∀t,t<n→RB M k (R t)): Pk (Zek [ZN (n+1) G,ZaI (n+1) (Z1 R),.int i]) fun t=>∃o,t=oR o∧Zkt n G R M (k+1) i (n+1) o:=by
 unfold Zek Zgz
 have hF:=ZfH hR
 have bM1:Bd (k+1) M:=bM.mono (by omega)
 have hr:ZaI (n+1) (Z1 R)=.lst (tab (n+1) fun i=>Zy (Z1 R i)):=rfl
 rw[hr]
 walk_at "z"
 refine ZeG (n:=n+1) (a:=fun j=>.int j) (c:=fun j=>Zy (Z1 R j)) (P:=fun m σ=>∃o,σ 0=some (ZN (n+1) G)∧σ 1=some (.lst (tab (n+1) fun i=>Zy (Z1 R i)))∧σ 2=some (.int i)∧σ 3=some (oR o)∧Zkt n G R M (k+1) i m o) ?_ ⟨some (Z1 R i),by walk_at "r",by walk_at "r",by walk_at "r",by walk_at "r",(hF i hi).mono (by omega),fun x=>⟨fun h=>⟨h,by omega⟩,fun h=>h.1⟩⟩ ?_ ?_
 ·walk_at "z"
  rfl
 ·rintro j σ hj ⟨o,e0,e1,e2,e3,ho⟩
  unfold ZN Z9 at e0
  cases o with
  | none=>
   have e3':σ 3=some .none:=e3
   clear e3
   walk_at "z"
   refine⟨none,by walk_at "r",by walk_at "r",by walk_at "r",by walk_at "r",fun x h=>ho x ⟨h.1,fun j' hj'=>h.2 j' (by omega)⟩⟩
  | some q=>
   have e3':σ 3=some (.tup [.int q.1,.int q.2]):=e3
   clear e3
   walk_at "z"
   refine Zg Zfn ?_
   walk_at "z"
   refine ZcL (Zsz (n:=0)) (.int (n:=0)) ?_
   walk_at "z"
   have stay:(∀a b,G i j=some a→G j i=some b→¬a+b=0)→Zkt n G R M (k+1) i (j+1) (some q):=fun h=>⟨ho.1,fun x=>(ho.2 x).trans ⟨fun hx=>⟨hx.1,fun j' hj' a b ha hb hab=>by
     by_cases q':j'=j
     ·subst q';exact absurd hab (h a b ha hb)
     ·exact hx.2 j' (by omega) a b ha hb hab⟩,fun hx=>⟨hx.1,fun j' hj'=>hx.2 j' (by omega)⟩⟩⟩
   refine⟨fun e=>?_,fun e=>?_⟩
   ·have e':=dec_iff.mp e
    rw[←ZaF,Zzd]at e'
    obtain⟨a,b,ha,hb,hab⟩:=addO_some.mp e'
    walk_at "z"
    rw[ha,ZaF]
    have hj2:=hF j hj
    have ba:=bG i j a hi hj ha
    refine Zg (Zlx (p:=Z1 R j) (q:=(0,a)) (k:=k) (by omega) (hj2.bd hM bM).1 Zbb) ?_
    have hpl:RB M (k+1) (ZbF (Z1 R j) (0,a)):=by
     refine⟨ZmK _ _,?_,?_⟩
     ·unfold ZbF Zah
      simp only[Int.gcd_zero_right]
      rw[Int.natAbs_of_nonneg hj2.1.nn]
      split
      ·exact .inl rfl
      ·exact hj2.2.1
     ·have hm:=(hj2.bd hM bM).1
      refine(Zh0 (k:=k+1) (by omega) ?_ (Bd.add hj2.2.2 ba)).2
      simp only[Int.gcd_zero_right]
      rw[Int.natAbs_of_nonneg hj2.1.nn]
      exact hm.mono (by omega)
    walk_at "z"
    refine(Zjc (p:=q) (q:=ZbF (Z1 R j) (0,a)) (k:=k+1) (by omega) ho.1.1 hpl.1 (ho.1.bd hM bM1) (hpl.bd hM bM1)).mono ?_
    rintro _ ⟨o',rfl,mt,wh⟩
    refine⟨o',by walk_at "r",by walk_at "r",by walk_at "r",by walk_at "r",?_⟩
    have hset:∀x,(Z6 q x∧Z6 (ZbF (Z1 R j) (0,a)) x)↔Zdv n G R i (j+1) x:=fun x=>by
     rw[ho.2 x,ZuA hj2.1]
     constructor
     ·rintro⟨h1,h2⟩
      refine⟨h1.1,fun j' hj' c d hc hd hcd=>?_⟩
      by_cases q':j'=j
      ·subst q';rw[ha]at hc;cases hc;exact h2
      ·exact h1.2 j' (by omega) c d hc hd hcd
     ·intro h
      exact⟨⟨h.1,fun j' hj'=>h.2 j' (by omega)⟩,h.2 j (by omega) a b ha hb hab⟩
    cases o' with
    | none=>exact fun x hx=>mt x ((hset x).mpr hx)
    | some r=>
     refine⟨⟨mt.1,?_,?_⟩,fun x=>(mt.2 x).trans (hset x)⟩
     ·rcases wh r rfl with h | h | ⟨h1,h2,h3⟩
      ·rw[h];exact ho.1.2.1
      ·rw[h];exact hpl.2.1
      ·right
       rw[h3]
       exact Int.coe_lcm_dvd (ho.1.2.1.resolve_left h1) (hpl.2.1.resolve_left h2)
     ·rcases wh r rfl with h | h | ⟨h1,h2,h3⟩
      ·rw[h];exact ho.1.2.2
      ·rw[h];exact hpl.2.2
      ·rcases mt.1 with z | z
       ·have:(Int.lcm q.1 (ZbF (Z1 R j) (0,a)).1)≠0:=Int.lcm_ne_zero h1 h2
        omega
       ·have hd:r.1 ∣ M:=by
         rw[h3]
         exact Int.coe_lcm_dvd (ho.1.2.1.resolve_left h1) (hpl.2.1.resolve_left h2)
        exact Zec bM1 z.2.1 (by have:=Int.le_of_dvd hM hd;omega)
   ·walk_at "z"
    refine⟨some q,by walk_at "r",by walk_at "r",by walk_at "r",by walk_at "r",stay fun a b ha hb hab=>?_⟩
    have:dec (oT (addO (G i j) (G j i))=.int 0)=true:=Zao (by rw[ha,hb];simp[addO,oT,hab])
    rw[this]at e
    cases e
 ·rintro σ ⟨o,e0,e1,e2,e3,ho⟩
  walk_at "z"
  exact⟨o,rfl,ho⟩
theorem Zzk: ZbY 1 1 1=some []:=by
 unfold ZbY
 rw[if_pos (by decide +kernel)]
 rfl
theorem ZnM: Pln 1 (oR o):=by
 cases o with
 | none=>exact .none
 | some q=>exact ZfZ
theorem oR_none: oR o=.none↔o=none:=by cases o <;> simp[oR,Zy]
def Hand(n:Nat)(G:Nat→Nat→Option Int)(R R':Nat→Int×Int)(M:Int)(k:Nat): Prop:=∀t,t<n→RB M k (R' t)∧∀x,Z6 (R' t) x↔Zdv n G R (t+1) (n+1) x
theorem Zts(hn:n≤100)(hk:k≤7000)(hM:0<M)(bM:Bd k M)(bG:∀a b c,a<n+1→b<n+1→G a b=some c→Bd k c)(hR:∀t,t<n→RB M k (R t)): Pk (Zdn [Zf n G R]) fun t=>(∃R',t=Zf n G R'∧Hand n G R R' M (k+1))∨(t=.none∧∃i,i<n∧∀x,¬Zdv n G R (i+1) (n+1) x):=by
 unfold Zdn ZgK
 have ht:Zf n G R=.tup [ZN (n+1) G,ZaI n R]:=rfl
 rw[ht]
 walk_at "z"
 refine Zg (Zor (by omega)) ?_
 have hr:ZaI (n+1) (Z1 R)=.lst (tab (n+1) fun i=>Zy (Z1 R i)):=rfl
 walk_at "z"
 refine Zqr oR (fun t o=>Zkt n G R M (k+1) (t+1) (n+1) o) (n:=n) (a:=fun i=>.int (i+1)) (by omega) ?_ (fun t ht=>?_) none (fun y hy=>?_)
 ·by_cases h0:n=0
  ·subst h0
   exact⟨[],Zik (a:=1) (b:=1) rfl Zzk,rfl⟩
  ·rw[hr]
   walk_at "z"
   refine Rn.two 1 n (by decide) (by omega) (by omega) (by omega) ?_
   refine Za5 fun i _=>?_
   congr 1
   omega
 ·walk_at "z"
  refine(Ztd (i:=t+1) hn (by omega) hk hM bM bG hR).mono ?_
  rintro _ ⟨o,rfl,ho⟩
  exact⟨o,rfl,ho⟩
 ·walk_at "z"
  refine ZkD (.none (n:=0)) (ZeQ (n:=1) fun i _=>ZnM) ?_
  by_cases hc:∃i,i<n∧y i=none
  ·obtain⟨i,hi,ei⟩:=hc
   rw[Zao (show T.none∈tab n fun i=>oR (y i)from List.mem_of_getElem? (i:=i) (by rw[ZaS hi,ei];rfl))]
   walk_at "z"
   refine .inr ⟨rfl,i,hi,?_⟩
   have:=hy i hi
   rw[ei]at this
   exact this
  ·rw[Zas (show ¬T.none∈tab n fun i=>oR (y i)from fun h=>by
    obtain⟨i,hi,e⟩:=Zco h
    exact hc ⟨i,hi,oR_none.mp e.symm⟩)]
   walk_at "z"
   have hs:∀i,i<n→y i=some ((y i).getD (1,0)):=fun i hi=>by
    cases e:y i with
    | none=>exact absurd ⟨i,hi,e⟩ hc
    | some q=>rfl
   refine .inl ⟨fun i=>(y i).getD (1,0),?_,fun t ht=>?_⟩
   ·unfold Zf ZaI
    congr 4
    refine Za5 fun i hi=>?_
    conv=>lhs;rw[hs i hi]
    rfl
   ·have:=hy t ht
    rw[hs t ht]at this
    exact this
theorem Zn7: Zdn [.none]=some .none:=by
 apply Pk.eq
 unfold Zdn ZgK
 walk_at "z"
 rfl
noncomputable def Zai(R:Nat→Int×Int)(i j:Nat): Int×Int:=ZbF (Z1 R i) (ZbO (Z1 R j) (-1))
noncomputable def Zbn(b:Option Int)(q:Int×Int): Option Int:=match b with
 | some b=>ZcM q b
 | none=>if q.1=0 then some q.2 else none
noncomputable def Za4(G:Nat→Nat→Option Int)(R:Nat→Int×Int): Nat→Nat→Option Int:=fun i j=>Zbn (G i j) (Zai R i j)
def Zd0(n:Nat)(G:Nat→Nat→Option Int)(R:Nat→Int×Int): Prop:=∃i j,i<n+1∧j<n+1∧∃b,G i j=some b∧Za4 G R i j=none
theorem Zs1{b:Option Int}(hq:0≤q.1): ZiT [oT b,Zy q]=some (oT (Zbn b q)):=by
 apply Pk.eq
 unfold ZiT Zgq Zbn
 cases b with
 | none=>
  have ep:Zy q=.tup [.int q.1,.int q.2]:=rfl
  rw[Zbs,ep]
  by_cases c:q.1=0
  ·walk_at "z"
   simp[c,oT]
  ·walk_at "z"
   simp[c,oT]
 | some b=>
  rw[ZaF]
  walk_at "z"
  exact Zg (ZtT hq) rfl
theorem Ztt{b:Nat→Option Int}(hn:n≤100)(hi:i<n+1)(hk:k≤7000)(hM:0<M)(bM:Bd k M)(hR:∀t,t<n→RB M k (R t)): Pk (Zlg [Z9 (n+1) b,Zy (Z1 R i),ZaI (n+1) (Z1 R)]) fun t=>(t=Z9 (n+1) (fun j=>Zbn (b j) (Zai R i j))∧∀j,j<n+1→∀c,b j=some c→Zbn (b j) (Zai R i j)≠none)∨(t=.none∧∃j,j<n+1∧∃c,b j=some c∧Zbn (b j) (Zai R i j)=none):=by
 unfold Zlg Zlf
 have hF:=ZfH hR
 have hb:Z9 (n+1) b=.lst (tab (n+1) fun j=>oT (b j)):=rfl
 have hr:ZaI (n+1) (Z1 R)=.lst (tab (n+1) fun i=>Zy (Z1 R i)):=rfl
 rw[hb,hr]
 walk_at "z"
 refine ZeG (n:=n+1) (a:=fun j=>oT (b j)) (c:=fun j=>Zy (Z1 R j)) (P:=fun m σ=>σ 1=some (Zy (Z1 R i))∧σ 3=some (.lst (tab m fun j=>oT (Zbn (b j) (Zai R i j))))∧∀j,j<m→∀c,b j=some c→Zbn (b j) (Zai R i j)≠none) ?_ ⟨by walk_at "r",by walk_at "r",by omega⟩ ?_ ?_
 ·walk_at "z"
  rfl
 ·rintro j σ hj ⟨e1,e3,st⟩
  have h1:=hF i hi
  have h2:=hF j hj
  have b1:=h1.bd hM bM
  have b2:=h2.bd hM bM
  have bt:Bd (k+1) (ZbO (Z1 R j) (-1)).1:=by
   refine(Zh0 (k:=k+1) (Int.mul_nonneg h2.1.nn (Zcp _)) ?_ ?_).1
   ·have:=Bd.mul b2.1 (show Bd 1 (ZaC (-1))by unfold Bd;decide);exact this
   ·have:=Bd.mul b2.2 (show Bd 1 (-1)by unfold Bd;decide);exact this
  walk_at "z"
  refine Zg (Zlp (p:=Z1 R j) (c:=-1) (k:=k+1) (by omega) h2.1.nn ⟨b2.1.mono (by omega),b2.2.mono (by omega)⟩ (show Bd (k+1) (-1)from(show Bd 1 (-1)by unfold Bd;decide).mono (by omega))) ?_
  walk_at "z"
  refine Zg (Zlx (k:=k+1) (by omega) (b1.1.mono (by omega)) bt) ?_
  walk_at "z"
  refine Zg (Zs1 (ZmK _ _).nn) ?_
  have hd:ZbF (Z1 R i) (ZbO (Z1 R j) (-1))=Zai R i j:=rfl
  rw[hd]
  walk_at "z"
  have app:∀w,w=oT (Zbn (b j) (Zai R i j))→tab j (fun j=>oT (Zbn (b j) (Zai R i j)))++[w]=tab (j+1) fun j=>oT (Zbn (b j) (Zai R i j)):=fun w e=>by rw[e];exact ZdU
  cases hl:Zbn (b j) (Zai R i j)with
  | none=>
   rw[Zbs]
   walk_at "z"
   cases hbj:b j with
   | none=>
    rw[Zbs]
    walk_at "z"
    rw[app _ (by rw[hl];rfl)]
    refine⟨by walk_at "r",by walk_at "r",fun j' hj' c hc=>?_⟩
    by_cases q:j'=j
    ·subst q;rw[hbj]at hc;cases hc
    ·exact st j' (by omega) c hc
   | some c=>
    rw[ZaF]
    walk_at "z"
    exact .inr ⟨rfl,j,hj,c,hbj,hl⟩
  | some v=>
   rw[ZaF]
   walk_at "z"
   rw[app _ (by rw[hl];rfl)]
   refine⟨by walk_at "r",by walk_at "r",fun j' hj' c hc=>?_⟩
   by_cases q:j'=j
   ·subst q;rw[hl];simp
   ·exact st j' (by omega) c hc
 ·rintro σ ⟨e1,e3,st⟩
  walk_at "z"
  exact .inl ⟨rfl,st⟩
noncomputable def Zgh(n:Nat): Option (Nat→Option Int)→T
 | none=>.none
 | some b=>Z9 n b
theorem Zx0{o:Option (Nat→Option Int)}: Pln 1 (Zgh n o):=by
 cases o with
 | none=>exact .none
 | some q=>exact Zrq
theorem Zu8{g:PG}{a b:Nat→T}{f:PE}(e:β→T)(P:Nat→β→Prop)(hn:n<10000)(hg:Pl (g σ) fun ts=>ts=tab n fun i=>.tup [a i,b i])(hf:∀i,i<n→Pk (f (ZW (ZW σ j (a i)) k (b i))) fun t=>∃y,t=e y∧P i y)(d:β)(h:∀y:Nat→β,(∀i,i<n→P i (y i))→Q (.lst (tab n fun i=>e (y i)))): Pk (Zbj g (Ze3 j k) Za8 f σ) Q:=by
 have hc:∃y:Nat→β,∀i,i<n→Pk (f (ZW (ZW σ j (a i)) k (b i))) (fun t=>t=e (y i))∧P i (y i):=by
  have hx:∀i,∃y:β,i<n→Pk (f (ZW (ZW σ j (a i)) k (b i))) (fun t=>t=e y)∧P i y:=fun i=>by
   by_cases q:i<n
   ·obtain⟨t,e1,y,e2,p⟩:=hf i q
    exact⟨y,fun _=>⟨⟨t,e1,e2⟩,p⟩⟩
   ·exact⟨d,fun h=>absurd h q⟩
  exact⟨fun i=>Classical.choose (hx i),fun i=>Classical.choose_spec (hx i)⟩
 obtain⟨y,hy⟩:=hc
 exact ZmB hn hg (fun i hi=>(hy i hi).1) (h y fun i hi=>(hy i hi).2)
theorem oRow_none{o:Option (Nat→Option Int)}: Zgh n o=.none↔o=none:=by cases o <;> simp[Zgh,Z9]
theorem Zu9(hn:n≤100)(hk:k≤7000)(hM:0<M)(bM:Bd k M)(hR:∀t,t<n→RB M k (R t)): Pk (ZhQ [Zf n G R]) fun t=>(t=Zf n (Za4 G R) R∧¬Zd0 n G R)∨(t=.none∧Zd0 n G R):=by
 unfold ZhQ Zfw
 have ht:Zf n G R=.tup [.lst (tab (n+1) fun i=>Z9 (n+1) (G i)),ZaI n R]:=rfl
 rw[ht]
 walk_at "z"
 refine Zg (Zor (by omega)) ?_
 have hr:ZaI (n+1) (Z1 R)=.lst (tab (n+1) fun i=>Zy (Z1 R i)):=rfl
 walk_at "z"
 refine Zu8 (Zgh (n+1)) (fun i o=>match o with
  | none=>∃j,j<n+1∧∃c,G i j=some c∧Za4 G R i j=none
  | some b=>b=Za4 G R i∧∀j,j<n+1→∀c,G i j=some c→Za4 G R i j≠none) (n:=n+1) (a:=fun i=>Z9 (n+1) (G i)) (b:=fun i=>Zy (Z1 R i)) (by omega) ?_ (fun i hi=>?_) none (fun y hy=>?_)
 ·rw[hr]
  walk_at "z"
  rfl
 ·walk_at "z"
  refine(Ztt hn hi hk hM bM hR).mono ?_
  rintro t (⟨rfl,h⟩ | ⟨rfl,h⟩)
  ·exact⟨some (Za4 G R i),rfl,rfl,h⟩
  ·exact⟨none,rfl,h⟩
 ·walk_at "z"
  refine ZkD (.none (n:=0)) (ZeQ (n:=1) fun i _=>Zx0) ?_
  by_cases hc:∃i,i<n+1∧y i=none
  ·obtain⟨i,hi,ei⟩:=hc
   rw[Zao (show T.none∈tab (n+1) fun i=>Zgh (n+1) (y i)from List.mem_of_getElem? (i:=i) (by rw[ZaS hi,ei];rfl))]
   walk_at "z"
   have:=hy i hi
   rw[ei]at this
   obtain⟨j,hj,c,h1,h2⟩:=this
   exact .inr ⟨rfl,i,j,hi,hj,c,h1,h2⟩
  ·rw[Zas (show ¬T.none∈tab (n+1) fun i=>Zgh (n+1) (y i)from fun h=>by
    obtain⟨i,hi,e⟩:=Zco h
    exact hc ⟨i,hi,oRow_none.mp e.symm⟩)]
   walk_at "z"
   have hs:∀i,i<n+1→y i=some (Za4 G R i)∧∀j,j<n+1→∀c,G i j=some c→Za4 G R i j≠none:=fun i hi=>by
    have:=hy i hi
    cases e:y i with
    | none=>exact absurd ⟨i,hi,e⟩ hc
    | some b=>rw[e]at this;exact⟨by rw[this.1],this.2⟩
   refine .inl ⟨?_,?_⟩
   ·unfold Zf ZN
    congr 3
    refine Za5 fun i hi=>?_
    rw[(hs i hi).1]
    rfl
   ·rintro⟨i,j,hi,hj,c,h1,h2⟩
    exact(hs i hi).2 j hj c h1 h2
theorem ZoS: ZhQ [.none]=some .none:=by
 apply Pk.eq
 unfold ZhQ Zfw
 walk_at "z"
 rfl
theorem ZvV: Zd5 [.none]=some .none:=by
 apply Pk.eq
 unfold Zd5 Zko
 walk_at "z"
 rfl
def Zcc(n:Nat)(G:Nat→Nat→Option Int): Prop:=∃m,m<n∧Neg n (clG G (m+1))
theorem Zx1(hn:n≤100)(hd:∀i,i<n+1→G i i=some 0): Pk (Zd5 [Zf n G R]) fun t=>(t=Zf n (clG G (n+1)) R∧¬Zcc (n+1) G)∨(t=.none∧Zcc (n+1) G):=by
 unfold Zd5 Zko
 have ht:Zf n G R=.tup [ZN (n+1) G,ZaI n R]:=rfl
 rw[ht]
 walk_at "z"
 refine(ZvU (n:=n+1) (by omega) (by omega) fun i hi=>⟨0,hd i hi⟩).mono ?_
 rintro t (⟨rfl,h⟩ | ⟨rfl,h⟩)
 ·have hg:ZN (n+1) (clG G (n+1))=.lst (tab (n+1) fun i=>Z9 (n+1) (clG G (n+1) i)):=rfl
  rw[hg]
  walk_at "z"
  exact .inl ⟨rfl,fun⟨m,hm,q⟩=>h m hm q⟩
 ·walk_at "z"
  exact .inr ⟨rfl,h⟩
def BdG(n k:Nat)(G:Nat→Nat→Option Int): Prop:=∀a b c,a<n→b<n→G a b=some c→Bd k c
theorem ZiI{n k:Nat}{G:Nat→Nat→Option Int}(h:BdG n k G): ∀m,m≤n→BdG n (k+m) (clG G m)
 | 0,_=>h
 | m+1,hm=>fun a b c ha hb e=>by
  have ih:=ZiI h m (by omega)
  rcases ZfQ (clG G m a b) (addO (clG G m a m) (clG G m m b))with e1 | e1
  ·rw[show clG G (m+1) a b=_ from e1]at e
   exact(ih a b c ha hb e).mono (by omega)
  ·rw[show clG G (m+1) a b=_ from e1]at e
   obtain⟨p,q,h1,h2,rfl⟩:=addO_some.mp e
   exact Bd.add (ih a m p ha (by omega) h1) (ih m b q (by omega) hb h2)
theorem ZpZ(h:RestOk q): ZbO q (-1)=Zah q.1 (-q.2):=by
 unfold ZbO
 rw[show ZaC (-1)=1 from rfl,Int.mul_one,Int.mul_neg,Int.mul_one]
theorem Zmc{m:Int}: (Zah m r).1=m:=by
 unfold Zah;split
 ·rename_i c;exact c.symm
 ·rfl
theorem Zh8(hi:RestOk (Z1 R i))(hj:RestOk (Z1 R j))(x:Int): Z6 (Zai R i j) x↔((Int.gcd (Z1 R i).1 (Z1 R j).1:Nat):Int) ∣ x-((Z1 R i).2-(Z1 R j).2):=by
 unfold Zai ZbF
 rw[Zdb (by omega),ZpZ hj,Zmc]
 have hr:=Zdb hj.nn (r:=-(Z1 R j).2) (Zah (Z1 R j).1 (-(Z1 R j).2)).2
 have hs:=(hr.mp (Zbq hj.nn _).self)
 generalize (Zah (Z1 R j).1 (-(Z1 R j).2)).2=s at *
 have hg:((Int.gcd (Z1 R i).1 (Z1 R j).1:Nat):Int) ∣ s - -(Z1 R j).2:=Int.dvd_trans (Int.gcd_dvd_right ..) hs
 constructor
 ·intro h
  have:=Int.dvd_add h hg
  rwa [show x-((Z1 R i).2+s)+(s - -(Z1 R j).2)=x-((Z1 R i).2-(Z1 R j).2)by omega]at this
 ·intro h
  have:=Int.dvd_sub h hg
  rwa [show x-((Z1 R i).2-(Z1 R j).2)-(s - -(Z1 R j).2)=x-((Z1 R i).2+s)by omega]at this
theorem Zh1{b c:Int}(h0:RestOk q)(h:ZcM q b=some c): c≤b∧Z6 q c∧(q.1=0∨b-c<q.1):=by
 unfold ZcM at h
 split at h
 ·rename_i z
  split at h
  ·cases h
   exact⟨by assumption,h0.self,.inl z⟩
  ·cases h
 ·rename_i z
  cases h
  have hp:0<q.1:=by have:=h0.nn;omega
  have h1:=Int.emod_nonneg (b-q.2) z
  have h2:=Int.emod_lt_of_pos (b-q.2) hp
  refine⟨by omega,?_,.inr (by omega)⟩
  rw[ZbE h0.nn]
  have h3:=Int.emod_add_mul_ediv (b-q.2) q.1
  exact⟨(b-q.2) / q.1,by omega⟩
theorem Zmd{b:Int}(h0:RestOk q)(hx:Z6 q x)(hb:x≤b): ∃c,ZcM q b=some c∧x≤c:=by
 unfold ZcM
 rw[ZbE h0.nn]at hx
 split
 ·rename_i z
  rw[z,Int.zero_dvd]at hx
  rw[if_pos (by omega)]
  exact⟨_,rfl,by omega⟩
 ·rename_i z
  have hp:0<q.1:=by have:=h0.nn;omega
  refine⟨_,rfl,?_⟩
  obtain⟨t,ht⟩:=hx
  have h3:=Int.emod_add_mul_ediv (b-q.2) q.1
  have h2:=Int.emod_lt_of_pos (b-q.2) hp
  have h4:t≤(b-q.2) / q.1:=Int.le_ediv_of_mul_le hp (by rw[Int.mul_comm];omega)
  have h5:q.1*t≤q.1*((b-q.2) / q.1):=Int.mul_le_mul_of_nonneg_left h4 (by omega)
  omega
theorem Zdw(R:Nat→Int×Int)(i j:Nat): RestOk (Zai R i j):=ZmK _ _
theorem Zx2(h:∀b,G i j=some b→Za4 G R i j≠none): leO (Za4 G R i j) (G i j):=by
 intro b e
 have hn:=h b e
 unfold Za4 at hn ⊢
 rw[e]at hn ⊢
 cases hc:Zbn (some b) (Zai R i j)with
 | none=>exact absurd hc hn
 | some c=>exact⟨c,rfl,(Zh1 (Zdw R i j) hc).1⟩
theorem Zsj(hM:0<M)(bM:Bd k M)(hG:BdG (n+1) k G)(hR:∀t,t<n→RB M k (R t)): BdG (n+1) (k+1) (Za4 G R):=by
 intro i j c hi hj e
 have h1:=ZfH hR i hi
 have h2:=ZfH hR j hj
 have hd1:(Zai R i j).1=((Int.gcd (Z1 R i).1 (Z1 R j).1:Nat):Int):=by
  unfold Zai ZbF
  rw[Zmc,ZpZ h2.1,Zmc]
 have hb1:=(h1.bd hM bM).1
 have hb2:=(h2.bd hM bM).1
 have hm:Bd k (Zai R i j).1:=by
  rw[hd1]
  by_cases z:(Z1 R i).1=0
  ·rw[z,Int.gcd_zero_left]
   unfold Bd at *
   simpa using hb2
  ·have:=Int.gcd_le_natAbs_left (b:=(Z1 R j).1) z
   unfold Bd at *
   simp only[Int.natAbs_natCast]
   omega
 unfold Za4 Zbn at e
 cases hg:G i j with
 | some b=>
  rw[hg]at e
  obtain⟨u1,u2,u3⟩:=Zh1 (Zdw R i j) e
  have hbb:=hG i j b hi hj hg
  rcases u3 with z | z
  ·have hx:=(Zh8 h1.1 h2.1 c).mp u2
   rw[hd1]at z
   rw[z,Int.zero_dvd]at hx
   have:c=(Z1 R i).2-(Z1 R j).2:=by omega
   rw[this]
   exact Bd.sub h1.2.2 h2.2.2
  ·unfold Bd at *
   rw[Nat.pow_succ]
   omega
 | none=>
  rw[hg]at e
  simp only at e
  split at e
  ·rename_i z
   cases e
   have hx:=(Zh8 h1.1 h2.1 (Zai R i j).2).mp (Zdw R i j).self
   rw[hd1]at z
   rw[z,Int.zero_dvd]at hx
   have:(Zai R i j).2=(Z1 R i).2-(Z1 R j).2:=by omega
   rw[this]
   exact Bd.sub h1.2.2 h2.2.2
  ·cases e
def Zh9(n:Nat)(C:Nat→Nat→Option Int)(R:Nat→Int×Int): Prop:=∃i,i<n∧∀x,¬Zdv n C R (i+1) (n+1) x
theorem ZrD(h:Pk (ZI 1 Zkq ts) fun t=>Zil t=true∧Q t): Pk (Zix ts) Q:=by
 obtain⟨t,e,o,q⟩:=h
 exact⟨t,by simp only[Zix,e,Option.bind_some,o,if_true],q⟩
theorem Zx3: Zil (Zf n G R)=true:=Zqc fun _ _=>ZeA
theorem ZrE(hn:n≤100)(hk:k+n+1≤7000)(hM:0<M)(bM:Bd k M)(hd:∀i,i<n+1→G i i=some 0)(bG:BdG (n+1) k G)(hR:∀t,t<n→RB M k (R t)): Pk (Zix [Zf n G R]) fun t=>(∃R',t=Zf n (clG G (n+1)) R'∧¬Zcc (n+1) G∧Hand n (clG G (n+1)) R R' M (k+n+2))∨(t=.none∧(Zcc (n+1) G∨(¬Zcc (n+1) G∧Zh9 n (clG G (n+1)) R))):=by
 refine ZrD ?_
 unfold Zkq
 walk_at "z"
 refine(Zx1 hn hd).mono ?_
 rintro t (⟨rfl,h⟩ | ⟨rfl,h⟩)
 ·walk_at "z"
  refine(Zts (k:=k+n+1) hn hk hM (bM.mono (by omega)) (ZiI bG (n+1) (by omega)) (fun t ht=>(hR t ht).mono (by omega))).mono ?_
  rintro t (⟨R',rfl,h2⟩ | ⟨rfl,h2⟩)
  ·exact⟨Zx3,.inl ⟨R',rfl,h,h2⟩⟩
  ·exact⟨rfl,.inr ⟨rfl,.inr ⟨h,h2⟩⟩⟩
 ·walk_at "z"
  exact Zg Zn7 ⟨rfl,.inr ⟨rfl,.inl h⟩⟩
theorem Zjx: Zix [.none]=some .none:=by
 apply Pk.eq
 refine ZrD ?_
 unfold Zkq
 walk_at "z"
 refine Zg ZvV ?_
 walk_at "z"
 exact Zg Zn7 ⟨rfl,rfl⟩
theorem Zia(hR:∀i,i<n+1→RestOk (Z1 R i))(hd:∀i,i<n+1→G i i=some 0): ∀i,i<n+1→Za4 G R i i=some 0:=by
 intro i hi
 unfold Za4 Zbn
 rw[hd i hi]
 have h0:Z6 (Zai R i i) 0:=(Zh8 (hR i hi) (hR i hi) 0).mpr (by simp)
 obtain⟨c,e,hc⟩:=Zmd (Zdw R i i) h0 (Int.le_refl 0)
 have:=(Zh1 (Zdw R i i) e).1
 show ZcM (Zai R i i) 0=some 0
 rw[e,show c=0 by omega]
structure Sharp(n:Nat)(G:Nat→Nat→Option Int)(R:Nat→Int×Int)(G2:Nat→Nat→Option Int)(R2:Nat→Int×Int)(M:Int)(k:Nat): Prop where
 go:∃R1,¬Zcc (n+1) G∧Hand n (clG G (n+1)) R R1 M k∧¬Zd0 n (clG G (n+1)) R1∧¬Zcc (n+1) (Za4 (clG G (n+1)) R1)∧G2=clG (Za4 (clG G (n+1)) R1) (n+1)∧Hand n G2 R1 R2 M k
def Zmu(n:Nat)(G:Nat→Nat→Option Int)(R:Nat→Int×Int)(M:Int)(k:Nat): Prop:=Zcc (n+1) G∨(¬Zcc (n+1) G∧Zh9 n (clG G (n+1)) R)∨∃R1,¬Zcc (n+1) G∧Hand n (clG G (n+1)) R R1 M k∧(Zd0 n (clG G (n+1)) R1∨(¬Zd0 n (clG G (n+1)) R1∧(Zcc (n+1) (Za4 (clG G (n+1)) R1)∨(¬Zcc (n+1) (Za4 (clG G (n+1)) R1)∧Zh9 n (clG (Za4 (clG G (n+1)) R1) (n+1)) R1))))
theorem Hand.mono(h:Hand n G R R' M i)(hij:i≤j): Hand n G R R' M j:=fun t ht=>⟨(h t ht).1.mono hij,(h t ht).2⟩
theorem ZqX(hn:n≤100)(hk:k+2*n+4≤7000)(hM:0<M)(bM:Bd k M)(hd:∀i,i<n+1→G i i=some 0)(bG:BdG (n+1) k G)(hR:∀t,t<n→RB M k (R t)): Pk (ZaG [Zf n G R]) fun t=>(∃G2 R2,t=Zf n G2 R2∧Sharp n G R G2 R2 M (k+2*n+5))∨(t=.none∧Zmu n G R M (k+n+2)):=by
 unfold ZaG ZfN
 walk_at "z"
 refine(ZrE hn (by omega) hM bM hd bG hR).mono ?_
 rintro t (⟨R1,rfl,nr,h1⟩ | ⟨rfl,h⟩)
 ·have hR1:∀t,t<n→RB M (k+n+2) (R1 t):=fun t ht=>(h1 t ht).1
  have hF1:=ZfH hR1
  have z1:=ZdZ hd (m:=n+1) fun m hm q=>nr ⟨m,hm,q⟩
  walk_at "z"
  refine(Zu9 hn (by omega) hM (bM.mono (by omega)) hR1).mono ?_
  rintro t (⟨rfl,nl⟩ | ⟨rfl,fl⟩)
  ·walk_at "z"
   have bG1:BdG (n+1) (k+n+3) (Za4 (clG G (n+1)) R1):=Zsj hM (bM.mono (by omega)) (fun a b c ha hb e=>(ZiI bG (n+1) (by omega) a b c ha hb e).mono (by omega)) hR1
   refine(ZrE (k:=k+n+3) hn (by omega) hM (bM.mono (by omega)) (Zia (fun i hi=>(hF1 i hi).1) z1) bG1 (fun t ht=>(hR1 t ht).mono (by omega))).mono ?_
   rintro t (⟨R2,rfl,nr2,h2⟩ | ⟨rfl,h2⟩)
   ·exact .inl ⟨_,R2,rfl,⟨R1,nr,h1.mono (by omega),nl,nr2,rfl,h2.mono (by omega)⟩⟩
   ·exact .inr ⟨rfl,.inr (.inr ⟨R1,nr,h1,.inr ⟨nl,h2⟩⟩)⟩
  ·walk_at "z"
   exact Zg Zjx (.inr ⟨rfl,.inr (.inr ⟨R1,nr,h1,.inl fl⟩)⟩)
 ·walk_at "z"
  refine Zg ZoS ?_
  walk_at "z"
  refine Zg Zjx (.inr ⟨rfl,?_⟩)
  rcases h with h | h
  ·exact .inl h
  ·exact .inr (.inl h)
theorem Zva: ZaG [.none]=some .none:=by
 apply Pk.eq
 unfold ZaG ZfN
 walk_at "z"
 refine Zg Zjx ?_
 walk_at "z"
 refine Zg ZoS ?_
 walk_at "z"
 exact Zg Zjx rfl
theorem Zvb(hn:n≤100)(hd:∀i,i<n+1→G i i=some 0)(ok:∀t,t<n→RestOk (R t)): ZlJ [Zf n G R,.int n]=some (.bool true):=by
 apply Pk.eq
 unfold ZlJ Zhb Zf ZaI
 walk_at "z"
 rw[show(n:Int)+1=((n+1:Nat):Int)by omega]
 refine Zg (ZxZ (by omega) hd) ?_
 walk_at "z"
 refine Zb5 (n:=n) (a:=fun i=>Zy (R i)) (P:=fun _ _=>True) ?_ trivial ?_ ?_
 ·walk_at "z"
  rfl
 ·rintro t σ ht _
  have ho:=ok t ht
  unfold Zy
  walk_at "z"
  refine Zg Zmt ?_
  walk_at "z"
  refine Zg Zmt ?_
  walk_at "z"
  have h0:=ho.nn
  walk_at "z"
  rcases ho with h | h
  ·walk_at "z"
   trivial
  ·walk_at "z"
   trivial
 ·rintro σ _
  walk_at "z"
  rfl
theorem Zvc(hd:∀i,i<n+1→G i i=some 0)(s:Sharp n G R G2 R2 M k): (∀i,i<n+1→G2 i i=some 0)∧∀k,k<n+1→∀i j,i<n+1→j<n+1→leO (G2 i j) (addO (G2 i k) (G2 k j)):=by
 obtain⟨R1,h1,h2,h3,h4,rfl,h6⟩:=s.go
 have hF:=ZfH fun t ht=>(h2 t ht).1
 have z1:=ZdZ hd (m:=n+1) fun m hm q=>h1 ⟨m,hm,q⟩
 have z2:=Zia (fun i hi=>(hF i hi).1) z1
 exact⟨ZdZ z2 fun m hm q=>h4 ⟨m,hm,q⟩,Znt z2 (n+1) (by omega) fun m hm q=>h4 ⟨m,hm,q⟩⟩
noncomputable def ZbW(R:Nat→Int×Int): Nat→Int
 | 0=>1
 | t+1=>ZbW R t*(if(R t).1=0 then 1 else(R t).1)
theorem Zfz{n:Nat}{R:Nat→Int×Int}(h:∀t,t<n→RestOk (R t)): ∀m,m≤n→0<ZbW R m
 | 0,_=>by show(0:Int)<1;decide
 | m+1,hm=>by
  have ih:=Zfz h m (by omega)
  have:=(h m (by omega)).nn
  unfold ZbW
  refine Int.mul_pos ih ?_
  split
  ·decide
  ·omega
theorem ZfA{R:Nat→Int×Int}: ∀m t,t<m→(R t).1=0∨(R t).1 ∣ ZbW R m
 | m+1,t,ht=>by
  by_cases z:(R t).1=0
  ·exact .inl z
  ·right
   unfold ZbW
   by_cases q:t=m
   ·subst q
    rw[if_neg z]
    exact Int.dvd_mul_left _ _
   ·exact Int.dvd_trans ((ZfA m t (by omega)).resolve_left z) (Int.dvd_mul_right _ _)
theorem ZfI{n k:Nat}{R:Nat→Int×Int}(hk:1≤k)(h:∀t,t<n→Bd k (R t).1): ∀m,m≤n→Bd (k*m+1) (ZbW R m)
 | 0,_=>by rw[Nat.mul_zero];exact ZcB (by omega)
 | m+1,hm=>by
  have ih:=ZfI hk h m (by omega)
  unfold ZbW
  have h2:Bd k (if(R m).1=0 then 1 else(R m).1):=by
   split
   ·exact ZcB hk
   ·exact h m (by omega)
  have:=Bd.mul ih h2
  rw[Nat.mul_succ]
  exact this.mono (by omega)
theorem Zd7(hp:RestOk p)(hq:RestOk q)(h:∀x,Z6 p x→Z6 q x): Z3 p q:=by
 have e:∀x,p.1 ∣ x-p.2→q.1 ∣ x-q.2:=fun x hx=>(ZbE hq.nn x).mp (h x ((ZbE hp.nn x).mpr hx))
 have a1:q.1 ∣ p.2-q.2:=e p.2 (by simp)
 have a2:q.1 ∣ p.2+p.1-q.2:=e (p.2+p.1) (by rw[show p.2+p.1-p.2=p.1 by omega];exact Int.dvd_refl _)
 have c1:q.1 ∣ p.1:=by have:=Int.dvd_sub a2 a1;rwa [show p.2+p.1-q.2-(p.2-q.2)=p.1 by omega]at this
 unfold Z3
 split
 ·rename_i z
  rw[z,Int.zero_dvd]at a1 c1
  exact Prod.ext (by rw[c1,z]) (by omega)
 ·exact⟨Int.emod_eq_zero_of_dvd c1,Int.emod_eq_zero_of_dvd a1⟩
theorem Zuf(hR:∀t,t<n→RestOk (R t))(s:Sharp n G R G2 R2 M k): Inside n G2 R2 G R:=by
 obtain⟨R1,h1,h2,h3,h4,rfl,h6⟩:=s.go
 refine⟨fun i hi j hj=>?_,fun t ht=>?_⟩
 ·refine Zcf (ZkE (n+1) i j) (Zcf (Zx2 fun b e q=>h3 ⟨i,j,hi,hj,b,e,q⟩) (ZkE (n+1) i j))
 ·refine Zd7 (h6 t ht).1.1 (hR t ht) fun x hx=>?_
  have a:=((h6 t ht).2 x).mp hx
  have b:=((h2 t ht).2 x).mp a.1
  exact b.1
theorem Zku{a b:Int}(ha:Bd k a)(hb:Bd k b): Bd k ((Int.gcd a b:Nat):Int):=by
 unfold Bd at *
 rw[Int.natAbs_natCast]
 by_cases z:a=0
 ·rw[z,Int.gcd_zero_left];exact hb
 ·exact Nat.lt_of_le_of_lt (Nat.gcd_le_left _ (by omega)) ha
section
variable {Q:T→Prop}
theorem Zjy{p:PE}(h:Pk (p σ) fun t=>∃ts,t=.lst ts∧Q (.lst (ts.drop k))): Pk (ZkC p k σ) Q:=by
 obtain⟨_,e,ts,rfl,q⟩:=h
 exact⟨_,by simp only[ZkC,e,Option.bind_some],q⟩
end
noncomputable abbrev Sp:=Option Int×Option Int
noncomputable def spT(s:Sp): T:=.tup [oT s.1,oT s.2]
def SBd(k:Nat)(s:Sp): Prop:=(∀x,s.1=some x→Bd k x)∧∀x,s.2=some x→Bd k x
theorem ZrF(h:Bd k x): Bd k (ZaC x):=by unfold ZaC;unfold Bd at *;split <;> omega
theorem Zfj{k:Int}(hi:i≤100000)(ha:∀x,a=some x→Bd i x)(hk:Bd i k): Zi9 [oT a,.int k]=some (oT (a.map fun x=>x*k)):=by
 apply Pk.eq
 unfold Zi9 Zhc
 cases a with
 | none=>
  simp only[Zbs,Option.map_none]
  walk_at "z"
  rfl
 | some x=>
  simp only[ZaF,Option.map_some]
  walk_at "z"
  refine Zcs (Zdc (ha x rfl) hk (by omega) (by omega)) ?_
  rfl
noncomputable def Zbd(s:Sp)(k:Int): Sp:=if k=0 then(some 0,some 0)else if k<0 then(s.2.map fun x=>x*k,s.1.map fun x=>x*k)else(s.1.map fun x=>x*k,s.2.map fun x=>x*k)
theorem Zs2{s:Sp}{k:Int}(hi:i≤100000)(hs:SBd i s)(hk:Bd i k): Zk3 [spT s,.int k]=some (spT (Zbd s k)):=by
 apply Pk.eq
 unfold Zk3 Zgr Zbd spT
 by_cases c:k=0
 ·walk_at "z"
  rw[if_pos c]
  rfl
 ·rw[if_neg c]
  walk_at "z"
  refine Zg (Zfj hi hs.1 hk) ?_
  walk_at "z"
  refine Zg (Zfj hi hs.2 hk) ?_
  by_cases d:k<0
  ·walk_at "z"
   rw[if_pos d]
  ·walk_at "z"
   rw[if_neg d]
noncomputable def ZiJ(s u:Sp): Sp:=(addO s.1 u.1,addO s.2 u.2)
theorem Zte{s u:Sp}: Zk7 [spT s,spT u]=some (spT (ZiJ s u)):=by
 apply Pk.eq
 unfold Zk7 ZgB spT
 walk_at "z"
 refine Zg Zfn ?_
 walk_at "z"
 refine Zg Zfn ?_
 walk_at "z"
 rfl
noncomputable def ZaX(c:Nat→Int)(S:Nat→Sp): Nat→Sp
 | 0=>(some (c 0),some (c 0))
 | j+1=>ZiJ (ZaX c S j) (Zbd (S j) (c (j+1)))
theorem ZmL{f:Nat→T}: (tab (n+1) f).drop 1=tab n fun i=>f (i+1):=by
 apply List.ext_getElem
 ·simp[tab]
 ·intro i h1 h2
  simp[tab]
theorem Ztu{S:Nat→Sp}(hn:n≤100)(hi:i≤100000)(bc:∀j,j<n+1→Bd i (c j))(bS:∀j,j<n→SBd i (S j)): Zlh [.lst (tab (n+1) fun j=>.int (c j)),.lst (tab n fun j=>spT (S j))]=some (spT (ZaX c S n)):=by
 apply Pk.eq
 unfold Zlh ZgL
 walk_at "z"
 refine ZeG (n:=n) (a:=fun j=>.int (c (j+1))) (c:=fun j=>spT (S j)) (P:=fun j σ=>σ 2=some (spT (ZaX c S j))) ?_ rfl ?_ ?_
 ·refine Znj ?_
  refine Zjy ?_
  walk_at "z"
  refine⟨_,rfl,?_⟩
  rw[ZmL]
  walk_at "z"
  rfl
 ·rintro j σ hj e2
  walk_at "z"
  refine Zg (Zs2 hi (bS j hj) (bc (j+1) (by omega))) ?_
  walk_at "z"
  refine Zg Zte ?_
  walk_at "z"
  exact ZbG
 ·rintro σ e2
  walk_at "z"
  rfl
noncomputable def Zae(c:Nat→Int)(R:Nat→Int×Int): Nat→Int×Int
 | 0=>(0,c 0)
 | j+1=>ZbF (Zae c R j) (ZbO (R j) (c (j+1)))
noncomputable def Zcm(c:Nat→Int)(R:Nat→Int×Int): Nat→Int
 | 0=>0
 | j+1=>Int.gcd (Zcm c R j) (c (j+1)*(R j).1)
noncomputable def Zc8(c:Nat→Int)(R:Nat→Int×Int): Nat→Int
 | 0=>c 0
 | j+1=>Zc8 c R j+c (j+1)*(R j).2
theorem Zd1(c:Nat→Int)(R:Nat→Int×Int): ∀j,0≤Zcm c R j
 | 0=>by show(0:Int)≤0;decide
 | j+1=>by show(0:Int)≤((Int.gcd _ _:Nat):Int);omega
theorem Zj5{c:Nat→Int}{R:Nat→Int×Int}{n i:Nat}(bc:∀j,j<n+1→Bd i (c j))(bR:∀j,j<n→RBd i (R j)): ∀j,j≤n→Bd (i+i) (Zcm c R j)
 | 0,_=>Zbb
 | j+1,h=>Zku (Zj5 bc bR j (by omega)) ((bc (j+1) (by omega)).mul (bR j (by omega)).1)
theorem Zm7{c:Nat→Int}{R:Nat→Int×Int}{n i:Nat}(bc:∀j,j<n+1→Bd i (c j))(bR:∀j,j<n→RBd i (R j)): ∀j,j≤n→Bd (i+i+j) (Zc8 c R j)
 | 0,_=>(bc 0 (by omega)).mono (by omega)
 | j+1,h=>(Zm7 bc bR j (by omega)).add (((bc (j+1) (by omega)).mul (bR j (by omega)).2).mono (by omega))
theorem ZoT{m a b:Int}(h:0≤m)(hd:m ∣ a-b): Zah m a=Zah m b:=by
 refine ZlN (Zbq h _) (Zbq h _) fun x=>?_
 rw[Zdb h,Zdb h]
 constructor
 ·intro q
  have:=Int.dvd_add q hd
  rwa [show x-a+(a-b)=x-b by omega]at this
 ·intro q
  have:=Int.dvd_sub q hd
  rwa [show x-b-(a-b)=x-a by omega]at this
theorem Zme{m:Int}(h:0≤m): m ∣ (Zah m r).2-r:=by
 have:=(Zdb (r:=r) h (Zah m r).2).mp (Zbq h r).self
 exact this
theorem ZcT{m:Int}: (Zah m r).1=m:=by
 unfold Zah
 split
 ·rename_i h;exact h.symm
 ·rfl
theorem ZcF{c:Nat→Int}{R:Nat→Int×Int}{n:Nat}(ok:∀j,j<n→RestOk (R j)): ∀j,j≤n→Zae c R j=Zah (Zcm c R j) (Zc8 c R j)
 | 0,_=>rfl
 | j+1,h=>by
  have ih:=ZcF (c:=c) ok j (by omega)
  have h0:=Zd1 c R j
  have hr:=(ok j (by omega)).nn
  show ZbF (Zae c R j) (ZbO (R j) (c (j+1)))=_
  rw[ih]
  unfold ZbF ZbO
  rw[ZcT,ZcT]
  have hab:0≤(R j).1*ZaC (c (j+1)):=Int.mul_nonneg hr (Zcp _)
  have eg:((Int.gcd (Zcm c R j) ((R j).1*ZaC (c (j+1))):Nat):Int)=Zcm c R (j+1):=by
   show _=((Int.gcd (Zcm c R j) (c (j+1)*(R j).1):Nat):Int)
   congr 1
   unfold Int.gcd
   rw[Int.natAbs_mul,Int.natAbs_mul,ZjF,Nat.mul_comm]
  rw[eg]
  have h1:Zcm c R (j+1) ∣ Zcm c R j:=Int.gcd_dvd_left ..
  have h2:Zcm c R (j+1) ∣ (R j).1*ZaC (c (j+1)):=by rw[←eg];exact Int.gcd_dvd_right ..
  refine ZoT (Zd1 _ _ _) ?_
  have a1:=Int.dvd_trans h1 (Zme (r:=Zc8 c R j) h0)
  have a2:=Int.dvd_trans h2 (Zme (r:=(R j).2*c (j+1)) hab)
  have:=Int.dvd_add a1 a2
  rw[show Zc8 c R (j+1)=Zc8 c R j+c (j+1)*(R j).2 from rfl,Int.mul_comm (c (j+1))]
  generalize (Zah (Zcm c R j) (Zc8 c R j)).2=u at *
  generalize (Zah ((R j).1*ZaC (c (j+1))) ((R j).2*c (j+1))).2=v at *
  generalize (R j).2*c (j+1)=z at *
  rwa [show u-Zc8 c R j+(v-z)=u+v-(Zc8 c R j+z)by omega]at this
theorem Zp0{b:Option Int}: ZhS [oT a,oT b]=some (.bool (dec (∃x y,a=some x∧b=some y∧y<x))):=by
 apply Pk.eq
 unfold ZhS ZhR
 cases a with
 | none=>
  rw[Zbs]
  walk_at "z"
  rw[Zas (by rintro⟨x,y,h,_⟩;cases h)]
 | some x=>
  cases b with
  | none=>
   rw[Zbs,ZaF]
   walk_at "z"
   rw[Zas (by rintro⟨x,y,_,h,_⟩;cases h)]
  | some y=>
   rw[ZaF,ZaF]
   walk_at "z"
   congr 1
   by_cases h:y<x
   ·rw[Zao ⟨x,y,rfl,rfl,h⟩];simp[h]
   ·rw[Zas (by rintro⟨x',y',h1,h2,h3⟩;cases h1;cases h2;exact h h3)];simp[h]
theorem Zsk(hk:k≤8000)(op:RestOk p)(oq:RestOk q)(bp:RBd k p)(bq:RBd k q)(h:Met p q o): ∀r,o=some r→(r=p∨r=q∨(p.1≠0∧q.1≠0∧r.1=Int.lcm p.1 q.1)):=by
 obtain⟨t,_,o',rfl,h',wh⟩:=Zjc hk op oq bp bq
 rw[ZpY h h']
 exact wh
theorem ZvW{k:Int}(hL:Lay ns)(h0:0≤k)(h9:k≤1000)(hn:n≤9)(hB2:134≤B)(hR:∀t,t<n→RestOk (R t))(sR:SmR B n R)(sG:SmG B n G): Pk (Zlr [scr ns,.int k,Zf n G R]) fun t=>∃G' R',t=Zf n G' R'∧(∀i,i<n+1→G' i i=G i i)∧(∀t,t<n→RestOk (R' t))∧SmG (B+1) n G'∧SmR (B+1) n R':=by
 unfold Zlr ZgV
 have ht:Zf n G R=.tup [.lst (tab (n+1) fun i=>Z9 (n+1) (G i)),.lst (tab n fun i=>Zy (R i))]:=rfl
 have e134:(2:Nat) ^ 134=21778071482940061661655974875633165533184:=by decide
 have hpB:(2:Nat) ^ 134≤2 ^ B:=Nat.pow_le_pow_right (by decide) hB2
 have hpB1:(2:Nat) ^ (B+1)=2 ^ B*2:=Nat.pow_succ ..
 have sG1:SmG (B+1) n G:=fun i j hi hj b h=>Zal (sG i j hi hj b h) (by omega)
 have sR1:SmR (B+1) n R:=fun t ht=>⟨Zal (sR t ht).1 (by omega),Zal (sR t ht).2 (by omega)⟩
 rw[ht]
 walk_at "z"
 refine ZpX (n:=n+1) (G:=G) (by omega) ?_ ?_
 ·walk_at "z"
  rfl
 unfold ZN Z9
 walk_at "z"
 obtain⟨p0,p1⟩:=Zbk ns k (show(0:Int)<((n+1:Nat):Int)by omega)
 obtain⟨i,ei,hi⟩:=Zf2 p0 p1
 obtain⟨p2,p3⟩:=Zbk ns (k+1) (show(0:Int)<((n+1:Nat):Int)by omega)
 obtain⟨j,ej,hj⟩:=Zf2 p2 p3
 obtain⟨w0,w1⟩:=Zbk ns (k+2) (show(0:Int)<5 by decide)
 obtain⟨u0,u1⟩:=Zbk ns (k+3) (show(0:Int)<4 by decide)
 obtain⟨u2,u3⟩:=Zbk ns (k+3) (show(0:Int)<3 by decide)
 refine Zg (Zbl h0 (by omega) (by omega)) ?_
 rw[ei]
 walk_at "z"
 refine Zg (Zbl (by omega) (by omega) (by omega)) ?_
 rw[ej]
 walk_at "z"
 refine Zg (Zbl (by omega) (by omega) (by omega)) ?_
 walk_at "z"
 generalize ZaN ns (k+2) 5=w at w0 w1
 by_cases hw:w<3∧i≠j
 ·have hij:(i:Int)≠(j:Int):=by omega
  have hw3:=hw.1
  have fin:∀v,(∀b,v=some b→b.natAbs<2 ^ (B+1))→(∀a,a<n+1→Zay G i j v a a=G a a)∧SmG (B+1) n (Zay G i j v):=fun v hv=>by
   refine⟨fun a ha=>by rw[Zdd (by omega)],fun a b ha hb c hc=>?_⟩
   by_cases q:a=i∧b=j
   ·obtain⟨rfl,rfl⟩:=q;rw[Zim]at hc;exact hv c hc
   ·rw[Zdd q]at hc;exact sG1 a b ha hb c hc
  cases hg:G i j with
  | none=>
   walk_at "z"
   rw[hg,Zbs]
   walk_at "z"
   refine Zg (ZdR hL (by omega) (by omega)) ?_
   walk_at "z"
   rw[←ZaF (c:=Zba ns (k+3)),Zf1]
   walk_at "z"
   have:=Zdu ns (k+3)
   obtain⟨f1,f2⟩:=fin (some (Zba ns (k+3))) (fun b e=>by cases e;omega)
   exact⟨Zay G i j (some (Zba ns (k+3))),R,rfl,f1,hR,f2,sR1⟩
  | some g=>
   walk_at "z"
   rw[hg,ZaF]
   walk_at "z"
   rw[hg,ZaF]
   walk_at "z"
   refine Zg (Zbl (by omega) (by omega) (by omega)) ?_
   walk_at "z"
   rw[←ZaF (c:=g-1-ZaN ns (k+3) 4),Zf1]
   walk_at "z"
   have:=sG i j (by omega) (by omega) g hg
   obtain⟨f1,f2⟩:=fin (some (g-1-ZaN ns (k+3) 4)) (fun b e=>by cases e;omega)
   exact⟨Zay G i j _,R,rfl,f1,hR,f2,sR1⟩
 ·have hcase:(¬w<3)∨(w<3∧(i:Int)=(j:Int)):=by
   by_cases q:w<3
   ·exact .inr ⟨q,by
     have:i=j:=Classical.byContradiction fun h=>hw ⟨q,h⟩
     rw[this]⟩
   ·exact .inl q
  clear hw
  rcases hcase with hw | ⟨hw,hij⟩
  all_goals
   by_cases hn0:n=0
   ·subst hn0
    walk_at "z"
    exact⟨G,R,rfl,fun _ _=>rfl,hR,sG1,sR1⟩
   ·have hnp:(0:Int)<(n:Int):=by omega
    walk_at "z"
    obtain⟨q0,q1⟩:=Zbk ns k hnp
    obtain⟨t,et,ht⟩:=Zf2 q0 q1
    refine Zg (Zbl h0 (by omega) hnp) ?_
    rw[et]
    walk_at "z"
    have hp:Zy (R t)=.tup [.int (R t).1,.int (R t).2]:=rfl
    rw[hp]
    walk_at "z"
    obtain⟨m0,m1⟩:0≤w.fmod 2∧w.fmod 2<2:=⟨Int.fmod_nonneg_of_pos _ (by decide),Int.fmod_lt_of_pos _ (by decide)⟩
    refine ZcW (by omega) (by omega) ?_
    walk_at "z"
    refine Zg (Zbl (by omega) (by omega) (by omega)) ?_
    walk_at "z"
    refine Zg Zjn ?_
    walk_at "z"
    have hRt:=hR t ht
    have hm0:0≤(R t).1:=by rcases hRt with h | h <;> omega
    have sRt:=sR t ht
    obtain⟨c,hc,hc1⟩:∃c,(R t).1*(1+w.fmod 2)=c∧0≤c∧c≤(R t).1*2:=⟨_,rfl,Int.mul_nonneg hm0 (by omega),Int.mul_le_mul_of_nonneg_left (by omega) hm0⟩
    rw[hc]
    generalize hpp:Zah c ((R t).2+ZaN ns (k+3) 3)=pp
    have p1:RestOk pp:=by rw[←hpp];exact Zbq hc1.1 _
    have p2:pp.1.natAbs<2 ^ (B+1)∧pp.2.natAbs<2 ^ (B+1):=by rw[←hpp];exact ZdK hc1.1 (by omega) (by omega)
    refine⟨G,fun s=>if s=t then pp else R s,?_,fun _ _=>rfl,fun s hs=>?_,sG1,fun s hs=>?_⟩
    ·unfold Zf ZN Z9 ZaI
     congr 5
     funext s
     show(if s=t then Zy pp else Zy (R s))=Zy (if s=t then pp else R s)
     split <;> rfl
    ·show RestOk (if s=t then pp else R s)
     split
     ·exact p1
     ·exact hR s hs
    ·show(if s=t then pp else R s).1.natAbs<_∧(if s=t then pp else R s).2.natAbs<_
     split
     ·exact p2
     ·exact sR1 s hs
inductive Dp: Nat→T→Prop where
 | none {n:Nat}:Dp n .none
 | int {n:Nat} {i:Int}:Dp n (.int i)
 | tup {n:Nat} {ts:List T}:(∀t∈ts,Dp n t)→ts.length≤10000→Dp (n+1) (.tup ts)
 | lst {n:Nat} {ts:List T}:(∀t∈ts,Dp n t)→ts.length≤10000→Dp (n+1) (.lst ts)
theorem Dp.mono(h:Dp n t): ∀{m:Nat},n≤m→Dp m t:=by
 induction h with
 | none=>intro m _;exact .none
 | int=>intro m _;exact .int
 | tup hs hl ih=>
  intro m hm
  cases m with
  | zero=>omega
  | succ m=>exact .tup (fun t a=>ih t a (by omega)) hl
 | lst hs hl ih=>
  intro m hm
  cases m with
  | zero=>omega
  | succ m=>exact .lst (fun t a=>ih t a (by omega)) hl
theorem ZrG{F:List T→Option T}(hg:Zdl g σ=some ts)(hl:ts.length≤10000)(h:∀t∈ts,F [t]=some t)(q:Q (.lst ts)): Pk (Zbj (Zdl g) (ZaU j) Za8 (ZV F (Zq (Zh j) ZD)) σ) Q:=by
 refine⟨.lst ts,?_,q⟩
 have:=Zqb (σ:=σ) (j:=j) (f:=ZV F (Zq (Zh j) ZD)) (h:=fun t=>t) (ts:=ts) fun t m=>by
  simp only[ZV,Zq,Zh,ZD,ZbG,Option.bind_some,Option.map_some]
  exact h t m
 simp only[Zbj,hg,Option.bind_some,this]
 rw[if_pos (by rw[ZaZ];omega)]
 simp
theorem ZwT(h:Dp n t): ZeB (n+1) [t]=some t:=by
 induction h with
 | none=>rfl
 | int=>rfl
 | @tup n ts hs hl ih=>
  apply Pk.eq
  show Pk (ZI 1 (ZfO (ZeB (n+1))) [.tup ts]) _
  unfold ZfO
  walk_at "z"
  refine ZrG (ts:=ts) rfl hl ih ?_
  walk_at "z"
  rfl
 | @lst n ts hs hl ih=>
  apply Pk.eq
  show Pk (ZI 1 (ZfO (ZeB (n+1))) [.lst ts]) _
  unfold ZfO
  walk_at "z"
  exact ZrG (ts:=ts) rfl hl ih rfl
theorem Zib(h:Dp 8 t): Zj1 [t]=some t:=ZwT h
theorem ZnN: Dp n (oT a):=by cases a;exact .none;exact .int
theorem ZrH(hn:n≤100): Dp 3 (Zf n G R):=by
 refine .tup (fun t m=>?_) (by simp)
 simp at m
 rcases m with rfl | rfl
 ·refine .lst (fun t m=>?_) (by rw[Zaa];omega)
  obtain⟨i,hi,rfl⟩:=Zco m
  refine .lst (fun t m=>?_) (by rw[Zaa];omega)
  obtain⟨j,hj,rfl⟩:=Zco m
  exact ZnN
 ·refine .lst (fun t m=>?_) (by rw[Zaa];omega)
  obtain⟨i,hi,rfl⟩:=Zco m
  refine .tup (fun t m=>?_) (by simp)
  simp at m
  rcases m with rfl | rfl <;> exact .int
section
variable {σ:TL} {Q:T→Prop}
theorem ZsB{p e:PE}(h:Pk (p σ) fun t=>∃ts,t=.lst ts∧Pk (e σ) fun u=>∃a:Nat,u=.int a∧Q (.lst (ts.take a))): Pk (Zci p ZcI (ZcJ e) σ) Q:=by
 obtain⟨_,e1,ts,rfl,_,e2,a,rfl,q⟩:=h
 refine⟨_,?_,q⟩
 simp only[Zci,e1,ZcI,ZcJ,e2,Option.bind_some,Zxb ts rfl]
theorem ZsC{p e:PE}(h:Pk (p σ) fun t=>∃ts,t=.lst ts∧Pk (e σ) fun u=>∃a:Nat,u=.int a∧Q (.lst (ts.drop a))): Pk (Zci p (ZcJ e) ZcI σ) Q:=by
 obtain⟨_,e1,ts,rfl,_,e2,a,rfl,q⟩:=h
 refine⟨_,?_,q⟩
 simp only[Zci,e1,ZcI,ZcJ,e2,Option.bind_some,Zp9 ts rfl]
theorem Zd2{a b:List T}(hl:a.length+b.length≤10000)(h:Q (.lst (a++b))): Pk (Zaj (.lst a) (.lst b)) Q:=by
 refine⟨_,?_,h⟩
 simp only[Zaj]
 rw[if_pos (by rw[ZaZ,List.length_append];omega)]
theorem Zm8{a:T}(hn:n≤1000)(h:Q (.lst (tab n fun _=>a))): Pk (Zdk (.lst [a]) (.int n)) Q:=by
 have e:∀n,ZiR [a] n=tab n fun _=>a:=fun n=>by
  induction n with
  | zero=>rfl
  | succ n ih=>show ZiR [a] n++[a]=_;rw[ih];exact ZdU (f:=fun _=>a)
 refine⟨_,?_,h⟩
 simp only[Zdk,List.length_cons,List.length_nil,Int.toNat_natCast,e]
 rw[if_pos ⟨by rw[ZaZ];omega,by omega,by omega⟩]
end
theorem ZrI{x:Nat}{k l:Int}{w:T}{f:Nat→Nat→T}{N:TL→Prop}(e:σ x=some (.lst (tab n fun a=>.lst (tab m (f a)))))(hk:k=i)(hl:l=j)(hi:i<n)(hj:j<m)(h:N (ZW σ x (.lst (tab n fun a=>.lst (tab m fun b=>if a=i∧b=j then w else f a b))))): Put2 σ x w (.int k) (.int l) N:=by
 subst hk hl
 exact ZqM e hi hj h
theorem ZrJ{l:List T}{x:Nat}{w:T}(h:x<l.length): l.take x++[w]++l.drop (x+1)=l.set x w:=by
 rw[List.set_eq_take_append_cons_drop,if_pos h]
 simp
theorem ZrK{x:Nat}{f:Nat→T}{w:T}(hx:x<n)(hn:n≤1000)(hf:∀i,i<n→(f i).flat=true)(hw:w.flat=true): Zks [.lst (tab n f),.int ((x:Int)+1),w]=some (.lst (tab n fun i=>if i=x then w else f i)):=by
 apply Pk.eq
 unfold Zks Znq
 have hlen:(tab n f).length=n:=Zaa
 walk_at "z"
 refine ZsB ?_
 walk_at "z"
 refine⟨_,rfl,?_⟩
 walk_at "z"
 refine⟨x,by congr 1;omega,?_⟩
 walk_at "z"
 refine Zd2 (by simp[hlen];omega) ?_
 refine ZsC ?_
 walk_at "z"
 refine⟨_,rfl,?_⟩
 walk_at "z"
 refine⟨x+1,rfl,?_⟩
 refine Zd2 (by simp[hlen];omega) ?_
 rw[ZrJ (by omega),ZfM]
 refine⟨Zhm fun i hi=>?_,rfl⟩
 split
 ·exact hw
 ·exact hf i hi
theorem Zos(hn:n≤900): ZgN [.int i,.int n]=some (Z9 (n+1) fun j=>if j=i then some 0 else none):=by
 apply Pk.eq
 unfold ZgN ZgM
 walk_at "z"
 refine Zbr (n:=n+1) (a:=fun j=>.int j) (b:=fun j=>oT (if j=i then some 0 else none)) (by omega) ?_ (fun j hj=>?_) rfl
 ·walk_at "z"
  exact Zf7 (n+1) (by omega) (by omega) rfl
 ·by_cases c:j=i
  ·have hc:(i:Int)=(j:Int):=by omega
   walk_at "z"
   rw[if_pos c]
   rfl
  ·have hc:(i:Int)≠(j:Int):=by omega
   walk_at "z"
   rw[if_neg c]
   rfl
noncomputable def Zb6(G:Nat→Nat→Option Int)(x:Nat): Nat→Nat→Option Int:=fun i j=>if i=x then(if j=x then some 0 else none)else if j=x then none else G i j
theorem ZuB{x:Nat}(hx:x<n+1)(hn:n≤100): Zl1 [ZN (n+1) G,.int x]=some (ZN (n+1) (Zb6 G x)):=by
 apply Pk.eq
 unfold Zl1 Zhy ZN
 walk_at "z"
 refine Zbr (n:=n+1) (a:=fun i=>Z9 (n+1) (G i)) (b:=fun i=>Z9 (n+1) fun j=>if j=x then none else G i j) (by omega) ?_ (fun i hi=>?_) ?_
 ·walk_at "z"
  rfl
 ·walk_at "z"
  refine Zg (ZrK (f:=fun j=>oT (G i j)) hx (by omega) (fun _ _=>ZeH) rfl) ?_
  show T.lst _=T.lst _
  congr 1
  exact Za5 fun j _=>by
   show _=oT (if j=x then none else G i j)
   by_cases c:j=x
   ·rw[if_pos c,if_pos c];rfl
   ·rw[if_neg c,if_neg c]
 walk_at "z"
 refine Zg (show ZgN [.int x,.int (((n+1:Nat):Int)-1)]=_ by rw[show((n+1:Nat):Int)-1=(n:Int)by omega];exact Zos (by omega)) ?_
 walk_at "z"
 show T.lst _=T.lst _
 congr 1
 refine Za5 fun i _=>?_
 unfold Zb6
 by_cases c:i=x
 ·rw[if_pos c]
  subst c
  simp
 ·rw[if_neg c]
  simp[c]
noncomputable def Zck(G:Nat→Nat→Option Int)(x:Nat)(s:Sp): Nat→Nat→Option Int:=Zay (Zay G x 0 s.2) 0 x (s.1.map fun y=>y*(-1))
theorem Zqt{w:T}(hw:w=oT v): T.lst (tab n fun a=>T.lst (tab n fun b=>if a=i∧b=j then w else oT (G a b)))=T.lst (tab n fun a=>T.lst (tab n fun b=>oT (Zay G i j v a b))):=by
 subst hw
 exact Zf1
theorem ZwU(h:Bd k x): Bd k (-x):=by unfold Bd at *;omega
theorem ZuC{x:Nat}{s:Sp}(hx:x<n+1)(hb:b≤100000)(hb1:1≤b)(bs:SBd b s): Zl3 [ZN (n+1) G,.int x,spT s]=some (ZN (n+1) (Zck G x s)):=by
 apply Pk.eq
 unfold Zl3 Zl2
 refine ZjY rfl ?_
 unfold ZN Z9 spT
 walk_at "z"
 refine ZrI (n:=n+1) (m:=n+1) (f:=fun a b=>oT (G a b)) (i:=x) (j:=0) ?_ rfl rfl hx (by omega) ?_
 ·rfl
 rw[Zqt (v:=s.2) rfl]
 walk_at "z"
 refine Zg (Zfj hb bs.1 (ZwU (ZcB hb1))) ?_
 refine⟨ZeH,?_⟩
 walk_at "z"
 refine ZrI (n:=n+1) (m:=n+1) (f:=fun a b=>oT (Zay G x 0 s.2 a b)) (i:=0) (j:=x) (by walk_at "r") rfl rfl (by omega) hx ?_
 rw[Zqt (v:=s.1.map fun y=>y*(-1)) rfl]
 exact⟨_,ZbG,rfl⟩
noncomputable def Zb9(R:Nat→Int×Int)(x:Nat)(q:Int×Int): Nat→Int×Int:=fun t=>if t=x then q else R t
theorem Zvd{x:Nat}: (T.lst (tab n fun i=>if i=x then Zy q else Zy (R i)))=ZaI n (Zb9 R x q):=by
 unfold ZaI Zb9
 congr 1
 exact Za5 fun i _=>by
  by_cases c:i=x
  ·rw[if_pos c,if_pos c]
  ·rw[if_neg c,if_neg c]
theorem Zx4{x:Nat}{s:Sp}{P:T→Prop}(hx:x<n)(hn:n≤100)(hb:b≤100000)(hb1:1≤b)(bs:SBd b s)(h:Pk (ZaG [Zf n (Zck (Zb6 G (x+1)) (x+1) s) (Zb9 R x q)]) P): Pk (Zdg [Zf n G R,.int ((x:Int)+1),spT s,Zy q]) P:=by
 unfold Zdg Ziz
 have ht:∀{G:Nat→Nat→Option Int} {R:Nat→Int×Int},Zf n G R=.tup [ZN (n+1) G,.lst (tab n fun i=>Zy (R i))]:=rfl
 rw[ht]
 walk_at "z"
 rw[show(x:Int)+1=((x+1:Nat):Int)by omega]
 refine Zg (ZuB (by omega) hn) ?_
 walk_at "z"
 refine ZeS ZbG ?_
 walk_at "z"
 refine Zg (ZuC (b:=b) (by omega) hb hb1 bs) ?_
 walk_at "z"
 refine Zg (show Zks [.lst (tab n fun i=>Zy (R i)),.int ((x+1:Nat):Int),Zy q]=some (ZaI n (Zb9 R x q))by rw[show((x+1:Nat):Int)=(x:Int)+1 by omega,ZrK hx (by omega) (fun _ _=>ZeA) ZeA,Zvd]) ?_
 walk_at "z"
 exact h
theorem ZdW{a b:PS}{R:T→Prop}{N:TL→Prop}(M:TL→Prop)(h1:Psk (a σ) R M)(h2:∀σ,M σ→Psk (b σ) R N): Psk (Z8 a b σ) R N:=by
 obtain⟨o,s,e,p,q⟩:=h1
 exact Zr6 ⟨o,s,e,p,fun h=>h2 s (q h)⟩
noncomputable def ZaW(n:Nat)(G:Nat→Nat→Option Int): Nat→Nat→Option Int:=fun i j=>if i<n+1∧j<n+1 then G i j else if j=i then some 0 else none
noncomputable def Za2(n:Nat)(R:Nat→Int×Int): Nat→Int×Int:=fun t=>if t<n then R t else(1,0)
theorem Zx5{a:Nat}(h:a≤4): ZbY a a 1=some []:=by
 have:a=0∨a=1∨a=2∨a=3∨a=4:=by omega
 obtain rfl | rfl | rfl | rfl | rfl:=this <;> (unfold ZbY;rw[if_pos (by decide +kernel)];rfl)
theorem ZjG{g:PEs}{a:Nat}{L:List T→Prop}(ha:a≤4)(hm:m≤100)(e:g σ=some [.int a,.int (a+m)])(h:L (tab m fun i=>.int ((a+i:Nat):Int))): Pl (ZbI g σ) L:=by
 cases m with
 | zero=>
  have e2:ZbY (a:Int) ((a:Int)+((0:Nat):Int)) 1=some []:=by simpa using Zx5 ha
  exact⟨[],Zik e e2,h⟩
 | succ m=>
  refine⟨_,Zik e (by have:=ZmW (a:=a) (n:=m+1) (by omega) (by omega);simpa using this),?_⟩
  rw[show(tab (m+1) fun i=>T.int ((a:Int)+i))=tab (m+1) fun i=>.int ((a+i:Nat):Int)from Za5 fun i _=>by congr 1]
  exact h
theorem ZwV(hi:i<n+1): (tab (n+1+m) fun j=>if j<n+1 then oT (G i j)else T.none)=tab (n+m+1) fun j=>oT (ZaW n G i j):=by
 rw[show n+1+m=n+m+1 by omega]
 refine Za5 fun j hj=>?_
 unfold ZaW
 by_cases c:j<n+1
 ·rw[if_pos c,if_pos ⟨hi,c⟩]
 ·rw[if_neg c,if_neg (by omega),if_neg (by omega)]
  rfl
theorem Zve{b:Nat→Option Int}: T.flatIn (.lst (tab n fun j=>oT (b j)))=true:=Zhm fun _ _=>ZeH
theorem Zvf: (T.lst (tab (n+m) fun i=>if i<n then T.tup [.int (R i).1,.int (R i).2]else T.tup [.int 1,.int 0]))=ZaI (n+m) (Za2 n R):=by
 unfold ZaI Za2
 congr 1
 refine Za5 fun i _=>?_
 by_cases c:i<n
 ·rw[if_pos c,if_pos c];rfl
 ·rw[if_neg c,if_neg c];rfl
noncomputable def Zed(q:Nat→Nat)(G':Nat→Nat→Option Int)(i:Nat)(Γ:Nat→Nat→Option Int): Nat→Nat→Nat→Option Int
 | 0=>Γ
 | j+1=>Zay (Zed q G' i Γ j) (q i) (q j) (ZaP (Zed q G' i Γ j (q i) (q j)) (G' i j))
noncomputable def ZcP(q:Nat→Nat)(G':Nat→Nat→Option Int)(k:Nat)(Γ:Nat→Nat→Option Int): Nat→Nat→Nat→Option Int
 | 0=>Γ
 | i+1=>Zed q G' i (ZcP q G' k Γ i) k
theorem Zjd{a:Nat}(ha:a<N)(hb:b<N): Zfr [ZN N Γ,.int a,.int b,oT v]=some (ZN N (Zay Γ a b (ZaP (Γ a b) v))):=by
 apply Pk.eq
 unfold Zfr Zl4
 refine ZjY rfl ?_
 unfold ZN Z9
 walk_at "z"
 refine Zg Zqs ?_
 refine⟨ZeH,?_⟩
 walk_at "z"
 refine⟨_,ZbG,?_⟩
 exact Zf1
theorem ZsV{q:Nat→Nat}(hN:N≤100)(hk:k≤100)(hq:∀i,i<k→q i<N): ZkY [ZN N Γ,.lst (tab k fun i=>.int (q i)),ZN k G']=some (ZN N (ZcP q G' k Γ k)):=by
 apply Pk.eq
 unfold ZkY Zgk
 have dp:Dp 8 (ZN N Γ):=by
  refine Dp.mono (n:=2) (.lst (fun t m=>?_) (by rw[Zaa];omega)) (by decide)
  obtain⟨i,hi,rfl⟩:=Zco m
  refine .lst (fun t m=>?_) (by rw[Zaa];omega)
  obtain⟨j,hj,rfl⟩:=Zco m
  exact ZnN
 have eg:ZN k G'=.lst (tab k fun i=>.lst (tab k fun j=>oT (G' i j))):=rfl
 rw[eg]
 walk_at "z"
 refine Zg (Zib dp) ?_
 walk_at "z"
 refine ZeG (n:=k) (a:=fun i=>.int (q i)) (c:=fun i=>.lst (tab k fun j=>oT (G' i j))) (P:=fun i σ=>σ 1=some (.lst (tab k fun i=>.int (q i)))∧σ 3=some (ZN N (ZcP q G' k Γ i))) ?_ ⟨by walk_at "r",by walk_at "r"⟩ ?_ ?_
 ·walk_at "z"
  rfl
 ·rintro i σ hi ⟨e1,e3⟩
  refine ZeG (n:=k) (a:=fun j=>.int (q j)) (c:=fun j=>oT (G' i j)) (P:=fun j σ=>σ 1=some (.lst (tab k fun i=>.int (q i)))∧σ 4=some (.int (q i))∧σ 3=some (ZN N (Zed q G' i (ZcP q G' k Γ i) j))) ?_ ⟨by walk_at "r",by walk_at "r",by walk_at "r"⟩ ?_ ?_
  ·walk_at "z"
   rfl
  ·rintro j σ hj ⟨e1,e4,e3⟩
   refine ZeS (t:=ZN N (Zed q G' i (ZcP q G' k Γ i) j)) (by walk_at "r") ?_
   walk_at "z"
   refine Zg (Zjd (hq i hi) (hq j hj)) ?_
   exact⟨by walk_at "r",by walk_at "r",ZbG⟩
  ·rintro σ ⟨e1,e4,e3⟩
   exact⟨e1,e3⟩
 ·rintro σ ⟨e1,e3⟩
  walk_at "z"
  rfl
noncomputable def Zx(n:Nat)(c:Nat→Int): T:=.lst (tab (n+1) fun i=>.int (c i))
theorem ZdL{k:Int}(hn:n≤1000)(hb:b≤100000)(bc:∀i,i<n+1→Bd b (c i))(bk:Bd b k): Zja [Zx n c,.int k]=some (Zx n fun i=>c i*k):=by
 apply Pk.eq
 unfold Zja Zhe Zx
 walk_at "z"
 refine Zbr (n:=n+1) (a:=fun i=>.int (c i)) (b:=fun i=>.int (c i*k)) (by omega) ?_ (fun i hi=>?_) rfl
 ·walk_at "z"
  rfl
 ·walk_at "z"
  exact Zcs (Zdc (bc i hi) bk (by omega) (by omega)) rfl
noncomputable def S40(G:Nat→Nat→Option Int)(i:Nat): Sp:=((G 0 (i+1)).map fun y=>y*(-1),G (i+1) 0)
theorem Ztf(hn:n≤90)(hb:b≤100000)(hb1:1≤b)(bG:∀i j,i<n+1→j<n+1→∀y,G i j=some y→Bd b y): Zk8 [Zf n G R]=some (.lst (tab n fun i=>spT (S40 G i))):=by
 apply Pk.eq
 unfold Zk8 ZgC
 have ht:Zf n G R=.tup [.lst (tab (n+1) fun i=>.lst (tab (n+1) fun j=>oT (G i j))),.lst (tab n fun i=>Zy (R i))]:=rfl
 rw[ht]
 walk_at "z"
 refine Zbr (n:=n) (a:=fun i=>.int ((1+i:Nat):Int)) (b:=fun i=>spT (S40 G i)) (by omega) ?_ (fun i hi=>?_) rfl
 ·refine ZjG (a:=1) (m:=n) (by omega) (by omega) ?_ rfl
  simp only[Zq,ZH,ZD,ZV,Zh,ZW,Option.bind_some,if_true,ZbQ,Zaa]
  congr 3
  congr 1
  omega
 ·have h1:1+i<n+1:=by omega
  have h0:0<n+1:=by omega
  walk_at "z"
  refine Zg (Zfj hb (fun y e=>bG 0 (1+i) h0 h1 y e) (show Bd b (-1)by unfold Bd;have:=ZcB hb1;unfold Bd at this;simpa using this)) ?_
  walk_at "z"
  unfold spT S40
  rw[show 1+i=i+1 by omega]
  rfl
theorem Zpn{σ:TL}{j:Nat}{cnd:PB}{P:T→Bool}: ∀{ts:List T},(∀t∈ts,cnd (ZW σ j t)=some (P t))→Zcv (ZaU j) cnd (Zh j) σ ts=some (ts.filter P)
 | [],_=>rfl
 | t::ts,h=>by
  have ih:=Zpn fun t m=>h t (Zz2 _ m)
  have h0:=h t Zz5
  simp only[Zcv,ZaU,Option.bind_some,h0,Zh,ZbG,ih,Option.map_some,List.filter_cons]
  cases P t <;> rfl
theorem ZvX{g:PG}{cnd:PB}{P:T→Bool}(hl:ts.length≤10000)(hg:Pl (g σ) fun us=>us=ts)(hc:∀t∈ts,Pb (cnd (ZW σ j t)) fun b=>b=P t)(h:Q (.lst (ts.filter P))): Pk (Zbj g (ZaU j) cnd (Zh j) σ) Q:=by
 obtain⟨us,e,rfl⟩:=hg
 refine⟨_,?_,h⟩
 have:=Zpn (σ:=σ) (j:=j) (cnd:=cnd) (P:=P) (ts:=us) fun t m=>by
  obtain⟨b,e1,rfl⟩:=hc t m
  exact e1
 simp only[Zbj,e,Option.bind_some,this,Option.map_some]
 rw[if_pos (by rw[ZaZ];omega)]
noncomputable def xsI(n:Nat)(c:Nat→Int): List Int:=tab n fun i=>c (i+1)
noncomputable def nzI(n:Nat)(c:Nat→Int): List Int:=(xsI n c).filter fun x=>decide (x≠0)
def Df(n:Nat)(c:Nat→Int): Prop:=PM.Zc3 (nzI n c)=[-1,1]
theorem ZjH(ks:List Int): Zc2 (ks.map T.int)=some ks:=by
 induction ks with
 | nil=>rfl
 | cons k ks ih=>simp[Zc2,ih]
theorem ZuD{a b:List Int}(h:a.map T.int=b.map T.int): a=b:=by
 have:=congrArg Zc2 h
 rw[ZjH,ZjH]at this
 simpa using this
theorem ZrL(ks:List Int): Pln 1 (.lst (ks.map T.int)):=.lst fun t m=>by
 obtain⟨k,_,rfl⟩:=Zz11.mp m
 exact .int
theorem tab_map{α:Type}{f:Nat→α}{g:α→β}: (tab n f).map g=tab n fun i=>g (f i):=by simp[tab]
theorem Zs3(hn:n≤60): Zk4 [Zx n c]=some (.bool (dec (Df n c))):=by
 apply Pk.eq
 unfold Zk4 Zgs Zx
 walk_at "z"
 refine ZvX (ts:=(xsI n c).map T.int) (P:=fun t=>match t with | .int x=>decide (x≠0) | _=>false) (by simp[xsI,Zaa];omega) ?_ (fun t m=>?_) ?_
 ·refine ZjW ?_
  refine Zjy ?_
  walk_at "z"
  refine⟨_,rfl,?_⟩
  rw[ZmL]
  refine Sq.lst ?_
  unfold xsI
  rw[tab_map]
 ·obtain⟨x,_,rfl⟩:=Zz11.mp m
  walk_at "z"
  rfl
 have ef:((xsI n c).map T.int).filter (fun t=>match t with | .int x=>decide (x≠0) | _=>false)=(nzI n c).map T.int:=by
  unfold nzI
  rw[List.filter_map]
  rfl
 rw[ef]
 have hl:(nzI n c).length≤n:=by
  unfold nzI
  refine Nat.le_trans (List.length_filter_le _ _) ?_
  simp[xsI,Zaa]
 walk_at "z"
 refine⟨.lst ((PM.Zc3 (nzI n c)).map T.int),?_,?_⟩
 ·simp only[Zm2,ZjH,Option.bind_some,List.length_map]
  rw[if_pos (by omega)]
 walk_at "z"
 refine ZcL (n:=1) (m:=1) (ZrL _) (ZrL [-1,1]) ?_
 by_cases h:Df n c
 ·rw[Zao h,Zao]
  show T.lst ((PM.Zc3 (nzI n c)).map T.int)=_
  rw[show PM.Zc3 (nzI n c)=[-1,1]from h]
  rfl
 ·rw[Zas h,Zas]
  intro q
  refine h (ZuD ?_)
  simpa using q
noncomputable def ZaD(c:Nat→Int): Nat→List Nat
 | 0=>[]
 | n+1=>ZaD c n++(if 0<c (n+1)then [n+1]else [])
noncomputable def ZaK(c:Nat→Int): Nat→List Nat
 | 0=>[]
 | n+1=>ZaK c n++(if c (n+1)<0 then [n+1]else [])
theorem ups_mem{c:Nat→Int}: ∀{n i:Nat},i∈ZaD c n↔1≤i∧i≤n∧0<c i
 | 0,i=>by simp[ZaD];omega
 | n+1,i=>by
  simp only[ZaD,List.mem_append,ups_mem (n:=n)]
  by_cases h:0<c (n+1)
  ·simp only[h,if_true,List.mem_singleton]
   constructor
   ·rintro(⟨a,b,d⟩ | rfl)
    ·exact⟨a,by omega,d⟩
    ·exact⟨by omega,by omega,h⟩
   ·rintro⟨a,b,d⟩
    by_cases q:i=n+1
    ·exact .inr q
    ·exact .inl ⟨a,by omega,d⟩
  ·simp only[h,if_false,List.not_mem_nil,or_false]
   constructor
   ·rintro⟨a,b,d⟩;exact⟨a,by omega,d⟩
   ·rintro⟨a,b,d⟩
    have:i≠n+1:=fun q=>h (q▸d)
    exact⟨a,by omega,d⟩
theorem dns_mem{c:Nat→Int}: ∀{n i:Nat},i∈ZaK c n↔1≤i∧i≤n∧c i<0
 | 0,i=>by simp[ZaK];omega
 | n+1,i=>by
  simp only[ZaK,List.mem_append,dns_mem (n:=n)]
  by_cases h:c (n+1)<0
  ·simp only[h,if_true,List.mem_singleton]
   constructor
   ·rintro(⟨a,b,d⟩ | rfl)
    ·exact⟨a,by omega,d⟩
    ·exact⟨by omega,by omega,h⟩
   ·rintro⟨a,b,d⟩
    by_cases q:i=n+1
    ·exact .inr q
    ·exact .inl ⟨a,by omega,d⟩
  ·simp only[h,if_false,List.not_mem_nil,or_false]
   constructor
   ·rintro⟨a,b,d⟩;exact⟨a,by omega,d⟩
   ·rintro⟨a,b,d⟩
    have:i≠n+1:=fun q=>h (q▸d)
    exact⟨a,by omega,d⟩
theorem ZqY{c:Nat→Int}: ∀n,(ZaD c n).map c=(xsI n c).filter fun x=>decide (0<x)
 | 0=>rfl
 | n+1=>by
  have e:xsI (n+1) c=xsI n c++[c (n+1)]:=(ZdU (n:=n) (f:=fun i=>c (i+1))).symm
  rw[e,List.filter_append,←ZqY n]
  simp only[ZaD,List.map_append]
  by_cases h:0<c (n+1) <;> simp[h]
theorem ZqZ{c:Nat→Int}: ∀n,(ZaK c n).map c=(xsI n c).filter fun x=>decide (x<0)
 | 0=>rfl
 | n+1=>by
  have e:xsI (n+1) c=xsI n c++[c (n+1)]:=(ZdU (n:=n) (f:=fun i=>c (i+1))).symm
  rw[e,List.filter_append,←ZqZ n]
  simp only[ZaK,List.map_append]
  by_cases h:c (n+1)<0 <;> simp[h]
theorem df_iff: Df n c↔(ZaD c n).map c=[1]∧(ZaK c n).map c=[-1]:=by
 rw[ZqY,ZqZ]
 have hp:(nzI n c).Perm ((xsI n c).filter (fun x=>decide (0<x))++(xsI n c).filter (fun x=>decide (x<0))):=by
  unfold nzI
  generalize xsI n c=xs
  induction xs with
  | nil=>exact List.Perm.refl _
  | cons x xs ih=>
   by_cases h1:0<x
   ·have:x≠0:=by omega
    have h2:¬x<0:=by omega
    simp only[List.filter_cons,h1,h2,this,decide_true,decide_false,ne_eq,not_false_eq_true,if_true,Bool.false_eq_true,if_false,List.cons_append]
    exact List.Perm.cons _ ih
   ·by_cases h2:x<0
    ·have:x≠0:=by omega
     simp only[List.filter_cons,h1,h2,this,decide_true,decide_false,ne_eq,not_false_eq_true,if_true,Bool.false_eq_true,if_false]
     exact(List.Perm.cons _ ih).trans List.perm_middle.symm
    ·have:x=0:=by omega
     subst this
     simpa using ih
 constructor
 ·intro h
  have hq:(nzI n c).Perm [-1,1]:=by
   have:=List.mergeSort_perm (nzI n c) fun a b=>decide (a≤b)
   rw[show(nzI n c).mergeSort (fun a b=>decide (a≤b))=[-1,1]from h]at this
   exact this.symm
  have hf:∀q:Int→Bool,(∀x,q x=true→x≠0)→(xsI n c).filter q=(nzI n c).filter q:=fun q hq=>by
   unfold nzI
   rw[List.filter_filter]
   refine List.filter_congr fun x _=>?_
   cases e:q x with
   | false=>simp
   | true=>simp[hq x e]
  rw[hf _ (fun x h=>by simp at h;omega),hf _ (fun x h=>by simp at h;omega)]
  have p1:=hq.filter fun x=>decide (0<x)
  have p2:=hq.filter fun x=>decide (x<0)
  exact⟨List.perm_singleton.mp (by simpa using p1),List.perm_singleton.mp (by simpa using p2)⟩
 ·rintro⟨h1,h2⟩
  rw[h1,h2]at hp
  unfold Df
  refine(PM.ZqP ?_ ?_).symm
  ·exact(hp.trans (List.Perm.swap (-1) 1 [])).symm
  ·simp
theorem Zq0{p q r:PE}(h:Pk (p σ) fun t=>∃ks:List Int,t=.lst (ks.map T.int)∧Pk (q σ) fun u=>∃k,u=.int k∧Pk (r σ) fun v=>v=.int 1∧k∈ks.drop 1∧Q (.int ((1+(ks.drop 1).idxOf k:Nat):Int))): Pk (Znn p q r σ) Q:=by
 obtain⟨_,e1,ks,rfl,_,e2,k,rfl,_,e3,rfl,hm,h⟩:=h
 refine⟨_,?_,h⟩
 simp only[Znn,e1,e2,e3,Option.bind_some,ZjH]
 rw[if_pos ⟨trivial,hm⟩]
theorem Zj6: (tab (n+1) c).drop 1=xsI n c:=by
 unfold xsI
 apply List.ext_getElem
 ·simp[tab]
 ·intro i h1 h2
  simp[tab]
theorem Zsl{k:Int}(h:l.map c=[k]): ∃u,l=[u]∧c u=k:=by
 cases l with
 | nil=>simp at h
 | cons a l=>
  cases l with
  | nil=>exact⟨a,rfl,by simpa using h⟩
  | cons b l=>simp at h
theorem ZsD(hi:i<n): (xsI n c)[i]?=some (c (i+1)):=ZaS (f:=fun i=>c (i+1)) hi
theorem Zsm{u:Nat}{k:Int}(h1:1≤u)(h2:u≤n)(hu:c u=k)(ho:∀i,1≤i→i≤n→c i=k→i=u): 1+(xsI n c).idxOf k=u∧k∈xsI n c:=by
 have hm:k∈xsI n c:=List.mem_of_getElem? (i:=u-1) (by rw[ZsD (by omega),show u-1+1=u by omega,hu])
 have hl:(xsI n c).idxOf k<(xsI n c).length:=List.idxOf_lt_length_iff.mpr hm
 have hn:(xsI n c).length=n:=Zaa
 have hk:=List.getElem_idxOf hl
 have hx:(xsI n c)[(xsI n c).idxOf k]?=some k:=by rw[List.getElem?_eq_getElem hl,hk]
 rw[ZsD (by omega)]at hx
 have:=ho ((xsI n c).idxOf k+1) (by omega) (by omega) (by simpa using hx)
 exact⟨by omega,hm⟩
theorem Zew(h:Df n c): ∃u d,ZaD c n=[u]∧ZaK c n=[d]∧c u=1∧c d = -1∧u<n+1∧d<n+1∧1≤u∧1≤d∧1+(xsI n c).idxOf 1=u∧1+(xsI n c).idxOf (-1)=d∧1∈xsI n c∧-1∈xsI n c:=by
 obtain⟨h1,h2⟩:=df_iff.mp h
 obtain⟨u,eu,hu⟩:=Zsl h1
 obtain⟨d,ed,hd⟩:=Zsl h2
 have mu:=ups_mem.mp (show u∈ZaD c n by rw[eu];simp)
 have md:=dns_mem.mp (show d∈ZaK c n by rw[ed];simp)
 have a1:=Zsm mu.1 mu.2.1 hu fun i q1 q2 q3=>by
  have:i∈ZaD c n:=ups_mem.mpr ⟨q1,q2,by omega⟩
  rw[eu]at this
  simpa using this
 have a2:=Zsm md.1 md.2.1 hd fun i q1 q2 q3=>by
  have:i∈ZaK c n:=dns_mem.mpr ⟨q1,q2,by omega⟩
  rw[ed]at this
  simpa using this
 exact⟨u,d,eu,ed,hu,hd,by omega,by omega,mu.1,md.1,a1.1,a2.1,a1.2,a2.2⟩
noncomputable def grt(n:Nat)(G:Nat→Nat→Option Int)(c:Nat→Int): Option Int:=if dec (Df n c)then addO (G (1+(xsI n c).idxOf 1) (1+(xsI n c).idxOf (-1))) (some (c 0))else(ZaX c (S40 G) n).2
def GB(b n:Nat)(G:Nat→Nat→Option Int): Prop:=∀i j,i<n+1→j<n+1→∀y,G i j=some y→Bd b y
theorem Zsn(hG:GB b n G): ∀i,i<n→SBd b (S40 G i):=fun i hi=>⟨fun x e=>by
 obtain⟨y,e1,e2⟩:=Zz1.mp e
 have:=hG 0 (i+1) (by omega) (by omega) y e1
 subst e2
 unfold Bd at *
 omega,fun x e=>hG (i+1) 0 (by omega) (by omega) x e⟩
theorem Zeo(hn:n≤60)(hb:b≤100000)(hb1:1≤b)(hG:GB b n G)(bc:∀i,i<n+1→Bd b (c i)): ZhB [Zf n G R,Zx n c]=some (oT (grt n G c)):=by
 apply Pk.eq
 unfold ZhB ZhA grt
 have ht:Zf n G R=.tup [.lst (tab (n+1) fun i=>.lst (tab (n+1) fun j=>oT (G i j))),.lst (tab n fun i=>Zy (R i))]:=rfl
 have hs:Zx n c=.lst ((tab (n+1) c).map T.int):=by unfold Zx;rw[tab_map]
 walk_at "z"
 refine Zg (Zs3 hn) ?_
 by_cases h:Df n c
 ·obtain⟨u,d,_,_,_,_,hu,hd,_,_,eu,ed,mu,md⟩:=Zew h
  rw[Zao h]
  rw[ht]
  walk_at "z"
  refine Zq0 ?_
  walk_at "z"
  refine⟨tab (n+1) c,hs,?_⟩
  walk_at "z"
  refine⟨1,rfl,?_⟩
  walk_at "z"
  refine⟨rfl,by rw[Zj6];exact mu,?_⟩
  rw[Zj6,eu]
  walk_at "z"
  refine Zq0 ?_
  walk_at "z"
  refine⟨tab (n+1) c,hs,?_⟩
  walk_at "z"
  refine⟨-1,rfl,?_⟩
  walk_at "z"
  refine⟨rfl,by rw[Zj6];exact md,?_⟩
  rw[Zj6,ed]
  unfold Zx
  walk_at "z"
  exact Zg (Zfn (b:=some (c (Int.toNat 0)))) rfl
 ·rw[Zas h]
  walk_at "z"
  refine Zg (Ztf (by omega) hb hb1 hG) ?_
  walk_at "z"
  refine Zg (Ztu (by omega) hb bc (Zsn hG)) ?_
  unfold spT
  walk_at "z"
  rfl
theorem ZrM: Zx n (fun i=>c i * -1)=Zx n fun i=>-(c i):=by
 unfold Zx
 congr 1
 exact Za5 fun i _=>by show T.int (c i * -1)=T.int (-(c i));congr 1;omega
theorem Zq1(hn:n≤60)(hb:b≤1000)(hb1:1≤b)(hG:GB b n G)(bc:∀i,i<n+1→Bd b (c i))(bg:∀y,grt n G (fun i=>-(c i))=some y→Bd 100000 y): ZdX [Zf n G R,Zx n c]=some (oT ((grt n G fun i=>-(c i)).map fun y=>y * -1)):=by
 apply Pk.eq
 unfold ZdX ZfP
 have b1:Bd b (-1):=by have:=ZcB hb1;unfold Bd at *;simpa using this
 walk_at "z"
 refine Zg (ZdL (by omega) (by omega) bc b1) ?_
 rw[ZrM]
 walk_at "z"
 refine Zg (Zeo hn (by omega) hb1 hG fun i hi=>by have:=bc i hi;show Bd b (-(c i));unfold Bd at *;omega) ?_
 walk_at "z"
 exact Zg (Zfj (i:=100000) (by decide) bg (b1.mono (by omega))) rfl
noncomputable def sU(G:Nat→Nat→Option Int)(c:Nat→Int)(l:List Nat): Int:=(l.map fun i=>c i*(G i 0).getD 0).sum
noncomputable def sD(G:Nat→Nat→Option Int)(c:Nat→Int)(l:List Nat): Int:=(l.map fun i=>c i*(G 0 i).getD 0).sum
def Zc9(G:Nat→Nat→Option Int)(c:Nat→Int)(n:Nat): Prop:=(∃i∈ZaD c n,G i 0=none)∨∃i∈ZaK c n,G 0 i=none
theorem Zx6: sU G c (l++[i])=sU G c l+c i*(G i 0).getD 0:=by simp[sU]
theorem Zx7: sD G c (l++[i])=sD G c l+c i*(G 0 i).getD 0:=by simp[sD]
theorem tot{G:Nat→Nat→Option Int}{c:Nat→Int}: ∀n,(Zc9 G c n→(ZaX c (S40 G) n).2=none)∧(¬Zc9 G c n→(ZaX c (S40 G) n).2=some (c 0+sU G c (ZaD c n)-sD G c (ZaK c n)))
 | 0=>⟨fun h=>(by rcases h with⟨i,m,_⟩ | ⟨i,m,_⟩ <;> cases m),fun _=>by simp[ZaX,sU,sD,ZaD,ZaK]⟩
 | n+1=>by
  obtain⟨ih1,ih2⟩:=tot (G:=G) (c:=c) n
  have step:(ZaX c (S40 G) (n+1)).2=addO (ZaX c (S40 G) n).2 (Zbd (S40 G n) (c (n+1))).2:=rfl
  rw[step]
  have mono:Zc9 G c n→Zc9 G c (n+1):=fun h=>h.imp (fun⟨i,m,e⟩=>⟨i,by simp only[ZaD,List.mem_append];exact .inl m,e⟩) fun⟨i,m,e⟩=>⟨i,by simp only[ZaK,List.mem_append];exact .inl m,e⟩
  rcases Int.lt_trichotomy (c (n+1)) 0 with h | h | h
  ·have h0:¬0<c (n+1):=by omega
   have hz:¬c (n+1)=0:=by omega
   have eu:ZaD c (n+1)=ZaD c n:=by simp[ZaD,h0]
   have ed:ZaK c (n+1)=ZaK c n++[n+1]:=by simp[ZaK,h]
   have et:(Zbd (S40 G n) (c (n+1))).2=(G 0 (n+1)).map fun y=>y*(-1)*c (n+1):=by
    unfold Zbd S40
    rw[if_neg hz,if_pos h]
    cases G 0 (n+1) <;> rfl
   rw[et]
   cases hg:G 0 (n+1)with
   | none=>
    refine⟨fun _=>?_,fun q=>absurd (.inr ⟨n+1,by rw[ed];simp,hg⟩) q⟩
    cases (ZaX c (S40 G) n).2 <;> rfl
   | some y=>
    have hl:Zc9 G c (n+1)→Zc9 G c n:=by
     rintro(⟨i,m,e⟩ | ⟨i,m,e⟩)
     ·rw[eu]at m;exact .inl ⟨i,m,e⟩
     ·rw[ed]at m
      rcases Zz8.mp m with m | m
      ·exact .inr ⟨i,m,e⟩
      ·rw[List.mem_singleton.mp m,hg]at e;cases e
    refine⟨fun q=>by rw[ih1 (hl q)];rfl,fun q=>?_⟩
    rw[ih2 fun r=>q (mono r),eu,ed,Zx7,hg]
    simp only[addO,Option.map_some,Option.getD_some]
    congr 1
    have:y*(-1)*c (n+1) = -(c (n+1)*y):=by rw[Int.mul_neg,Int.mul_one,Int.neg_mul,Int.mul_comm]
    omega
  ·have h0:¬0<c (n+1):=by omega
   have h1:¬c (n+1)<0:=by omega
   have eu:ZaD c (n+1)=ZaD c n:=by simp[ZaD,h0]
   have ed:ZaK c (n+1)=ZaK c n:=by simp[ZaK,h1]
   have et:(Zbd (S40 G n) (c (n+1))).2=some 0:=by unfold Zbd;rw[if_pos h]
   have el:Zc9 G c (n+1)↔Zc9 G c n:=by unfold Zc9;rw[eu,ed]
   rw[et,Zsh,el,eu,ed]
   exact⟨ih1,ih2⟩
  ·have h1:¬c (n+1)<0:=by omega
   have hz:¬c (n+1)=0:=by omega
   have eu:ZaD c (n+1)=ZaD c n++[n+1]:=by simp[ZaD,h]
   have ed:ZaK c (n+1)=ZaK c n:=by simp[ZaK,h1]
   have et:(Zbd (S40 G n) (c (n+1))).2=(G (n+1) 0).map fun y=>y*c (n+1):=by
    unfold Zbd S40
    rw[if_neg hz,if_neg h1]
   rw[et]
   cases hg:G (n+1) 0 with
   | none=>
    refine⟨fun _=>?_,fun q=>absurd (.inl ⟨n+1,by rw[eu];simp,hg⟩) q⟩
    cases (ZaX c (S40 G) n).2 <;> rfl
   | some y=>
    have hl:Zc9 G c (n+1)→Zc9 G c n:=by
     rintro(⟨i,m,e⟩ | ⟨i,m,e⟩)
     ·rw[eu]at m
      rcases Zz8.mp m with m | m
      ·exact .inl ⟨i,m,e⟩
      ·rw[List.mem_singleton.mp m,hg]at e;cases e
     ·rw[ed]at m;exact .inr ⟨i,m,e⟩
    refine⟨fun q=>by rw[ih1 (hl q)];rfl,fun q=>?_⟩
    rw[ih2 fun r=>q (mono r),eu,ed,Zx6,hg]
    simp only[addO,Option.map_some,Option.getD_some]
    congr 1
    have:y*c (n+1)=c (n+1)*y:=Int.mul_comm _ _
    omega
theorem ZrN{b n:Nat}{c:Nat→Int}{S:Nat→Sp}(bc:∀i,i<n+1→Bd b (c i))(bS:∀i,i<n→SBd b (S i)): ∀j,j≤n→∀y,(ZaX c S j).2=some y→Bd (b+b+j+1) y
 | 0,_,y,e=>by cases e;exact(bc 0 (by omega)).mono (by omega)
 | j+1,h,y,e=>by
  obtain⟨p,q,h1,h2,rfl⟩:=addO_some.mp (show addO (ZaX c S j).2 (Zbd (S j) (c (j+1))).2=some y from e)
  have ih:=ZrN bc bS j (by omega) p h1
  have hq:Bd (b+b) q:=by
   unfold Zbd at h2
   split at h2
   ·cases h2;exact Zbb
   ·split at h2
    ·obtain⟨z,e1,rfl⟩:=Zz1.mp h2
     exact((bS j (by omega)).1 z e1).mul (bc (j+1) (by omega))
    ·obtain⟨z,e1,rfl⟩:=Zz1.mp h2
     exact((bS j (by omega)).2 z e1).mul (bc (j+1) (by omega))
  exact(ih.add (hq.mono (by omega))).mono (by omega)
theorem ZeI(bc:∀i,i<n+1→Bd b (c i)): ∀i,i<n+1→Bd b (-(c i)):=fun i hi=>by
 have:=bc i hi
 unfold Bd at *
 omega
noncomputable def Zcd(c:Nat→Int)(x:Nat→Int): Nat→Int
 | 0=>c 0
 | j+1=>Zcd c x j+c (j+1)*x j
theorem ZrO{c x:Nat→Int}: ∀n,c 0+(tab n fun i=>c (i+1)*x i).sum=Zcd c x n
 | 0=>by simp[tab,Zcd]
 | n+1=>by
  rw[←ZdU (n:=n) (f:=fun i=>c (i+1)*x i),List.sum_append]
  have:=ZrO (c:=c) (x:=x) n
  simp only[List.sum_cons,List.sum_nil,Zcd]
  omega
theorem Zq2{x:Nat→Int}(hn:n≤60)(hb:b≤100000)(bc:∀i,i<n+1→Bd b (c i))(bx:∀i,i<n→Bd b (x i)): Zjb [Zx n c,ZcA n x]=some (.int (Zcd c x n)):=by
 apply Pk.eq
 unfold Zjb Zhf Zx ZcA
 have h0:0<n+1:=by omega
 walk_at "z"
 refine Zbr (n:=n) (a:=fun i=>.int i) (b:=fun i=>.int (c (i+1)*x i)) (by omega) ?_ (fun i hi=>?_) ?_
 ·walk_at "z"
  rfl
 ·walk_at "z"
  rw[show((i:Int)+1).toNat=i+1 by omega]
  exact Zcs (Zdc (bc (i+1) (by omega)) (bx i hi) (by omega) (by omega)) rfl
 walk_at "z"
 refine⟨.int (tab n fun i=>c (i+1)*x i).sum,by simp only[ZnY,Zwu,Option.map_some],?_⟩
 walk_at "z"
 rw[show(Int.toNat 0)=0 from rfl,ZrO]
def SumB(n:Nat)(c:Nat→Int)(K:Int): Prop:=Bd 140 (c 0)∧∀i,1≤i→i<n+1→-K≤c i∧c i≤K
theorem SumB.bd(h:SumB n c K)(hK:K≤4000000000): ∀i,i<n+1→Bd 140 (c i):=fun i hi=>by
 by_cases q:i=0
 ·subst q;exact h.1
 ·have:=h.2 i (by omega) hi
  exact Zal (i:=33) (by omega) (by decide)
theorem SumB.mono(h:SumB n c K)(hK:K≤K'): SumB n c K':=⟨h.1,fun i h1 h2=>by have:=h.2 i h1 h2;omega⟩
theorem Zj7{x:Nat}{v k:Int}{N:TL→Prop}(e:σ x=some (.lst (tab (n+1) fun i=>.int (c i))))(h0:1≤k)(h1:k<(n+1:Nat))(bc:SumB n c K)(hK:K≤K')(v0:-K'≤v)(v1:v≤K')(h:∀c',SumB n c' K'→N (ZW σ x (.lst (tab (n+1) fun i=>.int (c' i))))): PutP σ x (.int v) (.int k) N:=by
 refine Zmj (n:=n+1) (f:=fun i=>.int (c i)) e (by omega) h1 ?_
 have:=h (fun i=>if i=k.toNat then v else c i) ⟨by show Bd 140 (if 0=k.toNat then v else c 0);rw[if_neg (by omega)];exact bc.1,fun i hi1 hi2=>by
  by_cases q:i=k.toNat
  ·simp only[q,if_true];exact⟨v0,v1⟩
  ·simp only[q,if_false];have:=bc.2 i hi1 hi2;omega⟩
 rw[show(tab (n+1) fun i=>if i=k.toNat then T.int v else T.int (c i))=tab (n+1) fun i=>T.int (if i=k.toNat then v else c i)from Za5 fun i _=>by split <;> rfl]
 exact this
noncomputable def ZX(i:Nat): Nat→Int:=fun k=>if 0<i∧k=i then 1 else 0
theorem Zes(hn:n≤900): ZdQ [.int i,.int n]=some (Zx n (ZX i)):=by
 apply Pk.eq
 unfold ZdQ ZhW Zx
 walk_at "z"
 refine Zbr (n:=n+1) (a:=fun k=>.int (k:Nat)) (b:=fun k=>.int (ZX i k)) (by omega) ?_ (fun k hk=>?_) rfl
 ·walk_at "z"
  exact Zf7 (n+1) (by omega) (by omega) rfl
 ·walk_at "z"
  by_cases h:0<i
  ·refine⟨fun _=>?_,fun c=>absurd c (by simp;omega)⟩
   walk_at "z"
   by_cases q:k=i
   ·refine⟨fun _=>?_,fun c=>absurd c (by simp[q])⟩
    walk_at "z"
    show _=T.int (ZX i k)
    unfold ZX
    rw[if_pos ⟨h,q⟩]
   ·refine⟨fun c=>absurd c (by simp;omega),fun _=>?_⟩
    walk_at "z"
    show _=T.int (ZX i k)
    unfold ZX
    rw[if_neg (fun c=>q c.2)]
  ·refine⟨fun c=>absurd c (by simp;omega),fun _=>⟨fun c=>absurd c (by decide),fun _=>?_⟩⟩
   walk_at "z"
   show _=T.int (ZX i k)
   unfold ZX
   rw[if_neg (fun c=>h c.1)]
theorem ZuE{d:Nat→Int}(hn:n≤900): Zl6 [Zx n c,Zx n d]=some (Zx n fun k=>c k+d k):=by
 apply Pk.eq
 unfold Zl6 ZhD Zx
 walk_at "z"
 refine ZmB (n:=n+1) (a:=fun i=>.int (c i)) (b:=fun i=>.int (d i)) (c:=fun i=>.int (c i+d i)) (by omega) ?_ (fun i hi=>?_) rfl
 ·walk_at "z"
  rfl
 ·walk_at "z"
  rfl
theorem Zje{d:Nat→Int}(hn:n≤900)(hb1:1≤b)(hb:b≤100000)(bd:∀i,i<n+1→Bd b (d i)): Zjl [Zx n c,Zx n d]=some (Zx n fun k=>c k-d k):=by
 apply Pk.eq
 unfold Zjl ZhE
 walk_at "z"
 refine Zg (ZdL (by omega) hb bd (show Bd b (-1)by unfold Bd;have:=ZcB hb1;unfold Bd at this;simpa using this)) ?_
 walk_at "z"
 refine Zg (ZuE hn) ?_
 walk_at "z"
 have:(fun k=>c k+d k * -1)=fun k=>c k-d k:=by funext k;omega
 rw[this]
noncomputable def ZdC(C:Nat→Nat→Int): Nat→Nat→Int
 | 0=>fun _=>0
 | i+1=>C i
noncomputable def dC(C:Nat→Nat→Int)(i j:Nat): Nat→Int:=fun k=>ZdC C i k-ZdC C j k
noncomputable def rcG(n:Nat)(G:Nat→Nat→Option Int)(C:Nat→Nat→Int)(i j:Nat): Option Int:=grt n G (dC C i j)
noncomputable def rcR(n:Nat)(R:Nat→Int×Int)(C:Nat→Nat→Int)(i:Nat): Int×Int:=Zae (C i) R n
noncomputable def Zaw(n m:Nat)(C:Nat→Nat→Int): T:=.lst (tab m fun i=>Zx n (C i))
def CB(b n m:Nat)(C:Nat→Nat→Int): Prop:=∀i,i<m→∀k,k<n+1→Bd b (C i k)
theorem CB.full(h:CB b n m C): ∀i,i<m+1→∀k,k<n+1→Bd b (ZdC C i k)
 | 0,_,_,_=>Zbb
 | i+1,hi,k,hk=>h i (by omega) k hk
theorem CB.dif(h:CB b n m C)(hi:i<m+1)(hj:j<m+1): ∀k,k<n+1→Bd (b+1) (dC C i j k):=fun k hk=>by
 have h1:=h.full i hi k hk
 have h2:=h.full j hj k hk
 unfold Bd dC at *
 rw[Nat.pow_succ]
 omega
theorem unC_0: ZX 0=fun _=>0:=by funext k;unfold ZX;rw[if_neg (by omega)]
theorem ZeJ(hG:GB b n G)(bc:∀i,i<n+1→Bd b (c i)): ∀y,grt n G c=some y→Bd (b+b+n+1) y:=fun y e=>by
 unfold grt at e
 by_cases h:Df n c
 ·rw[Zao h]at e
  obtain⟨u,d,_,_,_,_,hu,hd,_,_,iu,id_,_,_⟩:=Zew h
  rw[iu,id_]at e
  obtain⟨p,q,h1,h2,rfl⟩:=addO_some.mp (show addO (G u d) (some (c 0))=some y from e)
  cases h2
  exact((hG u d hu hd p h1).add (bc 0 (by omega))).mono (by omega)
 ·rw[Zas h]at e
  exact(ZrN bc (Zsn hG) n (Zz10 n) y e).mono (by omega)
theorem Zso(hG:GB b n G)(hC:CB b n m C)(hB:b+b+n+3≤B): SmG B m (rcG n G C):=fun i j hi hj y e=>(ZeJ (b:=b+1) (fun u v hu hv z e=>(hG u v hu hv z e).mono (by omega)) (hC.dif hi hj) y e).mono (by omega)
theorem ZsE(ok:∀t,t<n→RestOk (R t)): ∀t,t<m→RestOk (rcR n R C t):=fun t _=>by
 unfold rcR
 rw[ZcF ok n (Zz10 n)]
 exact Zbq (Zd1 _ _ _) _
theorem Zzl(ok:∀t,t<n→RestOk (R t))(hR:∀t,t<n→RBd b (R t))(hC:CB b n m C)(hB:b+b+n≤B): SmR B m (rcR n R C):=fun t ht=>by
 unfold rcR
 rw[ZcF ok n (Zz10 n)]
 exact Zh0 (Zd1 _ _ _) ((Zj5 (fun k hk=>hC t ht k hk) hR n (Zz10 n)).mono (by omega)) ((Zm7 (fun k hk=>hC t ht k hk) hR n (Zz10 n)).mono (by omega))
theorem ZAe(h:∀k,c k=0): ∀n,ZaD c n=[]
 | n=>List.eq_nil_iff_forall_not_mem.mpr fun i hi=>by have:=(ups_mem.mp hi).2.2;rw[h]at this;omega
theorem ZsF(h:∀k,c k=0): grt n G c=some 0:=by
 unfold grt
 have hd:¬Df n c:=fun q=>by have:=(df_iff.mp q).1;rw[ZAe h]at this;cases this
 rw[Zas hd]
 have:∀j,ZaX c (S40 G) j=(some 0,some 0):=fun j=>by
  induction j with
  | zero=>show(some (c 0),some (c 0))=_;rw[h]
  | succ j ih=>
   show ZiJ (ZaX c (S40 G) j) (Zbd (S40 G j) (c (j+1)))=_
   rw[ih,h]
   rfl
 show(ZaX c (S40 G) n).2=some 0
 rw[this]
theorem Zn1: ∀i,i<m+1→rcG n G C i i=some 0:=fun i _=>ZsF fun k=>by unfold dC;omega
theorem Zqu{kk:Int}{w at_ m lo:Int}{N:TL→Prop}(hk0:0≤kk)(hk9:kk≤1000)(hm:0<m)(hn:n≤9)(hK:K≤K')(hlo:-K'≤-lo)(hhi:m-1-lo≤K')(e0:σ 0=some (scr ns))(e1:σ 1=some (.int kk))(e2:σ 2=some (.int n))(e4:σ 4=some (.int w))(e5:σ 5=some (.int (1+at_)))(e3:σ 3=some (.lst (tab (n+1) fun i=>.int (c i))))(bc:SumB n c K)(h:∀σ' c',σ' 0=some (scr ns)→σ' 1=some (.int kk)→σ' 2=some (.int n)→σ' 4=some (.int w)→σ' 5=some (.int (1+at_))→σ' 3=some (.lst (tab (n+1) fun i=>.int (c' i)))→SumB n c' K'→N σ')(pm plo:PE)(epm:∀σ,pm σ=some (.int m))(eplo:∀σ,plo σ=some (.int lo)): Psk (Zcz (ZbI (Zq (Zh 2) ZD)) (ZaU 7) (ZbZ 3 [] (ZB Zdj (ZV Zb0 (Zq (Zh 0) (Zq (ZB Zaj (ZB Zaj (Zh 1) (ZH 1)) (Zh 7)) (Zq pm ZD)))) plo) Zbt (ZB Zaj (Zh 7) (ZH 1))) σ) Q N:=by
 refine Zb5 (n:=n) (a:=fun i=>.int i) (P:=fun _ σ'=>σ' 0=some (scr ns)∧σ' 1=some (.int kk)∧σ' 2=some (.int n)∧σ' 4=some (.int w)∧σ' 5=some (.int (1+at_))∧∃c',σ' 3=some (.lst (tab (n+1) fun i=>.int (c' i)))∧SumB n c' K') ?_ ⟨e0,e1,e2,e4,e5,c,e3,bc.mono hK⟩ ?_ ?_
 ·walk_at "z"
  rfl
 ·rintro i σ' hi ⟨f0,f1,f2,f4,f5,c',f3,bc'⟩
  obtain⟨k0,k1⟩:=Zbk ns (kk+1+(i:Int)) hm
  walk_at "z"
  refine⟨_,epm _,?_⟩
  walk_at "z"
  refine Zg (Zbl (by omega) (by omega) hm) ?_
  refine⟨_,eplo _,?_⟩
  walk_at "z"
  refine Zj7 (n:=n) (c:=c') (K:=K') (K':=K') (by walk_at "r") (by omega) (by omega) bc' (Int.le_refl _) (by omega) (by omega) fun c2 bc2=>?_
  exact⟨by walk_at "r",by walk_at "r",by walk_at "r",by walk_at "r",by walk_at "r",c2,ZbG,bc2⟩
 ·rintro σ' ⟨f0,f1,f2,f4,f5,c',f3,bc'⟩
  exact h σ' c' f0 f1 f2 f4 f5 f3 bc'
theorem ZsG{kk:Int}(hk0:0≤kk)(hk9:kk≤1000)(hL:Lay ns)(hn:n≤9): Pk (Zmr [scr ns,.int kk,.int n]) fun t=>∃c,t=Zx n c∧SumB n c 1000000000:=by
 unfold Zmr Zmq
 have bn:Bd 140 (Zba ns kk):=Zal (Zdu ns kk) (by decide)
 obtain⟨p0,p1⟩:=Zbk ns kk (show(0:Int)<6 by decide)
 refine Zr7 rfl ?_
 refine ZdW (fun σ'=>σ' 0=some (scr ns)∧σ' 1=some (.int kk)∧σ' 2=some (.int n)∧∃c,σ' 3=some (.lst (tab (n+1) fun i=>.int (c i)))∧SumB n c 0) ?_ ?_
 ·walk_at "z"
  refine Zg (ZdR hL (by omega) (by omega)) ?_
  walk_at "z"
  refine Zm8 (by omega) ?_
  refine Zrn (by omega) ?_
  rw[show cn (T.int (Zba ns kk)) (fun _=>T.int 0)=fun i=>T.int (cn (Zba ns kk) (fun _=>0) i)from by funext i;cases i <;> rfl]
  refine⟨Zhm fun _ _=>rfl,?_⟩
  refine⟨rfl,rfl,rfl,_,ZbG,bn,fun i h1 h2=>?_⟩
  cases i with
  | zero=>omega
  | succ i=>exact⟨Int.le_refl 0,Int.le_refl 0⟩
 rintro σ1 ⟨e0,e1,e2,c,e3,bc⟩
 walk_at "z"
 refine Zg (Zbl (by omega) (by omega) (by decide)) ?_
 by_cases hz:ZaN ns kk 6=0∨n=0
 ·rcases hz with hz | hz
  ·walk_at "z"
   exact⟨c,rfl,bc.mono (by decide)⟩
  ·by_cases q:ZaN ns kk 6=0
   ·walk_at "z"
    exact⟨c,rfl,bc.mono (by decide)⟩
   ·have:(n:Int)=0:=by omega
    walk_at "z"
    exact⟨c,rfl,bc.mono (by decide)⟩
 have hz1:ZaN ns kk 6≠0:=fun q=>hz (.inl q)
 have hn0:(n:Int)≠0:=fun q=>hz (.inr (by omega))
 obtain⟨a0,a1⟩:=Zbk ns (kk+1) (show(0:Int)<n by omega)
 walk_at "z"
 refine Zg (Zbl (by omega) (by omega) (by omega)) ?_
 refine Zni ?_
 generalize ZaN ns kk 6=w at *
 generalize ZaN ns (kk+1) n=at_ at *
 let M:Int→TL→Prop:=fun K σ'=>σ' 0=some (scr ns)∧σ' 1=some (.int kk)∧σ' 2=some (.int n)∧σ' 4=some (.int w)∧σ' 5=some (.int (1+at_))∧∃c,σ' 3=some (.lst (tab (n+1) fun i=>.int (c i)))∧SumB n c K
 refine ZdW (M 6) ?_ ?_
 ·walk_at "z"
  refine⟨fun q=>?_,fun q=>?_⟩
  ·obtain⟨k0,k1⟩:=Zbk ns (kk+2) (show(0:Int)<13 by decide)
   walk_at "z"
   refine Zg (Zbl (by omega) (by omega) (by decide)) ?_
   walk_at "z"
   refine Zj7 (n:=n) (c:=c) (K:=0) (K':=6) (by walk_at "r") (by omega) (by omega) bc (by decide) (by omega) (by omega) fun c' bc'=>?_
   exact⟨by walk_at "r",by walk_at "r",by walk_at "r",by walk_at "r",by walk_at "r",c',ZbG,bc'⟩
  ·walk_at "z"
   exact⟨by walk_at "r",by walk_at "r",by walk_at "r",by walk_at "r",by walk_at "r",c,by walk_at "r",bc.mono (by decide)⟩
 clear bc e3 c
 rintro σ2 ⟨f0,f1,f2,f4,f5,c1,f3,bc1⟩
 refine ZdW (M 7) ?_ ?_
 ·have go:Psk ((Z8 (ZaO 6 (ZB Zaj (ZH 1) (ZV Zb0 (Zq (Zh 0) (Zq (ZB Zaj (Zh 1) (ZH 2)) (Zq (Zh 2) ZD)))))) (Z8 (ZbZ 3 [] (ZH 1) Zbt (Zh 5)) (ZbZ 3 [] (ZB Zdj (ZB Z2 (Zh 3) (Zh 6)) (ZH 1)) Zbt (Zh 6)))) σ2) (fun t=>∃c,t=Zx n c∧SumB n c 1000000000) (M 7):=by
   obtain⟨k0,k1⟩:=Zbk ns (kk+2) (show(0:Int)<n by omega)
   walk_at "z"
   refine Zg (Zbl (by omega) (by omega) (by omega)) ?_
   generalize ZaN ns (kk+2) n=to_ at *
   walk_at "z"
   refine Zj7 (n:=n) (c:=c1) (K:=6) (K':=6) (by walk_at "r") (by omega) (by omega) bc1 (by decide) (by decide) (by decide) fun c' bc'=>?_
   have hto:=bc'.2 (1+to_).toNat (by omega) (by omega)
   walk_at "z"
   refine Zj7 (n:=n) (c:=c') (K:=6) (K':=7) (by walk_at "r") (by omega) (by omega) bc' (by decide) (by omega) (by omega) fun c2 bc2=>?_
   exact⟨by walk_at "r",by walk_at "r",by walk_at "r",by walk_at "r",by walk_at "r",c2,ZbG,bc2⟩
  have no:M 7 σ2:=⟨f0,f1,f2,f4,f5,c1,f3,bc1.mono (by decide)⟩
  by_cases q2:w=2
  ·refine Znh ?_
   refine⟨true,?_,fun _=>go,fun e=>by cases e⟩
   simp[bOr,Zat,ZB,Zh,f4,ZH,qEq,ZjU,Zbx,q2]
  ·by_cases q3:w=3
   ·refine Znh ?_
    refine⟨true,?_,fun _=>go,fun e=>by cases e⟩
    simp[bOr,Zat,ZB,Zh,f4,ZH,qEq,ZjU,Zbx,q3]
   ·walk_at "z"
    exact no
 clear bc1 f3 c1
 clear f0 f1 f2 f4 f5
 rintro σ3 ⟨f0,f1,f2,f4,f5,c1,f3,bc1⟩
 refine ZdW (M 7) ?_ ?_
 ·walk_at "z"
  refine⟨fun q=>?_,fun q=>?_⟩
  ·exact Zqu hk0 hk9 (m:=7) (lo:=3) (K:=7) (K':=7) (by decide) hn (by decide) (by decide) (by decide) f0 f1 f2 f4 f5 f3 bc1 (fun σ' c' g0 g1 g2 g4 g5 g3 bc'=>⟨g0,g1,g2,g4,g5,c',g3,bc'⟩) _ _ (fun _=>rfl) (fun _=>rfl)
  ·walk_at "z"
   exact⟨f0,f1,f2,f4,f5,c1,f3,bc1⟩
 clear bc1 f3 c1
 clear f0 f1 f2 f4 f5
 rintro σ4 ⟨f0,f1,f2,f4,f5,c1,f3,bc1⟩
 refine ZdW (M 1000000000) ?_ ?_
 ·walk_at "z"
  refine⟨fun q=>?_,fun q=>?_⟩
  ·exact Zqu hk0 hk9 (m:=2000000001) (lo:=1000000000) (K:=7) (K':=1000000000) (by decide) hn (by decide) (by decide) (by decide) f0 f1 f2 f4 f5 f3 bc1 (fun σ' c' g0 g1 g2 g4 g5 g3 bc'=>⟨g0,g1,g2,g4,g5,c',g3,bc'⟩) _ _ (fun _=>rfl) (fun _=>rfl)
  ·walk_at "z"
   exact⟨f0,f1,f2,f4,f5,c1,f3,bc1.mono (by decide)⟩
 rintro σ5 ⟨g0,g1,g2,g4,g5,c2,g3,bc2⟩
 walk_at "z"
 exact⟨c2,rfl,bc2⟩
theorem Zq3: ∀{n:Nat},(∀i,1≤i→i≤n→¬0<c i)→ZaD c n=[]
 | n,h=>List.eq_nil_iff_forall_not_mem.mpr fun i hi=>h i (ups_mem.mp hi).1 (ups_mem.mp hi).2.1 (ups_mem.mp hi).2.2
theorem Zq4: ∀{n:Nat},(∀i,1≤i→i≤n→¬c i<0)→ZaK c n=[]
 | n,h=>List.eq_nil_iff_forall_not_mem.mpr fun i hi=>h i (dns_mem.mp hi).1 (dns_mem.mp hi).2.1 (dns_mem.mp hi).2.2
theorem ZrP{c:Nat→Int}{a:Nat}: ∀{n:Nat},(∀i,1≤i→i≤n→(0<c i↔i=a))→1≤a→a≤n→ZaD c n=[a]
 | 0,_,h1,h2=>by omega
 | n+1,h,h1,h2=>by
  have hn:=h (n+1) (by omega) (by omega)
  show ZaD c n++(if 0<c (n+1)then [n+1]else [])=[a]
  by_cases q:n+1=a
  ·rw[if_pos (hn.mpr q),Zq3 (fun i g1 g2 g=>by have:=(h i g1 (by omega)).mp g;omega),q];rfl
  ·rw[if_neg (fun g=>q (hn.mp g)),ZrP (fun i g1 g2=>h i g1 (by omega)) h1 (by omega)];rfl
theorem ZrQ{c:Nat→Int}{a:Nat}: ∀{n:Nat},(∀i,1≤i→i≤n→(c i<0↔i=a))→1≤a→a≤n→ZaK c n=[a]
 | 0,_,h1,h2=>by omega
 | n+1,h,h1,h2=>by
  have hn:=h (n+1) (by omega) (by omega)
  show ZaK c n++(if c (n+1)<0 then [n+1]else [])=[a]
  by_cases q:n+1=a
  ·rw[if_pos (hn.mpr q),Zq4 (fun i g1 g2 g=>by have:=(h i g1 (by omega)).mp g;omega),q];rfl
  ·rw[if_neg (fun g=>q (hn.mp g)),ZrQ (fun i g1 g2=>h i g1 (by omega)) h1 (by omega)];rfl
theorem ZiB{a:Nat}(h:1≤a): ZX a a=1:=by unfold ZX;rw[if_pos ⟨by omega,rfl⟩]
theorem Zf3{a:Nat}(h:k≠a): ZX a k=0:=by unfold ZX;rw[if_neg (fun q=>h q.2)]
theorem Zzm{a:Nat}(ha:a<n+1)(hb:b<n+1)(hd:∀i,i<n+1→G i i=some 0): grt n G (fun k=>ZX a k-ZX b k)=G a b:=by
 by_cases hab:a=b
 ·subst hab
  rw[ZsF (fun k=>by omega),hd a ha]
 have c0:(fun k=>ZX a k-ZX b k) 0=0:=by
  show ZX a 0-ZX b 0=0
  unfold ZX
  rw[if_neg (by omega),if_neg (by omega)];rfl
 generalize hc:(fun k=>ZX a k-ZX b k)=c at *
 have hk:∀k,c k=ZX a k-ZX b k:=fun k=>by rw[←hc]
 have hu:∀k,(ZX a k=1∧1≤a∧k=a)∨(ZX a k=0∧(a=0∨k≠a)):=fun k=>by
  unfold ZX
  split
  ·rename_i q;exact .inl ⟨rfl,q.1,q.2⟩
  ·rename_i q;exact .inr ⟨rfl,by omega⟩
 have hv:∀k,(ZX b k=1∧1≤b∧k=b)∨(ZX b k=0∧(b=0∨k≠b)):=fun k=>by
  unfold ZX
  split
  ·rename_i q;exact .inl ⟨rfl,q.1,q.2⟩
  ·rename_i q;exact .inr ⟨rfl,by omega⟩
 have up:1≤a→ZaD c n=[a]:=fun h1=>ZrP (fun i g1 g2=>by rw[hk];have:=hu i;have:=hv i;omega) h1 (by omega)
 have up0:a=0→ZaD c n=[]:=fun h1=>Zq3 fun i g1 g2=>by rw[hk];have:=hu i;have:=hv i;omega
 have dn:1≤b→ZaK c n=[b]:=fun h1=>ZrQ (fun i g1 g2=>by rw[hk];have:=hu i;have:=hv i;omega) h1 (by omega)
 have dn0:b=0→ZaK c n=[]:=fun h1=>Zq4 fun i g1 g2=>by rw[hk];have:=hu i;have:=hv i;omega
 unfold grt
 by_cases h:1≤a∧1≤b
 ·have ca:c a=1:=by rw[hk,ZiB h.1,Zf3 (by omega)];rfl
  have cb:c b = -1:=by rw[hk,ZiB h.2,Zf3 (by omega)];rfl
  have hD:Df n c:=df_iff.mpr ⟨by rw[up h.1,List.map_cons,ca];rfl,by rw[dn h.2,List.map_cons,cb];rfl⟩
  rw[Zao hD]
  obtain⟨u,d,e1,e2,_,_,_,_,_,_,i1,i2,_,_⟩:=Zew hD
  rw[up h.1]at e1
  rw[dn h.2]at e2
  cases e1;cases e2
  show addO (G (1+(xsI n c).idxOf 1) (1+(xsI n c).idxOf (-1))) (some (c 0))=_
  rw[i1,i2,c0]
  cases G a b with
  | none=>rfl
  | some y=>show some (y+0)=some y;rw[Int.add_zero]
 ·have hD:¬Df n c:=fun q=>by
   obtain⟨h1,h2⟩:=df_iff.mp q
   by_cases g:1≤a
   ·rw[dn0 (by omega)]at h2;cases h2
   ·rw[up0 (by omega)]at h1;cases h1
  rw[Zas hD]
  show(ZaX c (S40 G) n).2=_
  obtain⟨t1,t2⟩:=tot (G:=G) (c:=c) n
  by_cases g:1≤a
  ·have hb0:b=0:=by omega
   have ca:c a=1:=by rw[hk,ZiB g,Zf3 (by omega)];rfl
   subst hb0
   cases e:G a 0 with
   | none=>exact t1 (.inl ⟨a,by rw[up g];exact Zz9.mpr rfl,e⟩)
   | some y=>
    rw[t2 (fun q=>by
     rcases q with⟨i,hi,q⟩ | ⟨i,hi,q⟩
     ·rw[up g]at hi;rw[List.mem_singleton.mp hi,e]at q;cases q
     ·rw[dn0 rfl]at hi;cases hi),up g,dn0 rfl,c0]
    simp[sU,sD,ca,e]
  ·have ha0:a=0:=by omega
   have hb1:1≤b:=by omega
   have cb:c b = -1:=by rw[hk,ZiB hb1,Zf3 (by omega)];rfl
   subst ha0
   cases e:G 0 b with
   | none=>exact t1 (.inr ⟨b,by rw[dn hb1];exact Zz9.mpr rfl,e⟩)
   | some y=>
    rw[t2 (fun q=>by
     rcases q with⟨i,hi,q⟩ | ⟨i,hi,q⟩
     ·rw[up0 rfl]at hi;cases hi
     ·rw[dn hb1]at hi;rw[List.mem_singleton.mp hi,e]at q;cases q),up0 rfl,dn hb1,c0]
    simp[sU,sD,cb,e]
theorem Znu{a:Nat}{R:Nat→Int×Int}(h1:1≤a)(nn:0≤(R (a-1)).1): ∀j,Zcm (ZX a) R j=(if a≤j then(R (a-1)).1 else 0)∧Zc8 (ZX a) R j=if a≤j then(R (a-1)).2 else 0
 | 0=>by
  rw[if_neg (by omega),if_neg (by omega)]
  exact⟨rfl,Zf3 (by omega)⟩
 | j+1=>by
  obtain⟨i1,i2⟩:=Znu h1 nn j
  show((Int.gcd (Zcm (ZX a) R j) (ZX a (j+1)*(R j).1):Nat):Int)=_∧Zc8 (ZX a) R j+ZX a (j+1)*(R j).2=_
  rw[i1,i2]
  by_cases q:j+1=a
  ·subst q
   rw[ZiB h1,if_neg (by omega),if_pos (by omega),if_neg (by omega),if_pos (by omega),Nat.add_sub_cancel]
   rw[Nat.add_sub_cancel]at nn
   constructor
   ·rw[Int.one_mul,Int.gcd_zero_left];omega
   ·omega
  ·rw[Zf3 q,Int.zero_mul,Int.zero_mul,Int.gcd_zero_right]
   by_cases g:a≤j
   ·rw[if_pos g,if_pos (by omega),if_pos g,if_pos (by omega)]
    exact⟨by omega,by omega⟩
   ·rw[if_neg g,if_neg (by omega),if_neg g,if_neg (by omega)]
    exact⟨rfl,rfl⟩
theorem Zm9{a:Nat}(ok:∀t,t<n→RestOk (R t))(h1:1≤a)(h2:a≤n): Zae (ZX a) R n=R (a-1):=by
 have oa:=ok (a-1) (by omega)
 rw[ZcF ok n (Zz10 n),(Znu h1 oa.nn n).1,(Znu h1 oa.nn n).2,if_pos h2,if_pos h2]
 exact ZlN (Zbq oa.nn _) oa fun x=>by rw[Zdb oa.nn,ZbE oa.nn]
noncomputable def fO(o:Nat→Nat): Nat→Nat
 | 0=>0
 | t+1=>o t
noncomputable def trG(G:Nat→Nat→Option Int)(o:Nat→Nat)(i j:Nat): Option Int:=G (fO o i) (fO o j)
noncomputable def trR(R:Nat→Int×Int)(o:Nat→Nat)(t:Nat): Int×Int:=R (o t-1)
def Ord(n m:Nat)(o:Nat→Nat): Prop:=∀t,t<m→1≤o t∧o t≤n
theorem Ord.lt{o:Nat→Nat}(h:Ord n m o): ∀i,i<m+1→fO o i<n+1
 | 0,_=>by show 0<n+1;omega
 | t+1,ht=>by have:=h t (by omega);show o t<n+1;omega
theorem ZrR{o:Nat→Nat}: ∀i,ZdC (fun t=>ZX (o t)) i=ZX (fO o i)
 | 0=>unC_0.symm
 | t+1=>rfl
theorem ZAf{o:Nat→Nat}(hd:∀i,i<n+1→G i i=some 0)(ho:Ord n m o): ∀i j,i<m+1→j<m+1→rcG n G (fun t=>ZX (o t)) i j=trG G o i j:=fun i j hi hj=>by
 unfold rcG dC trG
 rw[ZrR,ZrR]
 exact Zzm (ho.lt i hi) (ho.lt j hj) hd
theorem Zzn{o:Nat→Nat}(ok:∀t,t<n→RestOk (R t))(ho:Ord n m o): ∀t,t<m→rcR n R (fun t=>ZX (o t)) t=trR R o t:=fun t ht=>Zm9 ok (ho t ht).1 (ho t ht).2
theorem Znv{x:Nat}{s:Sp}(hd:∀i,i<n+1→G i i=some 0): ∀i,i<n+1→Zck (Zb6 G (x+1)) (x+1) s i i=some 0:=fun i hi=>by
 unfold Zck
 rw[Zdd (by omega),Zdd (by omega)]
 unfold Zb6
 by_cases c:i=x+1
 ·rw[if_pos c,if_pos c]
 ·rw[if_neg c,if_neg c,hd i hi]
def DueOk(m:Nat)(D:T): Prop:=D=.none∨∃G R,D=Zf m G R∧(∀i,i<m+1→G i i=some 0)∧∀t,t<m→RestOk (R t)
theorem DueOk.sh(h:DueOk m D): D=.none∨∃G R,D=Zf m G R:=by
 rcases h with rfl | ⟨G,R,rfl,_,_⟩
 ·exact .inl rfl
 ·exact .inr ⟨G,R,rfl⟩
theorem Zpo{S:T}: ZbN [.none,S]=some .none:=by
 apply Pk.eq
 unfold ZbN ZfF
 walk_at "z"
 rfl
theorem Zvg{K:Nat}(hM:0<M)(bM:Bd K M)(bG:BdG (n+1) k G)(hk:k+n+1≤K)(s:Sharp n G R G2 R2 M K): BdG (n+1) (K+n+2) G2∧∀t,t<n→RBd K (R2 t):=by
 obtain⟨R1,_,h1,_,_,rfl,h2⟩:=s.go
 refine⟨?_,fun t ht=>(h2 t ht).1.bd hM bM⟩
 have b1:BdG (n+1) K (clG G (n+1)):=fun a b c ha hb e=>(ZiI bG (n+1) (Zz10 _) a b c ha hb e).mono (by omega)
 have b2:=Zsj hM bM b1 fun t ht=>(h1 t ht).1
 exact fun a b c ha hb e=>(ZiI b2 (n+1) (Zz10 _) a b c ha hb e).mono (by omega)
def Zgi(N:Nat)(R:Nat→Int×Int)(p:Nat→Nat)(R':Nat→Int×Int)(L:Nat)(ρ:Nat→Option (Int×Int)): Prop:=(∀t,t<N→(∀j,j<L→p j≠t)→ρ t=some (R t))∧∀j,j<L→Met (R (p j)) (R' j) (ρ (p j))
theorem ZvY{L:Nat}{p:Nat→Nat}(hp:∀i,i<L+1→p i<N)(inj:∀i j,i<L+1→j<L+1→p i=p j→i=j)(h:Zgi N R p R' L ρ)(hm:Met (R (p L)) (R' L) o): Zgi N R p R' (L+1) (fun t=>if t=p L then o else ρ t):=by
 refine⟨fun t ht hn=>?_,fun j hj=>?_⟩
 ·have:t≠p L:=fun e=>hn L (by omega) e.symm
  simp only[this,if_false]
  exact h.1 t ht fun j hj=>hn j (by omega)
 ·by_cases c:j=L
  ·subst c
   simp only[if_true]
   exact hm
  ·have:p j≠p L:=fun e=>c (inj j L hj (by omega) e)
   simp only[this,if_false]
   exact h.2 j (by omega)
theorem Zx8: (oR o).flat=true:=by cases o <;> rfl
theorem Zzo: (tab N fun t=>if t=k then oR o else oR (ρ t))=tab N fun t=>oR (if t=k then o else ρ t):=Za5 fun t _=>by
 by_cases c:t=k
 ·rw[if_pos c,if_pos c]
 ·rw[if_neg c,if_neg c]
def ZsH(N:Nat)(G:Nat→Nat→Option Int)(ρ:Nat→Option (Int×Int))(t:T): Prop:=(t=.none∧∃i,i<N∧ρ i=none)∨(t=Zf N G (fun i=>(ρ i).getD (1,0))∧∀i,i<N→ρ i≠none)
noncomputable def qOf(p:Nat→Nat): Nat→Nat
 | 0=>0
 | i+1=>p i+1
theorem ZAC(p:Nat→Nat): cn (T.int 0) (fun i=>T.int ((p i:Int)+1))=fun i=>T.int (qOf p i:Nat):=by
 funext i
 cases i with
 | zero=>rfl
 | succ i=>show T.int ((p i:Int)+1)=T.int ((p i+1:Nat):Int);congr 1
theorem ZwW(h:∀i,i<N→ρ i≠none): T.tup [ZN (N+1) G,.lst (tab N fun t=>oR (ρ t))]=Zf N G (fun i=>(ρ i).getD (1,0)):=by
 unfold Zf ZaI
 congr 4
 refine Za5 fun i hi=>?_
 show oR (ρ i)=Zy ((ρ i).getD (1,0))
 cases e:ρ i with
 | none=>exact absurd e (h i hi)
 | some q=>rfl
theorem Zvh{L:Nat}{p:Nat→Nat}(hN:N≤90)(hL:L≤90)(hb:b≤8000)(hp:∀i,i<L→p i<N)(inj:∀i j,i<L→j<L→p i=p j→i=j)(ok:∀t,t<N→RestOk (R t))(ok':∀t,t<L→RestOk (R' t))(bR:∀t,t<N→RBd b (R t))(bR':∀t,t<L→RBd b (R' t)): Pk (Zfx [Zf N Γ R,.lst (tab L fun i=>.int ((p i:Int)+1)),Zf L G' R']) fun t=>∃ρ,Zgi N R p R' L ρ∧ZsH N (ZcP (qOf p) G' (L+1) Γ (L+1)) ρ t:=by
 unfold Zfx ZhV
 have ht:∀{n:Nat} {G:Nat→Nat→Option Int} {R:Nat→Int×Int},Zf n G R=.tup [ZN (n+1) G,.lst (tab n fun i=>Zy (R i))]:=rfl
 rw[ht,ht]
 walk_at "z"
 refine ZeG (n:=L) (a:=fun i=>.int ((p i:Int)+1)) (c:=fun i=>Zy (R' i)) (P:=fun i σ=>∃ρ,σ 0=some (.tup [ZN (N+1) Γ,.lst (tab N fun i=>Zy (R i))])∧σ 1=some (.lst (tab L fun i=>.int ((p i:Int)+1)))∧σ 2=some (.tup [ZN (L+1) G',.lst (tab L fun i=>Zy (R' i))])∧σ 3=some (.lst (tab N fun t=>oR (ρ t)))∧Zgi N R p R' i ρ) ?_ ⟨fun t=>some (R t),by walk_at "r",by walk_at "r",by walk_at "r",by walk_at "r",fun t _ _=>rfl,fun j hj=>by omega⟩ ?_ ?_
 ·walk_at "z"
  rfl
 ·rintro i σ hi ⟨ρ,e0,e1,e2,e3,hl⟩
  have hpi:=hp i hi
  have hidx:((p i:Int)+1-1).toNat=p i:=by omega
  have hr:ρ (p i)=some (R (p i)):=hl.1 (p i) hpi fun j hj e=>by have:=inj j i (by omega) hi e;omega
  walk_at "z"
  rw[hidx,hr]
  refine(Zjc (k:=b) hb (ok _ hpi) (ok' i hi) (bR _ hpi) (bR' i hi)).mono ?_
  rintro _ ⟨o,rfl,hm,_⟩
  refine⟨Zx8,?_⟩
  walk_at "z"
  refine Zmj (n:=N) (f:=fun t=>oR (ρ t)) (by walk_at "r") (by omega) (by omega) ?_
  rw[hidx,Zzo]
  exact⟨_,by walk_at "r",by walk_at "r",by walk_at "r",by walk_at "r",ZvY (fun j hj=>hp j (by omega)) (fun i' j' h1 h2=>inj i' j' (by omega) (by omega)) hl hm⟩
 ·rintro σ ⟨ρ,e0,e1,e2,e3,hl⟩
  have hq:∀i,i<L+1→qOf p i<N+1:=fun i hi=>by
   cases i with
   | zero=>exact Nat.succ_pos N
   | succ i=>show p i+1<N+1;have:=hp i (by omega);omega
  walk_at "z"
  refine ZkD (.none (n:=0)) (ZeQ (n:=1) fun i _=>ZnM) ?_
  by_cases hc:∃i,i<N∧ρ i=none
  ·obtain⟨i,hi,ei⟩:=hc
   rw[Zao (show T.none∈tab N fun i=>oR (ρ i)from List.mem_of_getElem? (i:=i) (by rw[ZaS hi,ei];rfl))]
   walk_at "z"
   exact⟨ρ,hl,.inl ⟨rfl,i,hi,ei⟩⟩
  ·rw[Zas (show ¬T.none∈tab N fun i=>oR (ρ i)from fun h=>by
    obtain⟨i,hi,e⟩:=Zco h
    exact hc ⟨i,hi,oR_none.mp e.symm⟩)]
   have hne:∀i,i<N→ρ i≠none:=fun i hi e=>hc ⟨i,hi,e⟩
   walk_at "z"
   rw[ZAC]
   refine Zg (ZsV (by omega) (by omega) hq) ?_
   walk_at "z"
   exact⟨ρ,hl,.inr ⟨ZwW hne,hne⟩⟩
noncomputable def apC(c:Nat→Int)(i j:Nat): Nat→Int:=fun k=>ZX i k-ZX j k-c k
noncomputable def alC(c:Nat→Int)(i:Nat): Nat→Int:=fun k=>ZX i k*c i-c k
theorem ZeV: ZX i k=0∨ZX i k=1:=by unfold ZX;split;exact .inr rfl;exact .inl rfl
theorem ZsI(hb:1≤b)(bc:∀i,i<n+1→Bd b (c i))(i j:Nat): ∀k,k<n+1→Bd (b+2) (apC c i j k):=fun k hk=>by
 have h:=bc k hk
 have h1:=ZeV (i:=i) (k:=k)
 have h2:=ZeV (i:=j) (k:=k)
 have h3:2≤2 ^ b:=by
  have:2 ^ 1≤2 ^ b:=Nat.pow_le_pow_right (by decide) hb
  exact this
 unfold Bd apC at *
 rw[Nat.pow_add]
 omega
theorem ZsJ(bc:∀i,i<n+1→Bd b (c i))(i:Nat)(hi:i<n+1): ∀k,k<n+1→Bd (b+2) (alC c i k):=fun k hk=>by
 have h:=bc k hk
 have g:=bc i hi
 unfold alC
 rcases ZeV (i:=i) (k:=k)with e | e
 ·rw[e,Int.zero_mul];unfold Bd at *;rw[Nat.pow_add];omega
 ·rw[e,Int.one_mul];unfold Bd at *;rw[Nat.pow_add];omega
theorem Zp1(h:∀i j,i<N→j<N→G i j=G' i j): ZN N G=ZN N G':=by
 unfold ZN Z9
 rw[show(tab N fun i=>T.lst (tab N fun j=>oT (G i j)))=tab N fun i=>T.lst (tab N fun j=>oT (G' i j))from Za5 fun i hi=>by rw[Za5 fun j hj=>by rw[h i j hi hj]]]
noncomputable def Wv(w G:Nat→Nat→Option Int)(i j:Nat): Nat→Nat→Option Int:=fun a b=>if a<i∨(a=i∧b<j)then w a b else G a b
theorem Zzp: Zay (Wv w G i j) i j (w i j)=Wv w G i (j+1):=by
 funext a b
 unfold Zay Wv
 by_cases h:a=i∧b=j
 ·rw[if_pos h,if_pos (by omega),h.1,h.2]
 ·rw[if_neg h]
  by_cases q:a<i∨(a=i∧b<j)
  ·rw[if_pos q,if_pos (by omega)]
  ·rw[if_neg q,if_neg (by omega)]
theorem ZAg: Wv w G i j i j=G i j:=by unfold Wv;rw[if_neg (by omega)]
theorem Zzq: ZN N (Wv w G i N)=ZN N (Wv w G (i+1) 0):=Zp1 fun a b ha hb=>by
 unfold Wv
 by_cases q:a<i∨(a=i∧b<N)
 ·rw[if_pos q,if_pos (by omega)]
 ·rw[if_neg q,if_neg (by omega)]
theorem ZAD: Wv w G 0 0=G:=by funext a b;unfold Wv;rw[if_neg (by omega)]
theorem Zzr: ZN N (Wv w G N 0)=ZN N w:=Zp1 fun a b ha hb=>by unfold Wv;rw[if_pos (.inl ha)]
noncomputable def apW(n:Nat)(G:Nat→Nat→Option Int)(c:Nat→Int)(top:Int)(a b:Nat): Option Int:=if a=b then G a b else ZaP (G a b) (addO (grt n G (apC c a b)) (some top))
theorem ZiY{k:Int}(hi:i≤9000)(hk0:k≠0)(hk:Bd i k): Zg2 [oT a,.int k]=some (oT (a.map fun x=>x.fdiv k)):=by
 apply Pk.eq
 unfold Zg2 Zg1
 cases a with
 | none=>
  simp only[Zbs]
  walk_at "z"
  rfl
 | some x=>
  rw[ZaF]
  walk_at "z"
  refine ZcK hk0 (ZeU hk hi) ?_
  rfl
noncomputable def prt(n:Nat)(G:Nat→Nat→Option Int)(c:Nat→Int)(top:Int)(i:Nat): Option Int:=(addO (grt n G (alC c i)) (some top)).map fun y=>y.fdiv (if c i<0 then -(c i)else c i)
noncomputable def alW(n:Nat)(G:Nat→Nat→Option Int)(c:Nat→Int)(top:Int)(Γ:Nat→Nat→Option Int)(m:Nat): Nat→Nat→Option Int:=fun a b=>if b=0∧1≤a∧a≤m∧0<c a then ZaP (Γ a 0) (prt n G c top a)else if a=0∧1≤b∧b≤m∧c b<0 then ZaP (Γ 0 b) (prt n G c top b)else Γ a b
theorem ZAh: alW n G c top Γ 0=Γ:=by
 funext a b
 unfold alW
 rw[if_neg (by omega),if_neg (by omega)]
theorem Zx9(h:0<c (m+1)): Zay (alW n G c top Γ m) (m+1) 0 (ZaP (alW n G c top Γ m (m+1) 0) (prt n G c top (m+1)))=alW n G c top Γ (m+1):=by
 have e:alW n G c top Γ m (m+1) 0=Γ (m+1) 0:=by unfold alW;rw[if_neg (by omega),if_neg (by omega)]
 rw[e]
 funext a b
 unfold Zay alW
 by_cases q:a=m+1∧b=0
 ·obtain⟨rfl,rfl⟩:=q
  rw[if_pos ⟨rfl,rfl⟩,if_pos ⟨rfl,by omega,by omega,h⟩]
 ·have i1:(b=0∧1≤a∧a≤m+1∧0<c a)↔(b=0∧1≤a∧a≤m∧0<c a):=by omega
  have i2:(a=0∧1≤b∧b≤m+1∧c b<0)↔(a=0∧1≤b∧b≤m∧c b<0):=by
   by_cases g:b=m+1
   ·subst g;omega
   ·omega
  rw[if_neg q]
  simp only[i1,i2]
theorem Zya(h:c (m+1)<0): Zay (alW n G c top Γ m) 0 (m+1) (ZaP (alW n G c top Γ m 0 (m+1)) (prt n G c top (m+1)))=alW n G c top Γ (m+1):=by
 have e:alW n G c top Γ m 0 (m+1)=Γ 0 (m+1):=by unfold alW;rw[if_neg (by omega),if_neg (by omega)]
 rw[e]
 funext a b
 unfold Zay alW
 by_cases q:a=0∧b=m+1
 ·obtain⟨rfl,rfl⟩:=q
  rw[if_pos ⟨rfl,rfl⟩,if_neg (by omega),if_pos ⟨rfl,by omega,by omega,h⟩]
 ·have i1:(b=0∧1≤a∧a≤m+1∧0<c a)↔(b=0∧1≤a∧a≤m∧0<c a):=by
   by_cases g:a=m+1
   ·subst g;omega
   ·omega
  have i2:(a=0∧1≤b∧b≤m+1∧c b<0)↔(a=0∧1≤b∧b≤m∧c b<0):=by omega
  rw[if_neg q]
  simp only[i1,i2]
theorem ZwX(h:c (m+1)=0): alW n G c top Γ m=alW n G c top Γ (m+1):=by
 funext a b
 unfold alW
 have i1:(b=0∧1≤a∧a≤m+1∧0<c a)↔(b=0∧1≤a∧a≤m∧0<c a):=by
  by_cases g:a=m+1
  ·subst g;omega
  ·omega
 have i2:(a=0∧1≤b∧b≤m+1∧c b<0)↔(a=0∧1≤b∧b≤m∧c b<0):=by
  by_cases g:b=m+1
  ·subst g;omega
  ·omega
 simp only[i1,i2]
noncomputable def amG(n:Nat)(G:Nat→Nat→Option Int)(c:Nat→Int)(top:Int): Nat→Nat→Option Int:=alW n G c top (apW n G c top) n
noncomputable def gT(N:Nat)(Γ:Nat→Nat→Option Int): T:=.lst (tab N fun a=>.lst (tab N fun b=>oT (Γ a b)))
theorem Zj8{b:Option Int}(ha:∀y,a=some y→Bd k y)(hb:∀y,b=some y→Bd k y): ∀y,ZaP a b=some y→Bd k y:=fun y e=>by
 rcases ZfQ a b with q | q
 ·exact ha y (q▸e)
 ·exact hb y (q▸e)
theorem ZwY{k:Int}(hk:0<k): (x.fdiv k).natAbs≤x.natAbs:=by
 rw[Int.fdiv_eq_ediv_of_nonneg x (by omega)]
 have e1:x / k*k≤x:=Int.ediv_mul_le x (by omega)
 have e2:x<(x / k+1)*k:=Int.lt_ediv_add_one_mul_self x hk
 generalize x / k=q at *
 rcases Int.lt_trichotomy q 0 with h | h | h
 ·-- q≤-1,x<(q+1) k≤q+1
  have:(q+1)*k≤q+1:=by
   have:=Int.mul_le_mul_of_nonpos_left (a:=q+1) (b:=k) (c:=1) (by omega) (by omega)
   simpa using this
  omega
 ·omega
 ·have:q*1≤q*k:=Int.mul_le_mul_of_nonneg_left (by omega) (by omega)
  omega
theorem Zyb{k:Int}(h:Bd i x)(hk:0<k): Bd i (x.fdiv k):=Nat.lt_of_le_of_lt (ZwY hk) h
theorem ZAi(hb1:1≤b)(hG:GB b n G)(bc:∀i,i<n+1→Bd b (c i))(bt:Bd b top)(hB:b+b+n+6≤B): SmG B n (amG n G c top):=by
 have hG2:GB (b+2) n G:=fun a b ha hb y e=>(hG a b ha hb y e).mono (by omega)
 have s1:∀{d:Nat→Int},(∀k,k<n+1→Bd (b+2) (d k))→∀y,addO (grt n G d) (some top)=some y→Bd B y:=fun bd y e=>by
  obtain⟨p,q,h1,h2,rfl⟩:=addO_some.mp e
  cases h2
  exact((ZeJ hG2 bd p h1).add (bt.mono (by omega))).mono (by omega)
 have sG:∀i j,i<n+1→j<n+1→∀y,G i j=some y→Bd B y:=fun i j hi hj y e=>(hG i j hi hj y e).mono (by omega)
 have sA:∀i j,i<n+1→j<n+1→∀y,apW n G c top i j=some y→Bd B y:=fun i j hi hj y e=>by
  unfold apW at e
  split at e
  ·exact sG i j hi hj y e
  ·exact Zj8 (sG i j hi hj) (s1 (ZsI hb1 bc i j)) y e
 have sP:∀i,i<n+1→c i≠0→∀y,prt n G c top i=some y→Bd B y:=fun i hi h0 y e=>by
  unfold prt at e
  obtain⟨z,h1,rfl⟩:=Zz1.mp e
  exact Zyb (s1 (ZsJ bc i hi) z h1) (by split <;> omega)
 intro i j hi hj y e
 show Bd B y
 unfold amG alW at e
 split at e
 ·rename_i q
  exact Zj8 (sA i 0 hi (by omega)) (sP i hi (by omega)) y e
 ·split at e
  ·rename_i q
   exact Zj8 (sA 0 j (by omega) hj) (sP j hj (by omega)) y e
  ·exact sA i j hi hj y e
theorem ZiS(hd:∀i,i<n+1→G i i=some 0): ∀i,i<n+1→amG n G c top i i=some 0:=fun i hi=>by
 unfold amG alW
 rw[if_neg (by omega),if_neg (by omega)]
 unfold apW
 rw[if_pos rfl,hd i hi]
theorem ZnO(i j:Nat): leO (apW n G c top i j) (G i j):=by
 unfold apW
 split
 ·exact Za6
 ·exact Zd6
theorem ZAj(i j:Nat): leO (amG n G c top i j) (G i j):=by
 unfold amG alW
 split
 ·rename_i q
  rw[q.1]
  exact Zcf Zd6 (ZnO i 0)
 ·split
  ·rename_i q
   rw[q.1]
   exact Zcf Zd6 (ZnO 0 j)
  ·exact ZnO i j
theorem Zyc(hn:n≤100): Dp 8 (ZN (n+1) G):=by
 refine .lst (fun t m=>?_) (by rw[Zaa];omega)
 obtain⟨i,hi,rfl⟩:=Zco m
 refine .lst (fun t m=>?_) (by rw[Zaa];omega)
 obtain⟨j,hj,rfl⟩:=Zco m
 exact ZnN
theorem Zug{c:T}: ZcC [.none,c,t]=some .none:=by
 apply Pk.eq
 unfold ZcC Zev
 walk_at "z"
 rfl
theorem Znw{n b:Nat}{c x:Nat→Int}(bc:∀i,i<n+1→Bd b (c i))(bx:∀i,i<n→Bd b (x i)): ∀j,j≤n→Bd (b+b+j) (Zcd c x j)
 | 0,_=>(bc 0 (by omega)).mono (by omega)
 | j+1,hj=>by
  have h1:=Znw bc bx j (by omega)
  have h2:=((bc (j+1) (by omega)).mul (bx j (by omega))).mono (show b+b≤b+b+j by omega)
  exact h1.add h2
noncomputable def ZdH(c:Nat→Int)(top:Int): Nat→Int:=fun k=>if k=0 then c 0-top else c k
theorem Zzs(bc:∀i,i<n+1→Bd b (c i))(bt:Bd b top): ∀i,i<n+1→Bd (b+1) (ZdH c top i):=fun i hi=>by
 unfold ZdH
 split
 ·exact(bc 0 (by omega)).sub bt
 ·exact(bc i hi).mono (by omega)
theorem su: PyData.strOk (Str.ofString "under")=true:=by decide +kernel
noncomputable def unT(n:Nat)(c:Nat→Int): T:=.tup [.str (Str.ofString "under"),Zx n c]
theorem Zmv: (fun k=>c k * -1)=fun k=>-(c k):=by funext k;omega
theorem Zot(h:ZcC [T0,Zx n c,.int (-1)]=some D): Zfh [T0,Zx n c,.bool true]=some D:=by
 apply Pk.eq
 unfold Zfh Zfg
 walk_at "z"
 exact Zg h rfl
theorem ZoH(hn:n≤900)(hb1:1≤b)(hb:b≤1000)(bc:∀i,i<n+1→Bd b (c i))(h:ZcC [T0,Zx n fun k=>-(c k),.int 0]=some D): Zfh [T0,Zx n c,.bool false]=some D:=by
 apply Pk.eq
 unfold Zfh Zfg
 walk_at "z"
 refine Zg (ZdL (b:=b) (by omega) (by omega) bc (show Bd b (-1)by unfold Bd;have:=ZcB hb1;unfold Bd at this;simpa using this)) ?_
 rw[Zmv]
 walk_at "z"
 exact Zg h rfl
theorem Zj9{b:Bool}(hT:T0=.none∨∃G R,T0=Zf n G R)(h0:T0=.none→D=.none)(h:Zfh [T0,Zx n c,.bool b]=some D): Zdh [T0,unT n c,.bool b]=some D:=by
 apply Pk.eq
 unfold Zdh ZeT
 rcases hT with rfl | ⟨G,R,rfl⟩
 ·rw[h0 rfl]
  walk_at "z"
  rfl
 ·have ht:Zf n G R=.tup [ZN (n+1) G,.lst (tab n fun i=>Zy (R i))]:=rfl
  have hne:∀{Q:T→Prop},Q (.bool false)→Pk (qIs (Zf n G R) .none) Q:=fun h=>⟨_,by rw[ht];rfl,h⟩
  unfold unT
  walk_at "z"
  refine hne ?_
  walk_at "z"
  refine ZcL (n:=1) (m:=1) (.str su) (.str su) ?_
  rw[Zao rfl]
  walk_at "z"
  exact Zg h rfl
def Tm(n K:Nat)(M:Int)(P:(Nat→Int)→Prop)(I:(Nat→Nat→Option Int)→(Nat→Int×Int)→Prop)(D:T): Prop:=(D=.none∧∀x,¬P x)∨∃G R,D=Zf n G R∧(∀i,i<n+1→G i i=some 0)∧(∀t,t<n→RB M K (R t))∧GB K n G∧(∀x,P x→Zc7 n G R x)∧I G R
theorem Zem(hn:n≤100)(hi:1≤i)(hi2:i≤9000)(bc:∀j,j<n+1→Bd i (c j))(bR:∀j,j<n→RBd i (R j))(ok:∀j,j<n→RestOk (R j)): Zhx [Zx n c,.lst (tab n fun j=>Zy (R j))]=some (Zy (Zae c R n)):=by
 apply Pk.eq
 unfold Zhx Zhw Zx
 walk_at "z"
 refine ZeG (n:=n) (a:=fun j=>.int (c (j+1))) (c:=fun j=>Zy (R j)) (P:=fun j σ=>σ 2=some (Zy (Zae c R j))) ?_ rfl ?_ ?_
 ·refine Znj ?_
  refine Zjy ?_
  walk_at "z"
  refine⟨_,rfl,?_⟩
  rw[ZmL]
  walk_at "z"
  rfl
 ·rintro j σ hj e2
  have hr:=(ok j hj).nn
  have bt:Bd (i+i) (ZbO (R j) (c (j+1))).1:=by
   unfold ZbO
   rw[ZcT]
   exact(bR j hj).1.mul (ZrF (bc (j+1) (by omega)))
  have bv:Bd (i+i) (Zae c R j).1:=by
   rw[ZcF ok j (by omega),ZcT]
   exact Zj5 bc bR j (by omega)
  walk_at "z"
  refine Zg (Zlp (k:=i) (by omega) hr (bR j hj) (bc (j+1) (by omega))) ?_
  walk_at "z"
  refine Zg (Zlx (k:=i+i) (by omega) bv bt) ?_
  walk_at "z"
  exact ZbG
 ·rintro σ e2
  walk_at "z"
  rfl
noncomputable def ZbC(c:Nat→Int)(i:Nat): Nat→Int:=fun k=>c k-ZX i k*c i
theorem Zzt(bc:∀i,i<n+1→Bd b (c i))(i:Nat)(hi:i<n+1): ∀k,k<n+1→Bd (b+1) (ZbC c i k):=fun k hk=>by
 have h1:=bc k hk
 have h2:=bc i hi
 have h3:Bd b (ZX i k*c i):=by
  rcases ZeV (i:=i) (k:=k)with e | e <;> rw[e]
  ·rw[Int.zero_mul];exact Zbb
  ·rw[Int.one_mul];exact h2
 exact h1.sub h3
noncomputable def Zdm(p:Int×Int)(d:Int): Int×Int:=Zah (Int.gcd p.1 d) p.2
theorem Zn8(hk:k≤200000)(hp:Bd k p.1)(hd:Bd k d): Zk5 [Zy p,.int d]=some (Zy (Zdm p d)):=by
 apply Pk.eq
 unfold Zk5 Zgt Zy Zdm
 walk_at "z"
 refine Zg (Zjp (Zal hp hk) (Zal hd hk)) ?_
 walk_at "z"
 exact Zg (Zfi (by omega)) rfl
noncomputable def ZcR(n:Nat)(R:Nat→Int×Int)(c:Nat→Int)(d:Int)(i:Nat): Int×Int:=Zah (Int.gcd (Zae (ZbC c i) R n).1 d) (-(c i)*(Zae (ZbC c i) R n).2)
theorem Zzu(ok:∀t,t<n→RestOk (R t))(h1:c i=1∨c i = -1): Zdm (ZbO (Zae (ZbC c i) R n) (-(c i))) d=ZcR n R c d i:=by
 have hr:RestOk (Zae (ZbC c i) R n):=by rw[ZcF ok n (Zz10 n)];exact Zbq (Zd1 _ _ _) _
 generalize hp:Zae (ZbC c i) R n=p at *
 unfold Zdm ZcR ZbO
 rw[hp,ZcT]
 have ha:ZaC (-(c i))=1:=by rcases h1 with e | e <;> rw[e] <;> rfl
 rw[ha,Int.mul_one]
 refine ZoT (by omega) ?_
 have h2:((Int.gcd p.1 d:Nat):Int) ∣ p.1:=Int.gcd_dvd_left ..
 have:=Int.dvd_trans h2 (Zme (m:=p.1) (r:=p.2 * -(c i)) hr.nn)
 rwa [Int.mul_comm (-(c i))]
theorem Zkv: RestOk (ZcR n R c d i):=Zbq (by omega) _
def BesO(n:Nat)(R:Nat→Int×Int)(c:Nat→Int)(d:Int)(t:Nat)(o:Option (Int×Int)): Prop:=if c (t+1)=1∨c (t+1) = -1 then Met (R t) (ZcR n R c d (t+1)) o else o=some (R t)
theorem BesO.one{t:Nat}{o':Option (Int×Int)}(h:BesO n R c d t o)(h':BesO n R c d t o'): o=o':=by
 unfold BesO at *
 split at h
 ·rename_i q
  rw[if_pos q]at h'
  exact ZpY h h'
 ·rename_i q
  rw[if_neg q]at h'
  rw[h,h']
theorem Zka(ok:∀t,t<n→RestOk (R t))(bm:∀t,t<n→Bd m (R t).1)(bR:∀t,t<n→RBd k (R t))(bc:∀i,i<n+1→Bd k (c i)): RBd (k+k+n) (Zae c R n):=by
 rw[ZcF ok n (Zz10 n)]
 exact Zh0 (Zd1 _ _ _) ((Zj5 bc bR n (Zz10 n)).mono (by omega)) (Zm7 bc bR n (Zz10 n))
theorem Zsp(ok:∀t,t<n→RestOk (R t))(bR:∀t,t<n→RBd k (R t))(bc:∀j,j<n+1→Bd k (ZbC c i j))(bd:Bd k d)(h1:c i=1∨c i = -1): RBd (k+k+n) (ZcR n R c d i):=by
 have h:=Zka (m:=k) ok (fun t ht=>(bR t ht).1) bR bc
 generalize hp:Zae (ZbC c i) R n=p at *
 unfold ZcR
 rw[hp]
 refine Zh0 (by omega) (Zku h.1 (bd.mono (by omega))) ?_
 rcases h1 with e | e <;> rw[e]
 ·have:=h.2;unfold Bd at *;omega
 ·have:=h.2;unfold Bd at *;omega
theorem Ztv{t:Nat}(hn:n≤60)(hk1:1≤k)(hk:k+k+n≤8000)(ht:t<n)(ok:∀t,t<n→RestOk (R t))(bR:∀t,t<n→RBd k (R t))(bc:∀j,j<n+1→Bd k (c j))(bo:∀j,j<n+1→Bd k (ZbC c (t+1) j))(bd:Bd k d): Pk (ZiX [.lst (tab n fun j=>Zy (R j)),Zx n c,.int d,.int ((t+1:Nat):Int)]) fun u=>∃o,u=oR o∧BesO n R c d t o:=by
 unfold ZiX ZgO
 have hs:Zx n c=.lst (tab (n+1) fun k=>.int (c k)):=rfl
 have h1:t+1<n+1:=by omega
 have e1:(((t+1:Nat):Int)).toNat=t+1:=by omega
 have e2:(((t+1:Nat):Int)-1).toNat=t:=by omega
 have ab:ZaC (c (t+1))=1↔(c (t+1)=1∨c (t+1) = -1):=by unfold ZaC;split <;> omega
 have bu:∀j,j<n+1→Bd k (ZX (t+1) j):=fun j _=>by
  rcases ZeV (i:=t+1) (k:=j)with e | e <;> rw[e]
  ·exact Zbb
  ·exact ZcB hk1
 rw[hs]
 walk_at "z"
 rw[←hs]
 rw[e2]
 by_cases q:c (t+1)=1∨c (t+1) = -1
 ·have qa:=ab.mpr q
  have bp:=Zka (m:=k) ok (fun t ht=>(bR t ht).1) bR bo
  have op:RestOk (Zae (ZbC c (t+1)) R n):=by rw[ZcF ok n (Zz10 n)];exact Zbq (Zd1 _ _ _) _
  have bs:=Zsp ok bR bo bd q
  have bk:=bc (t+1) h1
  have be:=Zzu (d:=d) ok q
  walk_at "z"
  refine Zg (Zes (i:=t+1) (n:=n) (by omega)) ?_
  walk_at "z"
  refine Zg (ZdL (b:=k) (by omega) (by omega) bu bk) ?_
  walk_at "z"
  refine Zg (Zje (b:=k+k) (by omega) (by omega) (by omega) (fun j hj=>(bu j hj).mul bk)) ?_
  rw[show(fun k=>c k-ZX (t+1) k*c (t+1))=ZbC c (t+1)from rfl]
  walk_at "z"
  refine Zg (Zem (i:=k) (by omega) hk1 (by omega) bo bR ok) ?_
  walk_at "z"
  refine Zg (Zlp (k:=k+k+n) (by omega) op.nn bp (show Bd (k+k+n) (-(c (t+1)))by have:=bk.mono (show k≤k+k+n by omega);unfold Bd at *;omega)) ?_
  walk_at "z"
  refine Zg (Zn8 (k:=k+k+n+k) (by omega) (by unfold ZbO;rw[ZcT];exact bp.1.mul (ZrF (show Bd k (-(c (t+1)))by unfold Bd at *;omega))) (bd.mono (by omega))) ?_
  rw[be]
  walk_at "z"
  refine(Zjc (k:=k+k+n) hk (ok t ht) Zkv ⟨(bR t ht).1.mono (by omega),(bR t ht).2.mono (by omega)⟩ bs).mono ?_
  rintro _ ⟨o,rfl,hm,_⟩
  exact⟨o,rfl,by unfold BesO;rw[if_pos q];exact hm⟩
 ·have qa:¬ZaC (c (t+1))=1:=fun h=>q (ab.mp h)
  walk_at "z"
  exact⟨some (R t),rfl,by unfold BesO;rw[if_neg q]⟩
theorem Zuh(hn:n≤60)(hk1:1≤k)(hk:k+k+n≤8000)(ok:∀t,t<n→RestOk (R t))(bR:∀t,t<n→RBd k (R t))(bc:∀j,j<n+1→Bd k (c j))(bo:∀t,t<n→∀j,j<n+1→Bd k (ZbC c (t+1) j))(bd:Bd k d): ∃o:Nat→Option (Int×Int),(∀t,t<n→BesO n R c d t (o t))∧((∃t,t<n∧o t=none)→Zdp [Zf n G R,Zx n c,.int d]=some .none)∧∀R' D,(∀t,t<n→o t=some (R' t))→ZaG [Zf n G R']=some D→Zdp [Zf n G R,Zx n c,.int d]=some D:=by
 have ex:∀t,∃o,t<n→ZiX [.lst (tab n fun j=>Zy (R j)),Zx n c,.int d,.int ((t+1:Nat):Int)]=some (oR o)∧BesO n R c d t o:=fun t=>by
  by_cases ht:t<n
  ·obtain⟨u,e,o,rfl,h⟩:=Ztv hn hk1 hk ht ok bR bc (bo t ht) bd
   exact⟨o,fun _=>⟨e,h⟩⟩
  ·exact⟨none,fun h=>absurd h ht⟩
 obtain⟨o,ho⟩:=Classical.axiomOfChoice ex
 refine⟨o,fun t ht=>(ho t ht).2,?_⟩
 have ht:Zf n G R=.tup [ZN (n+1) G,.lst (tab n fun i=>Zy (R i))]:=rfl
 have hs:Zx n c=.lst (tab (n+1) fun k=>.int (c k)):=rfl
 have key:∀{D:T},((∃t,t<n∧o t=none)∧D=.none∨(¬(∃t,t<n∧o t=none))∧ZaG [.tup [ZN (n+1) G,.lst (tab n fun t=>oR (o t))]]=some D)→Zdp [Zf n G R,Zx n c,.int d]=some D:=fun {D} hD=>by
  apply Pk.eq
  unfold Zdp Zfk
  rw[ht,hs]
  walk_at "z"
  rw[←hs]
  refine Zbr (n:=n) (a:=fun i=>.int ((1+i:Nat):Int)) (b:=fun t=>oR (o t)) (by omega) ?_ (fun t ht'=>?_) ?_
  ·refine ZjG (a:=1) (m:=n) (by omega) (by omega) ?_ rfl
   simp only[Zq,ZH,ZD,Zh,ZV,hs,ZbQ,Zaa,Option.bind_some]
   show some [T.int 1,T.int (((tab (n+1) fun k=>T.int (c k)).length:Nat):Int)]=_
   rw[Zaa]
   congr 3
   congr 1
   omega
  ·rw[Nat.add_comm 1 t]
   walk_at "z"
   exact Zg (ho t ht').1 rfl
  walk_at "z"
  refine ZkD (.none (n:=0)) (ZeQ (n:=1) fun i _=>ZnM) ?_
  rcases hD with⟨⟨t,h1,h2⟩,rfl⟩ | ⟨hc,hD⟩
  ·rw[Zao (show T.none∈tab n fun i=>oR (o i)from List.mem_of_getElem? (i:=t) (by rw[ZaS h1,h2];rfl))]
   walk_at "z"
   rfl
  ·rw[Zas (show ¬T.none∈tab n fun i=>oR (o i)from fun h=>by
    obtain⟨i,hi,e⟩:=Zco h
    exact hc ⟨i,hi,oR_none.mp e.symm⟩)]
   walk_at "z"
   exact Zg hD rfl
 refine⟨fun h=>key (.inl ⟨h,rfl⟩),fun R' D h hD=>key (.inr ⟨fun⟨t,h1,h2⟩=>(by rw[h t h1]at h2;cases h2),?_⟩)⟩
 have e:T.tup [ZN (n+1) G,.lst (tab n fun t=>oR (o t))]=Zf n G R':=by
  show T.tup [ZN (n+1) G,.lst (tab n fun t=>oR (o t))]=.tup [ZN (n+1) G,.lst (tab n fun i=>Zy (R' i))]
  rw[Za5 fun i hi=>(show oR (o i)=Zy (R' i)by rw[h i hi];rfl)]
 rw[e]
 exact hD
theorem ZjI{c:Nat→Int}{R:Nat→Int×Int}{n i m:Nat}(bc:∀j,j<n+1→Bd i (c j))(bm:∀j,j<n→Bd m (R j).1): ∀j,j≤n→Bd (i+m) (Zcm c R j)
 | 0,_=>Zbb
 | j+1,h=>Zku (ZjI bc bm j (by omega)) ((bc (j+1) (by omega)).mul (bm j (by omega)))
theorem Znx{a b:Int}(ha:Bd i a)(hb:Bd j b): Bd (i+j) ((Int.lcm a b:Nat):Int):=by
 unfold Bd at *
 by_cases h:a=0∨b=0
 ·rcases h with e | e <;> subst e
  ·rw[Int.lcm_zero_left];exact Nat.pow_pos (by decide)
  ·rw[Int.lcm_zero_right];exact Nat.pow_pos (by decide)
 ·have:Int.lcm a b≤a.natAbs*b.natAbs:=Nat.le_of_dvd (Nat.mul_pos (by omega) (by omega)) (Nat.lcm_dvd_mul _ _)
  rw[Int.natAbs_natCast,Nat.pow_add]
  exact Nat.lt_of_le_of_lt this (Nat.mul_lt_mul'' ha hb)
theorem Zyd{t:Nat}(ok:∀t,t<n→RestOk (R t))(bm:∀t,t<n→Bd m (R t).1)(bo:∀j,j<n+1→Bd b (ZbC c (t+1) j))(bd:Bd (b+m) d): Bd (b+m) (ZcR n R c d (t+1)).1:=by
 unfold ZcR
 rw[ZcT,ZcF ok n (Zz10 n),ZcT]
 exact Zku (ZjI bo bm n (Zz10 n)) bd
theorem Zye{t:Nat}{r:Int×Int}(hk:k+k+n≤8000)(ht:t<n)(ok:∀t,t<n→RestOk (R t))(bm:∀t,t<n→Bd m (R t).1)(bR:∀t,t<n→RBd k (R t))(bo:∀j,j<n+1→Bd b (ZbC c (t+1) j))(hbk:b+m≤k)(bd:Bd (b+m) d)(h:BesO n R c d t (some r)): RestOk r∧Bd (b+m+m) r.1∧Bd (k+k+n) r.2:=by
 have g1:Bd (k+k+n) (R t).2:=(bR t ht).2.mono (by omega)
 unfold BesO at h
 split at h
 ·rename_i q
  have bs:=Zsp ok bR (fun j hj=>(bo j hj).mono (by omega)) (bd.mono (by omega)) q
  have hm:=Zyd ok bm bo bd
  have wh:=Zsk (k:=k+k+n) hk (ok t ht) Zkv ⟨(bR t ht).1.mono (by omega),g1⟩ bs h r rfl
  refine⟨h.1,?_,?_⟩
  ·rcases wh with rfl | rfl | ⟨_,_,e⟩
   ·exact(bm t ht).mono (by omega)
   ·exact hm.mono (by omega)
   ·rw[e]
    exact(Znx (bm t ht) hm).mono (by omega)
  ·rcases wh with rfl | rfl | ⟨z1,z2,e⟩
   ·exact g1
   ·exact bs.2
   ·have b1:Bd (k+k+n) r.1:=by rw[e];exact(Znx (bm t ht) hm).mono (by omega)
    have n0:r.1≠0:=by rw[e];intro h;exact(Int.lcm_ne_zero z1 z2) (by omega)
    rcases h.1 with q | ⟨_,q2,q3⟩
    ·exact absurd q n0
    ·unfold Bd at *;omega
 ·cases h
  exact⟨ok t ht,(bm t ht).mono (by omega),g1⟩
def Tf(n:Nat)(P:(Nat→Int)→Prop)(I:(Nat→Nat→Option Int)→(Nat→Int×Int)→Prop)(D:T): Prop:=(D=.none∧∀x,¬P x)∨∃G R,D=Zf n G R∧(∀i,i<n+1→G i i=some 0)∧(∀t,t<n→RestOk (R t))∧(∀x,P x→Zc7 n G R x)∧I G R
theorem Tm.tf{K:Nat}{P:(Nat→Int)→Prop}{I:(Nat→Nat→Option Int)→(Nat→Int×Int)→Prop}(h:Tm n K M P I D): Tf n P I D:=by
 rcases h with h | ⟨G,R,rfl,h1,h2,h3,h4,h5⟩
 ·exact .inl h
 ·exact .inr ⟨G,R,rfl,h1,fun t ht=>(h2 t ht).1,h4,h5⟩
theorem Tf.due{P:(Nat→Int)→Prop}{I:(Nat→Nat→Option Int)→(Nat→Int×Int)→Prop}(h:Tf n P I D): DueOk n D:=by
 rcases h with⟨rfl,_⟩ | ⟨G,R,rfl,h1,h2,h3,h4⟩
 ·exact .inl rfl
 ·exact .inr ⟨G,R,rfl,h1,h2⟩
theorem ZcG(op:RestOk p)(oq:RestOk q)(h:Z3 p q)(hx:Z6 p x): Z6 q x:=by
 unfold Z3 at h
 split at h
 ·rw[←h];exact hx
 ·refine(ZbE oq.nn x).mpr ?_
  have a:=(ZbE op.nn x).mp hx
  have b:=Int.dvd_trans (Int.dvd_of_emod_eq_zero h.1) a
  have:=Int.dvd_add b (Int.dvd_of_emod_eq_zero h.2)
  rwa [show x-p.2+(p.2-q.2)=x-q.2 by omega]at this
theorem Zui{G1 G3:Nat→Nat→Option Int}{R1 R3:Nat→Int×Int}(o1:∀t,t<n→RestOk (R1 t))(o2:∀t,t<n→RestOk (R2 t))(o3:∀t,t<n→RestOk (R3 t))(h:Inside n G1 R1 G2 R2)(k:Inside n G2 R2 G3 R3): Inside n G1 R1 G3 R3:=⟨fun i hi j hj=>Zcf (h.1 i hi j hj) (k.1 i hi j hj),fun t ht=>Zd7 (o1 t ht) (o3 t ht) fun x hx=>ZcG (o2 t ht) (o3 t ht) (k.2 t ht) (ZcG (o1 t ht) (o2 t ht) (h.2 t ht) hx)⟩
theorem Zou{a b:T}: Zdp [.none,a,b]=some .none:=by
 apply Pk.eq
 unfold Zdp Zfk
 walk_at "z"
 rfl
theorem ZiC(hM:0<M)(bM:Bd m M)(h:RB M k q): Bd m q.1:=by
 rcases h.2.1 with e | e
 ·rw[e];exact Zbb
 ·have:=Nat.le_of_dvd (by omega) (Int.natAbs_dvd_natAbs.mpr e)
  unfold Bd at *
  omega
theorem ZcX(ok:∀t,t<n→RestOk (R t)): RestOk (Zae c R n):=by
 rw[ZcF ok n (Zz10 n)]
 exact Zbq (Zd1 _ _ _) _
theorem ZrS(bc:∀i,i<n+1→Bd b (c i)): ∀t,t<n→∀j,j<n+1→Bd (b+1) (ZbC c (t+1) j):=fun t ht=>Zzt bc (t+1) (by omega)
end L
open PySem PySem.W PyProof.Rows PM TM My
namespace L
open PySem PySem.W PyProof.Rows PM TM My
variable {p:Nat→Nat} {N b i k k' m n:Nat} {R R':Nat→Int×Int} {C C' G G' Γ:Nat→Nat→Option Int} {M M' d top:Int} {c y:Nat→Int} {D:T}
theorem Zdx{p q:Int×Int}(h:Z3 p q): q.1 ∣ p.1∧q.1 ∣ p.2-q.2:=by
 unfold Z3 at h
 split at h
 ·rename_i z
  rw[h,z];exact⟨Int.dvd_refl _,by rw[Int.sub_self];exact Int.dvd_refl _⟩
 ·exact⟨Int.dvd_of_emod_eq_zero h.1,Int.dvd_of_emod_eq_zero h.2⟩
theorem ZjJ(h:∀t,t<n→Z3 (R t) (R' t)): ∀i,i<n+1→Z3 (Z1 R i) (Z1 R' i)
 | 0,_=>ZdV
 | i+1,hi=>h i (by omega)
theorem ZcY(h:∀t,t<n→RestOk (R t)): ∀i,i<n+1→RestOk (Z1 R i)
 | 0,_=>.inl rfl
 | i+1,hi=>h i (by omega)
def LeG(N:Nat)(G G':Nat→Nat→Option Int): Prop:=∀i j,i<N→j<N→leO (G i j) (G' i j)
theorem Zic{a b a' b':Option Int}(h:leO a a')(k:leO b b'): leO (ZaP a b) (ZaP a' b'):=ZxY (Zcf Zd6 h) (Zcf Zns k)
theorem ZfR{N:Nat}{G G':Nat→Nat→Option Int}(h:LeG N G G'): ∀m,m≤N→LeG N (clG G m) (clG G' m)
 | 0,_=>h
 | m+1,hm=>fun i j hi hj=>by
  have ih:=ZfR h m (by omega)
  exact Zic (ih i j hi hj) (Zdr (ih i m hi (by omega)) (ih m j (by omega) hj))
theorem Zqv(h:LeG N G G')(r:Zcc N G'): Zcc N G:=by
 obtain⟨m,hm,i,hi,b,e,hb⟩:=r
 obtain⟨x,ex,hx⟩:=ZfR h (m+1) (by omega) i i hi hi b e
 exact⟨m,hm,i,hi,x,ex,by omega⟩
def Zei(N:Nat)(C:Nat→Nat→Option Int): Prop:=∀i j,i<N→j<N→∀a b,C i j=some a→C j i=some b→0≤a+b
theorem Zin(hd:∀i,i<N→G i i=some 0)(hr:¬Zcc N G): Zei N (clG G N):=fun i j hi hj a b h1 h2=>by
 have hn:∀k,k<N→¬Neg N (clG G (k+1)):=fun k hk q=>hr ⟨k,hk,q⟩
 have z:=ZdZ hd (m:=N) hn i hi
 have t:=Znt hd N (Zz10 _) hn j hj i i hi hi
 rw[z,h1,h2]at t
 obtain⟨x,ex,hx⟩:=t (a+b) rfl
 cases ex;exact hx
theorem Zqw(hC:LeG (n+1) C C')(nn:Zei (n+1) C)(ok:∀t,t<n→RestOk (R t))(ok':∀t,t<n→RestOk (R' t))(hR:∀t,t<n→Z3 (R t) (R' t))(hi:i<n+1){x:Int}(h:Zdv n C R i (n+1) x): Zdv n C' R' i (n+1) x:=by
 refine⟨ZcG (ZcY ok i hi) (ZcY ok' i hi) (ZjJ hR i hi) h.1,fun j hj a' b' h1 h2 e=>?_⟩
 obtain⟨a,ea,la⟩:=hC i j hi hj a' h1
 obtain⟨b,eb,lb⟩:=hC j i hj hi b' h2
 have:=nn i j hi hj a b ea eb
 have e1:a=a':=by omega
 have e2:b=b':=by omega
 subst e1 e2
 exact ZcG (ZcY ok j hj) (ZcY ok' j hj) (ZjJ hR j hj) (h.2 j hj a b ea eb e)
theorem Zmw{R1 R1':Nat→Int×Int}(hC:LeG (n+1) C C')(nn:Zei (n+1) C)(ok:∀t,t<n→RestOk (R t))(ok':∀t,t<n→RestOk (R' t))(hR:∀t,t<n→Z3 (R t) (R' t))(h:Hand n C R R1 M k)(h':Hand n C' R' R1' M' k'): ∀t,t<n→Z3 (R1 t) (R1' t):=fun t ht=>
 Zd7 (h t ht).1.1 (h' t ht).1.1 fun x hx=>((h' t ht).2 x).mpr (Zqw hC nn ok ok' hR (by omega) (((h t ht).2 x).mp hx))
theorem ZoI(hC:LeG (n+1) C C')(nn:Zei (n+1) C)(ok:∀t,t<n→RestOk (R t))(ok':∀t,t<n→RestOk (R' t))(hR:∀t,t<n→Z3 (R t) (R' t))(h:Zh9 n C' R'): Zh9 n C R:=by
 obtain⟨i,hi,q⟩:=h
 exact⟨i,hi,fun x hx=>q x (Zqw hC nn ok ok' hR (by omega) hx)⟩
theorem Zq5(ok:∀t,t<n→RestOk (R t))(ok':∀t,t<n→RestOk (R' t))(hR:∀t,t<n→Z3 (R t) (R' t)){j:Nat}(hi:i<n+1)(hj:j<n+1){x:Int}(h:Z6 (Zai R i j) x): Z6 (Zai R' i j) x:=by
 rw[Zh8 (ZcY ok i hi) (ZcY ok j hj)]at h
 rw[Zh8 (ZcY ok' i hi) (ZcY ok' j hj)]
 obtain⟨a1,a2⟩:=Zdx (ZjJ hR i hi)
 obtain⟨b1,b2⟩:=Zdx (ZjJ hR j hj)
 generalize Z1 R i=p at *
 generalize Z1 R j=q at *
 generalize Z1 R' i=p' at *
 generalize Z1 R' j=q' at *
 have g1:((Int.gcd p'.1 q'.1:Nat):Int) ∣ p'.1:=Int.gcd_dvd_left ..
 have g2:((Int.gcd p'.1 q'.1:Nat):Int) ∣ q'.1:=Int.gcd_dvd_right ..
 have g3:((Int.gcd p'.1 q'.1:Nat):Int) ∣ ((Int.gcd p.1 q.1:Nat):Int):=Int.dvd_coe_gcd (Int.dvd_trans g1 a1) (Int.dvd_trans g2 b1)
 have h1:=Int.dvd_trans g3 h
 have h2:=Int.dvd_trans g1 a2
 have h3:=Int.dvd_trans g2 b2
 have:=Int.dvd_sub (Int.dvd_add h1 h2) h3
 rwa [show x-(p.2-q.2)+(p.2-p'.2)-(q.2-q'.2)=x-(p'.2-q'.2)by omega]at this
theorem ZmM(hC:LeG (n+1) C C')(ok:∀t,t<n→RestOk (R t))(ok':∀t,t<n→RestOk (R' t))(hR:∀t,t<n→Z3 (R t) (R' t))(nf:¬Zd0 n C R): LeG (n+1) (Za4 C R) (Za4 C' R'):=fun i j hi hj y hy=>by
 have q0:=Zdw R i j
 have q0':=Zdw R' i j
 have hm:∀x,Z6 (Zai R i j) x→Z6 (Zai R' i j) x:=fun x h=>Zq5 ok ok' hR hi hj h
 have key:∀b,C i j=some b→∃c,Za4 C R i j=some c∧c≤b∧Z6 (Zai R i j) c:=fun b e=>by
  cases q:Za4 C R i j with
  | none=>exact absurd ⟨i,j,hi,hj,b,e,q⟩ nf
  | some c=>
   have q1:Zbn (C i j) (Zai R i j)=some c:=q
   rw[e]at q1
   obtain⟨h1,h2,_⟩:=Zh1 q0 (show ZcM (Zai R i j) b=some c from q1)
   exact⟨c,rfl,h1,h2⟩
 have hy':Zbn (C' i j) (Zai R' i j)=some y:=hy
 cases e':C' i j with
 | some b'=>
  rw[e']at hy'
  obtain⟨b,e,lb⟩:=hC i j hi hj b' e'
  obtain⟨c,e1,h1,h2⟩:=key b e
  obtain⟨c',e2,h3⟩:=Zmd q0' (hm c h2) (show c≤b' by omega)
  have:ZcM (Zai R' i j) b'=some y:=hy'
  rw[e2]at this
  cases this
  exact⟨c,e1,h3⟩
 | none=>
  rw[e']at hy'
  have hz:(Zai R' i j).1=0∧y=(Zai R' i j).2:=by
   simp only[Zbn]at hy'
   split at hy'
   ·rename_i z;cases hy';exact⟨z,rfl⟩
   ·cases hy'
  have one:∀x,Z6 (Zai R i j) x→x=y:=fun x h=>by rw[hz.2];exact(hm x h).1 hz.1
  cases e:C i j with
  | some b=>
   obtain⟨c,e1,_,h2⟩:=key b e
   exact⟨c,e1,by rw[one c h2];exact Int.le_refl _⟩
  | none=>
   have s1:=one _ q0.self
   have s2:=one ((Zai R i j).2+(Zai R i j).1) ((ZbE q0.nn _).mpr (by rw[show(Zai R i j).2+(Zai R i j).1-(Zai R i j).2=(Zai R i j).1 by omega];exact Int.dvd_refl _))
   refine⟨y,?_,Int.le_refl _⟩
   show Zbn (C i j) (Zai R i j)=some y
   rw[e]
   simp only[Zbn]
   rw[if_pos (by omega),s1]
theorem Zuj(hC:LeG (n+1) C C')(ok:∀t,t<n→RestOk (R t))(ok':∀t,t<n→RestOk (R' t))(hR:∀t,t<n→Z3 (R t) (R' t))(h:Zd0 n C' R'): Zd0 n C R:=by
 obtain⟨i,j,hi,hj,b',e',q'⟩:=h
 obtain⟨b,e,lb⟩:=hC i j hi hj b' e'
 refine⟨i,j,hi,hj,b,e,?_⟩
 cases q:Za4 C R i j with
 | none=>rfl
 | some c=>
  have q1:Zbn (C i j) (Zai R i j)=some c:=q
  rw[e]at q1
  obtain⟨h1,h2,_⟩:=Zh1 (Zdw R i j) (show ZcM (Zai R i j) b=some c from q1)
  obtain⟨c',e2,_⟩:=Zmd (Zdw R' i j) (Zq5 ok ok' hR hi hj h2) (show c≤b' by omega)
  have q2:Zbn (C' i j) (Zai R' i j)=none:=q'
  rw[e']at q2
  have q2:ZcM (Zai R' i j) b'=none:=q2
  rw[e2]at q2
  cases q2
theorem Zvi{G2 G2':Nat→Nat→Option Int}{R2 R2':Nat→Int×Int}(hd:∀i,i<n+1→G i i=some 0)(ok:∀t,t<n→RestOk (R t))(ok':∀t,t<n→RestOk (R' t))(h:Inside n G R G' R')(s:Sharp n G R G2 R2 M k)(s':Sharp n G' R' G2' R2' M' k'): Inside n G2 R2 G2' R2':=by
 have hG:LeG (n+1) G G':=fun i j hi hj=>h.1 i hi j hj
 obtain⟨R1,r1,h1,l1,r2,e2,h2⟩:=s.go
 obtain⟨R1',r1',h1',l1',r2',e2',h2'⟩:=s'.go
 have c1:=ZfR hG (n+1) (Zz10 _)
 have nn1:=Zin hd r1
 have ok1:∀t,t<n→RestOk (R1 t):=fun t ht=>(h1 t ht).1.1
 have ok1':∀t,t<n→RestOk (R1' t):=fun t ht=>(h1' t ht).1.1
 have i1:=Zmw c1 nn1 ok ok' h.2 h1 h1'
 have l:=ZmM c1 ok1 ok1' i1 l1
 have c2:=ZfR l (n+1) (Zz10 _)
 have z1:=ZdZ hd (m:=n+1) fun m hm q=>r1 ⟨m,hm,q⟩
 have z2:=Zia (ZcY ok1) z1
 have nn2:=Zin z2 r2
 subst e2 e2'
 exact⟨fun i hi j hj=>c2 i j hi hj,Zmw c2 nn2 ok1 ok1' i1 h2 h2'⟩
theorem ZuF{G2:Nat→Nat→Option Int}{R2:Nat→Int×Int}(hd:∀i,i<n+1→G i i=some 0)(ok:∀t,t<n→RestOk (R t))(ok':∀t,t<n→RestOk (R' t))(h:Inside n G R G' R')(s:Sharp n G R G2 R2 M k): ¬Zmu n G' R' M' k':=fun f=>by
 have hG:LeG (n+1) G G':=fun i j hi hj=>h.1 i hi j hj
 obtain⟨R1,r1,h1,l1,r2,e2,h2⟩:=s.go
 have c1:=ZfR hG (n+1) (Zz10 _)
 have nn1:=Zin hd r1
 have ok1:∀t,t<n→RestOk (R1 t):=fun t ht=>(h1 t ht).1.1
 have ne:∀t,t<n→∃x,Zdv n (clG G (n+1)) R (t+1) (n+1) x:=fun t ht=>⟨_,((h1 t ht).2 _).mp (ok1 t ht).self⟩
 rcases f with f | ⟨_,f⟩ | ⟨R1',_,h1',f⟩
 ·exact r1 (Zqv hG f)
 ·obtain⟨i,hi,q⟩:=ZoI c1 nn1 ok ok' h.2 f
  obtain⟨x,hx⟩:=ne i hi
  exact q x hx
 ·have ok1':∀t,t<n→RestOk (R1' t):=fun t ht=>(h1' t ht).1.1
  have i1:=Zmw c1 nn1 ok ok' h.2 h1 h1'
  rcases f with f | ⟨_,f | ⟨_,f⟩⟩
  ·exact l1 (Zuj c1 ok1 ok1' i1 f)
  ·exact r2 (Zqv (ZmM c1 ok1 ok1' i1 l1) f)
  ·have l:=ZmM c1 ok1 ok1' i1 l1
   have c2:=ZfR l (n+1) (Zz10 _)
   have z1:=ZdZ hd (m:=n+1) fun m hm q=>r1 ⟨m,hm,q⟩
   have z2:=Zia (ZcY ok1) z1
   have nn2:=Zin z2 r2
   obtain⟨i,hi,q⟩:=ZoI c2 nn2 ok1 ok1' i1 f
   subst e2
   exact q _ (((h2 i hi).2 _).mp ((h2 i hi).1.1).self)
theorem ZtU{a:T}: ZdO [.none,a]=some .none:=by
 apply Pk.eq
 unfold ZdO Zeq
 walk_at "z"
 rfl
theorem leO_0{a:Option Int}: leO a (some 0)↔∃y,a=some y∧y≤0:=⟨fun h=>h 0 rfl,fun h z e=>by cases e;exact h⟩
theorem Zn9{T0 D1 D2:T}(hn:n≤20)(bc:∀i,i<n+1→Bd 300 (c i))(h1:ZdO [T0,Zx n c]=some D1)(h2:ZdO [D1,Zx n fun k=>-(c k)]=some D2)(h3:DueOk n D2): Zgv [T0,Zx n c]=some D2:=by
 apply Pk.eq
 unfold Zgv Zgu
 have bn:Bd 300 (-1):=(show Bd 1 (-1)by unfold Bd;decide).mono (by decide)
 have hf:Zj1 [D2]=some D2:=by
  rcases h3 with rfl | ⟨G,R,rfl,_⟩
  ·exact Zib .none
  ·exact Zib ((ZrH (by omega)).mono (by decide))
 walk_at "z"
 refine Zg h1 ?_
 walk_at "z"
 refine Zg (ZdL (b:=300) (by omega) (by decide) bc bn) ?_
 rw[Zmv]
 walk_at "z"
 refine Zg h2 ?_
 walk_at "z"
 exact Zg hf rfl
theorem ZvZ(hn:n≤60)(hb:b≤4100)(hb1:1≤b)(hG:GB b n G)(bc:∀i,i<n+1→Bd b (c i))(bg:∀y,grt n G (fun i=>-(c i))=some y→Bd 100000 y): ZdX [Zf n G R,Zx n c]=some (oT ((grt n G fun i=>-(c i)).map fun y=>y * -1)):=by
 apply Pk.eq
 unfold ZdX ZfP
 have b1:Bd b (-1):=by have:=ZcB hb1;unfold Bd at *;simpa using this
 walk_at "z"
 refine Zg (ZdL (by omega) (by omega) bc b1) ?_
 rw[ZrM]
 walk_at "z"
 refine Zg (Zeo hn (by omega) hb1 hG fun i hi=>by have:=bc i hi;show Bd b (-(c i));unfold Bd at *;omega) ?_
 walk_at "z"
 exact Zg (Zfj (i:=100000) (by decide) bg (b1.mono (by omega))) rfl
theorem Zov{d:Nat→Int}(hn:n≤60)(hb:b≤4100)(hb1:1≤b)(hG:GB b n G)(bc:∀i,i<n+1→Bd b (c i))(bd:∀i,i<n+1→Bd b (d i-c i)): Zg0 [Zf n G R,Zx n d,Zx n c,.int top]=some (oT (addO (grt n G fun k=>d k-c k) (some top))):=by
 apply Pk.eq
 unfold Zg0 ZgZ
 walk_at "z"
 refine Zg (Zje (by omega) hb1 (by omega) bc) ?_
 walk_at "z"
 refine Zg (Zeo hn (by omega) hb1 hG bd) ?_
 walk_at "z"
 exact Zg (Zfn (b:=some top)) rfl
theorem Ztg(hn:n≤60)(hb:b≤4000)(hb1:1≤b)(hG:GB b n G)(bc:∀i,i<n+1→Bd b (c i))(hd:∀i,i<n+1→G i i=some 0)(hc:∀y,grt n G (fun k=>-(c k))=some y→-y≤top): Zlj [ZN (n+1) G,Zf n G R,Zx n c,.int top]=some (ZN (n+1) (apW n G c top)):=by
 apply Pk.eq
 unfold Zlj Zli
 refine ZjY rfl ?_
 have ht:Zf n G R=.tup [ZN (n+1) G,.lst (tab n fun i=>Zy (R i))]:=rfl
 have bu:∀i k,k<n+1→Bd b (ZX i k):=fun i k _=>by
  rcases ZeV (i:=i) (k:=k)with e | e <;> rw[e]
  ·exact Zbb
  ·exact ZcB hb1
 have hw:∀i j,i<n+1→ZaP (G i j) (addO (grt n G (apC c i j)) (some top))=apW n G c top i j:=fun i j hi=>by
  unfold apW
  split
  ·rename_i e
   subst e
   rw[hd i hi]
   refine Zj4 ?_
   have:apC c i i=fun k=>-(c k):=by funext k;unfold apC;omega
   rw[this]
   cases e:grt n G fun k=>-(c k)with
   | none=>exact ZfG
   | some y=>exact leO_some.mpr (by have:=hc y e;omega)
  ·rfl
 rw[ht]
 walk_at "z"
 rw[←ht]
 refine Zb5 (n:=n+1) (a:=fun i=>.int i) (P:=fun i σ=>σ 0=some (ZN (n+1) (Wv (apW n G c top) G i 0))∧σ 1=some (Zf n G R)∧σ 2=some (Zx n c)∧σ 3=some (.int top)∧σ 4=some (.int n)) ?_ ⟨by rw[ZAD];rfl,rfl,rfl,rfl,rfl⟩ ?_ ?_
 ·walk_at "z"
  exact Zf7 (n+1) (by omega) (by omega) rfl
 ·rintro i σ hi ⟨e0,e1,e2,e3,e4⟩
  refine Zb5 (n:=n+1) (a:=fun j=>.int j) (P:=fun j σ=>σ 0=some (ZN (n+1) (Wv (apW n G c top) G i j))∧σ 1=some (Zf n G R)∧σ 2=some (Zx n c)∧σ 3=some (.int top)∧σ 4=some (.int n)∧σ 5=some (.int i)) ?_ ⟨by walk_at "r",by walk_at "r",by walk_at "r",by walk_at "r",by walk_at "r",by walk_at "r"⟩ ?_ ?_
  ·walk_at "z"
   exact Zf7 (n+1) (by omega) (by omega) rfl
  ·rintro j σ hj ⟨e0,e1,e2,e3,e4,e5⟩
   walk_at "z"
   refine Zg (Zes (by omega)) ?_
   walk_at "z"
   refine Zg (Zes (by omega)) ?_
   walk_at "z"
   refine Zg (Zje (b:=b) (by omega) hb1 (by omega) (bu j)) ?_
   refine ZeS (t:=ZN (n+1) (Wv (apW n G c top) G i j)) (by walk_at "r") ?_
   walk_at "z"
   refine Zg (Zov (b:=b+2) (d:=fun k=>ZX i k-ZX j k) hn (by omega) (by omega) (fun a b ha hb y e=>(hG a b ha hb y e).mono (by omega)) (fun k hk=>(bc k hk).mono (by omega)) (ZsI hb1 bc i j)) ?_
   walk_at "z"
   refine Zg (Zjd hi hj) ?_
   rw[ZAg,show(fun k=>ZX i k-ZX j k-c k)=apC c i j from rfl,hw i j hi,Zzp]
   exact⟨ZbG,by walk_at "r",by walk_at "r",by walk_at "r",by walk_at "r",by walk_at "r"⟩
  ·rintro σ ⟨e0,e1,e2,e3,e4,e5⟩
   exact⟨by rw[←Zzq];exact e0,e1,e2,e3,e4⟩
 ·rintro σ ⟨e0,e1,e2,e3,e4⟩
  exact⟨_,e0,Zzr⟩
theorem Zth(hn:n≤60)(hb:b≤4000)(hb1:1≤b)(hG:GB b n G)(bc:∀i,i<n+1→Bd b (c i)): Zll [ZN (n+1) Γ,Zf n G R,Zx n c,.int top]=some (ZN (n+1) (alW n G c top Γ n)):=by
 apply Pk.eq
 unfold Zll Zlk
 refine ZjY rfl ?_
 have ht:Zf n G R=.tup [ZN (n+1) G,.lst (tab n fun i=>Zy (R i))]:=rfl
 have bu:∀i k,k<n+1→Bd b (ZX i k):=fun i k _=>by
  rcases ZeV (i:=i) (k:=k)with e | e <;> rw[e]
  ·exact Zbb
  ·exact ZcB hb1
 rw[ht]
 walk_at "z"
 rw[←ht]
 refine Zb5 (n:=n) (a:=fun i=>.int ((1+i:Nat):Int)) (P:=fun i σ=>σ 0=some (ZN (n+1) (alW n G c top Γ i))∧σ 1=some (Zf n G R)∧σ 2=some (Zx n c)∧σ 3=some (.int top)∧σ 4=some (.int n)) ?_ ⟨by rw[ZAh];rfl,rfl,rfl,rfl,rfl⟩ ?_ ?_
 ·refine ZjG (a:=1) (m:=n) (by omega) (by omega) ?_ rfl
  simp only[Zq,ZH,ZD,ZB,Zh,ZW,Option.bind_some,if_true,Zaj]
  congr 3
  congr 1
  omega
 ·rintro i σ hi ⟨e0,e1,e2,e3,e4⟩
  have h1:1+i<n+1:=by omega
  have hs:Zx n c=.lst (tab (n+1) fun k=>.int (c k)):=rfl
  rw[hs]at e2
  walk_at "z"
  rw[←hs]at e2
  have ci:=bc (1+i) h1
  have hG2:GB (b+2) n G:=fun a b ha hb y e=>(hG a b ha hb y e).mono (by omega)
  have bc2:∀k,k<n+1→Bd (b+2) (c k):=fun k hk=>(bc k hk).mono (by omega)
  refine Zg (Zes (by omega)) ?_
  walk_at "z"
  refine Zg (ZdL (b:=b) (by omega) (by omega) (bu (1+i)) ci) ?_
  walk_at "z"
  refine Zg (Zov (b:=b+2) (d:=fun k=>ZX (1+i) k*c (1+i)) hn (by omega) (by omega) hG2 bc2 (ZsJ bc (1+i) h1)) ?_
  rw[show(fun k=>ZX (1+i) k*c (1+i)-c k)=alC c (1+i)from rfl]
  have hp:∀k,k=(if c (1+i)<0 then -(c (1+i))else c (1+i))→(addO (grt n G (alC c (1+i))) (some top)).map (fun y=>y.fdiv k)=prt n G c top (1+i):=fun k e=>by unfold prt;rw[e]
  rw[Nat.add_comm 1 i]at *
  rcases Int.lt_trichotomy (c (i+1)) 0 with q | q | q
  ·have q':¬0<c (i+1):=by omega
   walk_at "z"
   refine ZeS (t:=ZN (n+1) (alW n G c top Γ i)) (by walk_at "r") ?_
   walk_at "z"
   refine Zg (ZiY (i:=b) (by omega) (by omega) (show Bd b (-(c (i+1)))by unfold Bd at *;omega)) ?_
   walk_at "z"
   refine Zg (Zjd (a:=0) (by omega) h1) ?_
   rw[hp _ (by rw[if_pos q]),Zya q]
   exact⟨ZbG,by walk_at "r",by walk_at "r",by walk_at "r",by walk_at "r"⟩
  ·have q':¬0<c (i+1):=by omega
   have q'':¬c (i+1)<0:=by omega
   walk_at "z"
   rw[←ZwX q]
   exact⟨by walk_at "r",by walk_at "r",by walk_at "r",by walk_at "r",by walk_at "r"⟩
  ·have q':¬c (i+1)<0:=by omega
   walk_at "z"
   refine ZeS (t:=ZN (n+1) (alW n G c top Γ i)) (by walk_at "r") ?_
   walk_at "z"
   refine Zg (ZiY (i:=b) (by omega) (by omega) ci) ?_
   walk_at "z"
   refine Zg (Zjd (b:=0) h1 (by omega)) ?_
   rw[hp _ (by rw[if_neg q']),Zx9 q]
   walk_at "z"
   exact⟨by walk_at "r",by walk_at "r",by walk_at "r",by walk_at "r",by walk_at "r"⟩
 ·rintro σ ⟨e0,e1,e2,e3,e4⟩
  exact⟨_,e0,rfl⟩
theorem Zqx(hn:n≤60)(hb:b≤4000)(hb1:1≤b)(hG:GB b n G)(bc:∀i,i<n+1→Bd b (c i)): ZdX [Zf n G R,Zx n c]=some (oT ((grt n G fun i=>-(c i)).map fun y=>y * -1)):=ZvZ hn (by omega) hb1 hG bc fun y e=>(ZeJ hG (ZeI bc) y e).mono (by omega)
theorem ZuG(hn:n≤60)(hb:b≤4000)(hb1:1≤b)(hG:GB b n G)(bc:∀i,i<n+1→Bd b (c i))(hd:∀i,i<n+1→G i i=some 0)(hc:∀y,grt n G (fun k=>-(c k))=some y→-y≤top)(h:ZaG [Zf n (amG n G c top) R]=some D): ZcC [Zf n G R,Zx n c,.int top]=some D:=by
 apply Pk.eq
 unfold ZcC Zev
 have ht:Zf n G R=.tup [ZN (n+1) G,.lst (tab n fun i=>Zy (R i))]:=rfl
 have hne:∀{Q:T→Prop},Q (.bool false)→Pk (qIs (Zf n G R) .none) Q:=fun h=>⟨_,by rw[ht];rfl,h⟩
 have hx:ZhS [oT ((grt n G fun i=>-(c i)).map fun y=>y * -1),.int top]=some (.bool false):=by
  rw[show T.int top=oT (some top)from rfl,Zp0,Zas]
  rintro⟨x,y,h1,h2,h3⟩
  cases h2
  obtain⟨z,e1,rfl⟩:=Zz1.mp h1
  have:=hc z e1
  omega
 have hg:∀{Q:T→Prop},Q (ZN (n+1) G)→Pk (Z2 (Zf n G R) (.int 0)) Q:=fun h=>⟨_,by rw[ht];rfl,h⟩
 walk_at "z"
 refine hne ?_
 walk_at "z"
 refine Zg (Zqx hn hb hb1 hG bc) ?_
 walk_at "z"
 refine Zg hx ?_
 walk_at "z"
 refine hg ?_
 walk_at "z"
 refine Zg (Zib (Zyc (by omega))) ?_
 walk_at "z"
 refine ZeS (t:=ZN (n+1) G) (by walk_at "r") ?_
 walk_at "z"
 refine Zg (Ztg hn hb hb1 hG bc hd hc) ?_
 walk_at "z"
 refine ZeS (t:=ZN (n+1) (apW n G c top)) (by walk_at "r") ?_
 walk_at "z"
 refine Zg (Zth hn hb hb1 hG bc) ?_
 rw[ht]
 walk_at "z"
 exact Zg h rfl
theorem Zyf: [T.int (c 0-top)]++(tab (n+1) fun i=>T.int (c i)).drop 1=tab (n+1) fun i=>T.int (ZdH c top i):=by
 apply List.ext_getElem
 ·simp[tab]
 ·intro i h1 h2
  cases i with
  | zero=>simp[tab,ZdH]
  | succ i=>simp[tab,ZdH]
theorem Zkw{p:Int×Int}: RestOk (Zdm p d):=Zbq (by omega) _
theorem ss_: PyData.strOk (Str.ofString "same")=true:=by decide +kernel
theorem Zzv: ¬(T.str (Str.ofString "same")=T.str (Str.ofString "under")):=by
 intro h
 have:=T.str.inj h
 revert this
 decide +kernel
noncomputable def smT(n:Nat)(c:Nat→Int): T:=.tup [.str (Str.ofString "same"),Zx n c]
theorem Zkb{b:Bool}(h:(if b then Zhi [Zf n G R,Zx n c]else Zgv [Zf n G R,Zx n c])=some D): Zdh [Zf n G R,smT n c,.bool b]=some D:=by
 apply Pk.eq
 unfold Zdh ZeT
 have ht:Zf n G R=.tup [ZN (n+1) G,.lst (tab n fun i=>Zy (R i))]:=rfl
 have hne:∀{Q:T→Prop},Q (.bool false)→Pk (qIs (Zf n G R) .none) Q:=fun h=>⟨_,by rw[ht];rfl,h⟩
 unfold smT
 walk_at "z"
 refine hne ?_
 walk_at "z"
 refine ZcL (n:=1) (m:=1) (.str ss_) (.str su) ?_
 rw[Zas Zzv]
 walk_at "z"
 refine ZcL (n:=1) (m:=1) (.str ss_) (.str ss_) ?_
 rw[Zao rfl]
 cases b with
 | true=>
  rw[if_pos rfl]at h
  walk_at "z"
  exact Zg h rfl
 | false=>
  rw[if_neg (by decide)]at h
  walk_at "z"
  exact Zg h rfl
theorem Zn2(hd:0<d): RestOk (d,0):=.inr ⟨hd,Int.le_refl 0,hd⟩
theorem Zzw(h:∀i,i<n+1→G i i=some 0): ∀i,i<n+m+1→ZaW n G i i=some 0:=fun i hi=>by
 unfold ZaW
 by_cases c:i<n+1
 ·rw[if_pos ⟨c,c⟩,h i c]
 ·rw[if_neg (by omega),if_pos rfl]
theorem Zv0{x:Nat→Int}(h:Zc7 n G R x)(hy:∀i,i<n→y i=x i): Zc7 (n+m) (ZaW n G) (Za2 n R) y:=by
 have hf:∀i,i<n+1→ZaR y i=ZaR x i:=fun i hi=>by
  cases i with
  | zero=>rfl
  | succ i=>exact hy i (by omega)
 refine⟨fun i j hi hj b e=>?_,fun t ht=>?_⟩
 ·unfold ZaW at e
  split at e
  ·rename_i c
   rw[hf i c.1,hf j c.2]
   exact h.1 i j c.1 c.2 b e
  ·split at e
   ·rename_i c
    cases e
    rw[c]
    omega
   ·cases e
 ·unfold Za2
  by_cases c:t<n
  ·rw[if_pos c,hy t c];exact h.2 t c
  ·rw[if_neg c]
   exact⟨fun q=>absurd q (by decide),fun _=>Int.emod_one _⟩
theorem Zq6{q:Nat→Nat}{G':Nat→Nat→Option Int}{i k:Nat}(Iv:(Nat→Nat→Option Int)→Prop)(h:∀Δ j,j<k→Iv Δ→Iv (Zay Δ (q i) (q j) (ZaP (Δ (q i) (q j)) (G' i j)))){Γ:Nat→Nat→Option Int}(h0:Iv Γ): ∀j,j≤k→Iv (Zed q G' i Γ j)
 | 0,_=>h0
 | j+1,hj=>h _ j (by omega) (Zq6 Iv h h0 j (by omega))
theorem Zid{q:Nat→Nat}{G':Nat→Nat→Option Int}{k:Nat}(Iv:(Nat→Nat→Option Int)→Prop)(h:∀Δ i j,i<k→j<k→Iv Δ→Iv (Zay Δ (q i) (q j) (ZaP (Δ (q i) (q j)) (G' i j)))){Γ:Nat→Nat→Option Int}(h0:Iv Γ): ∀i,i≤k→Iv (ZcP q G' k Γ i)
 | 0,_=>h0
 | i+1,hi=>Zq6 Iv (fun Δ j hj hΔ=>h Δ i j (by omega) hj hΔ) (Zid Iv h h0 i (by omega)) k (Zz10 k)
theorem Zyg{L:Nat}(inj:∀i j,i<L→j<L→p i=p j→i=j): ∀i j,i<L+1→j<L+1→qOf p i=qOf p j→i=j
 | 0,0,_,_,_=>rfl
 | 0,j+1,_,_,h=>by simp only[qOf]at h;omega
 | i+1,0,_,_,h=>by simp only[qOf]at h;omega
 | i+1,j+1,hi,hj,h=>by
  simp only[qOf]at h
  rw[inj i j (by omega) (by omega) (by omega)]
theorem Zyh: ZaP (some 0) (some 0)=some 0:=Zj4 Za6
theorem Zyi{L:Nat}(inj:∀i j,i<L→j<L→p i=p j→i=j)(hp:∀i,i<L→p i<N)(h:∀i,i<N+1→Γ i i=some 0)(h':∀i,i<L+1→G' i i=some 0): ∀i,i<N+1→ZcP (qOf p) G' (L+1) Γ (L+1) i i=some 0:=by
 refine Zid (fun Δ=>∀i,i<N+1→Δ i i=some 0) (fun Δ i j hi hj hΔ a ha=>?_) h (L+1) (Zz10 _)
 by_cases c:a=qOf p i∧a=qOf p j
 ·have hij:=Zyg inj i j hi hj (c.1.symm.trans c.2)
  subst hij
  obtain⟨rfl,_⟩:=c
  rw[Zim,hΔ _ ha,h' i hi,Zyh]
 ·rw[Zdd c];exact hΔ a ha
theorem Zvj{L:Nat}{z:Nat→Int}(hz:∀i,i<L→z i=y (p i))(h:Zc7 N Γ R y)(h':Zc7 L G' R' z): ∀i j,i<N+1→j<N+1→∀b,ZcP (qOf p) G' (L+1) Γ (L+1) i j=some b→ZaR y i-ZaR y j≤b:=by
 have hf:∀i,i<L+1→ZaR y (qOf p i)=ZaR z i:=fun i hi=>by
  cases i with
  | zero=>rfl
  | succ i=>exact(hz i (by omega)).symm
 refine Zid (fun Δ=>∀i j,i<N+1→j<N+1→∀b,Δ i j=some b→ZaR y i-ZaR y j≤b) (fun Δ i j hi hj hΔ a b ha hb c e=>?_) h.1 (L+1) (Zz10 _)
 by_cases d:a=qOf p i∧b=qOf p j
 ·obtain⟨rfl,rfl⟩:=d
  rw[Zim]at e
  rcases ZfQ (Δ (qOf p i) (qOf p j)) (G' i j)with q | q
  ·rw[q]at e;exact hΔ _ _ ha hb c e
  ·rw[q]at e
   rw[hf i hi,hf j hj]
   exact h'.1 i j hi hj c e
 ·rw[Zdd d]at e;exact hΔ a b ha hb c e
theorem Zq7{L:Nat}{ρ:Nat→Option (Int×Int)}{z:Nat→Int}(h:Zgi N R p R' L ρ)(hz:∀i,i<L→z i=y (p i))(hp:∀i,i<L→p i<N)(hy:∀t,t<N→Z6 (R t) (y t))(hz':∀t,t<L→Z6 (R' t) (z t)): ∀t,t<N→∃r,ρ t=some r∧Z6 r (y t):=fun t ht=>by
 by_cases c:∃j,j<L∧p j=t
 ·obtain⟨j,hj,rfl⟩:=c
  have hm:=h.2 j hj
  have hb:Z6 (R (p j)) (y (p j))∧Z6 (R' j) (y (p j)):=⟨hy _ ht,hz j hj▸hz' j hj⟩
  cases e:ρ (p j)with
  | none=>rw[e]at hm;exact absurd hb (hm _)
  | some r=>rw[e]at hm;exact⟨r,rfl,(hm.2 _).mpr hb⟩
 ·exact⟨R t,h.1 t ht fun j hj e=>c ⟨j,hj,e⟩,hy t ht⟩
theorem Ztw{C:Nat→Nat→Int}(hn:n≤60)(hm:m≤60)(hb:b≤9000)(hb1:1≤b)(hG:GB b n G)(hC:CB b n m C)(hi:i<m+1): Zlv [Zf n G R,Zx n (ZdC C i),.lst (tab (m+1) fun j=>Zx n (ZdC C j))]=some (Z9 (m+1) fun j=>rcG n G C i j):=by
 apply Pk.eq
 unfold Zlv ZgY Z9
 walk_at "z"
 refine Zbr (n:=m+1) (a:=fun j=>Zx n (ZdC C j)) (b:=fun j=>oT (rcG n G C i j)) (by omega) ?_ (fun j hj=>?_) rfl
 ·walk_at "z"
  rfl
 ·walk_at "z"
  refine Zg (Zje (b:=b) (by omega) hb1 (by omega) (hC.full j hj)) ?_
  walk_at "z"
  exact Zg (Zeo (b:=b+1) (c:=dC C i j) hn (by omega) (by omega) (fun a b ha hb y e=>(hG a b ha hb y e).mono (by omega)) (hC.dif hi hj)) rfl
theorem Zvk{C:Nat→Nat→Int}{Q:T→Prop}(hn:n≤60)(hm:m≤60)(hb:b≤9000)(hb1:1≤b)(hG:GB b n G)(hR:∀t,t<n→RBd b (R t))(ok:∀t,t<n→RestOk (R t))(hC:CB b n m C)(h:Pk (ZaG [Zf m (rcG n G C) (rcR n R C)]) Q): Pk (ZbN [Zf n G R,Zaw n m C]) Q:=by
 obtain⟨t,et,qt⟩:=h
 refine⟨t,?_,qt⟩
 apply Pk.eq
 unfold ZbN ZfF
 have ht:Zf n G R=.tup [.lst (tab (n+1) fun i=>.lst (tab (n+1) fun j=>oT (G i j))),.lst (tab n fun i=>Zy (R i))]:=rfl
 have hc:cn (Zx n (ZX 0)) (fun i=>Zx n (C i))=fun i=>Zx n (ZdC C i):=by
  funext i
  cases i with
  | zero=>rw[unC_0];rfl
  | succ i=>rfl
 have hs:Zaw n m C=.lst (tab m fun i=>Zx n (C i)):=rfl
 rw[ht,hs]
 walk_at "z"
 refine Zg (Zes (i:=0) (n:=n) (by omega)) ?_
 walk_at "z"
 rw[hc]
 refine Zbr (n:=m+1) (a:=fun j=>Zx n (ZdC C j)) (b:=fun i=>Z9 (m+1) fun j=>rcG n G C i j) (by omega) ?_ (fun j hj=>?_) ?_
 ·walk_at "z"
  rfl
 ·walk_at "z"
  rw[←ht]
  exact Zg (Ztw (b:=b) hn hm hb hb1 hG hC hj) rfl
 walk_at "z"
 refine Zbr (n:=m) (a:=fun j=>Zx n (C j)) (b:=fun i=>Zy (rcR n R C i)) (by omega) ?_ (fun j hj=>?_) ?_
 ·walk_at "z"
  rfl
 ·walk_at "z"
  exact Zg (Zem (i:=b) (by omega) hb1 hb (fun k hk=>hC j hj k hk) hR ok) rfl
 walk_at "z"
 exact Zg et rfl
theorem Zv1{σ:TL}{g:PEs}{a:Nat}{L:List T→Prop}(h0:0<m)(hm:a+m≤1000)(e:g σ=some [.int a,.int (a+m)])(h:L (tab m fun i=>.int ((a+i:Nat):Int))): Pl (ZbI g σ) L:=by
 refine⟨_,Zik e (by have:=ZmW (a:=a) (n:=m) (by omega) (by omega);simpa using this),?_⟩
 rw[show(tab m fun i=>T.int ((a:Int)+i))=tab m fun i=>.int ((a+i:Nat):Int)from Za5 fun i _=>by congr 1]
 exact h
theorem ZuH(hn:n≤20)(hm0:0<m)(hm:m≤100): ZhU [Zf n G R,.int m]=some (Zf (n+m) (ZaW n G) (Za2 n R)):=by
 apply Pk.eq
 unfold ZhU ZhT
 have ht:∀{n:Nat} {G:Nat→Nat→Option Int} {R:Nat→Int×Int},Zf n G R=.tup [.lst (tab (n+1) fun i=>.lst (tab (n+1) fun j=>oT (G i j))),.lst (tab n fun i=>.tup [.int (R i).1,.int (R i).2])]:=rfl
 rw[ht]
 walk_at "z"
 refine Zbr (n:=n+1) (a:=fun i=>.lst (tab (n+1) fun j=>oT (G i j))) (b:=fun i=>.lst (tab (n+m+1) fun j=>oT (ZaW n G i j))) (by omega) ?_ (fun i hi=>?_) ?_
 ·walk_at "z"
  rfl
 ·walk_at "z"
  refine Zm8 (by omega) ?_
  refine ZmA (by omega) ?_
  rw[ZwV hi]
  exact⟨Zve,rfl⟩
 walk_at "z"
 refine Zbr (n:=m) (a:=fun i=>.int ((n+1+i:Nat):Int)) (b:=fun i=>.lst (tab (n+m+1) fun j=>oT (ZaW n G (n+1+i) j))) (by omega) ?_ (fun i hi=>?_) ?_
 ·refine Zv1 (a:=n+1) (m:=m) hm0 (by omega) ?_ rfl
  simp only[Zq,ZB,Zh,ZH,ZD,ZW,Option.bind_some]
  simp[Zaj]
  omega
 ·walk_at "z"
  refine Zg (show ZgN [.int ((n+1+i:Nat):Int),.int ((n:Int)+m)]=some (Z9 (n+m+1) fun j=>if j=n+1+i then some 0 else none)from Zos (by omega)) ?_
  show T.lst _=T.lst _
  congr 1
  refine Za5 fun j hj=>?_
  unfold ZaW
  rw[if_neg (by omega)]
 walk_at "z"
 refine ZmA (by omega) ?_
 walk_at "z"
 refine Zm8 (by omega) ?_
 refine ZmA (by omega) ?_
 rw[Zvf]
 refine⟨Zhm fun _ _=>ZeA,?_⟩
 walk_at "z"
 rw[show(Zf (n+m) (ZaW n G) (Za2 n R))=.tup [.lst (tab (n+m+1) fun i=>.lst (tab (n+m+1) fun j=>oT (ZaW n G i j))),ZaI (n+m) (Za2 n R)]from rfl,show n+1+m=n+m+1 by omega]
 congr 3
 refine Za5 fun i hi=>?_
 by_cases c:i<n+1
 ·rw[if_pos c]
 ·rw[if_neg c,show n+1+(i-(n+1))=i by omega]
theorem Zjf(hm:m≤90)(hn:n≤900): Zer [.int m,.int n]=some (Zaw n m fun t=>ZX (t+1)):=by
 apply Pk.eq
 unfold Zer ZhF
 walk_at "z"
 refine Zbr (n:=m) (a:=fun i=>.int ((1+i:Nat):Int)) (b:=fun t=>Zx n (ZX (t+1))) (by omega) ?_ (fun i hi=>?_) rfl
 ·refine ZjG (a:=1) (m:=m) (by omega) (by omega) ?_ rfl
  show some [T.int 1,T.int ((m:Int)+1)]=_
  rw[show(m:Int)+1=((1:Nat):Int)+m by omega]
  rfl
 ·walk_at "z"
  rw[Nat.add_comm 1 i]
  exact Zg (Zes (i:=i+1) (n:=n) hn) rfl
theorem Zq8{x:Nat}{f:Nat→T}{w:T}(hx:x<n)(hn:n≤1000): ZdY [.lst (tab n f),.int ((x:Int)+1),w]=some (.lst (tab n fun i=>if i=x then w else f i)):=by
 apply Pk.eq
 unfold ZdY Zm5
 have hlen:(tab n f).length=n:=Zaa
 walk_at "z"
 refine ZsB ?_
 walk_at "z"
 refine⟨_,rfl,?_⟩
 walk_at "z"
 refine⟨x,by congr 1;omega,?_⟩
 walk_at "z"
 refine Zd2 (by simp[hlen];omega) ?_
 refine ZsC ?_
 walk_at "z"
 refine⟨_,rfl,?_⟩
 walk_at "z"
 refine⟨x+1,rfl,?_⟩
 refine Zd2 (by simp[hlen];omega) ?_
 rw[ZrJ (by omega),ZfM]
theorem RB.bd2{q:Int×Int}(hM:0<M)(bM:Bd m M)(hm:m≤k)(h:RB M k q): RBd k q:=⟨(ZiC hM bM h).mono hm,h.2.2⟩
noncomputable def ZbD(n:Nat)(C:Nat→Nat→Int): Nat→Nat→Int:=fun t=>if t<n then ZX (t+1)else C (t-n)
theorem ZAk{t:Nat}{C:Nat→Nat→Int}(ok:∀t,t<n→RestOk (R t))(ht:t<n): rcR n R (ZbD n C) t=R t:=by
 unfold rcR ZbD
 rw[if_pos ht,Zm9 ok (by omega) (by omega),Nat.add_sub_cancel]
theorem Zzx{t:Nat}{C:Nat→Nat→Int}: rcR n R (ZbD n C) (n+t)=rcR n R C t:=by
 unfold rcR ZbD
 rw[if_neg (by omega),Nat.add_sub_cancel_left]
theorem bd_un: Bd 1 (ZX i k):=by
 unfold ZX Bd
 split <;> decide
theorem Zzy{r:Nat}{C:Nat→Nat→Int}(hC:CB 140 n r C): CB 580 n (n+r) (ZbD n C):=fun i hi k hk=>by
 unfold ZbD
 split
 ·exact bd_un.mono (by decide)
 ·exact(hC (i-n) (by omega) k hk).mono (by decide)
theorem ZjK{D1 D2:T}(hn:n≤20)(ok:∀t,t<n→RestOk (R t))(bR:∀t,t<n→RBd 900 (R t))(bc:∀i,i<n+1→Bd 300 (c i))(h:(Z6 (Zae c R n) 0∧ZcC [Zf n G R,Zx n c,.int 0]=some D1∧ZcC [D1,Zx n fun k=>-(c k),.int 0]=some D2∧Zdp [D2,Zx n c,.int 0]=some D)∨(¬Z6 (Zae c R n) 0∧D=.none)): Zhi [Zf n G R,Zx n c]=some D:=by
 have ht:Zf n G R=.tup [ZN (n+1) G,.lst (tab n fun i=>Zy (R i))]:=rfl
 have hg:∀{Q:T→Prop},Q (.lst (tab n fun i=>Zy (R i)))→Pk (Z2 (Zf n G R) (.int 1)) Q:=fun h=>⟨_,by rw[ht];rfl,h⟩
 have bn:Bd 300 (-1):=(show Bd 1 (-1)by unfold Bd;decide).mono (by decide)
 have hs:=Zem (i:=900) (by omega) (by decide) (by decide) (fun i hi=>(bc i hi).mono (by decide)) bR ok
 have hh:=Zfm (q:=Zae c R n) (x:=0) (ZcX ok)
 apply Pk.eq
 unfold Zhi Zhh
 rcases h with⟨hr,h1,h2,h3⟩ | ⟨hr,rfl⟩
 ·walk_at "z"
  refine hg ?_
  walk_at "z"
  refine Zg hs ?_
  walk_at "z"
  refine Zg hh ?_
  rw[Zao hr]
  walk_at "z"
  refine Zg h1 ?_
  walk_at "z"
  refine Zg (ZdL (b:=300) (by omega) (by decide) bc bn) ?_
  rw[Zmv]
  walk_at "z"
  refine Zg h2 ?_
  walk_at "z"
  exact Zg h3 rfl
 ·walk_at "z"
  refine hg ?_
  walk_at "z"
  refine Zg hs ?_
  walk_at "z"
  refine Zg hh ?_
  rw[Zas hr]
  walk_at "z"
  rfl
theorem se_: PyData.strOk (Str.ofString "even")=true:=by decide +kernel
theorem Zny{a b:Str}(h:a≠b): ¬(T.str a=T.str b):=fun q=>h (T.str.inj q)
noncomputable def evT(n:Nat)(c:Nat→Int)(d:Int): T:=.tup [.str (Str.ofString "even"),Zx n c,.int d]
theorem Zzz: ¬(T.str (Str.ofString "even")=T.str (Str.ofString "under")):=Zny (by decide +kernel)
theorem ZzA: ¬(T.str (Str.ofString "even")=T.str (Str.ofString "same")):=Zny (by decide +kernel)
theorem Zkc{b:Bool}(h:(if b then Zhg [Zf n G R,Zx n c,.int d]else Zff [Zf n G R,Zx n c,.int d])=some D): Zdh [Zf n G R,evT n c d,.bool b]=some D:=by
 apply Pk.eq
 unfold Zdh ZeT
 have ht:Zf n G R=.tup [ZN (n+1) G,.lst (tab n fun i=>Zy (R i))]:=rfl
 have hne:∀{Q:T→Prop},Q (.bool false)→Pk (qIs (Zf n G R) .none) Q:=fun h=>⟨_,by rw[ht];rfl,h⟩
 unfold evT
 walk_at "z"
 refine hne ?_
 walk_at "z"
 refine ZcL (n:=1) (m:=1) (.str se_) (.str su) ?_
 rw[Zas Zzz]
 walk_at "z"
 refine ZcL (n:=1) (m:=1) (.str se_) (.str ss_) ?_
 rw[Zas ZzA]
 cases b with
 | true=>
  rw[if_pos rfl]at h
  walk_at "z"
  exact Zg h rfl
 | false=>
  rw[if_neg (by decide)]at h
  walk_at "z"
  exact Zg h rfl
section
variable {n:Nat} {G:Nat→Nat→Option Int} {R:Nat→Int×Int} {c:Nat→Int} (hn:n≤4) (hd:∀i,i<n+1→G i i=some 0) (ok:∀t,t<n→RestOk (R t)) (sG:SmG 137 n G) (sR:SmR 137 n R) (bc:∀i,i<n+1→Bd 300 (c i))
include hn hd ok sG sR bc
end
def ClT(n:Nat)(c:Nat→Int)(t:T): Prop:=t=unT n c∨t=smT n c∨∃d,0<d∧Bd 140 d∧t=evT n c d
section
variable {n:Nat} {G:Nat→Nat→Option Int} {R:Nat→Int×Int} {c:Nat→Int} {M:Int} {Cl:T}
theorem Tf.imp{P P':(Nat→Int)→Prop}{I I':(Nat→Nat→Option Int)→(Nat→Int×Int)→Prop}(h:Tf n P I D)(hP:∀x,P' x→P x)(hI:∀G R,I G R→I' G R): Tf n P' I' D:=by
 rcases h with⟨rfl,no⟩ | ⟨G,R,rfl,h1,h2,h3,h4⟩
 ·exact .inl ⟨rfl,fun x p=>no x (hP x p)⟩
 ·exact .inr ⟨G,R,rfl,h1,h2,fun x p=>h3 x (hP x p),hI G R h4⟩
end
end L
open PySem PySem.W PyProof.Rows PM TM My
namespace L
open PySem PySem.W PyProof.Rows PM TM My
variable {x y:Int} {n:Nat} {G G':Nat→Nat→Option Int}
theorem Zet{a b:Int}(ha:0≤a)(hb:0≤b)(h1:b ∣ a)(h2:b ∣ x-y): Z3 (Zah a x) (Zah b y):=by
 refine Zd7 (Zbq ha _) (Zbq hb _) fun z hz=>?_
 rw[Zdb ha]at hz
 rw[Zdb hb]
 have:=Int.dvd_add (Int.dvd_trans h1 hz) h2
 rwa [show z-x+(x-y)=z-y by omega]at this
theorem Zvl{p q:Int×Int}(hp:RestOk p)(hq:RestOk q)(h:Z3 p q)(k:Int): Z3 (ZbO p k) (ZbO q k):=by
 obtain⟨h1,h2⟩:=Zdx h
 refine Zet (Int.mul_nonneg hp.nn (Zcp k)) (Int.mul_nonneg hq.nn (Zcp k)) (Int.mul_dvd_mul h1 (Int.dvd_refl _)) ?_
 rw[←Int.sub_mul]
 have e:ZaC k ∣ k:=by
  unfold ZaC
  split
  ·exact Int.neg_dvd.mpr (Int.dvd_refl _)
  ·exact Int.dvd_refl _
 exact Int.mul_dvd_mul h2 e
theorem Zv2{p q p' q':Int×Int}(h:Z3 p p')(k:Z3 q q'): Z3 (ZbF p q) (ZbF p' q'):=by
 obtain⟨a1,a2⟩:=Zdx h
 obtain⟨b1,b2⟩:=Zdx k
 have g1:((Int.gcd p'.1 q'.1:Nat):Int) ∣ p'.1:=Int.gcd_dvd_left ..
 have g2:((Int.gcd p'.1 q'.1:Nat):Int) ∣ q'.1:=Int.gcd_dvd_right ..
 refine Zet (by omega) (by omega) (Int.dvd_coe_gcd (Int.dvd_trans g1 a1) (Int.dvd_trans g2 b1)) ?_
 have:=Int.dvd_add (Int.dvd_trans g1 a2) (Int.dvd_trans g2 b2)
 rwa [show p.2-p'.2+(q.2-q'.2)=p.2+q.2-(p'.2+q'.2)by omega]at this
theorem ZdS{n:Nat}{c:Nat→Int}{R R':Nat→Int×Int}(ok:∀t,t<n→RestOk (R t))(ok':∀t,t<n→RestOk (R' t))(h:∀t,t<n→Z3 (R t) (R' t)): ∀j,j≤n→Z3 (Zae c R j) (Zae c R' j)
 | 0,_=>ZdV
 | j+1,hj=>Zv2 (ZdS ok ok' h j (by omega)) (Zvl (ok j (by omega)) (ok' j (by omega)) (h j (by omega)) _)
def Zce(s s':Sp): Prop:=(∀y,s'.1=some y→∃x,s.1=some x∧y≤x)∧leO s.2 s'.2
theorem Zie{k:Int}(h:x≤y)(hk:0≤k): x*k≤y*k:=Int.mul_le_mul_of_nonneg_right h hk
theorem ZuI{s s':Sp}(h:Zce s s')(k:Int): Zce (Zbd s k) (Zbd s' k):=by
 unfold Zbd
 split
 ·exact⟨fun y e=>⟨y,e,Int.le_refl _⟩,Za6⟩
 ·split
  ·rename_i hk
   have neg:∀{x y:Int},x≤y→y*k≤x*k:=fun {x y} q=>by
    have:=Zie q (show 0≤-k by omega)
    rw[Int.mul_neg,Int.mul_neg]at this;omega
   refine⟨fun y e=>?_,fun y e=>?_⟩
   ·obtain⟨u,e1,e2⟩:=Zz1.mp e
    obtain⟨x,e3,l⟩:=h.2 u e1
    exact⟨x*k,by show s.2.map _=_;rw[e3];rfl,by rw[←e2];exact neg l⟩
   ·obtain⟨u,e1,e2⟩:=Zz1.mp e
    obtain⟨x,e3,l⟩:=h.1 u e1
    exact⟨x*k,by show s.1.map _=_;rw[e3];rfl,by rw[←e2];exact neg l⟩
  ·refine⟨fun y e=>?_,fun y e=>?_⟩
   ·obtain⟨u,e1,e2⟩:=Zz1.mp e
    obtain⟨x,e3,l⟩:=h.1 u e1
    exact⟨x*k,by show s.1.map _=_;rw[e3];rfl,by rw[←e2];exact Zie l (by omega)⟩
   ·obtain⟨u,e1,e2⟩:=Zz1.mp e
    obtain⟨x,e3,l⟩:=h.2 u e1
    exact⟨x*k,by show s.2.map _=_;rw[e3];rfl,by rw[←e2];exact Zie l (by omega)⟩
theorem Zvm{s s' u u':Sp}(h:Zce s s')(k:Zce u u'): Zce (ZiJ s u) (ZiJ s' u'):=by
 refine⟨fun y e=>?_,Zdr h.2 k.2⟩
 obtain⟨a,b,e1,e2,e3⟩:=addO_some.mp e
 obtain⟨x1,f1,l1⟩:=h.1 a e1
 obtain⟨x2,f2,l2⟩:=k.1 b e2
 exact⟨x1+x2,addO_some.mpr ⟨x1,x2,f1,f2,rfl⟩,by omega⟩
theorem Zqy{n:Nat}{c:Nat→Int}{S S':Nat→Sp}(h:∀t,t<n→Zce (S t) (S' t)): ∀j,j≤n→Zce (ZaX c S j) (ZaX c S' j)
 | 0,_=>⟨fun y e=>⟨y,e,Int.le_refl _⟩,Za6⟩
 | j+1,hj=>Zvm (Zqy h j (by omega)) (ZuI (h j (by omega)) _)
theorem ZwZ(h:LeG (n+1) G G'){t:Nat}(ht:t<n): Zce (S40 G t) (S40 G' t):=by
 refine⟨fun y e=>?_,h (t+1) 0 (by omega) (by omega)⟩
 obtain⟨u,e1,e2⟩:=Zz1.mp e
 obtain⟨x,e3,l⟩:=h 0 (t+1) (by omega) (by omega) u e1
 exact⟨x*(-1),by show(G 0 (t+1)).map _=_;rw[e3];rfl,by omega⟩
theorem ZeC(h:LeG (n+1) G G')(c:Nat→Int): leO (grt n G c) (grt n G' c):=by
 unfold grt
 by_cases q:Df n c
 ·rw[Zao q]
  obtain⟨u,d,_,_,_,_,hu,hd,_,_,e1,e2,_⟩:=Zew q
  rw[e1,e2]
  exact Zdr (h u d hu hd) Za6
 ·rw[Zas q]
  exact(Zqy (fun t ht=>ZwZ h ht) n (Zz10 _)).2
theorem ZfB{k:Int}(h:x≤y)(hk:0<k): x.fdiv k≤y.fdiv k:=by
 rw[Int.fdiv_eq_ediv_of_nonneg _ (Int.le_of_lt hk),Int.fdiv_eq_ediv_of_nonneg _ (Int.le_of_lt hk)]
 exact Int.ediv_le_ediv hk h
theorem Zq9{a b:Option Int}{f:Int→Int}(h:leO a b)(hf:∀x y,x≤y→f x≤f y): leO (a.map f) (b.map f):=fun y e=>by
 obtain⟨u,e1,e2⟩:=Zz1.mp e
 obtain⟨x,e3,l⟩:=h u e1
 exact⟨f x,by rw[e3];rfl,by rw[←e2];exact hf x u l⟩
theorem Zra(h:LeG (n+1) G G')(c:Nat→Int)(top:Int){i:Nat}(hi:c i≠0): leO (prt n G c top i) (prt n G' c top i):=
 Zq9 (Zdr (ZeC h _) Za6) fun x y q=>ZfB q (by split <;> omega)
theorem Zyj(h:LeG (n+1) G G')(c:Nat→Int)(top:Int): LeG (n+1) (amG n G c top) (amG n G' c top):=fun a b ha hb=>by
 have ap:leO (apW n G c top a b) (apW n G' c top a b):=by
  unfold apW
  split
  ·exact h a b ha hb
  ·exact Zic (h a b ha hb) (Zdr (ZeC h _) Za6)
 unfold amG alW
 split
 ·rename_i q
  obtain⟨rfl,_,_,q4⟩:=q
  exact Zic ap (Zra h c top (by omega))
 ·split
  ·rename_i q
   obtain⟨rfl,_,_,q4⟩:=q
   exact Zic ap (Zra h c top (by omega))
  ·exact ap
end L
open PySem PySem.W PyProof.Rows PM TM My
namespace L
open PySem PySem.W PyProof.Rows PM TM My
variable {b k n:Nat} {G G':Nat→Nat→Option Int} {R R':Nat→Int×Int} {D:T} {M top:Int} {c:Nat→Int}
theorem Znz{α:Type}{f g:Nat→α}(h:tab n f=tab n g){i:Nat}(hi:i<n): f i=g i:=by
 have:=congrArg (fun l=>l[i]?) h
 simp only[ZaS hi]at this
 exact Option.some.inj this
theorem ZAl{a b:Option Int}(h:oT a=oT b): a=b:=by
 cases a <;> cases b <;> first | rfl | (cases h;done) | (cases h;rfl)
theorem ZmN(h:Zf n G R=Zf n G' R'): (∀i j,i<n+1→j<n+1→G i j=G' i j)∧∀t,t<n→R t=R' t:=by
 unfold Zf ZN Z9 ZaI at h
 injection h with h
 injection h with h1 h2
 injection h2 with h2 _
 injection h1 with h1
 injection h2 with h2
 refine⟨fun i j hi hj=>?_,fun t ht=>?_⟩
 ·have:=Znz h1 hi
  injection this with this
  exact ZAl (Znz this hj)
 ·have:=Znz h2 ht
  unfold Zy at this
  injection this with this
  injection this with a b
  injection b with b _
  injection a with a
  injection b with b
  exact Prod.ext a b
def InD(n:Nat)(D D':T): Prop:=D=.none∨∃G R G' R',D=Zf n G R∧D'=Zf n G' R'∧Inside n G R G' R'
theorem Zio(h:Zf n G R=.none): False:=by cases h
theorem InD.inside(h:InD n (Zf n G R) (Zf n G' R')): Inside n G R G' R':=by
 rcases h with h | ⟨A,S,A',S',e,e',i⟩
 ·exact(Zio h).elim
 ·obtain⟨a1,a2⟩:=ZmN e
  obtain⟨b1,b2⟩:=ZmN e'
  exact⟨fun i' hi j hj=>by rw[a1 i' j hi hj,b1 i' j hi hj];exact i.1 i' hi j hj,fun t ht=>by rw[a2 t ht,b2 t ht];exact i.2 t ht⟩
theorem InD.told(h:Inside n G R G' R'): InD n (Zf n G R) (Zf n G' R'):=.inr ⟨G,R,G',R',rfl,rfl,h⟩
theorem InD.no(h:InD n (Zf n G R) .none): False:=by
 rcases h with h | ⟨A,S,A',S',e,e',i⟩
 ·exact Zio h
 ·exact Zio e'.symm
def ShD(n:Nat)(G:Nat→Nat→Option Int)(R:Nat→Int×Int)(D:T): Prop:=(∃G2 R2 M k,D=Zf n G2 R2∧Sharp n G R G2 R2 M k)∨(D=.none∧∃M k,Zmu n G R M k)
def Gd(n:Nat)(G:Nat→Nat→Option Int)(R:Nat→Int×Int): Prop:=(∀i,i<n+1→G i i=some 0)∧∀t,t<n→RestOk (R t)
theorem ShD.mono{D':T}(g:Gd n G R)(g':Gd n G' R')(h:Inside n G R G' R')(s:ShD n G R D)(s':ShD n G' R' D'): InD n D D':=by
 rcases s with⟨G2,R2,M,k,rfl,s⟩ | ⟨rfl,_⟩
 ·rcases s' with⟨G2',R2',M',k',rfl,s'⟩ | ⟨rfl,M',k',f⟩
  ·exact .told (Zvi g.1 g.2 g'.2 h s s')
  ·exact absurd f (ZuF g.1 g.2 g'.2 h s)
 ·exact .inl rfl
theorem ZeK(hn:n≤20)(hk:k+2*n+4≤7000)(hM:0<M)(bM:Bd k M)(hd:∀i,i<n+1→G i i=some 0)(bG:GB k n G)(hR:∀t,t<n→RB M k (R t)): ∃D,ZaG [Zf n G R]=some D∧True∧Tm n (k+3*n+7) M (fun _=>False) (fun _ _=>True) D:=by
 have bG2:BdG (n+1) k G:=fun a b c ha hb e=>bG a b ha hb c e
 obtain⟨D,et,hD⟩:=ZqX (k:=k) (by omega) (by omega) hM bM hd bG2 hR
 refine⟨D,et,trivial,?_⟩
 rcases hD with⟨G2,R2,rfl,s⟩ | ⟨rfl,f⟩
 ·obtain⟨z1,z2⟩:=Zvg hM (bM.mono (by omega)) bG2 (by omega) s
  obtain⟨_,_,_,_,_,_,h6⟩:=s.go
  exact .inr ⟨G2,R2,rfl,(Zvc hd s).1,fun t ht=>(h6 t ht).1.mono (by omega),fun i j hi hj b e=>(z1 i j b hi hj e).mono (by omega),fun x li=>li.elim,trivial⟩
 ·exact .inl ⟨rfl,fun x li=>li⟩
theorem ZeW(hn:n≤20)(hk:k+2*n+4≤7000)(hM:0<M)(bM:Bd k M)(hd:∀i,i<n+1→G i i=some 0)(bG:GB k n G)(hR:∀t,t<n→RB M k (R t))(e:ZaG [Zf n G R]=some D): ShD n G R D:=by
 obtain⟨t,et,h⟩:=ZqX (by omega) hk hM bM hd (fun a b c ha hb e=>bG a b ha hb c e) hR
 rw[e]at et
 cases et
 rcases h with⟨G2,R2,rfl,s⟩ | ⟨rfl,f⟩
 ·exact .inl ⟨G2,R2,M,_,rfl,s⟩
 ·exact .inr ⟨rfl,M,_,f⟩
def Far(n:Nat)(G:Nat→Nat→Option Int)(c:Nat→Int)(top:Int): Prop:=∃y,grt n G (fun k=>-(c k))=some y∧top < -y
theorem Zw0(h:LeG (n+1) G G')(f:Far n G' c top): Far n G c top:=by
 obtain⟨y,e,l⟩:=f
 obtain⟨x,e2,l2⟩:=ZeC h _ y e
 exact⟨x,e2,by omega⟩
def AmD(n:Nat)(G:Nat→Nat→Option Int)(R:Nat→Int×Int)(c:Nat→Int)(top:Int)(D:T): Prop:=(Far n G c top∧D=.none)∨(¬Far n G c top∧ShD n (amG n G c top) R D)
theorem Inside.le(h:Inside n G R G' R'): LeG (n+1) G G':=fun i j hi hj=>h.1 i hi j hj
theorem AmD.mono{D':T}(g:Gd n G R)(g':Gd n G' R')(h:Inside n G R G' R')(s:AmD n G R c top D)(s':AmD n G' R' c top D'): InD n D D':=by
 rcases s with⟨_,rfl⟩ | ⟨nf,s⟩
 ·exact .inl rfl
 ·rcases s' with⟨f,_⟩ | ⟨_,s'⟩
  ·exact absurd (Zw0 h.le f) nf
  ·have m:=Zyj h.le c top
   exact s.mono ⟨ZiS g.1,g.2⟩ ⟨ZiS g'.1,g'.2⟩ ⟨fun i hi j hj=>m i j hi hj,h.2⟩ s'
structure Sz(n b k:Nat)(M:Int)(G:Nat→Nat→Option Int)(R:Nat→Int×Int): Prop where
 hM:0<M
 bM:Bd k M
 hd:∀i,i<n+1→G i i=some 0
 bG:GB b n G
 hR:∀t,t<n→RB M k (R t)
theorem Sz.gd(z:Sz n b k M G R): Gd n G R:=⟨z.hd,fun t ht=>(z.hR t ht).1⟩
theorem Sz.mono{b' k':Nat}(z:Sz n b k M G R)(hb:b≤b')(hk:k≤k'): Sz n b' k' M G R:=⟨z.hM,z.bM.mono hk,z.hd,fun i j hi hj y e=>(z.bG i j hi hj y e).mono hb,fun t ht=>(z.hR t ht).mono hk⟩
def SzD(n K:Nat)(M:Int)(D:T): Prop:=D=.none∨∃G R,D=Zf n G R∧Sz n K K M G R
theorem Tm.szd{K:Nat}{P:(Nat→Int)→Prop}{I:(Nat→Nat→Option Int)→(Nat→Int×Int)→Prop}(hM:0<M)(bM:Bd K M)(h:Tm n K M P I D): SzD n K M D:=by
 rcases h with⟨rfl,_⟩ | ⟨G,R,rfl,h1,h2,h3,_⟩
 ·exact .inl rfl
 ·exact .inr ⟨G,R,rfl,hM,bM,h1,h3,h2⟩
theorem Zuk{y:Int}(hn:n≤60)(hb:b≤4000)(hb1:1≤b)(hG:GB b n G)(bc:∀i,i<n+1→Bd b (c i))(e:grt n G (fun k=>-(c k))=some y)(hy:top < -y): ZcC [Zf n G R,Zx n c,.int top]=some .none:=by
 have ht:Zf n G R=.tup [ZN (n+1) G,.lst (tab n fun i=>Zy (R i))]:=rfl
 have hne:∀{Q:T→Prop},Q (.bool false)→Pk (qIs (Zf n G R) .none) Q:=fun h=>⟨_,by rw[ht];rfl,h⟩
 have hx:ZhS [oT ((grt n G fun i=>-(c i)).map fun y=>y * -1),.int top]=some (.bool true):=by
  rw[show T.int top=oT (some top)from rfl,Zp0,Zao]
  exact⟨y * -1,top,by rw[e];rfl,rfl,by omega⟩
 apply Pk.eq
 unfold ZcC Zev
 walk_at "z"
 refine hne ?_
 walk_at "z"
 refine Zg (Zqx hn hb hb1 hG bc) ?_
 walk_at "z"
 refine Zg hx ?_
 walk_at "z"
 rfl
theorem Zex(hn:n≤20)(hb1:1≤b)(hb:b≤4000)(hB:b+b+n+6≤k)(hk:k+2*n+4≤7000)(z:Sz n b k M G R)(bc:∀i,i<n+1→Bd b (c i))(bt:Bd b top): ∃D,ZcC [Zf n G R,Zx n c,.int top]=some D∧AmD n G R c top D∧SzD n (k+3*n+7) M D:=by
 by_cases f:Far n G c top
 ·obtain⟨y,e1,l⟩:=f
  exact⟨.none,Zuk (R:=R) (by omega) hb hb1 z.bG bc e1 l,.inl ⟨⟨y,e1,l⟩,rfl⟩,.inl rfl⟩
 ·have sm:GB k n (amG n G c top):=fun i j hi hj y e=>ZAi hb1 z.bG bc bt hB i j hi hj y e
  obtain⟨D,e2,_,t⟩:=ZeK hn hk z.hM z.bM (ZiS z.hd) sm z.hR
  exact⟨D,ZuG (R:=R) (by omega) hb hb1 z.bG bc z.hd (fun y e1=>Classical.byContradiction fun q=>f ⟨y,e1,by omega⟩) e2,.inr ⟨f,ZeW hn hk z.hM z.bM (ZiS z.hd) sm z.hR e2⟩,t.szd z.hM (z.bM.mono (by omega))⟩
end L
open PySem PySem.W PyProof.Rows PM TM My
namespace L
open PySem PySem.W PyProof.Rows PM TM My
variable {n:Nat} {R:Nat→Int×Int} {c:Nat→Int} {M d:Int} {G:Nat→Nat→Option Int}
def Up(n:Nat)(P:(Nat→Nat→Option Int)→(Nat→Int×Int)→T→Prop)(T0 D:T): Prop:=(T0=.none∧D=.none)∨∃G R,T0=Zf n G R∧Gd n G R∧P G R D
def Mo(n:Nat)(P P':(Nat→Nat→Option Int)→(Nat→Int×Int)→T→Prop): Prop:=∀G R G' R' D D',Gd n G R→Gd n G' R'→Inside n G R G' R'→P G R D→P' G' R' D'→InD n D D'
theorem Up.mono{P P':(Nat→Nat→Option Int)→(Nat→Int×Int)→T→Prop}{T0 T0' D D':T}(m:Mo n P P')(h:InD n T0 T0')(u:Up n P T0 D)(u':Up n P' T0' D'): InD n D D':=by
 rcases u with⟨_,rfl⟩ | ⟨G,R,rfl,g,p⟩
 ·exact .inl rfl
 ·rcases u' with⟨rfl,_⟩ | ⟨G',R',rfl,g',p'⟩
  ·exact(InD.no h).elim
  ·exact m G R G' R' D D' g g' h.inside p p'
theorem ZAm(c:Nat→Int)(top:Int): Mo n (fun G R=>AmD n G R c top) (fun G R=>AmD n G R c top):=fun _ _ _ _ _ _ g g' h s s'=>s.mono g g' h s'
def ReD(n:Nat)(G:Nat→Nat→Option Int)(R:Nat→Int×Int)(c:Nat→Int)(d:Int)(D:T): Prop:=∃o:Nat→Option (Int×Int),(∀t,t<n→BesO n R c d t (o t))∧(((∃t,t<n∧o t=none)∧D=.none)∨∃R1,(∀t,t<n→o t=some (R1 t))∧(∀t,t<n→RestOk (R1 t))∧ShD n G R1 D)
theorem Zw1{R':Nat→Int×Int}(ok:∀t,t<n→RestOk (R t))(ok':∀t,t<n→RestOk (R' t))(h:∀t,t<n→Z3 (R t) (R' t))(i:Nat): Z3 (ZcR n R c d i) (ZcR n R' c d i):=by
 have m:=Zdx (ZdS (c:=ZbC c i) ok ok' h n (Zz10 n))
 unfold ZcR
 generalize Zae (ZbC c i) R n=p at *
 generalize Zae (ZbC c i) R' n=q at *
 have g1:((Int.gcd q.1 d:Nat):Int) ∣ q.1:=Int.gcd_dvd_left ..
 have g2:((Int.gcd q.1 d:Nat):Int) ∣ d:=Int.gcd_dvd_right ..
 refine Zet (by omega) (by omega) (Int.dvd_coe_gcd (Int.dvd_trans g1 m.1) g2) ?_
 rw[←Int.mul_sub]
 exact Int.dvd_trans (Int.dvd_trans g1 m.2) (Int.dvd_mul_left _ _)
theorem Zv3{t:Nat}{R':Nat→Int×Int}{r:Int×Int}{o':Option (Int×Int)}(ht:t<n)(ok:∀t,t<n→RestOk (R t))(ok':∀t,t<n→RestOk (R' t))(h:∀t,t<n→Z3 (R t) (R' t))(b:BesO n R c d t (some r))(b':BesO n R' c d t o'): ∃r',o'=some r'∧Z3 r r'∧RestOk r':=by
 unfold BesO at b b'
 split at b
 ·rename_i q
  rw[if_pos q]at b'
  have hm:∀x,Z6 r x→Z6 (R' t) x∧Z6 (ZcR n R' c d (t+1)) x:=fun x hx=>⟨ZcG (ok t ht) (ok' t ht) (h t ht) ((b.2 x).mp hx).1,ZcG Zkv Zkv (Zw1 ok ok' h _) ((b.2 x).mp hx).2⟩
  cases o' with
  | none=>exact absurd (hm _ b.1.self) (b' r.2)
  | some r'=>exact⟨r',rfl,Zd7 b.1 b'.1 fun x hx=>(b'.2 x).mpr (hm x hx),b'.1⟩
 ·rename_i q
  rw[if_neg q]at b'
  rw[Option.some.inj b]
  exact⟨_,b',h t ht,ok' t ht⟩
theorem ZsK(c:Nat→Int)(d:Int): Mo n (fun G R=>ReD n G R c d) (fun G R=>ReD n G R c d):=by
 rintro G R G' R' D D' g g' h ⟨o,ho,q⟩ ⟨o',ho',q'⟩
 rcases q with⟨_,rfl⟩ | ⟨R1,e1,ok1,s⟩
 ·exact .inl rfl
 ·have key:∀t,t<n→∃r',o' t=some r'∧Z3 (R1 t) r'∧RestOk r':=fun t ht=>by
   have b:=ho t ht
   rw[e1 t ht]at b
   exact Zv3 ht g.2 g'.2 h.2 b (ho' t ht)
  rcases q' with⟨⟨t,ht,e⟩,_⟩ | ⟨R1',e1',ok1',s'⟩
  ·obtain⟨r',e',_⟩:=key t ht
   rw[e]at e';cases e'
  ·refine s.mono ⟨g.1,ok1⟩ ⟨g'.1,ok1'⟩ ⟨h.1,fun t ht=>?_⟩ s'
   obtain⟨r',e',i,_⟩:=key t ht
   rw[e1' t ht]at e'
   cases e'
   exact i
theorem ZrT{k b m K:Nat}(hn:n≤20)(hk1:1≤k)(hk:k+k+n≤K)(hbk:b+m≤k)(hb1:1≤b)(hK:(b+m+m)*n+1≤K)(hK2:K+2*n+4≤7000)(hd0:∀i,i<n+1→G i i=some 0)(bG:GB K n G)(ok:∀t,t<n→RestOk (R t))(bm:∀t,t<n→Bd m (R t).1)(bR:∀t,t<n→RBd k (R t))(bc:∀j,j<n+1→Bd k (c j))(bo:∀t,t<n→∀j,j<n+1→Bd b (ZbC c (t+1) j))(bd:Bd (b+m) d): ∃D,Zdp [Zf n G R,Zx n c,.int d]=some D∧ReD n G R c d D∧DueOk n D:=by
 have bo2:∀t,t<n→∀j,j<n+1→Bd k (ZbC c (t+1) j):=fun t ht j hj=>(bo t ht j hj).mono (by omega)
 obtain⟨o,ho,a1,a2⟩:=Zuh (G:=G) (c:=c) (d:=d) (by omega) hk1 (by omega) ok bR bc bo2 (bd.mono (by omega))
 by_cases hc:∃t,t<n∧o t=none
 ·exact⟨.none,a1 hc,⟨o,ho,.inl ⟨hc,rfl⟩⟩,.inl rfl⟩
 ·have hs:∀t,t<n→o t=some ((o t).getD (1,0)):=fun t ht=>by
   cases e:o t with
   | none=>exact absurd ⟨t,ht,e⟩ hc
   | some q=>rfl
  generalize hR':(fun t=>(o t).getD (1,0))=R'
  have hs2:∀t,t<n→o t=some (R' t):=fun t ht=>by rw[←hR'];exact hs t ht
  have hB:∀t,t<n→BesO n R c d t (some (R' t)):=fun t ht=>by rw[←hs2 t ht];exact ho t ht
  have hr:=fun t (ht:t<n)=>Zye (k:=k) (by omega) ht ok bm bR (bo t ht) hbk bd (hB t ht)
  have bM:Bd K (ZbW R' n):=(ZfI (k:=b+m+m) (by omega) (fun t ht=>(hr t ht).2.1) n (Zz10 n)).mono (by omega)
  have pM:=Zfz (fun t ht=>(hr t ht).1) n (Zz10 n)
  have rb:∀t,t<n→RB (ZbW R' n) K (R' t):=fun t ht=>⟨(hr t ht).1,ZfA n t ht,(hr t ht).2.2.mono (by omega)⟩
  obtain⟨D,e1,_,hD⟩:=ZeK (k:=K) (R:=R') hn hK2 pM bM hd0 bG rb
  exact⟨D,a2 R' D hs2 e1,⟨o,ho,.inr ⟨R',hs2,fun t ht=>(hr t ht).1,ZeW hn hK2 pM bM hd0 bG rb e1⟩⟩,hD.tf.due⟩
structure S5(n:Nat)(M:Int)(G:Nat→Nat→Option Int)(R:Nat→Int×Int): Prop where
 hn:n≤4
 hM:0<M
 bM:Bd 560 M
 hd:∀i,i<n+1→G i i=some 0
 hG:GB 580 n G
 hR:∀t,t<n→RB M 580 (R t)
theorem S5.gd(z:S5 n M G R): Gd n G R:=⟨z.hd,fun t ht=>(z.hR t ht).1⟩
theorem S5.sz(z:S5 n M G R){k:Nat}(hk:580≤k): Sz n 580 k M G R:=⟨z.hM,z.bM.mono (by omega),z.hd,z.hG,fun t ht=>(z.hR t ht).mono hk⟩
theorem S5.rbd(z:S5 n M G R): ∀t,t<n→RBd 900 (R t):=fun t ht=>((z.hR t ht).mono (show 580≤900 by decide)).bd2 z.hM z.bM (by decide)
def SaD(n:Nat)(G:Nat→Nat→Option Int)(R:Nat→Int×Int)(c:Nat→Int)(D:T): Prop:=(¬Z6 (Zae c R n) 0∧D=.none)∨(Z6 (Zae c R n) 0∧∃D1 D2,AmD n G R c 0 D1∧Up n (fun G R=>AmD n G R (fun k=>-(c k)) 0) D1 D2∧Up n (fun G R=>ReD n G R c 0) D2 D)
theorem ZAn(c:Nat→Int): Mo n (fun G R=>SaD n G R c) (fun G R=>SaD n G R c):=by
 rintro G R G' R' D D' g g' h q q'
 rcases q with⟨_,rfl⟩ | ⟨hr,D1,D2,a1,a2,a3⟩
 ·exact .inl rfl
 ·rcases q' with⟨hr',_⟩ | ⟨_,D1',D2',a1',a2',a3'⟩
  ·exact absurd (ZcG (ZcX g.2) (ZcX g'.2) (ZdS g.2 g'.2 h.2 n (Zz10 n)) hr) hr'
  ·exact Up.mono (ZsK c 0) (Up.mono (ZAm _ 0) (a1.mono g g' h a1') a2 a2') a3 a3'
theorem Zsq(z:S5 n M G R)(bc:∀i,i<n+1→Bd 300 (c i)): ∃D,Zhi [Zf n G R,Zx n c]=some D∧SaD n G R c D∧DueOk n D:=by
 have hn:=z.hn
 have ok:=z.gd.2
 by_cases hr:Z6 (Zae c R n) 0
 ·obtain⟨D1,a1,m1,t1⟩:=Zex (b:=580) (k:=1180) (c:=c) (top:=0) (by omega) (by decide) (by decide) (by omega) (by omega) (z.sz (by decide)) (fun i hi=>(bc i hi).mono (by decide)) Zbb
  rcases t1 with rfl | ⟨G1,R1,rfl,z1⟩
  ·exact⟨.none,ZjK (D:=.none) (by omega) ok z.rbd bc (.inl ⟨hr,a1,Zug,Zou⟩),.inr ⟨hr,_,_,m1,.inl ⟨rfl,rfl⟩,.inl ⟨rfl,rfl⟩⟩,.inl rfl⟩
  ·obtain⟨D2,a2,m2,t2⟩:=Zex (b:=1200) (k:=2420) (c:=fun k=>-(c k)) (top:=0) (by omega) (by decide) (by decide) (by omega) (by omega) (z1.mono (by omega) (by omega)) (fun i hi=>(ZeI bc i hi).mono (by decide)) Zbb
   rcases t2 with rfl | ⟨G2,R2,rfl,z2⟩
   ·exact⟨.none,ZjK (D:=.none) (by omega) ok z.rbd bc (.inl ⟨hr,a1,a2,Zou⟩),.inr ⟨hr,_,_,m1,.inr ⟨G1,R1,rfl,z1.gd,m2⟩,.inl ⟨rfl,rfl⟩⟩,.inl rfl⟩
   ·obtain⟨D,a3,m3,t3⟩:=ZrT (k:=2440) (b:=301) (m:=560) (K:=5700) (G:=G2) (R:=R2) (c:=c) (d:=0) (by omega) (by decide) (by omega) (by decide) (by decide) (by omega) (by omega) z2.hd (fun i j hi hj y e=>(z2.bG i j hi hj y e).mono (by omega)) z2.gd.2 (fun t ht=>ZiC z.hM z.bM (z2.hR t ht)) (fun t ht=>((z2.hR t ht).mono (show 2420+3*n+7≤2440 by omega)).bd z.hM (z.bM.mono (by decide))) (fun i hi=>(bc i hi).mono (by decide)) (ZrS bc) Zbb
    exact⟨D,ZjK (by omega) ok z.rbd bc (.inl ⟨hr,a1,a2,a3⟩),.inr ⟨hr,_,_,m1,.inr ⟨G1,R1,rfl,z1.gd,m2⟩,.inr ⟨G2,R2,rfl,z2.gd,m3⟩⟩,t3⟩
 ·exact⟨.none,ZjK (G:=G) (D1:=.none) (D2:=.none) (D:=.none) (by omega) ok z.rbd bc (.inr ⟨hr,rfl⟩),.inl ⟨hr,rfl⟩,.inl rfl⟩
end L
open PySem PySem.W PyProof.Rows PM TM My
namespace L
open PySem PySem.W PyProof.Rows PM TM My
variable {i k m n r x:Nat} {G G':Nat→Nat→Option Int} {R R':Nat→Int×Int} {D:T} {c:Nat→Int} {M d:Int} {q:Int×Int} {C:Nat→Nat→Int} {a:Str}
theorem ShD.inside(g:Gd n G R)(g':Gd n G' R')(h:Inside n G R G' R')(s:ShD n G R D): InD n D (Zf n G' R'):=by
 rcases s with⟨G2,R2,M,k,rfl,s⟩ | ⟨rfl,_⟩
 ·have ok2:∀t,t<n→RestOk (R2 t):=fun t ht=>by
   obtain⟨R1,_,_,_,_,_,h6⟩:=s.go
   exact(h6 t ht).1.1
  exact .told (Zui ok2 g.2 g'.2 (Zuf g.2 s) h)
 ·exact .inl rfl
theorem AmD.inside{top:Int}(g:Gd n G R)(g':Gd n G' R')(h:Inside n G R G' R')(s:AmD n G R c top D): InD n D (Zf n G' R'):=by
 rcases s with⟨_,rfl⟩ | ⟨_,s⟩
 ·exact .inl rfl
 ·exact s.inside ⟨ZiS g.1,g.2⟩ g' ⟨fun i hi j hj=>Zcf (ZAj i j) (h.1 i hi j hj),h.2⟩
def Zf8(n:Nat)(G:Nat→Nat→Option Int)(c:Nat→Int): Prop:=∃y,grt n G c=some y∧y≤0
def KeD(n:Nat)(G:Nat→Nat→Option Int)(R:Nat→Int×Int)(c:Nat→Int)(D:T): Prop:=(Zf8 n G c∧AmD n G R c (-1) D)∨(¬Zf8 n G c∧D=Zf n G R)
theorem ZsL(c:Nat→Int): Mo n (fun G R=>KeD n G R c) (fun G R=>KeD n G R c):=by
 rintro G R G' R' D D' g g' h q q'
 rcases q with⟨b,a⟩ | ⟨nb,rfl⟩
 ·rcases q' with⟨_,a'⟩ | ⟨_,rfl⟩
  ·exact a.mono g g' h a'
  ·exact a.inside g g' h
 ·rcases q' with⟨⟨y,e,l⟩,_⟩ | ⟨_,rfl⟩
  ·obtain⟨x,e2,l2⟩:=ZeC h.le c y e
   exact absurd ⟨x,e2,by omega⟩ nb
  ·exact .told h
theorem Zsr{b:Nat}(hn:n≤20)(hb1:1≤b)(hb:b≤4000)(hB:b+b+n+6≤k)(hk:k+2*n+4≤7000)(z:Sz n b k M G R)(bc:∀i,i<n+1→Bd b (c i)): ∃D,ZdO [Zf n G R,Zx n c]=some D∧KeD n G R c D∧SzD n (k+3*n+7) M D:=by
 have ht:Zf n G R=.tup [ZN (n+1) G,.lst (tab n fun i=>Zy (R i))]:=rfl
 have hne:∀{Q:T→Prop},Q (.bool true)→Pk (ZfV (Zf n G R) .none) Q:=fun h=>⟨_,by rw[ht];rfl,h⟩
 have hg:=Zeo (R:=R) (c:=c) (b:=b) (by omega) (by omega) hb1 z.bG bc
 by_cases h:Zf8 n G c
 ·obtain⟨D,e1,m1,s1⟩:=Zex (top:=-1) hn hb1 hb hB hk z bc ((show Bd 1 (-1)by unfold Bd;decide).mono hb1)
  refine⟨D,?_,.inl ⟨h,m1⟩,s1⟩
  apply Pk.eq
  unfold ZdO Zeq
  walk_at "z"
  refine hne ?_
  walk_at "z"
  refine Zg hg ?_
  walk_at "z"
  refine Zg (Zlw (b:=some 0)) ?_
  rw[Zao (leO_0.mpr h)]
  walk_at "z"
  exact Zg e1 rfl
 ·refine⟨_,?_,.inr ⟨h,rfl⟩,.inr ⟨G,R,rfl,z.mono (by omega) (by omega)⟩⟩
  apply Pk.eq
  unfold ZdO Zeq
  walk_at "z"
  refine hne ?_
  walk_at "z"
  refine Zg hg ?_
  walk_at "z"
  refine Zg (Zlw (b:=some 0)) ?_
  rw[Zas fun q=>h (leO_0.mp q)]
  walk_at "z"
  rfl
def UnD(n:Nat)(G:Nat→Nat→Option Int)(R:Nat→Int×Int)(c:Nat→Int)(D:T): Prop:=∃D1,KeD n G R c D1∧Up n (fun G R=>KeD n G R fun k=>-(c k)) D1 D
theorem ZAo(c:Nat→Int): Mo n (fun G R=>UnD n G R c) (fun G R=>UnD n G R c):=by
 rintro G R G' R' D D' g g' h ⟨D1,a,u⟩ ⟨D1',a',u'⟩
 exact Up.mono (ZsL _) (ZsL c G R G' R' D1 D1' g g' h a a') u u'
theorem SzD.due{K:Nat}(h:SzD n K M D): DueOk n D:=by
 rcases h with rfl | ⟨G,R,rfl,z⟩
 ·exact .inl rfl
 ·exact .inr ⟨G,R,rfl,z.gd.1,z.gd.2⟩
theorem Zrb(z:S5 n M G R)(bc:∀i,i<n+1→Bd 300 (c i)): ∃D,Zgv [Zf n G R,Zx n c]=some D∧UnD n G R c D∧DueOk n D:=by
 have hn:=z.hn
 obtain⟨D1,e1,m1,s1⟩:=Zsr (b:=580) (k:=1180) (c:=c) (by omega) (by decide) (by decide) (by omega) (by omega) (z.sz (by decide)) (fun i hi=>(bc i hi).mono (by decide))
 rcases s1 with rfl | ⟨G1,R1,rfl,z1⟩
 ·exact⟨.none,Zn9 (by omega) bc e1 ZtU (.inl rfl),⟨_,m1,.inl ⟨rfl,rfl⟩⟩,.inl rfl⟩
 ·obtain⟨D2,e2,m2,s2⟩:=Zsr (b:=1200) (k:=2420) (c:=fun k=>-(c k)) (by omega) (by decide) (by decide) (by omega) (by omega) (z1.mono (by omega) (by omega)) (fun i hi=>(ZeI bc i hi).mono (by decide))
  exact⟨D2,Zn9 (by omega) bc e1 e2 s2.due,⟨_,m1,.inr ⟨G1,R1,rfl,z1.gd,m2⟩⟩,s2.due⟩
def EvD(n:Nat)(G:Nat→Nat→Option Int)(R:Nat→Int×Int)(c:Nat→Int)(d:Int)(D:T): Prop:=(¬Z6 (Zdm (Zae c R n) d) 0∧D=.none)∨(Z6 (Zdm (Zae c R n) d) 0∧ReD n G R c d D)
theorem Zw2{p:Int×Int}(h:Z3 p q)(d:Int): Z3 (Zdm p d) (Zdm q d):=by
 obtain⟨h1,h2⟩:=Zdx h
 have g1:((Int.gcd q.1 d:Nat):Int) ∣ q.1:=Int.gcd_dvd_left ..
 have g2:((Int.gcd q.1 d:Nat):Int) ∣ d:=Int.gcd_dvd_right ..
 exact Zet (by omega) (by omega) (Int.dvd_coe_gcd (Int.dvd_trans g1 h1) g2) (Int.dvd_trans g1 h2)
theorem ZsM(c:Nat→Int)(d:Int): Mo n (fun G R=>EvD n G R c d) (fun G R=>EvD n G R c d):=by
 rintro G R G' R' D D' g g' h q q'
 rcases q with⟨_,rfl⟩ | ⟨hr,a⟩
 ·exact .inl rfl
 ·rcases q' with⟨hr',_⟩ | ⟨_,a'⟩
  ·exact absurd (ZcG Zkw Zkw (Zw2 (ZdS g.2 g'.2 h.2 n (Zz10 n)) d) hr) hr'
  ·exact ZsK c d G R G' R' D D' g g' h a a'
theorem ZnA(z:S5 n M G R)(bc:∀i,i<n+1→Bd 301 (c i))(hd0:0<d)(bd:Bd 140 d): ∃D,Zhg [Zf n G R,Zx n c,.int d]=some D∧EvD n G R c d D∧DueOk n D:=by
 have hn:=z.hn
 have ok:=z.gd.2
 have bR:=z.rbd
 have bc5:∀i,i<n+1→Bd 900 (c i):=fun i hi=>(bc i hi).mono (by decide)
 have ht:Zf n G R=.tup [ZN (n+1) G,.lst (tab n fun i=>Zy (R i))]:=rfl
 have hg:∀{Q:T→Prop},Q (.lst (tab n fun i=>Zy (R i)))→Pk (Z2 (Zf n G R) (.int 1)) Q:=fun h=>⟨_,by rw[ht];rfl,h⟩
 have bp:=Zka (m:=900) ok (fun t ht=>(bR t ht).1) bR bc5
 have hs:=Zem (i:=900) (R:=R) (by omega) (by decide) (by decide) bc5 bR ok
 have hl:=Zn8 (p:=Zae c R n) (d:=d) (k:=2000) (by decide) (bp.1.mono (by omega)) (bd.mono (by decide))
 by_cases hr:Z6 (Zdm (Zae c R n) d) 0
 ·obtain⟨D,a,m,t⟩:=ZrT (k:=900) (b:=302) (m:=560) (K:=5700) (G:=G) (R:=R) (c:=c) (d:=d) (by omega) (by decide) (by omega) (by decide) (by decide) (by omega) (by omega) z.hd (fun i j hi hj y e=>(z.hG i j hi hj y e).mono (by decide)) ok (fun t ht=>ZiC z.hM z.bM (z.hR t ht)) bR bc5 (ZrS bc) (bd.mono (by decide))
  refine⟨D,?_,.inr ⟨hr,m⟩,t⟩
  apply Pk.eq
  unfold Zhg Zfl
  clear t ht m
  generalize Zf n G R=T0 at *
  walk_at "z"
  refine hg ?_
  walk_at "z"
  refine Zg hs ?_
  walk_at "z"
  refine Zg hl ?_
  walk_at "z"
  refine Zg (Zfm Zkw) ?_
  rw[Zao hr]
  walk_at "z"
  exact Zg a rfl
 ·refine⟨.none,?_,.inl ⟨hr,rfl⟩,.inl rfl⟩
  apply Pk.eq
  unfold Zhg Zfl
  walk_at "z"
  refine hg ?_
  walk_at "z"
  refine Zg hs ?_
  walk_at "z"
  refine Zg hl ?_
  walk_at "z"
  refine Zg (Zfm Zkw) ?_
  rw[Zas hr]
  walk_at "z"
  rfl
def NeD(n:Nat)(G:Nat→Nat→Option Int)(R:Nat→Int×Int)(c:Nat→Int)(d:Int)(D:T): Prop:=(Z3 (Zae c R n) (d,0)∧D=.none)∨(¬Z3 (Zae c R n) (d,0)∧((d=2∧EvD n G R (ZdH c (-1)) 2 D)∨(d≠2∧D=Zf n G R)))
theorem ZAp(c:Nat→Int)(hd0:0<d): Mo n (fun G R=>NeD n G R c d) (fun G R=>NeD n G R c d):=by
 rintro G R G' R' D D' g g' h q q'
 rcases q with⟨_,rfl⟩ | ⟨hr,q⟩
 ·exact .inl rfl
 ·rcases q' with⟨hr',_⟩ | ⟨_,q'⟩
  ·have m:=ZdS (c:=c) g.2 g'.2 h.2 n (Zz10 n)
   exact absurd (Zd7 (ZcX g.2) (Zn2 hd0) fun x hx=>ZcG (ZcX g'.2) (Zn2 hd0) hr' (ZcG (ZcX g.2) (ZcX g'.2) m hx)) hr
  ·rcases q with⟨e,q⟩ | ⟨e,rfl⟩
   ·rcases q' with⟨_,q'⟩ | ⟨e',_⟩
    ·exact ZsM _ 2 G R G' R' D D' g g' h q q'
    ·exact absurd e e'
   ·rcases q' with⟨e',_⟩ | ⟨_,rfl⟩
    ·exact absurd e' e
    ·exact .told h
theorem Zp2(z:S5 n M G R)(bc:∀i,i<n+1→Bd 300 (c i))(hd0:0<d)(bd:Bd 140 d): ∃D,Zff [Zf n G R,Zx n c,.int d]=some D∧NeD n G R c d D∧DueOk n D:=by
 have hn:=z.hn
 have ok:=z.gd.2
 have bR:=z.rbd
 have bc5:∀i,i<n+1→Bd 900 (c i):=fun i hi=>(bc i hi).mono (by decide)
 have ht:Zf n G R=.tup [ZN (n+1) G,.lst (tab n fun i=>Zy (R i))]:=rfl
 have hg:∀{Q:T→Prop},Q (.lst (tab n fun i=>Zy (R i)))→Pk (Z2 (Zf n G R) (.int 1)) Q:=fun h=>⟨_,by rw[ht];rfl,h⟩
 have hs:=Zem (i:=900) (R:=R) (by omega) (by decide) (by decide) bc5 bR ok
 have hri:=Ztq (p:=Zae c R n) (Zn2 hd0)
 have ed:Zy (d,(0:Int))=.tup [.int d,.int 0]:=rfl
 rw[ed]at hri
 have hq0:∀{Q:T→Prop},Q (.int (c 0))→Pk (Z2 (Zx n c) (.int 0)) Q:=fun h=>by
  unfold Zx
  walk_at "z"
  exact h
 by_cases hr:Z3 (Zae c R n) (d,0)
 ·refine⟨.none,?_,.inl ⟨hr,rfl⟩,.inl rfl⟩
  apply Pk.eq
  unfold Zff Zej
  walk_at "z"
  refine hg ?_
  walk_at "z"
  refine Zg hs ?_
  walk_at "z"
  refine Zg hri ?_
  rw[Zao hr]
  walk_at "z"
  rfl
 ·by_cases h2:d=2
  ·subst h2
   obtain⟨D,a,m,t⟩:=ZnA (c:=ZdH c (-1)) z (Zzs bc ((show Bd 1 (-1)by unfold Bd;decide).mono (by decide))) (by decide) bd
   refine⟨D,?_,.inr ⟨hr,.inl ⟨rfl,m⟩⟩,t⟩
   apply Pk.eq
   unfold Zff Zej
   clear t ht m
   generalize Zf n G R=T0 at *
   walk_at "z"
   refine hg ?_
   walk_at "z"
   refine Zg hs ?_
   walk_at "z"
   refine Zg hri ?_
   rw[Zas hr]
   walk_at "z"
   refine hq0 ?_
   walk_at "z"
   refine Zjy ?_
   walk_at "z"
   refine⟨_,rfl,?_⟩
   refine Zd2 (by simp[tab];omega) ?_
   rw[show c 0+1=c 0 - -1 by omega,Zyf,show T.lst (tab (n+1) fun i=>T.int (ZdH c (-1) i))=Zx n (ZdH c (-1))from rfl]
   walk_at "z"
   exact Zg a rfl
  ·refine⟨Zf n G R,?_,.inr ⟨hr,.inr ⟨h2,rfl⟩⟩,.inr ⟨G,R,rfl,z.gd.1,z.gd.2⟩⟩
   have hf:Zj1 [Zf n G R]=some (Zf n G R):=Zib ((ZrH (by omega)).mono (by decide))
   apply Pk.eq
   unfold Zff Zej
   clear ht
   generalize Zf n G R=T0 at *
   walk_at "z"
   refine hg ?_
   walk_at "z"
   refine Zg hs ?_
   walk_at "z"
   refine Zg hri ?_
   rw[Zas hr]
   walk_at "z"
   exact Zg hf rfl
theorem RB.up{M':Int}{k':Nat}(h:RB M k q)(hd:M ∣ M')(hk:k≤k'): RB M' k' q:=⟨h.1,h.2.1.imp id fun d=>Int.dvd_trans d hd,h.2.2.mono hk⟩
theorem ZzB{M':Int}{p r:Int×Int}(hp:RB M 3440 p)(hq:RB M' 3440 q)(bp:RBd 3440 p)(bq:Bd 300 q.1)(bq2:Bd 300 q.2)(h:Met p q (some r)): RB (M*M') 4060 r:=by
 have b1:=bp.1
 rcases Zsk (k:=3440) (by decide) hp.1 hq.1 bp ⟨bq.mono (by decide),bq2.mono (by decide)⟩ h r rfl with rfl | rfl | ⟨z1,z2,e⟩
 ·exact hp.up (Int.dvd_mul_right _ _) (by decide)
 ·exact hq.up (Int.dvd_mul_left _ _) (by decide)
 ·refine⟨h.1,.inr ?_,?_⟩
  ·rw[e]
   have d1:p.1 ∣ M:=hp.2.1.resolve_left z1
   have d2:q.1 ∣ M':=hq.2.1.resolve_left z2
   exact Int.coe_lcm_dvd (Int.dvd_trans d1 (Int.dvd_mul_right _ _)) (Int.dvd_trans d2 (Int.dvd_mul_left _ _))
  ·have b2:Bd 4060 r.1:=by rw[e];exact(Znx b1 bq).mono (by decide)
   have n0:r.1≠0:=by rw[e];intro h;exact(Int.lcm_ne_zero z1 z2) (by omega)
   rcases h.1 with q | ⟨_,q2,q3⟩
   ·exact absurd q n0
   ·unfold Bd at *;omega
theorem Zyk(hk:1≤k)(h:∀t,t<m→RB M k (R t))(t:Nat): RB M k (Za2 m R t):=by
 unfold Za2
 split
 ·exact h t (by assumption)
 ·exact⟨.inr ⟨by decide,by decide,by decide⟩,.inr (Int.one_dvd _),Zbb⟩
theorem wide_GB{N:Nat}(h:GB k m G): GB k N (ZaW m G):=fun i j hi hj y e=>by
 unfold ZaW at e
 split at e
 ·rename_i c;exact h i j c.1 c.2 y e
 ·split at e
  ·cases e;exact Zbb
  ·cases e
def ZkF(n r m:Nat)(G:Nat→Nat→Option Int)(R:Nat→Int×Int)(G':Nat→Nat→Option Int)(R':Nat→Int×Int)(D:T): Prop:=∃ρ,Zgi (m+1) (Za2 m R) (fun i=>n+i) R' (r+1) ρ∧ZsH (m+1) (ZcP (qOf fun i=>n+i) G' (r+1+1) (ZaW m G) (r+1+1)) ρ D
theorem ZzC(hm:m=n+r)(hn:n≤4)(hr:r≤4)(hM:0<M)(bM:Bd 3400 M)(hd:∀i,i<m+1→G i i=some 0)(hG:GB 3440 m G)(hR:∀t,t<m→RB M 3440 (R t))(hd':∀i,i<r+1+1→G' i i=some 0)(ok':∀t,t<r+1→RestOk (R' t))(sG':SmG 300 (r+1) G')(sR':SmR 300 (r+1) R'): ∃D,Zfx [Zf (m+1) (ZaW m G) (Za2 m R),.lst (tab (r+1) fun i=>.int (((n+i:Nat):Int)+1)),Zf (r+1) G' R']=some D∧ZkF n r m G R G' R' D∧∃M',0<M'∧Bd 4950 M'∧Tm (m+1) 4060 M' (fun y=>Zc7 m G R y∧Zc7 (r+1) G' R' fun i=>y (n+i)) (fun G3 R3=>(∀i,i<m+1→∀j,j<m+1→leO (G3 i j) (G i j))∧∀t,t<m→Z3 (R3 t) (R t)) D:=by
 have hp:∀i,i<r+1→n+i<m+1:=fun i hi=>by omega
 have inj:∀i j,i<r+1→j<r+1→n+i=n+j→i=j:=fun i j _ _ h=>by omega
 have bR':∀t,t<r+1→RBd 3440 (R' t):=fun t ht=>⟨(show Bd 300 _ from(sR' t ht).1).mono (by decide),(show Bd 300 _ from(sR' t ht).2).mono (by decide)⟩
 have wRB:=Zyk (k:=3440) (by decide) hR
 have wok:∀t,t<m+1→RestOk (Za2 m R t):=fun t _=>(wRB t).1
 have wb:∀t,t<m+1→RBd 3440 (Za2 m R t):=fun t _=>(wRB t).bd2 hM bM (by decide)
 obtain⟨D,e1,ρ,hl,hT⟩:=Zvh (N:=m+1) (L:=r+1) (b:=3440) (p:=fun i=>n+i) (Γ:=ZaW m G) (G':=G') (by omega) (by omega) (by decide) hp inj wok ok' wb bR'
 have hpm:=Zfz ok' (r+1) (Zz10 _)
 have hpb:=ZfI (k:=300) (by decide) (fun t ht=>(sR' t ht).1) (r+1) (Zz10 _)
 refine⟨D,e1,⟨ρ,hl,hT⟩,M*ZbW R' (r+1),Int.mul_pos hM hpm,(bM.mul hpb).mono (by omega),?_⟩
 have key:∀y,Zc7 m G R y→(Zc7 (r+1) G' R' fun i=>y (n+i))→Zc7 (m+1) (ZaW m G) (Za2 m R) y:=fun y h _=>Zv0 h fun _ _=>rfl
 rcases hT with⟨rfl,i,hi,hnone⟩ | ⟨rfl,hsome⟩
 ·refine .inl ⟨rfl,fun y h=>?_⟩
  obtain⟨q,eq,_⟩:=Zq7 (y:=y) (z:=fun i=>y (n+i)) hl (fun i _=>rfl) hp (key y h.1 h.2).2 h.2.2 i hi
  rw[hnone]at eq
  cases eq
 ·have hs:∀t,t<m+1→ρ t=some ((ρ t).getD (1,0)):=fun t ht=>by
   cases e:ρ t with
   | none=>exact absurd e (hsome t ht)
   | some q=>rfl
  have cases:∀t,t<m+1→(ρ t).getD (1,0)=Za2 m R t∨∃j,j<r+1∧t=n+j∧Met (Za2 m R t) (R' j) (some ((ρ t).getD (1,0))):=fun t ht=>by
   by_cases c:∃j,j<r+1∧n+j=t
   ·obtain⟨j,hj,rfl⟩:=c
    have:=hl.2 j hj
    rw[hs (n+j) ht]at this
    exact .inr ⟨j,hj,rfl,this⟩
   ·have:=hl.1 t ht fun j hj e=>c ⟨j,hj,e⟩
    rw[this]
    exact .inl rfl
  refine .inr ⟨_,_,rfl,Zyi inj hp (Zzw hd) hd',fun t ht=>?_,?_,fun y h=>⟨Zvj (z:=fun i=>y (n+i)) (fun i _=>rfl) (key y h.1 h.2) h.2,fun t ht=>?_⟩,fun i hi j hj=>?_,fun t ht=>?_⟩
  ·rcases cases t ht with e | ⟨j,hj,_,hm⟩
   ·rw[e];exact(wRB t).up (Int.dvd_mul_right _ _) (by decide)
   ·exact ZzB (wRB t) ⟨ok' j hj,ZfA (r+1) j hj,(bR' j hj).2⟩ (wb t ht) (sR' j hj).1 (sR' j hj).2 hm
  ·refine Zid (fun Δ=>GB 4060 (m+1) Δ) (fun Δ i j hi hj hΔ a b ha hb y e=>?_) (fun i j hi hj y e=>((wide_GB hG:GB 3440 (m+1) _) i j hi hj y e).mono (by decide)) (r+1+1) (Zz10 _)
   unfold Zay at e
   split at e
   ·rename_i c
    refine Zj8 (hΔ _ _ (c.1▸ha) (c.2▸hb)) (fun z ez=>?_) y e
    exact(show Bd 300 z from sG' i j hi hj z ez).mono (by decide)
   ·exact hΔ a b ha hb y e
  ·obtain⟨q,eq,hq⟩:=Zq7 (y:=y) (z:=fun i=>y (n+i)) hl (fun i _=>rfl) hp (key y h.1 h.2).2 h.2.2 t ht
   show Z6 ((ρ t).getD (1,0)) (y t)
   rw[eq]
   exact hq
  ·have:=Zid (q:=qOf fun i=>n+i) (G':=G') (k:=r+1+1) (fun Δ=>∀i j,leO (Δ i j) (ZaW m G i j)) (fun Δ i j hi hj hΔ a b=>by
    unfold Zay
    split
    ·rename_i c
     obtain⟨c1,c2⟩:=c
     subst c1 c2
     exact Zcf Zd6 (hΔ _ _)
    ·exact hΔ a b) (Γ:=ZaW m G) (fun i j=>Za6) (r+1+1) (Zz10 _) i j
   unfold ZaW at this
   rw[if_pos ⟨hi,hj⟩]at this
   exact this
  ·have wt:Za2 m R t=R t:=by unfold Za2;rw[if_pos ht]
   show Z3 ((ρ t).getD (1,0)) (R t)
   rcases cases t (by omega)with e | ⟨j,hj,_,hm⟩
   ·rw[e,wt];exact ZdV
   ·rw[wt]at hm
    exact Zd7 hm.1 (hR t ht).1 fun x hx=>((hm.2 x).mp hx).1
noncomputable def ZcS(n m x:Nat): Nat→Nat:=fun t=>if t=x then m+1 else t+1
theorem ZAq(hn:n≤m): Ord (m+1) n (ZcS n m x):=fun t ht=>by
 unfold ZcS
 split <;> omega
theorem Ztx{x row s:T}(h:ZaG [s]=some .none){s2:T}: Zda [s,x,row,s2]=some .none:=by
 apply Pk.eq
 unfold Zda ZhH
 walk_at "z"
 refine Zg h ?_
 walk_at "z"
 rfl
theorem Zrc: (tab n fun t=>Zx n (ZX (t+1)))++(tab r fun t=>Zx n (C t))=tab (n+r) fun t=>Zx n (ZbD n C t):=by
 refine List.ext_getElem? fun i=>?_
 rw[List.getElem?_append]
 rw[Zaa]
 split
 ·rename_i h
  rw[ZaS h,ZaS (by omega)]
  unfold ZbD
  rw[if_pos h]
 ·rename_i h
  by_cases c:i-n<r
  ·rw[ZaS c,ZaS (by omega)]
   unfold ZbD
   rw[if_neg h]
  ·rw[Zng (by omega),Zng (by omega)]
theorem Zv4: (T.lst (tab n fun i=>if i=x then Zx (m+1) (ZX (m+1))else Zx (m+1) (ZX (i+1))))=Zaw (m+1) n fun t=>ZX (ZcS n m x t):=by
 unfold Zaw
 congr 1
 refine Za5 fun i _=>?_
 by_cases q:i=x
 ·rw[if_pos q];show _=Zx (m+1) (ZX (if i=x then m+1 else i+1));rw[if_pos q]
 ·rw[if_neg q];show _=Zx (m+1) (ZX (if i=x then m+1 else i+1));rw[if_neg q]
theorem Zul{Gs:Nat→Nat→Option Int}{Rs:Nat→Int×Int}{T0 S0:T}{xv:T}(hn:n≤20)(hr:r≤20)(hS:∃m G R,S0=Zf m G R)(h1:ZaG [T0]=some (Zf n Gs Rs))(h2:ZbN [Zf n Gs Rs,Zaw n (n+r) (ZbD n C)]=some .none): Zda [T0,xv,Zaw n r C,S0]=some .none:=by
 have ht:Zf n Gs Rs=.tup [ZN (n+1) Gs,.lst (tab n fun i=>Zy (Rs i))]:=rfl
 have hne:∀{Q:T→Prop},Q (.bool false)→Pk (qIs (Zf n Gs Rs) .none) Q:=fun h=>⟨_,by rw[ht];rfl,h⟩
 have hg:∀{Q:T→Prop},Q (.lst (tab n fun i=>Zy (Rs i)))→Pk (Z2 (Zf n Gs Rs) (.int 1)) Q:=fun h=>⟨_,by rw[ht];rfl,h⟩
 have hne2:∀{Q:T→Prop},Q (.bool false)→Pk (qIs S0 .none) Q:=fun h=>by obtain⟨m,G,R,rfl⟩:=hS;exact⟨_,rfl,h⟩
 have hs:Zaw n r C=.lst (tab r fun i=>Zx n (C i)):=rfl
 apply Pk.eq
 unfold Zda ZhH
 rw[hs]
 clear ht
 generalize hD:Zf n Gs Rs=T1 at *
 walk_at "z"
 refine Zg h1 ?_
 walk_at "z"
 refine hne ?_
 walk_at "z"
 refine hne2 ?_
 walk_at "z"
 refine hg ?_
 walk_at "z"
 refine Zg (Zjf (m:=n) (n:=n) (by omega) (by omega)) ?_
 unfold Zaw
 walk_at "z"
 refine Zd2 (by simp[tab];omega) ?_
 rw[Zrc,show T.lst (tab (n+r) fun t=>Zx n (ZbD n C t))=Zaw n (n+r) (ZbD n C)from rfl]
 walk_at "z"
 refine Zg h2 ?_
 walk_at "z"
 rfl
theorem ZuJ{Gs Gg:Nat→Nat→Option Int}{Rs Rg:Nat→Int×Int}{T0 S0 L0 B0:T}(hm:m=n+r)(hx:x<n)(hn:n≤10)(hr:r≤10)(hS:∃m G R,S0=Zf m G R)(h1:ZaG [T0]=some (Zf n Gs Rs))(h2:ZbN [Zf n Gs Rs,Zaw n (n+r) (ZbD n C)]=some (Zf m Gg Rg))(h3:Zfx [Zf (m+1) (ZaW m Gg) (Za2 m Rg),.lst (tab (r+1) fun i=>.int (((n+i:Nat):Int)+1)),S0]=some L0)(h4:ZaG [L0]=some B0)(h5:ZbN [B0,Zaw (m+1) n fun t=>ZX (ZcS n m x t)]=some D): Zda [T0,.int ((x:Int)+1),Zaw n r C,S0]=some D:=by
 have ht:Zf n Gs Rs=.tup [ZN (n+1) Gs,.lst (tab n fun i=>Zy (Rs i))]:=rfl
 have hne:∀{Q:T→Prop},Q (.bool false)→Pk (qIs (Zf n Gs Rs) .none) Q:=fun h=>⟨_,by rw[ht];rfl,h⟩
 have hne3:∀{Q:T→Prop},Q (.bool false)→Pk (qIs (Zf m Gg Rg) .none) Q:=fun h=>⟨_,rfl,h⟩
 have hg:∀{Q:T→Prop},Q (.lst (tab n fun i=>Zy (Rs i)))→Pk (Z2 (Zf n Gs Rs) (.int 1)) Q:=fun h=>⟨_,by rw[ht];rfl,h⟩
 have hne2:∀{Q:T→Prop},Q (.bool false)→Pk (qIs S0 .none) Q:=fun h=>by obtain⟨m,G,R,rfl⟩:=hS;exact⟨_,rfl,h⟩
 have hs:Zaw n r C=.lst (tab r fun i=>Zx n (C i)):=rfl
 have hw:ZhU [Zf m Gg Rg,.int ((1:Nat):Int)]=some (Zf (m+1) (ZaW m Gg) (Za2 m Rg)):=ZuH (by omega) (by decide) (by decide)
 have hb1:Zer [.int n,.int (m+1:Nat)]=some (Zaw (m+1) n fun t=>ZX (t+1)):=Zjf (by omega) (by omega)
 have hb2:ZdQ [.int (m+1:Nat),.int (m+1:Nat)]=some (Zx (m+1) (ZX (m+1))):=Zes (by omega)
 have hl:ZdY [.lst (tab n fun t=>Zx (m+1) (ZX (t+1))),.int ((x:Int)+1),Zx (m+1) (ZX (m+1))]=some (Zaw (m+1) n fun t=>ZX (ZcS n m x t)):=by rw[Zq8 hx (by omega),Zv4]
 apply Pk.eq
 unfold Zda ZhH
 rw[hs]
 clear ht
 generalize Zf n Gs Rs=T1 at *
 generalize Zf m Gg Rg=T2 at *
 generalize Zf (m+1) (ZaW m Gg) (Za2 m Rg)=T3 at *
 walk_at "z"
 refine Zg h1 ?_
 walk_at "z"
 refine hne ?_
 walk_at "z"
 refine hne2 ?_
 walk_at "z"
 refine hg ?_
 walk_at "z"
 refine Zg (Zjf (m:=n) (n:=n) (by omega) (by omega)) ?_
 unfold Zaw
 walk_at "z"
 refine Zd2 (by simp[tab];omega) ?_
 rw[Zrc,show T.lst (tab (n+r) fun t=>Zx n (ZbD n C t))=Zaw n (n+r) (ZbD n C)from rfl]
 walk_at "z"
 refine Zg h2 ?_
 walk_at "z"
 refine hne3 ?_
 walk_at "z"
 refine Zg hw ?_
 walk_at "z"
 rw[show(n:Int)+r+1=((m+1:Nat):Int)by omega]
 refine ZwK (n:=r+1) (by omega) (by omega) ?_
 have et:(tab (r+1) fun i=>T.int ((n:Int)+1+i))=tab (r+1) fun i=>.int (((n+i:Nat):Int)+1):=Za5 fun i _=>congrArg T.int (by omega)
 rw[et]
 walk_at "z"
 refine Zg h3 ?_
 walk_at "z"
 refine Zg h4 ?_
 walk_at "z"
 refine Zg hb1 ?_
 unfold Zaw
 walk_at "z"
 refine Zg hb2 ?_
 walk_at "z"
 refine Zg hl ?_
 walk_at "z"
 exact Zg h5 rfl
theorem Zqz{ns:List Int}{k x:Int}(hx:Bd 290 x): Bd 290 (Zc4 ns k x).1∧Bd 290 (Zc4 ns k x).2:=by
 have h:=ZmI ns k
 have h2:Bd 290 (Zba ns k):=Zal (Zdu ns k) (by decide)
 have e:(20:Nat)<2 ^ 290:=by decide
 unfold Bd at *
 unfold Zc4
 split
 ·exact⟨by show(1:Nat)<_;omega,by show(0:Nat)<_;omega⟩
 ·split
  ·exact⟨by show(0:Nat)<_;omega,hx⟩
  ·split
   ·exact ZdK (by omega) (by omega) hx
   ·exact ZdK (Zcp _) (by rw[ZjF];exact h2) hx
section
variable {Q:T→Prop}
theorem Zf9(ha:PyData.strOk a=true)(h:Q (.bool true)): Pk (qEq (.str a) (.str a)) Q:=ZcL (n:=1) (m:=1) (.str ha) (.str ha) (by rw[Zao rfl];exact h)
theorem ZbX{b:Str}(hab:(PyData.strOk a && PyData.strOk b && decide (a≠b))=true)(h:Q (.bool false)): Pk (qEq (.str a) (.str b)) Q:=by
 simp only[Bool.and_eq_true,decide_eq_true_eq]at hab
 exact ZcL (n:=1) (m:=1) (.str hab.1.1) (.str hab.1.2) (by rw[Zas (Zny hab.2)];exact h)
end
theorem Zn3{s:Sp}{k:Int}(hi:i≤9000)(hk0:k≠0)(hk:Bd i k): Zgm [spT s,.int k]=some (spT (s.1.map fun x=>x.fdiv k,s.2.map fun x=>x.fdiv k)):=by
 apply Pk.eq
 unfold Zgm Zgl spT
 walk_at "z"
 refine Zg (ZiY hi hk0 hk) ?_
 walk_at "z"
 refine Zg (ZiY hi hk0 hk) ?_
 walk_at "z"
 rfl
noncomputable def srI(s:Sp)(k:Int): Sp:=match s.1,s.2 with
 | some a,some b=>if a.fdiv k=b.fdiv k then(some (a.fmod k),some (b.fmod k))else(some 0,some (k-1))
 | _,_=>(some 0,some (k-1))
theorem ZsW{s:Sp}{k:Int}(hi:i≤9000)(hk0:k≠0)(hk:Bd i k): Zgo [spT s,.int k]=some (spT (srI s k)):=by
 have hp:=Zn3 (s:=s) hi hk0 hk
 apply Pk.eq
 unfold Zgo Zgn srI
 obtain⟨a,b⟩:=s
 cases a with
 | none=>
  have e:spT ((none:Option Int).map fun x=>x.fdiv k,b.map fun x=>x.fdiv k)=.tup [.none,oT (b.map fun x=>x.fdiv k)]:=rfl
  rw[e]at hp
  walk_at "z"
  refine Zg hp ?_
  walk_at "z"
  rfl
 | some x=>
  cases b with
  | none=>
   have e:spT ((some x).map fun x=>x.fdiv k,(none:Option Int).map fun x=>x.fdiv k)=.tup [.int (x.fdiv k),.none]:=rfl
   rw[e]at hp
   walk_at "z"
   refine Zg hp ?_
   walk_at "z"
   refine ZcL (n:=1) (m:=1) .int .none ?_
   rw[Zas (by intro h;cases h)]
   walk_at "z"
   rfl
  | some y=>
   have e:spT ((some x).map fun x=>x.fdiv k,(some y).map fun x=>x.fdiv k)=.tup [.int (x.fdiv k),.int (y.fdiv k)]:=rfl
   have e2:spT (some x,some y)=.tup [.int x,.int y]:=rfl
   rw[e]at hp
   rw[e2]at hp ⊢
   by_cases c:x.fdiv k=y.fdiv k
   ·simp only[c,if_true]
    rw[c]at hp
    walk_at "z"
    refine Zg hp ?_
    walk_at "z"
    rfl
   ·simp only[c,if_false]
    walk_at "z"
    refine Zg hp ?_
    walk_at "z"
    rfl
noncomputable def rpI(q:Int×Int)(k:Int): Int×Int:=if q.1.fmod k=0 then Zah (q.1.fdiv k) (q.2.fdiv k)else(1,0)
theorem Zty{k:Int}(hi:i≤9000)(hq:0≤q.1)(hk0:0<k)(hk:Bd i k): ZgS [Zy q,.int k]=some (Zy (rpI q k)):=by
 have hz:k≠0:=by omega
 have hd:0≤q.1.fdiv k:=by rw[Int.fdiv_eq_ediv_of_nonneg _ (by omega)];exact Int.ediv_nonneg hq (by omega)
 apply Pk.eq
 unfold ZgS ZgR rpI
 have ep:Zy q=.tup [.int q.1,.int q.2]:=rfl
 rw[ep]
 by_cases c:q.1.fmod k=0
 ·rw[if_pos c]
  walk_at "z"
  refine ZcK hz (ZeU hk hi) ?_
  walk_at "z"
  refine ZcK hz (ZeU hk hi) ?_
  walk_at "z"
  exact Zg (Zfi hd) rfl
 ·rw[if_neg c]
  walk_at "z"
  rfl
noncomputable def rrI(q:Int×Int)(k:Int): Int×Int:=if((Int.gcd q.1 k:Nat):Int)=k then(0,q.2.fmod k)else Zah (Int.gcd q.1 k) q.2
theorem Ztz{k:Int}(hk0:0<k)(hq:Bd 200000 q.1)(hk:Bd 200000 k): ZgQ [Zy q,.int k]=some (Zy (rrI q k)):=by
 have hz:k≠0:=by omega
 have hg:=Zjp (a:=q.1) (b:=k) hq hk
 apply Pk.eq
 unfold ZgQ ZgP rrI
 have ep:Zy q=.tup [.int q.1,.int q.2]:=rfl
 rw[ep]
 by_cases c:((Int.gcd q.1 k:Nat):Int)=k
 ·rw[if_pos c]
  walk_at "z"
  refine Zg hg ?_
  walk_at "z"
  rfl
 ·rw[if_neg c]
  walk_at "z"
  refine Zg hg ?_
  walk_at "z"
  exact Zg (Zfi (by omega)) rfl
theorem Zip{x:Int}(hd:0<d)(h:Bd k x): Bd k (x.fdiv d):=by
 unfold Bd at *
 rw[Int.fdiv_eq_ediv_of_nonneg _ (by omega)]
 exact Nat.lt_of_le_of_lt (Int.natAbs_ediv_le_natAbs x d) h
noncomputable def Zcn(X:Nat)(c:Nat→Int): Nat→Nat→Int:=fun t=>if t=X then c else ZX (t+1)
theorem Zw3{X:Nat}: (T.lst (tab n fun i=>if i=X then Zx n c else Zx n (ZX (i+1))))=Zaw n n (Zcn X c):=by
 unfold Zaw
 congr 1
 refine Za5 fun i _=>?_
 unfold Zcn
 by_cases q:i=X
 ·rw[if_pos q,if_pos q]
 ·rw[if_neg q,if_neg q]
theorem ZzD{X:Nat}(bc:∀i,i<n+1→Bd 140 (c i)): CB 580 n n (Zcn X c):=fun i _ k hk=>by
 unfold Zcn
 split
 ·exact(bc k hk).mono (by decide)
 ·exact bd_un.mono (by decide)
section
variable {n X:Nat} {G:Nat→Nat→Option Int} {R:Nat→Int×Int} {c:Nat→Int} {M d:Int}
theorem ZnP{j:Nat}(hM:0<M)(bM:Bd k M)(hq:RestOk q)(bq:Bd j q.1)(hj:1≤j): ∃M',0<M'∧Bd (k+j+1) M'∧M ∣ M'∧(q.1=0∨q.1 ∣ M'):=by
 have hp:=Zfz (n:=1) (R:=fun _=>q) (fun _ _=>hq) 1 (Zz10 1)
 have hb:=ZfI (n:=1) (k:=j) (R:=fun _=>q) hj (fun _ _=>bq) 1 (Zz10 1)
 refine⟨M*ZbW (fun _=>q) 1,Int.mul_pos hM hp,(bM.mul hb).mono (by omega),Int.dvd_mul_right _ _,?_⟩
 exact(ZfA (R:=fun _=>q) 1 0 (by decide)).imp id fun h=>Int.dvd_trans h (Int.dvd_mul_left _ _)
theorem ZmO(hM:0<M)(bM:Bd 560 M)(hR:∀t,t<n→RB M 580 (R t))(bc:∀i,i<n+1→Bd 140 (c i)): RestOk (Zae c R n)∧Bd 700 (Zae c R n).1∧Bd (1160+n) (Zae c R n).2:=by
 have ok:∀t,t<n→RestOk (R t):=fun t ht=>(hR t ht).1
 have bR:∀t,t<n→RBd 580 (R t):=fun t ht=>(hR t ht).bd2 hM bM (by decide)
 refine⟨ZcX ok,?_,(Zka (m:=580) ok (fun t ht=>(bR t ht).1) bR (fun i hi=>(bc i hi).mono (by decide))).2⟩
 rw[ZcF ok n (Zz10 n),ZcT]
 exact ZjI (i:=140) (m:=560) bc (fun j hj=>ZiC hM bM (hR j hj)) n (Zz10 n)
theorem Zyl(hG:GB 580 n G)(bc:∀i,i<n+1→Bd 140 (c i)): SBd (1161+n) ((grt n G fun i=>-(c i)).map fun y=>y * -1,grt n G c):=by
 have bc5:∀i,i<n+1→Bd 580 (c i):=fun i hi=>(bc i hi).mono (by decide)
 refine⟨fun x e=>?_,fun x e=>(ZeJ hG bc5 x e).mono (by omega)⟩
 obtain⟨y,hy,rfl⟩:=Zz1.mp e
 have:=(ZeJ hG (ZeI bc5) y hy).mono (show 580+580+n+1≤1161+n by omega)
 unfold Bd at *
 omega
theorem ZkG(hd:0<d)(hq:RestOk q): RestOk (rpI q d):=by
 unfold rpI
 split
 ·exact Zbq (by rw[Int.fdiv_eq_ediv_of_nonneg _ (by omega)];exact Int.ediv_nonneg hq.nn (by omega)) _
 ·exact .inr ⟨by decide,by decide,by decide⟩
theorem ZAr(hi:1≤i)(hd:0<d)(hq:RestOk q)(h1:Bd i q.1)(h2:Bd i q.2): Bd i (rpI q d).1∧Bd i (rpI q d).2:=by
 unfold rpI
 split
 ·exact ZdK (by rw[Int.fdiv_eq_ediv_of_nonneg _ (by omega)];exact Int.ediv_nonneg hq.nn (by omega)) (Zip hd h1) (Zip hd h2)
 ·exact⟨ZcB hi,Zbb⟩
theorem ZzE(hi:1≤i)(hd:0<d)(h1:Bd i q.1): Bd i (rpI q d).1:=by
 unfold rpI
 split
 ·rw[ZcT];exact Zip hd h1
 ·exact ZcB hi
theorem ZkH(hd:0<d): RestOk (rrI q d):=by
 unfold rrI
 split
 ·exact .inl rfl
 ·exact Zbq (by omega) _
theorem ZAs(hd:0<d)(bd:Bd 140 d): Bd 140 (rrI q d).1∧Bd 140 (rrI q d).2:=by
 unfold rrI
 have f0:=Int.fmod_nonneg_of_pos q.2 hd
 have f1:=Int.fmod_lt_of_pos q.2 hd
 split
 ·exact⟨Zbb,by show Bd 140 (q.2.fmod d);unfold Bd at *;omega⟩
 ·have g0:0<((Int.gcd q.1 d:Nat):Int):=by
   have:Int.gcd q.1 d≠0:=fun e=>by have:=Int.gcd_eq_zero_iff.mp e;omega
   omega
  have g1:((Int.gcd q.1 d:Nat):Int)≤d:=Int.le_of_dvd hd (Int.gcd_dvd_right ..)
  have m0:=Int.fmod_nonneg_of_pos q.2 g0
  have m1:=Int.fmod_lt_of_pos q.2 g0
  unfold Zah
  rw[if_neg (by omega)]
  exact⟨by show Bd 140 ((Int.gcd q.1 d:Nat):Int);unfold Bd at *;omega,by show Bd 140 (q.2.fmod _);unfold Bd at *;omega⟩
end
section
variable {n X:Nat} {G:Nat→Nat→Option Int} {R:Nat→Int×Int} {c:Nat→Int} {d:Int} {s:Sp} {T1 D:T}
noncomputable def Zcl(n:Nat)(G:Nat→Nat→Option Int)(c:Nat→Int): Sp:=((grt n G fun i=>-(c i)).map fun y=>y * -1,grt n G c)
theorem Zpp(hn:n≤20)(hX:X<n)(h:ZbN [Zf n G R,Zaw n n (Zcn X c)]=some D): Zbo [Zf n G R,.tup [.str (Str.ofString "set"),.int ((X:Int)+1),Zx n c]]=some D:=by
 have hg:∀{Q:T→Prop},Q (.lst (tab n fun i=>Zy (R i)))→Pk (Z2 (Zf n G R) (.int 1)) Q:=fun h=>⟨_,rfl,h⟩
 have hb:=Zjf (m:=n) (n:=n) (by omega) (by omega)
 have hl:ZdY [Zaw n n fun t=>ZX (t+1),.int ((X:Int)+1),Zx n c]=some (Zaw n n (Zcn X c)):=by
  show ZdY [.lst (tab n fun t=>Zx n (ZX (t+1))),_,_]=_
  rw[Zq8 hX (by omega),Zw3]
 generalize Zf n G R=T1 at *
 apply Pk.eq
 unfold Zbo ZhY
 walk_at "z"
 refine Zf9 (by decide +kernel) ?_
 walk_at "z"
 refine hg ?_
 walk_at "z"
 refine Zg hb ?_
 walk_at "z"
 refine Zg hl ?_
 walk_at "z"
 exact Zg h rfl
theorem Zpq(h:Zdg [T1,.int ((X:Int)+1),spT s,Zy (1,0)]=some D): Zbo [T1,.tup [.str (Str.ofString "any"),.int ((X:Int)+1),oT s.1,oT s.2]]=some D:=by
 have e1:spT s=.tup [oT s.1,oT s.2]:=rfl
 have e2:Zy ((1:Int),(0:Int))=.tup [.int 1,.int 0]:=rfl
 rw[e1,e2]at h
 apply Pk.eq
 unfold Zbo ZhY
 walk_at "z"
 refine ZbX (by decide +kernel) ?_
 walk_at "z"
 refine Zf9 (by decide +kernel) ?_
 walk_at "z"
 exact Zg h rfl
theorem Zpr{w:Str}(hw:w=Str.ofString "part"∨w=Str.ofString "rest")(hl:ZdX [Zf n G R,Zx n c]=some (oT ((grt n G fun i=>-(c i)).map fun y=>y * -1)))(hg:ZhB [Zf n G R,Zx n c]=some (oT (grt n G c)))(hr:Zhx [Zx n c,.lst (tab n fun j=>Zy (R j))]=some (Zy (Zae c R n))){s':Sp}{q':Int×Int}(h1:(w=Str.ofString "part"→Zgm [spT (Zcl n G c),.int d]=some (spT s')∧ZgS [Zy (Zae c R n),.int d]=some (Zy q'))∧(w=Str.ofString "rest"→Zgo [spT (Zcl n G c),.int d]=some (spT s')∧ZgQ [Zy (Zae c R n),.int d]=some (Zy q')))(h:Zdg [Zf n G R,.int ((X:Int)+1),spT s',Zy q']=some D): Zbo [Zf n G R,.tup [.str w,.int ((X:Int)+1),Zx n c,.int d]]=some D:=by
 have hi:∀{Q:T→Prop},Q (.lst (tab n fun i=>Zy (R i)))→Pk (Z2 (Zf n G R) (.int 1)) Q:=fun h=>⟨_,rfl,h⟩
 have es:spT (Zcl n G c)=.tup [oT ((grt n G fun i=>-(c i)).map fun y=>y * -1),oT (grt n G c)]:=rfl
 rw[es]at h1
 generalize Zf n G R=T1 at *
 generalize Zy (Zae c R n)=P0 at *
 apply Pk.eq
 unfold Zbo ZhY
 rcases hw with rfl | rfl
 ·obtain⟨a,b⟩:=h1.1 rfl
  walk_at "z"
  refine ZbX (by decide +kernel) ?_
  walk_at "z"
  refine ZbX (by decide +kernel) ?_
  walk_at "z"
  refine Zg hl ?_
  walk_at "z"
  refine Zg hg ?_
  walk_at "z"
  refine hi ?_
  walk_at "z"
  refine Zg hr ?_
  walk_at "z"
  refine Zf9 (by decide +kernel) ?_
  walk_at "z"
  refine Zg a ?_
  walk_at "z"
  refine Zg b ?_
  walk_at "z"
  exact Zg h rfl
 ·obtain⟨a,b⟩:=h1.2 rfl
  walk_at "z"
  refine ZbX (by decide +kernel) ?_
  walk_at "z"
  refine ZbX (by decide +kernel) ?_
  walk_at "z"
  refine Zg hl ?_
  walk_at "z"
  refine Zg hg ?_
  walk_at "z"
  refine hi ?_
  walk_at "z"
  refine Zg hr ?_
  walk_at "z"
  refine ZbX (by decide +kernel) ?_
  walk_at "z"
  refine Zg a ?_
  walk_at "z"
  refine Zg b ?_
  walk_at "z"
  exact Zg h rfl
end
section
variable {n X:Nat} {G:Nat→Nat→Option Int} {R:Nat→Int×Int} {c:Nat→Int} {d:Int} {D:T}
end
theorem Zym{a:T}{ts:List T}(ha:Pln n a)(hb:Pln m (.tup ts))(hn:n≤8:=by decide)(hm:m≤8:=by decide): Zfd a (.tup ts)=some (dec (a∈ts)):=by
 have ha:=ha.mono hn
 have hb:=hb.mono hm
 obtain⟨a1,a2,a3⟩:=ha.dat
 obtain⟨b1,b2,b3⟩:=hb.dat
 unfold Zfd Zbu
 rw[a1,b1]
 simp only[Option.bind_some,dd,inD]
 simp only[dd,PyData.canLay0]at b2
 rw[if_pos ⟨b2,a2,by omega⟩,Znl]
 intro t m
 cases hb with
 | tup hs=>exact(hs t m).eqv ha
section
variable {n X:Nat} {c x:Nat→Int} {d p v:Int} {s:Sp} {A:T}
end
theorem Zf4{b c:Str}{Q:T→Prop}(hok:(PyData.strOk a && PyData.strOk b && PyData.strOk c)=true){r:Bool}(hr:decide (a=b∨a=c)=r)(h:Q (.bool r)): Pk (qIn (.str a) (.tup [.str b,.str c])) Q:=by
 simp only[Bool.and_eq_true]at hok
 obtain⟨⟨ha,hb⟩,hc⟩:=hok
 refine⟨.bool r,?_,h⟩
 have hp:Pln 1 (.tup [.str b,.str c]):=.tup fun t m=>by
  simp at m
  rcases m with rfl | rfl
  ·exact .str hb
  ·exact .str hc
 simp only[qIn,Zym (.str ha:Pln 1 (.str a)) hp,Option.map_some]
 congr 2
 rw[←hr]
 exact Zkh (by rw[decide_eq_true_eq];simp)
section
variable {n X:Nat} {G:Nat→Nat→Option Int} {R:Nat→Int×Int} {c:Nat→Int} {d:Int} {s:Sp} {T0 D A S0:T}
theorem Zly(h:ZaG [T0]=some .none): Zbp [T0,A,S0]=some .none:=by
 apply Pk.eq
 unfold Zbp ZcV
 walk_at "z"
 refine Zg h ?_
 walk_at "z"
 rfl
theorem Zps(h:ZaG [T0]=some (Zf n G R))(hl:Zbo [Zf n G R,.tup [.str (Str.ofString "set"),.int ((X:Int)+1),Zx n c]]=some D): Zbp [T0,.tup [.str (Str.ofString "set"),.int ((X:Int)+1),Zx n c],S0]=some D:=by
 have hne:∀{Q:T→Prop},Q (.bool false)→Pk (qIs (Zf n G R) .none) Q:=fun h=>⟨_,rfl,h⟩
 generalize Zf n G R=T1 at *
 apply Pk.eq
 unfold Zbp ZcV
 walk_at "z"
 refine Zg h ?_
 walk_at "z"
 refine hne ?_
 walk_at "z"
 refine Zf4 (by decide +kernel) (r:=false) (by decide +kernel) ?_
 walk_at "z"
 refine ZbX (by decide +kernel) ?_
 walk_at "z"
 refine ZbX (by decide +kernel) ?_
 walk_at "z"
 exact Zg hl rfl
theorem Zpt(h:ZaG [T0]=some (Zf n G R))(hl:Zbo [Zf n G R,.tup [.str (Str.ofString "any"),.int ((X:Int)+1),oT s.1,oT s.2]]=some D): Zbp [T0,.tup [.str (Str.ofString "any"),.int ((X:Int)+1),oT s.1,oT s.2],S0]=some D:=by
 have hne:∀{Q:T→Prop},Q (.bool false)→Pk (qIs (Zf n G R) .none) Q:=fun h=>⟨_,rfl,h⟩
 generalize Zf n G R=T1 at *
 apply Pk.eq
 unfold Zbp ZcV
 walk_at "z"
 refine Zg h ?_
 walk_at "z"
 refine hne ?_
 walk_at "z"
 refine Zf4 (by decide +kernel) (r:=false) (by decide +kernel) ?_
 walk_at "z"
 refine ZbX (by decide +kernel) ?_
 walk_at "z"
 refine ZbX (by decide +kernel) ?_
 walk_at "z"
 exact Zg hl rfl
theorem ZoU(h:ZaG [T0]=some (Zf n G R))(hl:Zbo [Zf n G R,.tup [.str (Str.ofString "part"),.int ((X:Int)+1),Zx n c,.int d]]=some D): Zbp [T0,.tup [.str (Str.ofString "part"),.int ((X:Int)+1),Zx n c,.int d],S0]=some D:=by
 have hne:∀{Q:T→Prop},Q (.bool false)→Pk (qIs (Zf n G R) .none) Q:=fun h=>⟨_,rfl,h⟩
 generalize Zf n G R=T1 at *
 apply Pk.eq
 unfold Zbp ZcV
 walk_at "z"
 refine Zg h ?_
 walk_at "z"
 refine hne ?_
 walk_at "z"
 refine Zf4 (by decide +kernel) (r:=false) (by decide +kernel) ?_
 walk_at "z"
 refine ZbX (by decide +kernel) ?_
 walk_at "z"
 refine ZbX (by decide +kernel) ?_
 walk_at "z"
 exact Zg hl rfl
theorem ZoV(h:ZaG [T0]=some (Zf n G R))(hl:Zbo [Zf n G R,.tup [.str (Str.ofString "rest"),.int ((X:Int)+1),Zx n c,.int d]]=some D): Zbp [T0,.tup [.str (Str.ofString "rest"),.int ((X:Int)+1),Zx n c,.int d],S0]=some D:=by
 have hne:∀{Q:T→Prop},Q (.bool false)→Pk (qIs (Zf n G R) .none) Q:=fun h=>⟨_,rfl,h⟩
 generalize Zf n G R=T1 at *
 apply Pk.eq
 unfold Zbp ZcV
 walk_at "z"
 refine Zg h ?_
 walk_at "z"
 refine hne ?_
 walk_at "z"
 refine Zf4 (by decide +kernel) (r:=false) (by decide +kernel) ?_
 walk_at "z"
 refine ZbX (by decide +kernel) ?_
 walk_at "z"
 refine ZbX (by decide +kernel) ?_
 walk_at "z"
 exact Zg hl rfl
end
end L
open PySem PySem.W PyProof.Rows PM TM My
namespace L
open PySem PySem.W PyProof.Rows PM TM My
variable {X m:Nat} {C:Nat→Nat→Int} {q:Int×Int}
def Both(n:Nat)(e e':Option T): Prop:=∃D D',e=some D∧e'=some D'∧InD n D D'∧DueOk n D∧DueOk n D'
section
variable {n:Nat} {M M':Int} {G G':Nat→Nat→Option Int} {R R':Nat→Int×Int} {c:Nat→Int} {Cl:T}
theorem Zyn(z:S5 n M G R)(z':S5 n M' G' R')(h:Inside n G R G' R')(bc:∀i,i<n+1→Bd 300 (c i))(hC:ClT n c Cl)(b:Bool): Both n (Zdh [Zf n G R,Cl,.bool b]) (Zdh [Zf n G' R',Cl,.bool b]):=by
 have hn:=z.hn
 rcases hC with rfl | rfl | ⟨d,hd0,bd,rfl⟩
 ·cases b with
  | true=>
   have b1:Bd 580 (-1):=(show Bd 1 (-1)by unfold Bd;decide).mono (by decide)
   have bc5:∀i,i<n+1→Bd 580 (c i):=fun i hi=>(bc i hi).mono (by decide)
   obtain⟨D,e,m,s⟩:=Zex (b:=580) (k:=1180) (top:=-1) (by omega) (by decide) (by decide) (by omega) (by omega) (z.sz (by decide)) bc5 b1
   obtain⟨D',e',m',s'⟩:=Zex (b:=580) (k:=1180) (top:=-1) (by omega) (by decide) (by decide) (by omega) (by omega) (z'.sz (by decide)) bc5 b1
   exact⟨D,D',Zj9 (.inr ⟨G,R,rfl⟩) (fun h=>by cases h) (Zot e),Zj9 (.inr ⟨G',R',rfl⟩) (fun h=>by cases h) (Zot e'),m.mono z.gd z'.gd h m',s.due,s'.due⟩
  | false=>
   have bc5:∀i,i<n+1→Bd 580 (-(c i)):=fun i hi=>(ZeI bc i hi).mono (by decide)
   obtain⟨D,e,m,s⟩:=Zex (b:=580) (k:=1180) (c:=fun k=>-(c k)) (top:=0) (by omega) (by decide) (by decide) (by omega) (by omega) (z.sz (by decide)) bc5 Zbb
   obtain⟨D',e',m',s'⟩:=Zex (b:=580) (k:=1180) (c:=fun k=>-(c k)) (top:=0) (by omega) (by decide) (by decide) (by omega) (by omega) (z'.sz (by decide)) bc5 Zbb
   exact⟨D,D',Zj9 (.inr ⟨G,R,rfl⟩) (fun h=>by cases h) (ZoH (b:=300) (by omega) (by decide) (by decide) bc e),Zj9 (.inr ⟨G',R',rfl⟩) (fun h=>by cases h) (ZoH (b:=300) (by omega) (by decide) (by decide) bc e'),m.mono z.gd z'.gd h m',s.due,s'.due⟩
 ·cases b with
  | true=>
   obtain⟨D,e,m,s⟩:=Zsq z bc
   obtain⟨D',e',m',s'⟩:=Zsq z' bc
   exact⟨D,D',Zkb e,Zkb e',ZAn c G R G' R' D D' z.gd z'.gd h m m',s,s'⟩
  | false=>
   obtain⟨D,e,m,s⟩:=Zrb z bc
   obtain⟨D',e',m',s'⟩:=Zrb z' bc
   exact⟨D,D',Zkb e,Zkb e',ZAo c G R G' R' D D' z.gd z'.gd h m m',s,s'⟩
 ·cases b with
  | true=>
   have b1:∀i,i<n+1→Bd 301 (c i):=fun i hi=>(bc i hi).mono (by decide)
   obtain⟨D,e,m,s⟩:=ZnA z b1 hd0 bd
   obtain⟨D',e',m',s'⟩:=ZnA z' b1 hd0 bd
   exact⟨D,D',Zkc e,Zkc e',ZsM c d G R G' R' D D' z.gd z'.gd h m m',s,s'⟩
  | false=>
   obtain⟨D,e,m,s⟩:=Zp2 z bc hd0 bd
   obtain⟨D',e',m',s'⟩:=Zp2 z' bc hd0 bd
   exact⟨D,D',Zkc e,Zkc e',ZAp c hd0 G R G' R' D D' z.gd z'.gd h m m',s,s'⟩
theorem ZsN(g:Gd n G R)(g':Gd n G' R')(h:Inside n G R G' R'): Inside m (rcG n G C) (rcR n R C) (rcG n G' C) (rcR n R' C):=⟨fun i _ j _=>ZeC h.le _,fun t _=>ZdS g.2 g'.2 h.2 n (Zz10 n)⟩
theorem ZkI(g:Gd n G R): Gd m (rcG n G C) (rcR n R C):=⟨Zn1,fun t _=>ZcX g.2⟩
theorem ZmP{b K:Nat}(hn:n≤20)(hm:m≤20)(hb1:1≤b)(hb:b≤9000)(hK:K+2*m+4≤7000)(hG:GB b n G)(hR:∀t,t<n→RBd b (R t))(ok:∀t,t<n→RestOk (R t))(hC:CB b n m C)(hM:0<M)(bM:Bd K M)(bG:GB K m (rcG n G C))(hR':∀t,t<m→RB M K (rcR n R C t)): ∃D,ZbN [Zf n G R,Zaw n m C]=some D∧ShD m (rcG n G C) (rcR n R C) D∧SzD m (K+3*m+7) M D:=by
 obtain⟨D,et,_,hD⟩:=ZeK (k:=K) hm hK hM bM (Zn1 (G:=G) (C:=C)) bG hR'
 exact⟨D,Pk.eq (Zvk (b:=b) (by omega) (by omega) hb hb1 hG hR ok hC (Zg et rfl)),ZeW hm hK hM bM Zn1 bG hR' et,hD.szd hM (bM.mono (by omega))⟩
theorem ZsO(z:S5 n M G R)(hX:X<n)(bc:∀i,i<n+1→Bd 140 (c i)): ∃D,ZbN [Zf n G R,Zaw n n (Zcn X c)]=some D∧ShD n (rcG n G (Zcn X c)) (rcR n R (Zcn X c)) D∧DueOk n D:=by
 have hn:=z.hn
 have hM:=z.hM
 have bM:=z.bM
 have hR:=z.hR
 have hG:=z.hG
 have ok:=z.gd.2
 have bR:∀t,t<n→RBd 580 (R t):=fun t ht=>(hR t ht).bd2 hM bM (by decide)
 obtain⟨z1,z2,z3⟩:=ZmO hM bM hR bc
 obtain⟨M',hM',bM',d1,d2⟩:=ZnP hM bM z1 z2 (by decide)
 have cb:=ZzD (X:=X) bc
 have eX:rcR n R (Zcn X c) X=Zae c R n:=by unfold rcR Zcn;rw[if_pos rfl]
 have eO:∀t,t<n→t≠X→rcR n R (Zcn X c) t=R t:=fun t ht hx=>by
  unfold rcR Zcn
  rw[if_neg hx,Zm9 ok (by omega) (by omega),Nat.add_sub_cancel]
 obtain⟨D,e1,h,s⟩:=ZmP (b:=580) (K:=1300) (M:=M') (C:=Zcn X c) (by omega) (by omega) (by decide) (by decide) (by omega) hG bR ok cb hM' (bM'.mono (by decide)) (fun i j hi hj y e=>(show Bd 1200 y from Zso (B:=1200) hG cb (by omega) i j hi hj y e).mono (by decide)) (fun t ht=>by
  by_cases q:t=X
  ·subst q
   rw[eX]
   exact⟨z1,d2,z3.mono (by omega)⟩
  ·rw[eO t ht q]
   exact(hR t ht).up d1 (by decide))
 exact⟨D,e1,h,s.due⟩
theorem Zna{s s':Sp}{q':Int×Int}(h:Inside n G R G' R')(hs:Zce s s')(hq:Z3 q q'): Inside n (Zck (Zb6 G (X+1)) (X+1) s) (Zb9 R X q) (Zck (Zb6 G' (X+1)) (X+1) s') (Zb9 R' X q'):=by
 refine⟨fun i hi j hj=>?_,fun t ht=>?_⟩
 ·unfold Zck Zay
  split
  ·intro y e
   obtain⟨u,e1,e2⟩:=Zz1.mp e
   obtain⟨x,e3,l⟩:=hs.1 u e1
   exact⟨x*(-1),by rw[e3];rfl,by omega⟩
  ·split
   ·exact hs.2
   ·unfold Zb6
    split
    ·exact Za6
    ·split
     ·exact Za6
     ·exact h.1 i hi j hj
 ·unfold Zb9
  split
  ·exact hq
  ·exact h.2 t ht
theorem ZfS{s:Sp}(g:Gd n G R)(hq:RestOk q): Gd n (Zck (Zb6 G (X+1)) (X+1) s) (Zb9 R X q):=⟨Znv g.1,fun t ht=>by
 unfold Zb9
 split
 ·exact hq
 ·exact g.2 t ht⟩
theorem ZnB{x b k:Nat}{s:Sp}(hn:n≤20)(hx:x<n)(hb1:1≤b)(hbk:b≤k)(hk:k+2*n+4≤7000)(hM:0<M)(bM:Bd k M)(hd:∀i,i<n+1→G i i=some 0)(bG:GB b n G)(bs:SBd b s)(hR:∀t,t<n→RB M k (R t))(hq:RB M k q): ∃D,Zdg [Zf n G R,.int ((x:Int)+1),spT s,Zy q]=some D∧ShD n (Zck (Zb6 G (x+1)) (x+1) s) (Zb9 R x q) D∧DueOk n D:=by
 have gb:GB k n (Zck (Zb6 G (x+1)) (x+1) s):=fun i j hi hj y e=>by
  unfold Zck Zay at e
  split at e
  ·obtain⟨z,hz,rfl⟩:=Zz1.mp e
   have:=(bs.1 z hz).mono hbk
   unfold Bd at *;omega
  ·split at e
   ·exact(bs.2 y e).mono hbk
   ·unfold Zb6 at e
    split at e
    ·split at e
     ·cases e;exact Zbb
     ·cases e
    ·split at e
     ·cases e
     ·exact(bG i j hi hj y e).mono hbk
 have rb:∀t,t<n→RB M k (Zb9 R x q t):=fun t ht=>by
  unfold Zb9
  split
  ·exact hq
  ·exact hR t ht
 obtain⟨D,e1,_,h⟩:=ZeK (k:=k) hn hk hM bM (Znv (x:=x) (s:=s) hd) gb rb
 exact⟨D,Pk.eq (Zx4 hx (by omega) (by omega) hb1 bs (Zg e1 rfl)),ZeW hn hk hM bM (Znv hd) gb rb e1,h.tf.due⟩
end
theorem Zyo{p:Int×Int}{d:Int}(hd:0<d)(hp:RestOk p)(hq:RestOk q)(h:Z3 p q): Z3 (rpI p d) (rpI q d):=by
 have fm:∀x:Int,x.fmod d=0↔d ∣ x:=fun x=>by
  rw[Int.fmod_eq_emod_of_nonneg _ (by omega)]
  exact⟨Int.dvd_of_emod_eq_zero,Int.emod_eq_zero_of_dvd⟩
 have fe:∀x:Int,x.fdiv d=x / d:=fun x=>Int.fdiv_eq_ediv_of_nonneg _ (by omega)
 obtain⟨h1,h2⟩:=Zdx h
 unfold rpI
 by_cases c:q.1.fmod d=0
 ·have dq:=(fm _).mp c
  have dp:d ∣ p.1:=Int.dvd_trans dq h1
  rw[if_pos c,if_pos ((fm _).mpr dp)]
  rw[fe,fe,fe,fe]
  obtain⟨a,ea⟩:=dq
  obtain⟨b,eb⟩:=h1
  obtain⟨k,ek⟩:=h2
  have q0:=hq.nn
  have p0:=hp.nn
  have e1:q.1 / d=a:=by rw[ea];exact Int.mul_ediv_cancel_left _ (by omega)
  have e2:p.1 / d=a*b:=by rw[eb,ea,Int.mul_assoc];exact Int.mul_ediv_cancel_left _ (by omega)
  have e3:p.2 / d=q.2 / d+a*k:=by
   have:p.2=q.2+d*(a*k):=by rw[←Int.mul_assoc,←ea,←ek];omega
   rw[this];exact Int.add_mul_ediv_left _ _ (by omega)
  refine Zet (Int.ediv_nonneg p0 (by omega)) (Int.ediv_nonneg q0 (by omega)) ?_ ?_
  ·rw[e1,e2];exact Int.dvd_mul_right _ _
  ·rw[e1,e3,show q.2 / d+a*k-q.2 / d=a*k by omega];exact Int.dvd_mul_right _ _
 ·rw[if_neg c]
  unfold Z3
  rw[if_neg (by decide)]
  exact⟨Int.emod_one _,Int.emod_one _⟩
theorem Zyp{p:Int×Int}{d:Int}(hd:0<d)(h:Z3 p q): Z3 (rrI p d) (rrI q d):=by
 obtain⟨h1,h2⟩:=Zdx h
 have g1:((Int.gcd q.1 d:Nat):Int) ∣ q.1:=Int.gcd_dvd_left ..
 have g2:((Int.gcd q.1 d:Nat):Int) ∣ d:=Int.gcd_dvd_right ..
 have z:∀y:Int,(0,y)=Zah 0 y:=fun y=>by unfold Zah;rw[if_pos rfl]
 have fm:∀x:Int,d ∣ x.fmod d-x:=fun x=>by
  rw[Int.fmod_eq_emod_of_nonneg _ (by omega)]
  have:=Int.mul_ediv_add_emod x d
  exact⟨-(x / d),by rw[Int.mul_neg];omega⟩
 unfold rrI
 by_cases c:((Int.gcd q.1 d:Nat):Int)=d
 ·have dq:d ∣ q.1:=by rw[c]at g1;exact g1
  have dp:((Int.gcd p.1 d:Nat):Int)=d:=by
   have:Int.gcd p.1 d=d.natAbs:=Int.gcd_eq_right_iff_dvd (by omega) |>.mpr (Int.dvd_trans dq h1) |> fun e=>by omega
   omega
  rw[if_pos c,if_pos dp]
  have e:p.2.fmod d=q.2.fmod d:=by
   rw[Int.fmod_eq_emod_of_nonneg _ (by omega),Int.fmod_eq_emod_of_nonneg _ (by omega)]
   exact Int.emod_eq_emod_iff_emod_sub_eq_zero.mpr (Int.emod_eq_zero_of_dvd (Int.dvd_trans dq h2))
  rw[e];exact ZdV
 ·rw[if_neg c]
  split
  ·rw[z]
   refine Zet (Int.le_refl 0) (by omega) (Int.dvd_zero _) ?_
   have:=Int.dvd_add (Int.dvd_trans g2 (fm p.2)) (Int.dvd_trans g1 h2)
   rwa [show p.2.fmod d-p.2+(p.2-q.2)=p.2.fmod d-q.2 by omega]at this
  ·exact Zet (by omega) (by omega) (Int.dvd_coe_gcd (Int.dvd_trans g1 h1) g2) (Int.dvd_trans g1 h2)
end L
open PySem PySem.W PyProof.Rows PM TM My
namespace L
open PySem PySem.W PyProof.Rows PM TM My
variable {n:Nat}
theorem Ziq(c:Nat→Int): ∀n,ZaD (fun i=>-(c i)) n=ZaK c n∧ZaK (fun i=>-(c i)) n=ZaD c n
 | 0=>⟨rfl,rfl⟩
 | n+1=>by
  obtain⟨a,b⟩:=Ziq c n
  have e1:(0 < -(c (n+1)))↔c (n+1)<0:=by omega
  have e2:(-(c (n+1))<0)↔0<c (n+1):=by omega
  simp only[ZaD,ZaK,a,b,e1,e2,and_self]
theorem ZnC{c:Nat→Int}(h:Df n c): Df n fun i=>-(c i):=by
 obtain⟨u,d,hu,hd,cu,cd,_⟩:=Zew h
 rw[df_iff,(Ziq c n).1,(Ziq c n).2,hu,hd]
 simp[cu,cd]
theorem Zvn(s:Sp)(k:Int): (Zbd s (-k)).2=(Zbd s k).1.map fun y=>y * -1:=by
 unfold Zbd
 by_cases z:k=0
 ·subst z;simp
 ·rw[if_neg (show ¬-k=0 by omega),if_neg z]
  by_cases p:k<0
  ·rw[if_neg (show ¬-k<0 by omega),if_pos p]
   show s.2.map _=(s.2.map _).map _
   rw[Option.map_map];congr 1;funext x;show x * -k=x*k * -1;rw[Int.mul_neg];omega
  ·rw[if_pos (show -k<0 by omega),if_neg p]
   show s.1.map _=(s.1.map _).map _
   rw[Option.map_map];congr 1;funext x;show x * -k=x*k * -1;rw[Int.mul_neg];omega
theorem Zrd(c:Nat→Int)(S:Nat→Sp): ∀j,(ZaX (fun i=>-(c i)) S j).2=(ZaX c S j).1.map fun y=>y * -1
 | 0=>by show some (-(c 0))=some (c 0 * -1);congr 1;omega
 | j+1=>by
  show addO (ZaX (fun i=>-(c i)) S j).2 (Zbd (S j) (-(c (j+1)))).2=(addO (ZaX c S j).1 (Zbd (S j) (c (j+1))).1).map _
  rw[Zrd c S j,Zvn]
  cases (ZaX c S j).1 <;> cases (Zbd (S j) (c (j+1))).1 <;> simp[addO]
  omega
def Zfe(s:Sp): Prop:=∀a b,s.1=some a→s.2=some b→a≤b
theorem Zv5{s:Sp}(h:Zfe s)(k:Int): Zfe (Zbd s k):=by
 unfold Zbd
 split
 ·intro a b e1 e2;cases e1;cases e2;exact Int.le_refl _
 ·split
  ·rename_i hk
   intro a b e1 e2
   obtain⟨x,f1,g1⟩:=Zz1.mp e1
   obtain⟨y,f2,g2⟩:=Zz1.mp e2
   have:=Zie (h y x f2 f1) (show 0≤-k by omega)
   rw[Int.mul_neg,Int.mul_neg]at this;omega
  ·intro a b e1 e2
   obtain⟨x,f1,g1⟩:=Zz1.mp e1
   obtain⟨y,f2,g2⟩:=Zz1.mp e2
   have:=Zie (h x y f1 f2) (show 0≤k by omega)
   omega
theorem ZrU{n:Nat}{c:Nat→Int}{S:Nat→Sp}(h:∀t,t<n→Zfe (S t)): ∀j,j≤n→Zfe (ZaX c S j)
 | 0,_=>fun a b e1 e2=>by cases e1;cases e2;exact Int.le_refl _
 | j+1,hj=>fun a b e1 e2=>by
  obtain⟨x1,x2,f1,f2,f3⟩:=addO_some.mp e1
  obtain⟨y1,y2,g1,g2,g3⟩:=addO_some.mp e2
  have:=ZrU h j (by omega) x1 y1 f1 g1
  have:=Zv5 (h j (by omega)) (c (j+1)) x2 y2 f2 g2
  omega
theorem Zyq{G:Nat→Nat→Option Int}(nn:Zei (n+1) G)(c:Nat→Int): Zfe (Zcl n G c):=fun a b e1 e2=>by
 obtain⟨x,f,g⟩:=Zz1.mp e1
 have e2:grt n G c=some b:=e2
 unfold grt at f e2
 by_cases q:Df n c
 ·rw[Zao q]at e2
  rw[Zao (ZnC q)]at f
  obtain⟨u,d,hu,hd,_,_,lu,ld,_,_,eu,ed,_⟩:=Zew q
  obtain⟨u',d',hu',hd',_,_,_,_,_,_,eu',ed',_⟩:=Zew (ZnC q)
  rw[(Ziq c n).1,hd]at hu'
  rw[(Ziq c n).2,hu]at hd'
  cases hu'
  cases hd'
  rw[eu,ed]at e2
  rw[eu',ed']at f
  obtain⟨y1,y2,p1,p2,p3⟩:=addO_some.mp e2
  obtain⟨z1,z2,r1,r2,r3⟩:=addO_some.mp f
  cases p2
  cases r2
  have:=nn u d lu ld y1 z1 p1 r1
  have r3:z1 + -(c 0)=x:=r3
  omega
 ·have q':¬Df n fun i=>-(c i):=fun h=>q (by have:=ZnC h;simpa using this)
  rw[Zas q]at e2
  rw[Zas q']at f
  have f:(ZaX (fun i=>-(c i)) (S40 G) n).2=some x:=f
  have e2:(ZaX c (S40 G) n).2=some b:=e2
  rw[Zrd]at f
  obtain⟨y,f1,f2⟩:=Zz1.mp f
  have:∀t,t<n→Zfe (S40 G t):=fun t ht a b h1 h2=>by
   obtain⟨v,k1,k2⟩:=Zz1.mp h1
   have:=nn 0 (t+1) (by omega) (by omega) v b k1 h2
   omega
  have:=ZrU this n (Zz10 n) y b f1 e2
  omega
theorem ZrV{G G':Nat→Nat→Option Int}(h:LeG (n+1) G G')(c:Nat→Int): Zce (Zcl n G c) (Zcl n G' c):=by
 refine⟨fun y e=>?_,ZeC h c⟩
 obtain⟨u,e1,e2⟩:=Zz1.mp e
 obtain⟨x,e3,l⟩:=ZeC h (fun i=>-(c i)) u e1
 exact⟨x * -1,by show(grt n G fun i=>-(c i)).map _=_;rw[e3];rfl,by omega⟩
theorem Zyr{s s':Sp}{d:Int}(hd:0<d)(h:Zce s s'): Zce (s.1.map fun x=>x.fdiv d,s.2.map fun x=>x.fdiv d) (s'.1.map fun x=>x.fdiv d,s'.2.map fun x=>x.fdiv d):=by
 refine⟨fun y e=>?_,Zq9 h.2 fun x y q=>ZfB q hd⟩
 obtain⟨u,e1,e2⟩:=Zz1.mp e
 obtain⟨x,e3,l⟩:=h.1 u e1
 exact⟨x.fdiv d,by show s.1.map _=_;rw[e3];rfl,by rw[←e2];exact ZfB l hd⟩
theorem ZAt{s s':Sp}{d:Int}(hd:0<d)(h:Zce s s')(le:Zfe s): Zce (srI s d) (srI s' d):=by
 have f0:∀x:Int,0≤x.fmod d:=fun x=>Int.fmod_nonneg_of_pos x hd
 have f1:∀x:Int,x.fmod d<d:=fun x=>Int.fmod_lt_of_pos x hd
 have fe:∀x:Int,x.fmod d=x-d*x.fdiv d:=fun x=>by have:=Int.mul_fdiv_add_fmod x d;omega
 have wide:∀s:Sp,Zce (srI s d) (some 0,some (d-1)):=fun s=>by
  unfold srI
  split
  ·split
   ·exact⟨fun y e=>by cases e;exact⟨_,rfl,f0 _⟩,fun y e=>by cases e;exact⟨_,rfl,by have:=f1 (by assumption);rename_i b _ _ _;have:=f1 b;omega⟩⟩
   ·exact⟨fun y e=>⟨y,e,Int.le_refl _⟩,Za6⟩
  ·exact⟨fun y e=>⟨y,e,Int.le_refl _⟩,Za6⟩
 cases e1:s'.1 with
 | none=>
  have:srI s' d=(some 0,some (d-1)):=by unfold srI;rw[e1]
  rw[this];exact wide s
 | some a'=>
  cases e2:s'.2 with
  | none=>
   have:srI s' d=(some 0,some (d-1)):=by unfold srI;rw[e1,e2]
   rw[this];exact wide s
  | some b'=>
   by_cases q:a'.fdiv d=b'.fdiv d
   ·obtain⟨a,ea,la⟩:=h.1 a' e1
    obtain⟨b,eb,lb⟩:=h.2 b' e2
    have l:=le a b ea eb
    have m1:=ZfB la hd
    have m2:=ZfB l hd
    have m3:=ZfB lb hd
    have x1:a.fdiv d=a'.fdiv d:=by omega
    have x2:b.fdiv d=a'.fdiv d:=by omega
    have s1:srI s' d=(some (a'.fmod d),some (b'.fmod d)):=by
     unfold srI
     rw[e1,e2]
     exact if_pos q
    have s2:srI s d=(some (a.fmod d),some (b.fmod d)):=by
     unfold srI
     rw[ea,eb]
     exact if_pos (by omega)
    rw[s1,s2]
    refine⟨fun y e=>?_,fun y e=>?_⟩
    ·cases e;exact⟨_,rfl,by rw[fe,fe,x1];omega⟩
    ·cases e;exact⟨_,rfl,by rw[fe,fe,x2,←q];omega⟩
   ·have:srI s' d=(some 0,some (d-1)):=by
     unfold srI
     rw[e1,e2]
     exact if_neg q
    rw[this];exact wide s
end L
open PySem PySem.W PyProof.Rows PM TM My
namespace L
open PySem PySem.W PyProof.Rows PM TM My
section
variable {n X:Nat} {M M':Int} {G G':Nat→Nat→Option Int} {R R':Nat→Int×Int} {c:Nat→Int} {d:Int} {s:Sp}
theorem Zw4(z:S5 n M G R)(z':S5 n M' G' R')(h:Inside n G R G' R')(hX:X<n)(bc:∀i,i<n+1→Bd 140 (c i)): Both n (Zbo [Zf n G R,.tup [.str (Str.ofString "set"),.int ((X:Int)+1),Zx n c]]) (Zbo [Zf n G' R',.tup [.str (Str.ofString "set"),.int ((X:Int)+1),Zx n c]]):=by
 have hn:=z.hn
 obtain⟨D,e,m,s⟩:=ZsO z hX bc
 obtain⟨D',e',m',s'⟩:=ZsO z' hX bc
 exact⟨D,D',Zpp (by omega) hX e,Zpp (by omega) hX e',m.mono (ZkI z.gd) (ZkI z'.gd) (ZsN z.gd z'.gd h) m',s,s'⟩
theorem Zw5(z:S5 n M G R)(z':S5 n M' G' R')(h:Inside n G R G' R')(hX:X<n)(bs:SBd 580 s): Both n (Zbo [Zf n G R,.tup [.str (Str.ofString "any"),.int ((X:Int)+1),oT s.1,oT s.2]]) (Zbo [Zf n G' R',.tup [.str (Str.ofString "any"),.int ((X:Int)+1),oT s.1,oT s.2]]):=by
 have hn:=z.hn
 have go:∀{M:Int} {G:Nat→Nat→Option Int} {R:Nat→Int×Int},S5 n M G R→∃D,Zdg [Zf n G R,.int ((X:Int)+1),spT s,Zy (1,0)]=some D∧ShD n (Zck (Zb6 G (X+1)) (X+1) s) (Zb9 R X (1,0)) D∧DueOk n D:=fun z=>
  ZnB (b:=580) (k:=600) (q:=(1,0)) (by omega) hX (by decide) (by decide) (by omega) z.hM (z.bM.mono (by decide)) z.hd z.hG bs (fun t ht=>(z.hR t ht).mono (by decide)) ⟨.inr ⟨by decide,by decide,by decide⟩,.inr (Int.one_dvd _),Zbb⟩
 obtain⟨D,e,m,t⟩:=go z
 obtain⟨D',e',m',t'⟩:=go z'
 have ok:RestOk (1,0):=.inr ⟨by decide,by decide,by decide⟩
 exact⟨D,D',Zpq e,Zpq e',m.mono (ZfS z.gd ok) (ZfS z'.gd ok) (Zna h ⟨fun y e=>⟨y,e,Int.le_refl _⟩,Za6⟩ ZdV) m',t,t'⟩
theorem Zss(z:S5 n M G R)(hX:X<n)(bc:∀i,i<n+1→Bd 140 (c i))(hd0:0<d)(bd:Bd 140 d): ∃D,Zbo [Zf n G R,.tup [.str (Str.ofString "part"),.int ((X:Int)+1),Zx n c,.int d]]=some D∧ShD n (Zck (Zb6 G (X+1)) (X+1) ((Zcl n G c).1.map fun x=>x.fdiv d,(Zcl n G c).2.map fun x=>x.fdiv d)) (Zb9 R X (rpI (Zae c R n) d)) D∧DueOk n D:=by
 have hn:=z.hn
 have hM:=z.hM
 have bM:=z.bM
 have r1:=z.hR
 have g1:=z.hG
 have ok1:=z.gd.2
 have bR:∀t,t<n→RBd 580 (R t):=fun t ht=>(r1 t ht).bd2 hM bM (by decide)
 have bc5:∀i,i<n+1→Bd 580 (c i):=fun i hi=>(bc i hi).mono (by decide)
 obtain⟨z1,z2,z3⟩:=ZmO hM bM r1 bc
 have zb:=ZAr (d:=d) (i:=1200) (by decide) hd0 z1 (z2.mono (by decide)) (z3.mono (by omega))
 obtain⟨M',hM',bM',q1,q2⟩:=ZnP (j:=700) hM bM (ZkG hd0 z1) (ZzE (by decide) hd0 z2) (by decide)
 have sb:=Zyl (n:=n) g1 bc
 have sb2:SBd 1200 ((Zcl n G c).1.map fun x=>x.fdiv d,(Zcl n G c).2.map fun x=>x.fdiv d):=⟨fun x e=>by
  obtain⟨y,hy,rfl⟩:=Zz1.mp e
  exact Zip hd0 ((sb.1 y hy).mono (by omega)),fun x e=>by
  obtain⟨y,hy,rfl⟩:=Zz1.mp e
  exact Zip hd0 ((sb.2 y hy).mono (by omega))⟩
 obtain⟨D,e1,m,h⟩:=ZnB (b:=1200) (k:=1300) (M:=M') (q:=rpI (Zae c R n) d) (by omega) hX (by decide) (by decide) (by omega) hM' (bM'.mono (by decide)) z.hd (fun i j hi hj y e=>(g1 i j hi hj y e).mono (by decide)) sb2 (fun t ht=>(r1 t ht).up q1 (by decide)) ⟨ZkG hd0 z1,q2,zb.2.mono (by decide)⟩
 have hl:=Zq1 (n:=n) (b:=580) (R:=R) (by omega) (by decide) (by decide) g1 bc5 (fun y e=>(ZeJ g1 (ZeI bc5) y e).mono (by omega))
 have hg:=Zeo (n:=n) (b:=580) (R:=R) (by omega) (by decide) (by decide) g1 bc5
 have hr:=Zem (i:=580) (R:=R) (by omega) (by decide) (by decide) bc5 bR ok1
 have sp:=Zn3 (s:=Zcl n G c) (i:=140) (by decide) (show d≠0 by omega) bd
 have rp:=Zty (q:=Zae c R n) (i:=140) (by decide) z1.nn hd0 bd
 exact⟨D,Zpr (.inl rfl) hl hg hr ⟨fun _=>⟨sp,rp⟩,fun h=>absurd h (by decide +kernel)⟩ e1,m,h⟩
theorem Zst(z:S5 n M G R)(hX:X<n)(bc:∀i,i<n+1→Bd 140 (c i))(hd0:0<d)(bd:Bd 140 d): ∃D,Zbo [Zf n G R,.tup [.str (Str.ofString "rest"),.int ((X:Int)+1),Zx n c,.int d]]=some D∧ShD n (Zck (Zb6 G (X+1)) (X+1) (srI (Zcl n G c) d)) (Zb9 R X (rrI (Zae c R n) d)) D∧DueOk n D:=by
 have hn:=z.hn
 have hM:=z.hM
 have bM:=z.bM
 have r1:=z.hR
 have g1:=z.hG
 have ok1:=z.gd.2
 have bR:∀t,t<n→RBd 580 (R t):=fun t ht=>(r1 t ht).bd2 hM bM (by decide)
 have bc5:∀i,i<n+1→Bd 580 (c i):=fun i hi=>(bc i hi).mono (by decide)
 obtain⟨z1,z2,z3⟩:=ZmO hM bM r1 bc
 have zb:=ZAs (q:=Zae c R n) hd0 bd
 obtain⟨M',hM',bM',q1,q2⟩:=ZnP (j:=140) hM bM (ZkH (q:=Zae c R n) hd0) zb.1 (by decide)
 have sb2:SBd 580 (srI (Zcl n G c) d):=by
  have f:∀x:Int,Bd 580 (x.fmod d):=fun x=>by
   have f0:=Int.fmod_nonneg_of_pos x hd0
   have f1:=Int.fmod_lt_of_pos x hd0
   exact(show Bd 140 _ by unfold Bd at *;omega).mono (by decide)
  have g:Bd 580 (d-1):=(show Bd 140 _ by unfold Bd at *;omega).mono (by decide)
  unfold srI
  split
  ·split
   ·exact⟨fun x e=>by cases e;exact f _,fun x e=>by cases e;exact f _⟩
   ·exact⟨fun x e=>by cases e;exact Zbb,fun x e=>by cases e;exact g⟩
  ·exact⟨fun x e=>by cases e;exact Zbb,fun x e=>by cases e;exact g⟩
 obtain⟨D,e1,m,h⟩:=ZnB (b:=580) (k:=800) (M:=M') (q:=rrI (Zae c R n) d) (by omega) hX (by decide) (by decide) (by omega) hM' (bM'.mono (by decide)) z.hd g1 sb2 (fun t ht=>(r1 t ht).up q1 (by decide)) ⟨ZkH hd0,q2,zb.2.mono (by decide)⟩
 have hl:=Zq1 (n:=n) (b:=580) (R:=R) (by omega) (by decide) (by decide) g1 bc5 (fun y e=>(ZeJ g1 (ZeI bc5) y e).mono (by omega))
 have hg:=Zeo (n:=n) (b:=580) (R:=R) (by omega) (by decide) (by decide) g1 bc5
 have hr:=Zem (i:=580) (R:=R) (by omega) (by decide) (by decide) bc5 bR ok1
 have sp:=ZsW (s:=Zcl n G c) (i:=140) (by decide) (show d≠0 by omega) bd
 have rp:=Ztz (q:=Zae c R n) hd0 (z2.mono (by decide)) (bd.mono (by decide))
 exact⟨D,Zpr (.inr rfl) hl hg hr ⟨fun h=>absurd h (by decide +kernel),fun _=>⟨sp,rp⟩⟩ e1,m,h⟩
theorem Zv6(z:S5 n M G R)(z':S5 n M' G' R')(h:Inside n G R G' R')(hX:X<n)(bc:∀i,i<n+1→Bd 140 (c i))(hd0:0<d)(bd:Bd 140 d): Both n (Zbo [Zf n G R,.tup [.str (Str.ofString "part"),.int ((X:Int)+1),Zx n c,.int d]]) (Zbo [Zf n G' R',.tup [.str (Str.ofString "part"),.int ((X:Int)+1),Zx n c,.int d]]):=by
 obtain⟨D,e,m,t⟩:=Zss z hX bc hd0 bd
 obtain⟨D',e',m',t'⟩:=Zss z' hX bc hd0 bd
 have o:=ZcX (c:=c) z.gd.2
 have o':=ZcX (c:=c) z'.gd.2
 exact⟨D,D',e,e',m.mono (ZfS z.gd (ZkG hd0 o)) (ZfS z'.gd (ZkG hd0 o')) (Zna h (Zyr hd0 (ZrV h.le c)) (Zyo hd0 o o' (ZdS z.gd.2 z'.gd.2 h.2 n (Zz10 n)))) m',t,t'⟩
theorem Zv7(z:S5 n M G R)(z':S5 n M' G' R')(nn:Zei (n+1) G)(h:Inside n G R G' R')(hX:X<n)(bc:∀i,i<n+1→Bd 140 (c i))(hd0:0<d)(bd:Bd 140 d): Both n (Zbo [Zf n G R,.tup [.str (Str.ofString "rest"),.int ((X:Int)+1),Zx n c,.int d]]) (Zbo [Zf n G' R',.tup [.str (Str.ofString "rest"),.int ((X:Int)+1),Zx n c,.int d]]):=by
 obtain⟨D,e,m,t⟩:=Zst z hX bc hd0 bd
 obtain⟨D',e',m',t'⟩:=Zst z' hX bc hd0 bd
 exact⟨D,D',e,e',m.mono (ZfS z.gd (ZkH hd0)) (ZfS z'.gd (ZkH hd0)) (Zna h (ZAt hd0 (ZrV h.le c) (Zyq nn c)) (Zyp hd0 (ZdS z.gd.2 z'.gd.2 h.2 n (Zz10 n)))) m',t,t'⟩
end
end L
open PySem PySem.W PyProof.Rows PM TM My
namespace L
open PySem PySem.W PyProof.Rows PM TM My
variable {m n r x:Nat} {G Gs:Nat→Nat→Option Int} {R Rs:Nat→Int×Int} {C:Nat→Nat→Int} {M:Int}
def Mo2(n m:Nat)(P P':(Nat→Nat→Option Int)→(Nat→Int×Int)→T→Prop): Prop:=∀G R G' R' D D',Gd n G R→Gd n G' R'→Inside n G R G' R'→P G R D→P' G' R' D'→InD m D D'
theorem ZjL{P P':(Nat→Nat→Option Int)→(Nat→Int×Int)→T→Prop}{T0 T0' D D':T}(mo:Mo2 n m P P')(h:InD n T0 T0')(u:Up n P T0 D)(u':Up n P' T0' D'): InD m D D':=by
 rcases u with⟨_,rfl⟩ | ⟨G,R,rfl,g,p⟩
 ·exact .inl rfl
 ·rcases u' with⟨rfl,_⟩ | ⟨G',R',rfl,g',p'⟩
  ·exact(InD.no h).elim
  ·exact mo G R G' R' D D' g g' h.inside p p'
theorem ZAu: Mo2 n n (fun G R=>ShD n G R) (fun G R=>ShD n G R):=fun _ _ _ _ _ _ g g' h s s'=>s.mono g g' h s'
theorem ZsP(C:Nat→Nat→Int): Mo2 n m (fun G R=>ShD m (rcG n G C) (rcR n R C)) (fun G R=>ShD m (rcG n G C) (rcR n R C)):=fun _ _ _ _ _ _ g g' h s s'=>s.mono (ZkI g) (ZkI g') (ZsN g g' h) s'
theorem Zw6{p q p' q' r:Int×Int}{o:Option (Int×Int)}(op:RestOk p)(oq:RestOk q)(op':RestOk p')(oq':RestOk q')(hp:Z3 p p')(hq:Z3 q q')(h:Met p q (some r))(h':Met p' q' o): ∃r',o=some r'∧Z3 r r':=by
 have hm:∀x,Z6 r x→Z6 p' x∧Z6 q' x:=fun x hx=>⟨ZcG op op' hp ((h.2 x).mp hx).1,ZcG oq oq' hq ((h.2 x).mp hx).2⟩
 cases o with
 | none=>exact absurd (hm _ h.1.self) (h' r.2)
 | some r'=>exact⟨r',rfl,Zd7 h.1 h'.1 fun x hx=>(h'.2 x).mpr (hm x hx)⟩
theorem ZqA{N i k:Nat}{q:Nat→Nat}{S S' Γ Γ':Nat→Nat→Option Int}(h:LeG N Γ Γ')(hs:∀j,j<k→leO (S i j) (S' i j)): ∀j,j≤k→LeG N (Zed q S i Γ j) (Zed q S' i Γ' j)
 | 0,_=>h
 | j+1,hj=>fun a b ha hb=>by
  have ih:=ZqA (q:=q) h hs j (by omega)
  show leO (Zay _ _ _ _ a b) (Zay _ _ _ _ a b)
  unfold Zay
  split
  ·rename_i c
   exact Zic (ih _ _ (c.1▸ha) (c.2▸hb)) (hs j (by omega))
  ·exact ih a b ha hb
theorem ZqB{N k:Nat}{q:Nat→Nat}{S S' Γ Γ':Nat→Nat→Option Int}(h:LeG N Γ Γ')(hs:∀i j,i<k→j<k→leO (S i j) (S' i j)): ∀i,i≤k→LeG N (ZcP q S k Γ i) (ZcP q S' k Γ' i)
 | 0,_=>h
 | i+1,hi=>ZqA (ZqB h hs i (by omega)) (fun j hj=>hs i j (by omega) hj) k (Zz10 k)
theorem Zv8{N:Nat}{G':Nat→Nat→Option Int}(h:LeG (m+1) G G'): LeG N (ZaW m G) (ZaW m G'):=fun i j _ _=>by
 unfold ZaW
 split
 ·rename_i c;exact h i j c.1 c.2
 ·exact Za6
theorem Zp3{R':Nat→Int×Int}(h:∀t,t<m→Z3 (R t) (R' t))(t:Nat): Z3 (Za2 m R t) (Za2 m R' t):=by
 unfold Za2
 split
 ·rename_i c;exact h t c
 ·exact ZdV
theorem Zre(h:∀t,t<m→RestOk (R t))(t:Nat): RestOk (Za2 m R t):=by
 unfold Za2
 split
 ·rename_i c;exact h t c
 ·exact .inr ⟨by decide,by decide,by decide⟩
theorem ZAv(hm:m=n+r){Gs':Nat→Nat→Option Int}{Rs':Nat→Int×Int}(os:∀t,t<r+1→RestOk (Rs t))(os':∀t,t<r+1→RestOk (Rs' t))(hs:Inside (r+1) Gs Rs Gs' Rs'): Mo2 m (m+1) (fun G R=>ZkF n r m G R Gs Rs) (fun G R=>ZkF n r m G R Gs' Rs'):=by
 rintro G R G' R' D D' g g' h ⟨ρ,hl,hT⟩ ⟨ρ',hl',hT'⟩
 rcases hT with⟨rfl,_⟩ | ⟨rfl,some_⟩
 ·exact .inl rfl
 ·have key:∀t,t<m+1→∃r',ρ' t=some r'∧Z3 ((ρ t).getD (1,0)) r':=fun t ht=>by
   by_cases c:∃j,j<r+1∧n+j=t
   ·obtain⟨j,hj,rfl⟩:=c
    have a:=hl.2 j hj
    cases e:ρ (n+j)with
    | none=>exact absurd e (some_ _ ht)
    | some q=>
     rw[e]at a
     exact Zw6 (Zre g.2 _) (os j hj) (Zre g'.2 _) (os' j hj) (Zp3 h.2 _) (hs.2 j hj) a (hl'.2 j hj)
   ·rw[hl.1 t ht fun j hj e=>c ⟨j,hj,e⟩]
    exact⟨_,hl'.1 t ht fun j hj e=>c ⟨j,hj,e⟩,Zp3 h.2 t⟩
  rcases hT' with⟨_,i,hi,e⟩ | ⟨rfl,_⟩
  ·obtain⟨r',e',_⟩:=key i hi
   rw[e]at e';cases e'
  ·have lr:=ZqB (N:=m+1+1) (q:=qOf fun i=>n+i) (k:=r+1+1) (Zv8 (N:=m+1+1) h.le) (fun i j hi hj=>hs.1 i hi j hj) (r+1+1) (Zz10 _)
   refine .told ⟨fun i hi j hj=>lr i j hi hj,fun t ht=>?_⟩
   obtain⟨r',e',i⟩:=key t ht
   show Z3 ((ρ t).getD (1,0)) ((ρ' t).getD (1,0))
   rw[e'];exact i
def AnD(n r x:Nat)(C:Nat→Nat→Int)(Gs:Nat→Nat→Option Int)(Rs:Nat→Int×Int)(G:Nat→Nat→Option Int)(R:Nat→Int×Int)(D:T): Prop:=∃D1 D2 L0 B0,ShD n G R D1∧Up n (fun G R=>ShD (n+r) (rcG n G (ZbD n C)) (rcR n R (ZbD n C))) D1 D2∧Up (n+r) (fun G R=>ZkF n r (n+r) G R Gs Rs) D2 L0∧Up (n+r+1) (fun G R=>ShD (n+r+1) G R) L0 B0∧Up (n+r+1) (fun G R=>ShD n (rcG (n+r+1) G fun t=>ZX (ZcS n (n+r) x t)) (rcR (n+r+1) R fun t=>ZX (ZcS n (n+r) x t))) B0 D
theorem ZAw{Gs':Nat→Nat→Option Int}{Rs':Nat→Int×Int}(os:∀t,t<r+1→RestOk (Rs t))(os':∀t,t<r+1→RestOk (Rs' t))(hs:Inside (r+1) Gs Rs Gs' Rs'): Mo n (AnD n r x C Gs Rs) (AnD n r x C Gs' Rs'):=by
 rintro G R G' R' D D' g g' h ⟨D1,D2,L0,B0,a1,a2,a3,a4,a5⟩ ⟨D1',D2',L0',B0',b1,b2,b3,b4,b5⟩
 exact ZjL (ZsP _) (ZjL ZAu (ZjL (ZAv rfl os os' hs) (ZjL (ZsP _) (a1.mono g g' h b1) a2 b2) a3 b3) a4 b4) a5 b5
theorem Zv9(z:S5 n M G R)(hr:r≤4)(hC:CB 140 n r C): ∃D,ZbN [Zf n G R,Zaw n (n+r) (ZbD n C)]=some D∧ShD (n+r) (rcG n G (ZbD n C)) (rcR n R (ZbD n C)) D∧∃M',0<M'∧Bd 3400 M'∧SzD (n+r) 3440 M' D:=by
 have hn:=z.hn
 have hM:=z.hM
 have bM:=z.bM
 have hR:=z.hR
 have hG:=z.hG
 have ok:=z.gd.2
 have bR:∀t,t<n→RBd 580 (R t):=fun t ht=>(hR t ht).bd2 hM bM (by decide)
 have ok2:∀t,t<r→RestOk (rcR n R C t):=ZsE ok
 have hp:=Zfz ok2 r (Zz10 r)
 have bm:∀t,t<r→Bd 700 (rcR n R C t).1:=fun t ht=>by
  unfold rcR
  rw[ZcF ok n (Zz10 n),ZcT]
  exact ZjI (i:=140) (m:=560) (hC t ht) (fun j hj=>ZiC hM bM (hR j hj)) n (Zz10 n)
 have hb:=ZfI (k:=700) (by decide) bm r (Zz10 r)
 have hM':0<M*ZbW (rcR n R C) r:=Int.mul_pos hM hp
 have bM':Bd 3400 (M*ZbW (rcR n R C) r):=(bM.mul hb).mono (by omega)
 have cb:=Zzy hC
 obtain⟨D,e1,h,s⟩:=ZmP (b:=580) (K:=3400) (M:=M*ZbW (rcR n R C) r) (by omega) (by omega) (by decide) (by decide) (by omega) hG bR ok cb hM' bM' (fun i j hi hj y e=>(show Bd 1200 y from Zso (B:=1200) hG cb (by omega) i j hi hj y e).mono (by decide)) (fun t ht=>⟨ZsE (m:=n+r) ok t ht,by
  by_cases c:t<n
  ·rw[ZAk ok c]
   exact(hR t c).2.1.imp id fun d=>Int.dvd_trans d (Int.dvd_mul_right _ _)
  ·obtain⟨u,rfl⟩:∃u,t=n+u:=⟨t-n,by omega⟩
   rw[Zzx]
   exact(ZfA r u (by omega)).imp id fun d=>Int.dvd_trans d (Int.dvd_mul_left _ _),(show Bd 1200 _ from(Zzl (B:=1200) ok bR cb (by omega) t ht).2).mono (by decide)⟩)
 refine⟨D,e1,h,_,hM',bM',?_⟩
 rcases s with rfl | ⟨G2,R2,rfl,z2⟩
 ·exact .inl rfl
 ·exact .inr ⟨G2,R2,rfl,z2.mono (by omega) (by omega)⟩
theorem Zwa(hnm:n≤m)(hm:m≤8)(hM:0<M)(bM:Bd 4950 M)(hd:∀i,i<m+1+1→G i i=some 0)(hG:GB 5000 (m+1) G)(hR:∀t,t<m+1→RB M 5000 (R t)): ∃D,ZbN [Zf (m+1) G R,Zaw (m+1) n fun t=>ZX (ZcS n m x t)]=some D∧ShD n (rcG (m+1) G fun t=>ZX (ZcS n m x t)) (rcR (m+1) R fun t=>ZX (ZcS n m x t)) D∧DueOk n D:=by
 have ho:=ZAq (x:=x) hnm
 have ok:∀t,t<m+1→RestOk (R t):=fun t ht=>(hR t ht).1
 have bR:∀t,t<m+1→RBd 5000 (R t):=fun t ht=>(hR t ht).bd2 hM bM (by decide)
 have eG:=ZAf hd ho
 have eR:=Zzn ok ho
 obtain⟨D,e1,h,s⟩:=ZmP (n:=m+1) (m:=n) (b:=5000) (K:=5000) (M:=M) (C:=fun t=>ZX (ZcS n m x t)) (by omega) (by omega) (by decide) (by decide) (by omega) hG bR ok (fun i hi k hk=>bd_un.mono (by decide)) hM (bM.mono (by decide)) (fun i j hi hj y e=>by rw[eG i j hi hj]at e;exact hG _ _ (ho.lt i hi) (ho.lt j hj) y e) (fun t ht=>by rw[eR t ht];have:=ho t ht;exact hR _ (by omega))
 exact⟨D,e1,h,s.due⟩
theorem Zp4(hx:x<n)(hn:n≤3)(hr:r≤4)(hM:0<M)(bM:Bd 420 M)(hd:∀i,i<n+1→G i i=some 0)(hG:GB 440 n G)(hR:∀t,t<n→RB M 440 (R t))(hC:CB 140 n r C)(hd':∀i,i<r+1+1→Gs i i=some 0)(ok':∀t,t<r+1→RestOk (Rs t))(sG':SmG 300 (r+1) Gs)(sR':SmR 300 (r+1) Rs): ∃D,Zda [Zf n G R,.int ((x:Int)+1),Zaw n r C,Zf (r+1) Gs Rs]=some D∧AnD n r x C Gs Rs G R D∧DueOk n D:=by
 obtain⟨D1,p1,_,h1⟩:=ZeK (k:=440) (by omega) (by omega) hM (bM.mono (by decide)) hd hG hR
 have s1:=ZeW (by omega) (show 440+2*n+4≤7000 by omega) hM (bM.mono (by decide)) hd hG hR p1
 rcases h1.szd hM (bM.mono (by omega))with rfl | ⟨G1,R1,rfl,z1⟩
 ·exact⟨.none,Ztx p1,⟨_,_,_,_,s1,.inl ⟨rfl,rfl⟩,.inl ⟨rfl,rfl⟩,.inl ⟨rfl,rfl⟩,.inl ⟨rfl,rfl⟩⟩,.inl rfl⟩
 have z5:S5 n M G1 R1:=⟨by omega,hM,bM.mono (by decide),z1.hd,fun i j hi hj y e=>(z1.bG i j hi hj y e).mono (by omega),fun t ht=>(z1.hR t ht).mono (by omega)⟩
 obtain⟨D2,p2,s2,M2,m2,b2,h2⟩:=Zv9 z5 hr hC
 rcases h2 with rfl | ⟨G2,R2,rfl,z2⟩
 ·exact⟨.none,Zul (by omega) (by omega) ⟨_,_,_,rfl⟩ p1 p2,⟨_,_,_,_,s1,.inr ⟨_,_,rfl,z1.gd,s2⟩,.inl ⟨rfl,rfl⟩,.inl ⟨rfl,rfl⟩,.inl ⟨rfl,rfl⟩⟩,.inl rfl⟩
 obtain⟨L0,p3,la,M3,m3,b3,h3⟩:=ZzC (m:=n+r) rfl (by omega) hr m2 b2 z2.hd z2.bG z2.hR hd' ok' sG' sR'
 have fin:∀B0 D,ZaG [L0]=some B0→ZbN [B0,Zaw (n+r+1) n fun t=>ZX (ZcS n (n+r) x t)]=some D→Zda [Zf n G R,.int ((x:Int)+1),Zaw n r C,Zf (r+1) Gs Rs]=some D:=fun B0 D q1 q3=>ZuJ (m:=n+r) rfl hx (by omega) (by omega) ⟨_,_,_,rfl⟩ p1 p2 p3 q1 q3
 rcases h3 with⟨rfl,_⟩ | ⟨G3,R3,rfl,d3,r3,g3,_⟩
 ·exact⟨.none,fin .none .none Zva Zpo,⟨_,_,_,_,s1,.inr ⟨_,_,rfl,z1.gd,s2⟩,.inr ⟨_,_,rfl,z2.gd,la⟩,.inl ⟨rfl,rfl⟩,.inl ⟨rfl,rfl⟩⟩,.inl rfl⟩
 have g3':GB 4950 (n+r+1) G3:=fun i j hi hj y e=>(g3 i j hi hj y e).mono (by decide)
 have r3':∀t,t<n+r+1→RB M3 4950 (R3 t):=fun t ht=>(r3 t ht).mono (by decide)
 obtain⟨B0,p4,_,h4⟩:=ZeK (k:=4950) (by omega) (by omega) m3 b3 d3 g3' r3'
 have s4:=ZeW (by omega) (show 4950+2*(n+r+1)+4≤7000 by omega) m3 b3 d3 g3' r3' p4
 have gd3:Gd (n+r+1) G3 R3:=⟨d3,fun t ht=>(r3 t ht).1⟩
 rcases h4.szd m3 (b3.mono (by omega))with rfl | ⟨G4,R4,rfl,z4⟩
 ·exact⟨.none,fin .none .none p4 Zpo,⟨_,_,_,_,s1,.inr ⟨_,_,rfl,z1.gd,s2⟩,.inr ⟨_,_,rfl,z2.gd,la⟩,.inr ⟨_,_,rfl,gd3,s4⟩,.inl ⟨rfl,rfl⟩⟩,.inl rfl⟩
 obtain⟨D,p5,s5,h5⟩:=Zwa (n:=n) (m:=n+r) (x:=x) (by omega) (by omega) m3 b3 z4.hd (fun i j hi hj y e=>(z4.bG i j hi hj y e).mono (by omega)) (fun t ht=>(z4.hR t ht).mono (by omega))
 exact⟨D,fin _ D p4 p5,⟨_,_,_,_,s1,.inr ⟨_,_,rfl,z1.gd,s2⟩,.inr ⟨_,_,rfl,z2.gd,la⟩,.inr ⟨_,_,rfl,gd3,s4⟩,.inr ⟨_,_,rfl,z4.gd,s5⟩⟩,h5⟩
theorem Zvo{f:Nat→Int}{a:Int}: (tab r fun i=>T.int (f i))++[T.int a]=tab (r+1) fun i=>T.int (if i<r then f i else a):=by
 rw[←ZdU (n:=r) (f:=fun i=>T.int (if i<r then f i else a))]
 congr 1
 ·exact Za5 fun i hi=>by rw[if_pos hi]
 ·rw[if_neg (by omega)]
section
variable {n X:Nat} {G:Nat→Nat→Option Int} {R:Nat→Int×Int} {T0 D Cl C0 S0 Sm:T} {b:Bool} {at_:Int}
theorem ZoW(h:ZaG [T0]=some (Zf n G R))(hl:Zdh [Zf n G R,Cl,.bool b]=some D): Zbp [T0,.tup [.str (Str.ofString "when"),Cl,.bool b],S0]=some D:=by
 have hne:∀{Q:T→Prop},Q (.bool false)→Pk (qIs (Zf n G R) .none) Q:=fun h=>⟨_,rfl,h⟩
 generalize Zf n G R=T1 at *
 apply Pk.eq
 unfold Zbp ZcV
 walk_at "z"
 refine Zg h ?_
 walk_at "z"
 refine hne ?_
 walk_at "z"
 refine Zf4 (by decide +kernel) (r:=false) (by decide +kernel) ?_
 walk_at "z"
 refine Zf9 (by decide +kernel) ?_
 walk_at "z"
 exact Zg hl rfl
theorem ZoX{xv:T}(hS:Z2 S0 (.int at_)=some Sm)(h:ZaG [T0]=some (Zf n G R))(hl:Zda [Zf n G R,xv,C0,Sm]=some D): Zbp [T0,.tup [.str (Str.ofString "call"),xv,.int at_,C0],S0]=some D:=by
 have hne:∀{Q:T→Prop},Q (.bool false)→Pk (qIs (Zf n G R) .none) Q:=fun h=>⟨_,rfl,h⟩
 have hS':∀{Q:T→Prop},Q Sm→Pk (Z2 S0 (.int at_)) Q:=fun h=>⟨_,hS,h⟩
 clear hS
 generalize Zf n G R=T1 at *
 apply Pk.eq
 unfold Zbp ZcV
 walk_at "z"
 refine Zg h ?_
 walk_at "z"
 refine hne ?_
 walk_at "z"
 refine Zf4 (by decide +kernel) (r:=false) (by decide +kernel) ?_
 walk_at "z"
 refine ZbX (by decide +kernel) ?_
 walk_at "z"
 refine Zf9 (by decide +kernel) ?_
 walk_at "z"
 refine hS' ?_
 walk_at "z"
 exact Zg hl rfl
end
end L
open PySem PySem.W PyProof.Rows PM TM My
namespace L
open PySem PySem.W PyProof.Rows PM TM My
structure To57(n:Nat)(G:Nat→Nat→Option Int)(R:Nat→Int×Int): Prop where
 d:∀i,i<n+1→G i i=some 0
 ok:∀t,t<n→RestOk (R t)
 sG:SmG 139 n G
 sR:SmR 139 n R
structure Ze57(n:Nat)(M:Int)(G:Nat→Nat→Option Int)(R:Nat→Int×Int): Prop where
 hM:0<M
 bM:Bd 420 M
 hd:∀i,i<n+1→G i i=some 0
 hG:GB 440 n G
 hR:∀t,t<n→RB M 440 (R t)
 nn:Zei (n+1) G
section
variable {n X:Nat} {M M':Int} {G G' G1:Nat→Nat→Option Int} {R R' R1:Nat→Int×Int} {c:Nat→Int} {d:Int} {s:Sp} {A S S':T}
theorem To57.gd(t:To57 n G R): Gd n G R:=⟨t.d,t.ok⟩
theorem Ze57.s5(hn:n≤3)(z:Ze57 n M G R): S5 n M G R:=⟨by omega,z.hM,z.bM.mono (by decide),z.hd,fun i j hi hj y e=>(z.hG i j hi hj y e).mono (by decide),fun t ht=>(z.hR t ht).mono (by decide)⟩
theorem Zw7(g:Gd n G R)(h:ShD n G R (Zf n G1 R1)): Zei (n+1) G1:=by
 rcases h with⟨G2,R2,M,k,e,s⟩ | ⟨e,_⟩
 ·obtain⟨e1,_⟩:=ZmN e
  obtain⟨R3,nr,h3,_,nr2,rfl,_⟩:=s.go
  have z1:=ZdZ g.1 (m:=n+1) fun m hm q=>nr ⟨m,hm,q⟩
  have f3:∀i,i<n+1→RestOk (Z1 R3 i):=ZcY fun t ht=>(h3 t ht).1.1
  have nn:=Zin (Zia f3 z1) nr2
  exact fun i j hi hj a b q1 q2=>nn i j hi hj a b (by rw[←e1 i j hi hj];exact q1) (by rw[←e1 j i hj hi];exact q2)
 ·exact(Zio e).elim
theorem ZjM(hn:n≤3)(t:To57 n G R): ∃D,ZaG [Zf n G R]=some D∧ShD n G R D∧(D=.none∨∃M G1 R1,D=Zf n G1 R1∧Ze57 n M G1 R1):=by
 have hp:=Zfz t.ok n (Zz10 n)
 have hb:Bd 420 (ZbW R n):=(ZfI (k:=139) (by decide) (fun u hu=>(t.sR u hu).1) n (Zz10 n)).mono (by omega)
 have bG:GB 420 n G:=fun i j hi hj y e=>(show Bd 139 y from t.sG i j hi hj y e).mono (by decide)
 have hR:∀u,u<n→RB (ZbW R n) 420 (R u):=fun u hu=>⟨t.ok u hu,ZfA n u hu,(show Bd 139 _ from(t.sR u hu).2).mono (by decide)⟩
 obtain⟨D,e1,_,h⟩:=ZeK (k:=420) (by omega) (by omega) hp hb t.d bG hR
 have sh:=ZeW (by omega) (show 420+2*n+4≤7000 by omega) hp hb t.d bG hR e1
 refine⟨D,e1,sh,?_⟩
 rcases h.szd hp (hb.mono (by omega))with rfl | ⟨G1,R1,rfl,z⟩
 ·exact .inl rfl
 ·exact .inr ⟨_,G1,R1,rfl,hp,hb,z.hd,fun i j hi hj y e=>(z.bG i j hi hj y e).mono (by omega),fun u hu=>(z.hR u hu).mono (by omega),Zw7 t.gd sh⟩
def OkA(n:Nat)(A S S':T): Prop:=∀(T0 T0':T) (M M':Int) (G G':Nat→Nat→Option Int) (R R':Nat→Int×Int),Ze57 n M G R→Ze57 n M' G' R'→Inside n G R G' R'→ZaG [T0]=some (Zf n G R)→ZaG [T0']=some (Zf n G' R')→Both n (Zbp [T0,A,S]) (Zbp [T0',A,S'])
theorem ZuK: Inside n G R G R:=⟨fun i _ j _=>Za6,fun t _=>ZdV⟩
theorem ZrW(hn:n≤3)(t:To57 n G R)(t':To57 n G' R')(h:Inside n G R G' R')(k:OkA n A S S'): Both n (Zbp [Zf n G R,A,S]) (Zbp [Zf n G' R',A,S']):=by
 obtain⟨D,e,sh,z⟩:=ZjM hn t
 obtain⟨D',e',sh',z'⟩:=ZjM hn t'
 have hi:=sh.mono t.gd t'.gd h sh'
 rcases z' with rfl | ⟨M',G1',R1',rfl,z'⟩
 ·rcases z with rfl | ⟨M,G1,R1,rfl,z⟩
  ·exact⟨.none,.none,Zly e,Zly e',.inl rfl,.inl rfl,.inl rfl⟩
  ·exact hi.no.elim
 ·rcases z with rfl | ⟨M,G1,R1,rfl,z⟩
  ·obtain⟨_,D2,_,e2,_,_,d2⟩:=k _ _ _ _ _ _ _ _ z' z' ZuK e' e'
   exact⟨.none,D2,Zly e,e2,.inl rfl,.inl rfl,d2⟩
  ·exact k _ _ _ _ _ _ _ _ z z' hi.inside e e'
theorem Both.map{e e' o o':Option T}(b:Both n e e')(f:∀D,e=some D→o=some D)(f':∀D,e'=some D→o'=some D): Both n o o':=by
 obtain⟨D,D',h,h',r⟩:=b
 exact⟨D,D',f D h,f' D' h',r⟩
theorem Zys{Cl:T}{b:Bool}(hn:n≤3)(bc:∀i,i<n+1→Bd 300 (c i))(hC:ClT n c Cl): OkA n (.tup [.str (Str.ofString "when"),Cl,.bool b]) S S':=fun T0 T0' M M' G G' R R' z z' h e e'=>
 (Zyn (z.s5 hn) (z'.s5 hn) h bc hC b).map (fun D q=>ZoW e q) (fun D q=>ZoW e' q)
theorem ZzF(hn:n≤3)(hX:X<n)(bc:∀i,i<n+1→Bd 140 (c i)): OkA n (.tup [.str (Str.ofString "set"),.int ((X:Int)+1),Zx n c]) S S':=fun T0 T0' M M' G G' R R' z z' h e e'=>
 (Zw4 (z.s5 hn) (z'.s5 hn) h hX bc).map (fun D q=>Zps e q) (fun D q=>Zps e' q)
theorem Zyt(hn:n≤3)(hX:X<n)(bs:SBd 580 s): OkA n (.tup [.str (Str.ofString "any"),.int ((X:Int)+1),oT s.1,oT s.2]) S S':=fun T0 T0' M M' G G' R R' z z' h e e'=>
 (Zw5 (z.s5 hn) (z'.s5 hn) h hX bs).map (fun D q=>Zpt e q) (fun D q=>Zpt e' q)
theorem Zyu(hn:n≤3)(hX:X<n)(bc:∀i,i<n+1→Bd 140 (c i))(hd0:0<d)(bd:Bd 140 d): OkA n (.tup [.str (Str.ofString "part"),.int ((X:Int)+1),Zx n c,.int d]) S S':=fun T0 T0' M M' G G' R R' z z' h e e'=>
 (Zv6 (z.s5 hn) (z'.s5 hn) h hX bc hd0 bd).map (fun D q=>ZoU e q) (fun D q=>ZoU e' q)
theorem Zyv(hn:n≤3)(hX:X<n)(bc:∀i,i<n+1→Bd 140 (c i))(hd0:0<d)(bd:Bd 140 d): OkA n (.tup [.str (Str.ofString "rest"),.int ((X:Int)+1),Zx n c,.int d]) S S':=fun T0 T0' M M' G G' R R' z z' h e e'=>
 (Zv7 (z.s5 hn) (z'.s5 hn) z.nn h hX bc hd0 bd).map (fun D q=>ZoV e q) (fun D q=>ZoV e' q)
theorem Zyw{r:Nat}{C:Nat→Nat→Int}{Gs Gs':Nat→Nat→Option Int}{Rs Rs':Nat→Int×Int}(hn:n≤3)(hX:X<n)(hr:r≤4)(hC:CB 140 n r C)(g:Gd (r+1) Gs Rs)(g':Gd (r+1) Gs' Rs')(sG:SmG 300 (r+1) Gs)(sR:SmR 300 (r+1) Rs)(sG':SmG 300 (r+1) Gs')(sR':SmR 300 (r+1) Rs')(hs:Inside (r+1) Gs Rs Gs' Rs'): OkA n (.tup [.str (Str.ofString "call"),.int ((X:Int)+1),.int 0,Zaw n r C]) (.lst [Zf (r+1) Gs Rs]) (.lst [Zf (r+1) Gs' Rs']):=fun T0 T0' M M' G G' R R' z z' h e e'=>by
 obtain⟨D,q,a,u⟩:=Zp4 hX hn hr z.hM z.bM z.hd z.hG z.hR hC g.1 g.2 sG sR
 obtain⟨D',q',a',u'⟩:=Zp4 hX hn hr z'.hM z'.bM z'.hd z'.hG z'.hR hC g'.1 g'.2 sG' sR'
 exact⟨D,D',ZoX (at_:=0) rfl e q,ZoX (at_:=0) rfl e' q',ZAw g.2 g'.2 hs G R G' R' D D' ⟨z.hd,fun t ht=>(z.hR t ht).1⟩ ⟨z'.hd,fun t ht=>(z'.hR t ht).1⟩ h a a',u,u'⟩
end
end L
namespace L
open PySem PM TM
variable {ns:List Int}
theorem Zyx{n:Nat}{x:Nat→Int}(hL:Lay ns)(hn:n≤4)(bx:∀i,i<n→Bd 140 (x i)): Pk (ZlM [scr ns,.int 55,ZcA n x]) fun t=>∃c,(∀i,i<n+1→Bd 300 (c i))∧ClT n c t:=by
 unfold ZlM Zhj ZcA
 walk_at "z"
 refine(ZsG (n:=n) (kk:=55) (by decide) (by decide) hL (by omega)).mono ?_
 rintro _ ⟨c0,rfl,hc⟩
 have bc:=hc.bd (by decide)
 have hv:=Zq2 (n:=n) (b:=140) (c:=c0) (x:=x) (by omega) (by decide) bc bx
 have bv:=(Znw bc bx n (Zz10 n)).mono (show 140+140+n≤285 by omega)
 obtain⟨z0,z1⟩:=Zbk ns (55+4) (show(0:Int)<90 by decide)
 have hpk:=Zbl (ns:=ns) (k:=55+4) (many:=90) (by decide) (by decide) (by decide)
 generalize ZaN ns (55+4) 90=wy at *
 walk_at "z"
 refine Zg hpk ?_
 refine ZdW (fun σ'=>σ' 4=some (.int wy)∧∃c,σ' 3=some (Zx n c)∧∀i,i<n+1→Bd 300 (c i)) ?_ ?_
 ·walk_at "z"
  refine⟨fun q=>?_,fun q=>?_⟩
  ·have hs:Zx n c0=.lst (tab (n+1) fun k=>.int (c0 k)):=rfl
   rw[hs]at hv ⊢
   walk_at "z"
   refine Zg hv ?_
   walk_at "z"
   have w5:0≤wy.fmod 5∧wy.fmod 5<5:=⟨Int.fmod_nonneg_of_pos _ (by decide),Int.fmod_lt_of_pos _ (by decide)⟩
   generalize wy.fmod 5=pp at *
   refine Zmj (n:=n+1) (f:=fun k=>.int (c0 k)) (by walk_at "r") (by omega) (by omega) ?_
   rw[show Int.toNat 0=0 from rfl]
   refine⟨by walk_at "r",fun k=>if k=0 then c0 0-Zcd c0 x n+pp-3 else c0 k,?_,fun i hi=>?_⟩
   ·rw[show(Zx n fun k=>if k=0 then c0 0-Zcd c0 x n+pp-3 else c0 k)=.lst (tab (n+1) fun k=>if k=0 then T.int (c0 0-Zcd c0 x n+pp-3)else .int (c0 k))from congrArg T.lst (Za5 fun k _=>by show T.int (if k=0 then _ else _)=_;split <;> rfl)]
    walk_at "r"
   ·show Bd 300 (if i=0 then _ else _)
    split
    ·have h1:Bd 286 (pp-3):=(show Bd 3 (pp-3)by unfold Bd;omega).mono (by decide)
     have h2:=((bc 0 (by omega)).mono (show 140≤285 by decide)).sub bv
     rw[show c0 0-Zcd c0 x n+pp-3=c0 0-Zcd c0 x n+(pp-3)by omega]
     exact(h2.add h1).mono (by decide)
    ·exact(bc i hi).mono (by decide)
  ·walk_at "z"
   exact⟨by walk_at "r",c0,by walk_at "r",fun i hi=>(bc i hi).mono (by decide)⟩
 rintro σ1 ⟨e4,c,e3,bc'⟩
 walk_at "z"
 refine ZcK (by decide) (ZhZ (by decide) (by decide)) ?_
 walk_at "z"
 refine⟨fun q=>?_,fun q=>?_⟩
 ·walk_at "z"
  exact⟨c,bc',.inl rfl⟩
 walk_at "z"
 refine ZcK (by decide) (ZhZ (by decide) (by decide)) ?_
 walk_at "z"
 refine⟨fun q=>?_,fun q=>?_⟩
 ·walk_at "z"
  exact⟨c,bc',.inr (.inl rfl)⟩
 walk_at "z"
 refine ZcK (by decide) (ZhZ (by decide) (by decide)) ?_
 walk_at "z"
 have w2:0≤wy.fdiv 15∧wy.fdiv 15≤6:=by rw[Int.fdiv_eq_ediv_of_nonneg _ (by decide)];omega
 exact⟨c,bc',.inr (.inr ⟨1+wy.fdiv 15,by omega,(show Bd 4 (1+wy.fdiv 15)by unfold Bd;omega).mono (by decide),rfl⟩)⟩
theorem ZzG{v:Int}(hL:Lay ns)(bv:Bd 140 v): Pk (Zma [scr ns,.int 11,.int v]) fun t=>∃s:Sp,t=.tup [oT s.1,oT s.2]∧SBd 580 s:=by
 have hs:∀k c,ZbV ns k=some c→Bd 140 c:=fun k c h=>by
  have h40:=ZeN
  have:=ZjC ns _ h
  have e:(2:Nat) ^ 140=1393796574908163946345982392040522594123776:=by decide
  unfold Bd;omega
 have s1:=ZjD (k:=11) hL (by decide) (by decide)
 have s2:=ZjD (k:=11+1) hL (by decide) (by decide)
 have b1:=hs 11
 have b2:=hs (11+1)
 generalize ZbV ns 11=o1 at *
 generalize ZbV ns (11+1)=o2 at *
 unfold Zma ZhI
 walk_at "z"
 refine Zg s1 ?_
 walk_at "z"
 refine Zg s2 ?_
 have oi:∀a:Int,oT (some a)=.int a:=fun _=>rfl
 have on:oT none=.none:=rfl
 have n0:∀x,(none:Option Int)=some x→Bd 580 x:=fun x e=>by cases e
 cases o1 with
 | none=>
  cases o2 with
  | none=>
   simp only[oi,on]
   walk_at "z"
   exact⟨(none,none),rfl,n0,n0⟩
  | some b=>
   simp only[oi,on]
   walk_at "z"
   exact⟨(none,some (v+b)),rfl,n0,fun x e=>by cases e;exact(bv.add (b2 b rfl)).mono (by decide)⟩
 | some a=>
  cases o2 with
  | none=>
   simp only[oi,on]
   walk_at "z"
   exact⟨(some (v-a),none),rfl,fun x e=>by cases e;exact(bv.sub (b1 a rfl)).mono (by decide),n0⟩
  | some b=>
   simp only[oi,on]
   walk_at "z"
   exact⟨(some (v-a),some (v+b)),rfl,fun x e=>by cases e;exact(bv.sub (b1 a rfl)).mono (by decide),fun x e=>by cases e;exact(bv.add (b2 b rfl)).mono (by decide)⟩
theorem Zyy{σ:TL}{Q:T→Prop}{w:Nat}{c:T}(e0:σ 0=some (scr ns))(e3:σ 3=some c)(ew:Zb0 [scr ns,.int 14,.int 3]=some (.int (w:Nat)))(hw:w<3)(h0:Q (.lst []))(h1:Q (.lst [c])): Pk (Zci (Zcu (Zq (Zh 3) ZD)) ZcI (ZcJ (ZV Zb0 (Zq (Zh 0) (Zq (ZH 14) (Zq (ZH 3) ZD))))) σ) Q:=by
 have eL:Zcu (Zq (Zh 3) ZD) σ=some (.lst [c]):=Pk.eq (by
  walk_at "z"
  rfl)
 have eP:ZV Zb0 (Zq (Zh 0) (Zq (ZH 14) (Zq (ZH 3) ZD))) σ=some (.int (w:Nat)):=Pk.eq (by
  walk_at "z"
  exact Zg ew rfl)
 have e:Zci (Zcu (Zq (Zh 3) ZD)) ZcI (ZcJ (ZV Zb0 (Zq (Zh 0) (Zq (ZH 14) (Zq (ZH 3) ZD))))) σ=some (.lst (ZaL [c] none (some (w:Int)))):=by
  simp only[Zci,eL,ZcI,ZcJ,eP,Option.bind_some]
 rw[e]
 match w,hw with
 | 0,_=>exact⟨_,rfl,h0⟩
 | 1,_=>exact⟨_,rfl,h1⟩
 | 2,_=>
  have e2:ZaL [c] none (some ((2:Nat):Int))=([c].drop 0).take (1-0):=Zif _ _ _ (by unfold sliceBounds;simp) (by unfold sliceBounds;simp;omega) (Zz10 _)
  rw[e2]
  exact⟨_,rfl,h1⟩
def ZsQ(n:Nat)(A:T): Prop:=(∃s,Z2 A (.int 0)=some (.str s)∧(PyData.strOk s && PyData.strOk (Str.ofString "call") && decide (s≠Str.ofString "call"))=true∧∀S S',OkA n A S S')∨∃X r C,X<n∧r≤1∧CB 140 n r C∧A=.tup [.str (Str.ofString "call"),.int ((X:Int)+1),.int 0,Zaw n r C]
theorem ZAx{n:Nat}{x:Nat→Int}(hL:Lay ns)(h0:0<n)(hn:n≤3): Pk (Zlo [scr ns,ZcA n x]) (ZsQ n):=by
 obtain⟨x0,x1⟩:=Zbk ns 4 (show(0:Int)<(n:Int)by omega)
 obtain⟨X,eX,hX⟩:=Zf2 x0 (show ZaN ns 4 n<(n:Nat)by omega)
 obtain⟨d0,d1⟩:=Zbk ns 9 (show(0:Int)<6 by decide)
 have hd:=Zbl (ns:=ns) (k:=9) (many:=6) (by decide) (by decide) (by decide)
 generalize ZaN ns 9 6=d at *
 obtain⟨k0,k1⟩:=Zbk ns 10 (show(0:Int)<5 by decide)
 have hk:=Zbl (ns:=ns) (k:=10) (many:=5) (by decide) (by decide) (by decide)
 generalize ZaN ns 10 5=kd at *
 have bd:Bd 140 (1+d):=(show Bd 4 (1+d)by unfold Bd;omega).mono (by decide)
 have nb:Bd 140 (Zba ns 13):=Zal (Zdu ns 13) (by decide)
 unfold Zlo ZgT ZcA
 walk_at "z"
 refine Zg (Zbl (by decide) (by decide) (by omega)) ?_
 rw[eX]
 refine Zni ?_
 rw[Int.add_comm 1 (X:Int)]
 walk_at "z"
 refine(ZsG (n:=n) (kk:=5) (by decide) (by decide) hL (by omega)).mono ?_
 rintro _ ⟨c,rfl,hc⟩
 have bc:=hc.bd (by decide)
 walk_at "z"
 refine Zg hd ?_
 walk_at "z"
 refine Zg hk ?_
 walk_at "z"
 refine⟨fun q=>?_,fun q=>?_⟩
 ·walk_at "z"
  exact .inl ⟨_,rfl,by decide +kernel,fun S S'=>ZzF hn hX bc⟩
 walk_at "z"
 refine⟨fun q=>?_,fun q=>?_⟩
 ·walk_at "z"
  exact .inl ⟨_,rfl,by decide +kernel,fun S S'=>Zyu hn hX bc (by omega) bd⟩
 walk_at "z"
 refine⟨fun q=>?_,fun q=>?_⟩
 ·walk_at "z"
  exact .inl ⟨_,rfl,by decide +kernel,fun S S'=>Zyv hn hX bc (by omega) bd⟩
 walk_at "z"
 refine⟨fun q=>?_,fun q=>?_⟩
 ·walk_at "z"
  refine Zg (ZdR hL (by decide) (by decide)) ?_
  walk_at "z"
  refine(ZzG hL nb).mono ?_
  rintro _ ⟨s,rfl,bs⟩
  walk_at "z"
  exact .inl ⟨_,rfl,by decide +kernel,fun S S'=>Zyt hn hX bs⟩
 walk_at "z"
 obtain⟨p0,p1⟩:=Zbk ns 14 (show(0:Int)<3 by decide)
 obtain⟨w,ew,hw⟩:=Zf2 p0 (show ZaN ns 14 3<(3:Nat)by omega)
 have hp:=Zbl (ns:=ns) (k:=14) (many:=3) (by decide) (by decide) (by decide)
 rw[ew]at hp
 have fin:∀r,r≤1→ZsQ n (.tup [.str (Str.ofString "call"),.int ((X:Int)+1),.int 0,Zaw n r fun _=>c]):=fun r hr=>.inr ⟨X,r,fun _=>c,hX,hr,fun i _ k hk=>bc k hk,rfl⟩
 refine Zyy (c:=Zx n c) (by walk_at "r") (by walk_at "r") hp hw ?_ ?_
 ·walk_at "z"
  exact fin 0 (by decide)
 ·walk_at "z"
  exact fin 1 (by decide)
end L
namespace L
open PySem PM TM
variable {n:Nat}
theorem Zsu{D:T}(hn:n≤100)(h:DueOk n D): Zmb [D,.int n]=some (.bool true):=by
 apply Pk.eq
 unfold Zmb ZhJ
 rcases h with rfl | ⟨G,R,rfl,hd,ok⟩
 ·walk_at "z"
  rfl
 ·have hne:∀{Q:T→Prop},Q (.bool false)→Pk (qIs (Zf n G R) .none) Q:=fun h=>⟨_,rfl,h⟩
  have hs:=Zvb hn hd ok
  generalize Zf n G R=D at *
  walk_at "z"
  refine hne ?_
  walk_at "z"
  exact Zg hs rfl
theorem ZsU{D D':T}(hn:n≤100)(h:InD n D D')(h':DueOk n D'): Zdo [D,D']=some (.bool true):=by
 rcases h' with rfl | ⟨G',R',rfl,hd,ok⟩
 ·rcases h with rfl | ⟨G,R,G1,R1,rfl,e,_⟩
  ·exact ZtQ
  ·exact(Zio e.symm).elim
 ·rcases h with rfl | ⟨G,R,G1,R1,rfl,e,h⟩
  ·exact ZtR
  ·rw[ZtP (by omega) ok,Zao]
   exact InD.inside (.inr ⟨G,R,G1,R1,rfl,e,h⟩)
theorem ZrX{G G':Nat→Nat→Option Int}{R R':Nat→Int×Int}{A S S':T}(hn:n≤3)(b:Both n (Zbp [Zf n G R,A,S]) (Zbp [Zf n G' R',A,S'])): Zgx [Zf n G R,Zf n G' R',A,S,S']=some (.bool true):=by
 obtain⟨D,D',e,e',hi,d,d'⟩:=b
 have g:=Zsu (by omega) d
 have g':=Zsu (by omega) d'
 have i:=ZsU (by omega) hi d'
 have k:Zhq [Zf n G R]=some (Zf n G R):=ZrA (by omega)
 have k':Zhq [Zf n G' R']=some (Zf n G' R'):=ZrA (by omega)
 have hg:∀{Q:T→Prop},Q (.lst (tab n fun i=>Zy (R i)))→Pk (Z2 (Zf n G R) (.int 1)) Q:=fun h=>⟨_,rfl,h⟩
 have p:Pln 3 (Zf n G R):=ZqN
 have p':Pln 3 (Zf n G' R'):=ZqN
 clear hi d d'
 apply Pk.eq
 unfold Zgx Zgw
 generalize Zf n G R=T0 at *
 generalize Zf n G' R'=T1 at *
 walk_at "z"
 refine hg ?_
 walk_at "z"
 refine Zg k ?_
 walk_at "z"
 refine Zg k' ?_
 walk_at "z"
 refine Zg e ?_
 walk_at "z"
 refine Zg e' ?_
 walk_at "z"
 refine Zr9 p p ?_
 rw[Zao rfl]
 walk_at "z"
 refine Zr9 p' p' ?_
 rw[Zao rfl]
 walk_at "z"
 refine Zg g ?_
 walk_at "z"
 refine Zg g' ?_
 walk_at "z"
 exact Zg i rfl
theorem Zw8{ns:List Int}{k:Int}{x:Nat→Int}(hx:∀i,i<n→Bd 290 (x i)): SmG 299 n (ZbA ns k n x):=by
 intro i j hi hj b h
 have h40:=ZeN
 have h1:Bd 290 (ZaR x i):=Zjo (k:=290) hx i hi
 have h2:Bd 290 (ZaR x j):=Zjo (k:=290) hx j hj
 unfold ZbA at h
 split at h
 ·cases h;exact Nat.two_pow_pos _
 ·obtain⟨c,h3,h4⟩:=Zz1.mp h
  have:=ZjC ns _ h3
  subst h4
  have e:(2:Nat) ^ 140=1393796574908163946345982392040522594123776:=by decide
  have hc0:Bd 140 c:=by unfold Bd;omega
  have hc:Bd 291 c:=hc0.mono (by decide)
  exact((h1.sub h2).add hc).mono (by decide)
theorem ZAy{ns:List Int}{r:Nat}{G G':Nat→Nat→Option Int}{R R':Nat→Int×Int}{A:T}{v:Nat→Int}{σ:TL}{N:TL→Prop}(hL:Lay ns)(hn:n≤3)(hr:r≤1)(t:To57 n G R)(t':To57 n G' R')(h:Inside n G R G' R')(bv:∀i,i<r+1→Bd 290 (v i))(hA:∀(Gs Gs':Nat→Nat→Option Int) (Rs Rs':Nat→Int×Int),Gd (r+1) Gs Rs→Gd (r+1) Gs' Rs'→SmG 300 (r+1) Gs→SmR 300 (r+1) Rs→SmG 300 (r+1) Gs'→SmR 300 (r+1) Rs'→Inside (r+1) Gs Rs Gs' Rs'→OkA n A (.lst [Zf (r+1) Gs Rs]) (.lst [Zf (r+1) Gs' Rs']))(e0:σ 0=some (scr ns))(e3:σ 3=some (Zf n G R))(e4:σ 4=some (Zf n G' R'))(e6:σ 6=some A)(e7:σ 7=some (ZcA (r+1) v)): Psk ((Z8 (ZaO 8 (ZV Zjh (Zq (Zh 0) (Zq (ZH 41) (Zq (Zh 7) ZD))))) (Z8 (ZaO 9 (ZV Zi7 (Zq (Zh 0) (Zq (ZH 51) (Zq (Zh 8) ZD))))) (Zax (ZV Zgx (Zq (Zh 3) (Zq (Zh 4) (Zq (Zh 6) (Zq (Zcu (Zq (Zh 8) ZD)) (Zq (Zcu (Zq (Zh 9) ZD)) ZD)))))))) ) σ) (fun t=>t=.bool true) N:=by
 have gd:=Zqq ns 41 (r+1) v
 have sG:SmG 299 (r+1) (ZbA ns 41 (r+1) v):=Zw8 bv
 have sR:SmR 299 (r+1) (Zeb ns 41 (r+1) v):=fun t ht=>⟨Zal (Zqz (ns:=ns) (bv t ht)).1 (by decide),Zal (Zqz (ns:=ns) (bv t ht)).2 (by decide)⟩
 have ht:=Zrz (ns:=ns) (k:=41) (n:=r+1) (x:=v) hL (by decide) (by decide) (by omega)
 generalize ZbA ns 41 (r+1) v=Gs at *
 generalize Zeb ns 41 (r+1) v=Rs at *
 walk_at "z"
 refine Zg ht ?_
 walk_at "z"
 refine(ZqV (B:=299) hL (by decide) (by decide) (by omega) (by decide) (by decide) gd.2 sR sG).mono ?_
 rintro _ ⟨Gs',Rs',rfl,⟨w1,w2,w3⟩,w4⟩
 have ok:=hA Gs Gs' Rs Rs' ⟨gd.1,gd.2⟩ ⟨fun i hi=>by rw[w2 i hi];exact gd.1 i hi,fun t ht=>(w4 t ht).1⟩ (fun a b ha hb c e=>Zal (sG a b ha hb c e) (by decide)) (fun t ht=>⟨Zal (sR t ht).1 (by decide),Zal (sR t ht).2 (by decide)⟩) w3 (fun t ht=>⟨Zal (w4 t ht).2.2.1 (by decide),Zal (w4 t ht).2.2.2 (by decide)⟩) ⟨fun i hi j hj=>w1 i j hi hj,fun t ht=>(w4 t ht).2.1⟩
 have as:=ZrX hn (ZrW hn t t' h ok)
 generalize Zf n G R=T0 at *
 generalize Zf n G' R'=T1 at *
 generalize Zf (r+1) Gs Rs=U0 at *
 generalize Zf (r+1) Gs' Rs'=U1 at *
 walk_at "z"
 exact Zg as rfl
end L
namespace L
open PySem PM TM
theorem Zvp{n:Nat}{G G':Nat→Nat→Option Int}{R R':Nat→Int×Int}(hn:n≤3)(t:To57 n G R)(t':To57 n G' R')(h:Inside n G R G' R'): ∃D D',ZaG [Zf n G R]=some D∧ZaG [Zf n G' R']=some D'∧Zdo [D,D']=some (.bool true):=by
 obtain⟨D,e,sh,z⟩:=ZjM hn t
 obtain⟨D',e',sh',z'⟩:=ZjM hn t'
 refine⟨D,D',e,e',ZsU (by omega) (sh.mono t.gd t'.gd h sh') ?_⟩
 rcases z' with rfl | ⟨M',G1',R1',rfl,z'⟩
 ·exact .inl rfl
 ·exact .inr ⟨_,_,rfl,z'.hd,fun t ht=>(z'.hR t ht).1⟩
theorem ZuL{ns:List Int}(hL:Lay ns): ZmH [scr ns]=some (.bool true):=by
 apply Pk.eq
 unfold ZmH Zh7
 obtain⟨p0,p1⟩:=Zbk ns 0 (show(0:Int)<9 by decide)
 obtain⟨w,ew,hw⟩:=Zf2 p0 (show ZaN ns 0 9<(9:Nat)by omega)
 walk_at "z"
 refine Zg (Zbl (by decide) (by decide) (by decide)) ?_
 rw[ew]
 obtain⟨n,h0,hn,hidx⟩:∃n:Nat,0<n∧n≤3∧[T.int 1,.int 2,.int 1,.int 1,.int 2,.int 1,.int 2,.int 1,.int 3][w]?=some (.int n):=by
  match w,hw with
  | 0,_=>exact⟨1,by decide,by decide,rfl⟩
  | 1,_=>exact⟨2,by decide,by decide,rfl⟩
  | 2,_=>exact⟨1,by decide,by decide,rfl⟩
  | 3,_=>exact⟨1,by decide,by decide,rfl⟩
  | 4,_=>exact⟨2,by decide,by decide,rfl⟩
  | 5,_=>exact⟨1,by decide,by decide,rfl⟩
  | 6,_=>exact⟨2,by decide,by decide,rfl⟩
  | 7,_=>exact⟨1,by decide,by decide,rfl⟩
  | 8,_=>exact⟨3,by decide,by decide,rfl⟩
 refine ZjV (t:=.int n) (by omega) (by rw[Int.toNat_natCast];exact hidx) ?_
 walk_at "z"
 refine Zbr (n:=n) (a:=fun i=>.int i) (b:=fun i=>.int (Zba ns (1+i))) (by omega) ?_ (fun t ht=>?_) ?_
 ·walk_at "z"
  rfl
 ·walk_at "z"
  exact Zg (ZdR hL (by omega) (by omega)) rfl
 generalize hx:(fun i:Nat=>Zba ns (1+i))=x
 have sx:∀i,i<n→(x i).natAbs<2 ^ 134:=fun i _=>by rw[←hx];exact Zdu ns _
 rw[show(fun i:Nat=>T.int (Zba ns (1+i)))=fun i=>T.int (x i)by rw[←hx]]
 walk_at "z"
 refine Zg (Zrz (x:=x) hL (by decide) (by decide) (by omega)) ?_
 have gd:=Zqq ns 20 n x
 have smG:SmG 136 n (ZbA ns 20 n x):=ZwR sx
 have smR:SmR 136 n (Zeb ns 20 n x):=fun t ht=>⟨Zal (ZqU (ns:=ns) (k:=20) sx t ht).1 (by decide),Zal (ZqU (ns:=ns) (k:=20) sx t ht).2 (by decide)⟩
 generalize ZbA ns 20 n x=G at *
 generalize Zeb ns 20 n x=R at *
 have bx:∀i,i<n→Bd 140 (x i):=fun i hi=>Zal (sx i hi) (by decide)
 refine ZdW (fun σ'=>σ' 0=some (scr ns)∧σ' 2=some (ZcA n x)∧∃(G:Nat→Nat→Option Int) (R:Nat→Int×Int),σ' 3=some (Zf n G R)∧(∀i,i<n+1→G i i=some 0)∧(∀t,t<n→RestOk (R t))∧SmG 137 n G∧SmR 137 n R) ?_ ?_
 ·walk_at "z"
  refine Zg (Zbl (by decide) (by decide) (by decide)) ?_
  walk_at "z"
  refine⟨fun q=>?_,fun q=>?_⟩
  ·walk_at "z"
   refine(ZvW (B:=136) hL (by decide) (by decide) (by omega) (by decide) gd.2 smR smG).mono ?_
   rintro _ ⟨G2,R2,rfl,d2,r2,g2,s2⟩
   exact⟨by walk_at "r",by walk_at "r",G2,R2,ZbG,fun i hi=>by rw[d2 i hi];exact gd.1 i hi,r2,g2,s2⟩
  ·walk_at "z"
   exact⟨by walk_at "r",by walk_at "r",G,R,by walk_at "r",gd.1,gd.2,fun a b ha hb c e=>Zal (smG a b ha hb c e) (by decide),fun t ht=>⟨Zal (smR t ht).1 (by decide),Zal (smR t ht).2 (by decide)⟩⟩
 clear smG smR gd G R
 rintro σ2 ⟨e0,e2,G,R,e3,hd,ok,sG,sR⟩
 walk_at "z"
 refine(ZqV (B:=137) hL (by decide) (by decide) (by omega) (by decide) (by decide) ok sR sG).mono ?_
 rintro _ ⟨G',R',rfl,⟨w1,w2,w3⟩,w4⟩
 have t:To57 n G R:=⟨hd,ok,fun a b ha hb c e=>Zal (sG a b ha hb c e) (by decide),fun t ht=>⟨Zal (sR t ht).1 (by decide),Zal (sR t ht).2 (by decide)⟩⟩
 have t':To57 n G' R':=⟨fun i hi=>by rw[w2 i hi];exact hd i hi,fun t ht=>(w4 t ht).1,fun a b ha hb c e=>Zal (w3 a b ha hb c e) (by decide),fun t ht=>⟨Zal (w4 t ht).2.2.1 (by decide),Zal (w4 t ht).2.2.2 (by decide)⟩⟩
 have h:Inside n G R G' R':=⟨fun i hi j hj=>w1 i j hi hj,fun t ht=>(w4 t ht).2.1⟩
 obtain⟨D,D',q1,q2,q3⟩:=Zvp hn t t' h
 have hcl:=Zyx (x:=x) hL (by omega) bx
 have hac:=ZAx (x:=x) hL h0 hn
 have hw:∀(c:Nat→Int) (Cl:T) (b:Bool),(∀i,i<n+1→Bd 300 (c i))→ClT n c Cl→Zgx [Zf n G R,Zf n G' R',.tup [.str (Str.ofString "when"),Cl,.bool b],.lst [],.lst []]=some (.bool true):=fun c Cl b bc hC=>ZrX hn (ZrW hn t t' h (Zys hn bc hC))
 clear w1 w2 w3 w4 sG sR hd ok
 have hva:∀c,(∀i,i<n+1→Bd 140 (c i))→Zjb [Zx n c,ZcA n x]=some (.int (Zcd c x n)):=fun c bc=>Zq2 (b:=140) (by omega) (by decide) bc bx
 walk_at "z"
 refine Zg q1 ?_
 walk_at "z"
 refine Zg q2 ?_
 walk_at "z"
 refine Zg q3 ?_
 generalize hT0:Zf n G R=T0 at *
 generalize hT1:Zf n G' R'=T1 at *
 generalize hB:ZcA n x=B at *
 walk_at "z"
 refine hcl.mono ?_
 rintro Cl ⟨c,bc,hC⟩
 walk_at "z"
 refine Zg (Zbl (by decide) (by decide) (by decide)) ?_
 walk_at "z"
 refine Zg (hw c Cl _ bc hC) ?_
 walk_at "z"
 refine hac.mono ?_
 intro A hA
 walk_at "z"
 refine Zg (ZdR hL (by decide) (by decide)) ?_
 have nb:Bd 290 (Zba ns 6):=Zal (Zdu ns 6) (by decide)
 generalize Zba ns 6=y6 at *
 clear hac hcl hw q1 q2 q3
 walk_at "1"
 refine ZdW (fun σ'=>σ' 0=some (scr ns)∧σ' 3=some T0∧σ' 4=some T1∧σ' 6=some A∧∃(r:Nat) (v:Nat→Int),r≤1∧(∀i,i<r+1→Bd 290 (v i))∧σ' 7=some (ZcA (r+1) v)∧∀(Gs Gs':Nat→Nat→Option Int) (Rs Rs':Nat→Int×Int),Gd (r+1) Gs Rs→Gd (r+1) Gs' Rs'→SmG 300 (r+1) Gs→SmR 300 (r+1) Rs→SmG 300 (r+1) Gs'→SmR 300 (r+1) Rs'→Inside (r+1) Gs Rs Gs' Rs'→OkA n A (.lst [Zf (r+1) Gs Rs]) (.lst [Zf (r+1) Gs' Rs'])) ?_ ?_
 ·rcases hA with⟨s,i0,ss,okA⟩ | ⟨X,r,C,hX,hr,hC,rfl⟩
  ·have hi:∀{Q:T→Prop},Q (.str s)→Pk (Z2 A (.int 0)) Q:=fun h=>⟨_,i0,h⟩
   walk_at "z"
   refine hi ?_
   walk_at "z"
   refine ZbX ss ?_
   walk_at "z"
   exact⟨by walk_at "r",by walk_at "r",by walk_at "r",by walk_at "r",0,fun _=>y6,by decide,fun _ _=>nb,ZbG,fun _ _ _ _ _ _ _ _ _ _ _=>okA _ _⟩
  ·have bC:∀i,i<r→Bd 290 (Zcd (C i) x n):=fun i hi=>(Znw (hC i hi) bx n (Zz10 n)).mono (by omega)
   have hS:Zaw n r C=.lst (tab r fun i=>Zx n (C i)):=rfl
   have okA:=fun Gs Gs' Rs Rs' g g' a1 a2 a3 a4 hs=>Zyw (X:=X) (Gs:=Gs) (Gs':=Gs') (Rs:=Rs) (Rs':=Rs') hn hX (show r≤4 by omega) hC g g' a1 a2 a3 a4 hs
   rw[hS]at okA ⊢
   walk_at "z"
   refine Zf9 (by decide +kernel) ?_
   walk_at "z"
   refine Zbr (n:=r) (a:=fun i=>Zx n (C i)) (b:=fun i=>.int (Zcd (C i) x n)) (by omega) ?_ (fun i hi=>?_) ?_
   ·walk_at "z"
    rfl
   ·walk_at "z"
    exact Zg (hva (C i) (hC i hi)) rfl
   walk_at "z"
   refine Zd2 (by rw[Zaa];simp;omega) ?_
   rw[Zvo]
   exact⟨by walk_at "r",by walk_at "r",by walk_at "r",by walk_at "r",r,fun i=>if i<r then Zcd (C i) x n else y6,hr,fun i hi=>by
    show Bd 290 (if i<r then _ else _)
    split
    ·exact bC i (by assumption)
    ·exact nb,ZbG,okA⟩
 rintro σ4 ⟨e0,e3,e4,e6,r,v,hr,bv,e7,okA⟩
 subst hT0 hT1
 exact ZAy (r:=r) (v:=v) (A:=A) hL hn hr t t' h bv okA e0 e3 e4 e6 e7
theorem Zum{ns:List Int}(hlen:ns.length≤63)(hL:PyData.layable0 (.list (ns.map .int))=true): ∃H',ZqR [.ref 0] [ns.map V.int]=some (.bool true,H'):=ZvG ZwO ns (ZuL hL)
end L
end
section
open PySem PySem.W PyProof.Rows
namespace PySem.W.Fast
theorem tw5105673956185107153:True:=⟨⟩
theorem tw16968176118458789586:True:=⟨⟩
theorem tw1454219785156648487:True:=⟨⟩
theorem tw9497945907656264259:True:=⟨⟩
theorem tw316514102143019080:True:=⟨⟩
theorem tw1176975735165151067:True:=⟨⟩
theorem tw9515242367644423802:True:=⟨⟩
theorem tw13698048360955963301:True:=⟨⟩
theorem tw906997338810173357:True:=⟨⟩
theorem tw3528903376305711396:True:=⟨⟩
theorem tw14442895186254868694:True:=⟨⟩
theorem tw550859730669387710:True:=⟨⟩
theorem tw4621932581444047675:True:=⟨⟩
theorem tw13402640891724300857:True:=⟨⟩
theorem tw14869557710840242666:True:=⟨⟩
theorem tw17643754061406199020:True:=⟨⟩
theorem tw11187973929812520656:True:=⟨⟩
theorem tw4584130408075211490:True:=⟨⟩
theorem tw3018384756792678836:True:=⟨⟩
theorem tw3285859953031059425:True:=⟨⟩
theorem tw10667965978278278033:True:=⟨⟩
theorem tw15452572443179084588:True:=⟨⟩
theorem tw9156678896304099913:True:=⟨⟩
theorem tw15886500619415505586:True:=⟨⟩
theorem tw3520363519792060846:True:=⟨⟩
theorem tw1099786997935966427:True:=⟨⟩
theorem tw4419873286371483742:True:=⟨⟩
theorem tw4491058772748593153:True:=⟨⟩
theorem tw4135897612330176133:True:=⟨⟩
theorem tw13436231055378572716:True:=⟨⟩
theorem tw11930311979851757478:True:=⟨⟩
theorem tw5055051069096525434:True:=⟨⟩
theorem tw15221209806709932071:True:=⟨⟩
theorem tw12798869161161681673:True:=⟨⟩
theorem tw10209164474934016114:True:=⟨⟩
theorem tw9774394379856643515:True:=⟨⟩
theorem tw2257529940240947247:True:=⟨⟩
theorem tw5891177449180782854:True:=⟨⟩
theorem tw12533650973541477374:True:=⟨⟩
theorem tw9840342860782594374:True:=⟨⟩
theorem tw3101917741504857134:True:=⟨⟩
theorem tw14048895322960730393:True:=⟨⟩
theorem tw16002967266952078866:True:=⟨⟩
theorem tw17704188385166749297:True:=⟨⟩
theorem tw7523194637212750777:True:=⟨⟩
theorem tw4361700775904427359:True:=⟨⟩
theorem tw7498633149979677338:True:=⟨⟩
theorem tw15335523830956845186:True:=⟨⟩
theorem tw10299302589577801163:True:=⟨⟩
theorem tw9991952250452883065:True:=⟨⟩
theorem tw11902711398340702967:True:=⟨⟩
theorem tw18188441679654595828:True:=⟨⟩
theorem tw15515405784836723652:True:=⟨⟩
theorem tw1913777049202361930:True:=⟨⟩
theorem tw9563574807059059695:True:=⟨⟩
theorem tw15348117752812372481:True:=⟨⟩
theorem tw9292651643026975300:True:=⟨⟩
theorem tw17624731456758155189:True:=⟨⟩
theorem tw11519117686961666697:True:=⟨⟩
theorem tw16932301668260661676:True:=⟨⟩
theorem tw4157206338815638501:True:=⟨⟩
theorem tw11630328935867623959:True:=⟨⟩
theorem tw5587826856885255690:True:=⟨⟩
theorem tw1349388230604553621:True:=⟨⟩
theorem tw6822529714786804032:True:=⟨⟩
theorem tw16915470645016011554:True:=⟨⟩
theorem tw16472409268878238316:True:=⟨⟩
theorem tw10700183255674453818:True:=⟨⟩
theorem tw8164005668110941744:True:=⟨⟩
theorem tw4961949625528378942:True:=⟨⟩
theorem tw4770949888891906500:True:=⟨⟩
theorem tw8981913638643619018:True:=⟨⟩
theorem tw3764688243253525356:True:=⟨⟩
theorem tw3139815972381352843:True:=⟨⟩
theorem tw13426244417702134072:True:=⟨⟩
theorem tw1462193419119380569:True:=⟨⟩
theorem tw18145098415874279589:True:=⟨⟩
theorem tw5681066748535004433:True:=⟨⟩
theorem tw529536973988259948:True:=⟨⟩
theorem tw5958337225494893492:True:=⟨⟩
theorem tw17541053060092493725:True:=⟨⟩
theorem tw1191315250883676292:True:=⟨⟩
theorem tw1906743188756502811:True:=⟨⟩
theorem tw7875376050956498882:True:=⟨⟩
theorem tw8426798971799828003:True:=⟨⟩
theorem tw10335527622381539264:True:=⟨⟩
theorem tw2215426274937266770:True:=⟨⟩
theorem tw14501001857826371202:True:=⟨⟩
theorem tw17925384258215065573:True:=⟨⟩
theorem tw4026151001005817321:True:=⟨⟩
theorem tw5030944203280556702:True:=⟨⟩
theorem tw13517250619966689955:True:=⟨⟩
theorem tw16539199913488330184:True:=⟨⟩
theorem tw9435018134839604537:True:=⟨⟩
theorem tw12549480798472879603:True:=⟨⟩
theorem tw16131593051203169754:True:=⟨⟩
theorem tw8933567498414919238:True:=⟨⟩
theorem tw7492102371377302679:True:=⟨⟩
theorem tw5623994078177797194:True:=⟨⟩
theorem tw14191745827877185554:True:=⟨⟩
theorem tw5312734613080425828:True:=⟨⟩
theorem tw10155365746132046468:True:=⟨⟩
theorem tw16364373167927100580:True:=⟨⟩
theorem tw6548945272714408661:True:=⟨⟩
theorem tw14613296582639449008:True:=⟨⟩
theorem tw12018387782679925087:True:=⟨⟩
theorem tw4097071322456330496:True:=⟨⟩
theorem tw16745343075639119971:True:=⟨⟩
theorem tw16749348522385944071:True:=⟨⟩
theorem tw10561106145012299093:True:=⟨⟩
theorem tw12027893231959348502:True:=⟨⟩
theorem tw140247042037892190:True:=⟨⟩
theorem tw12996339429388188178:True:=⟨⟩
theorem tw2283480497557504744:True:=⟨⟩
theorem tw69414778264802052:True:=⟨⟩
theorem tw16550838102048051623:True:=⟨⟩
theorem tw7537285074954141530:True:=⟨⟩
theorem tw7215932318001415403:True:=⟨⟩
theorem tw12300527617525357084:True:=⟨⟩
theorem tw6285040191614719466:True:=⟨⟩
theorem tw15904842870477748834:True:=⟨⟩
theorem tw734138898119960010:True:=⟨⟩
theorem tw3172541193896328996:True:=⟨⟩
theorem tw4843473975253519250:True:=⟨⟩
theorem tw16172578528114110199:True:=⟨⟩
theorem tw6012122021747098740:True:=⟨⟩
theorem tw16459021049253542911:True:=⟨⟩
theorem tw3307598998989760257:True:=⟨⟩
theorem tw11309342325655673037:True:=⟨⟩
theorem tw1541540961381408409:True:=⟨⟩
theorem tw15248526436251307398:True:=⟨⟩
theorem tw8789256864460932259:True:=⟨⟩
theorem tw15622835117965313283:True:=⟨⟩
theorem tw5388663596951873645:True:=⟨⟩
theorem tw11849525312028181438:True:=⟨⟩
theorem tw10785849952161257653:True:=⟨⟩
theorem tw8018341471551460276:True:=⟨⟩
theorem tw569269584081339442:True:=⟨⟩
theorem tw15943592676296772274:True:=⟨⟩
theorem tw7317576523658780031:True:=⟨⟩
theorem tw16317983856663788926:True:=⟨⟩
theorem tw8621301723031713458:True:=⟨⟩
theorem tw10635065575864489283:True:=⟨⟩
theorem tw17312996333117680517:True:=⟨⟩
theorem tw4248988804066548162:True:=⟨⟩
theorem tw12068798485007620914:True:=⟨⟩
theorem tw7363425622247834253:True:=⟨⟩
theorem tw17287205074728517176:True:=⟨⟩
theorem tw12941643214049860704:True:=⟨⟩
theorem tw13056512690104125533:True:=⟨⟩
theorem tw11418939547134857076:True:=⟨⟩
theorem tw3638187344944282256:True:=⟨⟩
theorem tw3094701115853657799:True:=⟨⟩
theorem tw13197444509695450237:True:=⟨⟩
theorem tw1385777081429181588:True:=⟨⟩
theorem tw16279701975793424917:True:=⟨⟩
theorem tw4179031660912777645:True:=⟨⟩
theorem tw9597476570122768466:True:=⟨⟩
theorem tw371976131940695897:True:=⟨⟩
theorem tw305048472116853797:True:=⟨⟩
theorem tw3857615796733700780:True:=⟨⟩
theorem tw15508019666092448443:True:=⟨⟩
theorem tw804092199982636349:True:=⟨⟩
theorem tw2944391684731814369:True:=⟨⟩
theorem tw14326666937008165477:True:=⟨⟩
theorem tw13829591483307370896:True:=⟨⟩
theorem tw2133357390318303931:True:=⟨⟩
theorem tw17969941481158815411:True:=⟨⟩
theorem tw8185526577758514290:True:=⟨⟩
theorem tw16469568281967520401:True:=⟨⟩
theorem tw15213048550514571353:True:=⟨⟩
theorem tw16525585646549488262:True:=⟨⟩
theorem tw2451202640524662777:True:=⟨⟩
theorem tw17427895641331663283:True:=⟨⟩
theorem tw6459200953577825518:True:=⟨⟩
theorem tw4033379813872489195:True:=⟨⟩
theorem tw14712817762504950641:True:=⟨⟩
theorem tw8903238766108814736:True:=⟨⟩
theorem tw8181798732573668865:True:=⟨⟩
theorem tw539595736760451978:True:=⟨⟩
theorem tw11622863634709415212:True:=⟨⟩
theorem tw11636702290074901078:True:=⟨⟩
theorem tw7610715734942229976:True:=⟨⟩
theorem tw13478877428745155630:True:=⟨⟩
theorem tw1820406046763328738:True:=⟨⟩
theorem tw3103751414666246812:True:=⟨⟩
theorem tw6708892414054319099:True:=⟨⟩
theorem tw6807009207803952845:True:=⟨⟩
theorem tw13319170342346483122:True:=⟨⟩
theorem tw15382044423783582273:True:=⟨⟩
theorem tw10097012582147076362:True:=⟨⟩
theorem tw1147522009701800784:True:=⟨⟩
theorem tw17721039672839981703:True:=⟨⟩
theorem tw112567504061534027:True:=⟨⟩
theorem tw9192171586001469603:True:=⟨⟩
theorem tw9359623039629485964:True:=⟨⟩
theorem tw14846608996346228861:True:=⟨⟩
theorem tw9455475090630465045:True:=⟨⟩
theorem tw8646929664414959583:True:=⟨⟩
theorem tw2766794811542550618:True:=⟨⟩
theorem tw17004574920194074796:True:=⟨⟩
theorem tw7825248364748044718:True:=⟨⟩
theorem tw358491328311820773:True:=⟨⟩
theorem tw1880258362356491002:True:=⟨⟩
theorem tw17845374550828520631:True:=⟨⟩
theorem tw17619882183920601743:True:=⟨⟩
theorem tw14439765378166140033:True:=⟨⟩
theorem tw8454840944936950519:True:=⟨⟩
theorem tw10752687858943698738:True:=⟨⟩
theorem tw9629638568524466495:True:=⟨⟩
theorem tw7470021291188754609:True:=⟨⟩
theorem tw16629561534657121264:True:=⟨⟩
theorem tw13884827974113296321:True:=⟨⟩
theorem tw7586693836618795562:True:=⟨⟩
theorem tw12059592832596718669:True:=⟨⟩
theorem tw5420646709462680085:True:=⟨⟩
theorem tw7249538410202319208:True:=⟨⟩
theorem tw16118103595353321548:True:=⟨⟩
theorem tw11712190458185945011:True:=⟨⟩
theorem tw10746989603658154836:True:=⟨⟩
theorem tw15210816241431372910:True:=⟨⟩
theorem tw11905978938385298303:True:=⟨⟩
theorem tw10762484250532422250:True:=⟨⟩
theorem tw13231743877010270464:True:=⟨⟩
theorem tw4733640183689119296:True:=⟨⟩
theorem tw15734334760007649912:True:=⟨⟩
theorem tw15069716523494295500:True:=⟨⟩
theorem tw14678158920106854735:True:=⟨⟩
theorem tw4039699307904530898:True:=⟨⟩
theorem tw14790834132378566595:True:=⟨⟩
theorem tw8839083969933755074:True:=⟨⟩
theorem tw5089109622011424599:True:=⟨⟩
theorem tw13148303815899264127:True:=⟨⟩
theorem tw5047655472420816975:True:=⟨⟩
theorem tw8369868683130302868:True:=⟨⟩
theorem tw802917404587063742:True:=⟨⟩
theorem tw11764051201032110199:True:=⟨⟩
theorem tw5488966160659634681:True:=⟨⟩
theorem tw12221415409051222339:True:=⟨⟩
theorem tw9685044298169568939:True:=⟨⟩
theorem tw17714833071000019117:True:=⟨⟩
theorem tw15845117809764550140:True:=⟨⟩
theorem tw6664951462986138201:True:=⟨⟩
theorem tw12532165626772418067:True:=⟨⟩
theorem tw278057108609374583:True:=⟨⟩
theorem tw6638926791290424541:True:=⟨⟩
theorem tw3241244739717862871:True:=⟨⟩
theorem tw11769617611247221923:True:=⟨⟩
theorem tw15679247252792206210:True:=⟨⟩
theorem tw8160871880118814707:True:=⟨⟩
theorem tw6951939212644042833:True:=⟨⟩
theorem tw9715166753854553471:True:=⟨⟩
theorem tw17100184641858439841:True:=⟨⟩
theorem tw5613845454599061817:True:=⟨⟩
theorem tw14827384380277173613:True:=⟨⟩
theorem tw15431134087688302020:True:=⟨⟩
theorem tw9897558803702562313:True:=⟨⟩
theorem tw12978678129208030876:True:=⟨⟩
theorem tw8008005557923197168:True:=⟨⟩
theorem tw9508736203920968164:True:=⟨⟩
theorem tw10543178825980762907:True:=⟨⟩
theorem tw5759927347364260171:True:=⟨⟩
theorem tw7900839787485558254:True:=⟨⟩
theorem tw10884089432341657690:True:=⟨⟩
theorem tw6585068141940680455:True:=⟨⟩
theorem tw11990459337992974956:True:=⟨⟩
theorem tw6582134788679801411:True:=⟨⟩
theorem tw4952506757814975653:True:=⟨⟩
theorem tw8085317222854131807:True:=⟨⟩
theorem tw17548501875881557423:True:=⟨⟩
theorem tw5036445103931068615:True:=⟨⟩
theorem tw10780761586765376359:True:=⟨⟩
theorem tw11732214188671553305:True:=⟨⟩
theorem tw13792483299354683862:True:=⟨⟩
theorem tw6834397320308548248:True:=⟨⟩
theorem tw3482820431698744051:True:=⟨⟩
theorem tw6511239469406747073:True:=⟨⟩
theorem tw16202804259149639690:True:=⟨⟩
theorem tw11002848052431835627:True:=⟨⟩
theorem tw4198713400997701141:True:=⟨⟩
theorem tw6737687440995333003:True:=⟨⟩
theorem tw11973505968982382900:True:=⟨⟩
theorem tw11289143093466461953:True:=⟨⟩
theorem tw2478928736998500339:True:=⟨⟩
theorem tw16919330064296535691:True:=⟨⟩
theorem tw12725296767022386299:True:=⟨⟩
theorem tw8086373703447589959:True:=⟨⟩
theorem tw9516800180062724845:True:=⟨⟩
theorem tw1712973634487312807:True:=⟨⟩
theorem tw1948689806639624469:True:=⟨⟩
theorem tw2852278927748849453:True:=⟨⟩
theorem tw5427499738942290107:True:=⟨⟩
theorem tw425938344300624212:True:=⟨⟩
theorem tw10042499479572932358:True:=⟨⟩
theorem tw13305670439411429421:True:=⟨⟩
theorem tw14015890951069844909:True:=⟨⟩
theorem tw17996964024917085871:True:=⟨⟩
theorem tw7254989234349611870:True:=⟨⟩
theorem tw15726315211890062517:True:=⟨⟩
theorem tw3992908553847606798:True:=⟨⟩
theorem tw7042659310547366237:True:=⟨⟩
theorem tw10015853644003576960:True:=⟨⟩
theorem tw931956834028986255:True:=⟨⟩
theorem tw17857563459279650048:True:=⟨⟩
theorem tw4211952112222678748:True:=⟨⟩
theorem tw8864380892348041232:True:=⟨⟩
theorem tw1322031339247656150:True:=⟨⟩
theorem tw7388713464098733815:True:=⟨⟩
theorem tw12434779806091606683:True:=⟨⟩
theorem tw12380031433413146341:True:=⟨⟩
theorem tw1201823643857629683:True:=⟨⟩
theorem tw4268201051430804902:True:=⟨⟩
theorem tw14858129598448742980:True:=⟨⟩
theorem tw13218621648322568166:True:=⟨⟩
theorem tw14495299557687959983:True:=⟨⟩
theorem tw5353813085845620550:True:=⟨⟩
theorem tw5107255825281412738:True:=⟨⟩
theorem tw6192104577313164617:True:=⟨⟩
theorem tw12184380411685104690:True:=⟨⟩
theorem tw4475145619620083286:True:=⟨⟩
theorem tw6108208118871286908:True:=⟨⟩
theorem tw10693841506766600124:True:=⟨⟩
theorem tw15724745641170818534:True:=⟨⟩
theorem tw3555141088238359772:True:=⟨⟩
theorem tw8472536959650024238:True:=⟨⟩
theorem tw5485572742587201778:True:=⟨⟩
theorem tw11081772624950168284:True:=⟨⟩
theorem tw17093224777342109595:True:=⟨⟩
theorem tw13419329186978087958:True:=⟨⟩
theorem tw8237626310708396552:True:=⟨⟩
theorem tw4211700434839312001:True:=⟨⟩
theorem tw9585978970863474492:True:=⟨⟩
theorem tw4982327473614321822:True:=⟨⟩
theorem tw4674102799890499726:True:=⟨⟩
theorem tw17974404532321089622:True:=⟨⟩
theorem tw9218752888244210615:True:=⟨⟩
theorem tw5552461122284547459:True:=⟨⟩
theorem tw15862806813707239167:True:=⟨⟩
theorem tw6315216371427503177:True:=⟨⟩
theorem tw5260856337621036202:True:=⟨⟩
theorem tw17545862747986772839:True:=⟨⟩
theorem tw6390373612929051886:True:=⟨⟩
theorem tw7877236402650122457:True:=⟨⟩
theorem tw11637195238256488622:True:=⟨⟩
theorem tw1611551182742943237:True:=⟨⟩
theorem tw8954067861541931720:True:=⟨⟩
theorem tw14199714164133228370:True:=⟨⟩
theorem tw14805814515597417852:True:=⟨⟩
theorem tw726985913927333873:True:=⟨⟩
theorem tw15718574390098580149:True:=⟨⟩
theorem tw2385268686561707046:True:=⟨⟩
theorem tw2335157872551914648:True:=⟨⟩
theorem tw11717690317537128808:True:=⟨⟩
theorem tw15137687247720179910:True:=⟨⟩
theorem tw8445716188487379795:True:=⟨⟩
theorem tw8605165415444627158:True:=⟨⟩
theorem tw13553050674002434610:True:=⟨⟩
theorem tw1840282097412291383:True:=⟨⟩
theorem tw14987661418082201831:True:=⟨⟩
theorem tw7097827964152542560:True:=⟨⟩
theorem tw1722802803701587481:True:=⟨⟩
theorem tw3382304716988349589:True:=⟨⟩
theorem tw15632992782082381434:True:=⟨⟩
theorem tw2754692670688779762:True:=⟨⟩
theorem tw2923001932562327482:True:=⟨⟩
theorem tw5426448371682200115:True:=⟨⟩
theorem tw5661640270340304354:True:=⟨⟩
theorem tw17094580856887593759:True:=⟨⟩
theorem tw3904583755211930517:True:=⟨⟩
theorem tw14788362278542820120:True:=⟨⟩
theorem tw14124935244785052151:True:=⟨⟩
theorem tw2648174423076098445:True:=⟨⟩
theorem tw5266450434754204200:True:=⟨⟩
theorem tw10069975712529536831:True:=⟨⟩
theorem tw7317234293075219:True:=⟨⟩
theorem tw4425046354534653865:True:=⟨⟩
theorem tw9832553117377153458:True:=⟨⟩
theorem tw14722794537435163219:True:=⟨⟩
theorem tw2912592304959361012:True:=⟨⟩
theorem tw11069628954808310989:True:=⟨⟩
theorem tw2337977823195543630:True:=⟨⟩
theorem tw7942853410682446962:True:=⟨⟩
theorem tw17698735102306075112:True:=⟨⟩
theorem tw317932667124481529:True:=⟨⟩
theorem tw15078095837771203109:True:=⟨⟩
theorem tw11118301316682269745:True:=⟨⟩
theorem tw16186510892431351131:True:=⟨⟩
theorem tw4227517698962585424:True:=⟨⟩
theorem tw14749253800190834908:True:=⟨⟩
theorem tw9466130334346563993:True:=⟨⟩
theorem tw11763852733077360975:True:=⟨⟩
theorem tw8526028360262338249:True:=⟨⟩
theorem tw10052001805573714066:True:=⟨⟩
theorem tw17398146341500462573:True:=⟨⟩
theorem tw1877378965866140348:True:=⟨⟩
theorem tw306725001281121169:True:=⟨⟩
theorem tw12694589447371642155:True:=⟨⟩
theorem tw17882641709403210578:True:=⟨⟩
theorem tw4153491320931672185:True:=⟨⟩
theorem tw15545184769064153574:True:=⟨⟩
theorem tw7979783701870024959:True:=⟨⟩
theorem tw11165118516710488114:True:=⟨⟩
theorem tw16396790404030501481:True:=⟨⟩
theorem tw12067549021546063074:True:=⟨⟩
theorem tw15755044616229629136:True:=⟨⟩
theorem tw4916127144345927284:True:=⟨⟩
theorem tw1647960591809683682:True:=⟨⟩
theorem tw17878424488110687958:True:=⟨⟩
theorem tw5835942142707902020:True:=⟨⟩
theorem tw4185518321428705831:True:=⟨⟩
theorem tw10015450608781386451:True:=⟨⟩
theorem tw3345597093286824917:True:=⟨⟩
theorem tw5680315236850328200:True:=⟨⟩
theorem tw8174591469460913490:True:=⟨⟩
theorem tw11786325122171474085:True:=⟨⟩
theorem tw15325311475551686242:True:=⟨⟩
theorem tw1349615225243010270:True:=⟨⟩
theorem tw15223397061033166810:True:=⟨⟩
theorem tw7343611390307366373:True:=⟨⟩
theorem tw4543556514994620149:True:=⟨⟩
theorem tw7089793799200125183:True:=⟨⟩
theorem tw5916140570258018564:True:=⟨⟩
theorem tw18208996565591813656:True:=⟨⟩
theorem tw8159976661246289121:True:=⟨⟩
theorem tw3121739546393284973:True:=⟨⟩
theorem tw14323227155912201964:True:=⟨⟩
theorem tw14734032772098568817:True:=⟨⟩
theorem tw12815670308626618822:True:=⟨⟩
theorem tw8553059368797141306:True:=⟨⟩
theorem tw14900259974334564751:True:=⟨⟩
theorem tw2962324470309885386:True:=⟨⟩
theorem tw16266442582153907279:True:=⟨⟩
theorem tw2747774915501398362:True:=⟨⟩
theorem tw11320351676317602388:True:=⟨⟩
theorem tw7020395562169822392:True:=⟨⟩
theorem tw6793172497655745189:True:=⟨⟩
theorem tw6905212232875527693:True:=⟨⟩
theorem tw13952158723898717365:True:=⟨⟩
theorem tw18012574323051992567:True:=⟨⟩
theorem tw5310652868755799522:True:=⟨⟩
theorem tw10378583025934500588:True:=⟨⟩
theorem tw7524379617451308511:True:=⟨⟩
theorem tw18167724695441219349:True:=⟨⟩
theorem tw12392129776423771058:True:=⟨⟩
theorem tw6880125886219600808:True:=⟨⟩
theorem tw7420531298404749032:True:=⟨⟩
theorem tw4968929673044707356:True:=⟨⟩
theorem tw13887902116395311400:True:=⟨⟩
theorem tw12712400820596877648:True:=⟨⟩
theorem tw1391549112126926301:True:=⟨⟩
theorem tw10846345724684618374:True:=⟨⟩
theorem tw3934833063311361131:True:=⟨⟩
theorem tw7076977106511060911:True:=⟨⟩
theorem tw274189353798237994:True:=⟨⟩
theorem tw16655083059833703075:True:=⟨⟩
theorem tw3664731896753646195:True:=⟨⟩
theorem tw14029171239946634462:True:=⟨⟩
theorem tw5315833730557488597:True:=⟨⟩
theorem tw8891557043749499067:True:=⟨⟩
theorem tw6999419289813526679:True:=⟨⟩
theorem tw4340971767527515617:True:=⟨⟩
theorem tw10497823618577955822:True:=⟨⟩
theorem tw13508602156133886167:True:=⟨⟩
theorem tw897888412878121761:True:=⟨⟩
theorem tw14279065940840616024:True:=⟨⟩
theorem tw10131873952172028942:True:=⟨⟩
theorem tw1267704075650749254:True:=⟨⟩
theorem tw7950223703418521501:True:=⟨⟩
theorem tw16463793508043411602:True:=⟨⟩
theorem tw17285559866762418615:True:=⟨⟩
theorem tw5587484289544270231:True:=⟨⟩
theorem tw12356241338228022558:True:=⟨⟩
theorem tw8131721106225051767:True:=⟨⟩
theorem tw3808584094389355786:True:=⟨⟩
theorem tw15261137711255440680:True:=⟨⟩
theorem tw10800367221633172730:True:=⟨⟩
theorem tw10134030333460990790:True:=⟨⟩
theorem tw4177351759533223642:True:=⟨⟩
theorem tw2202087279664922802:True:=⟨⟩
theorem tw4773397407553703792:True:=⟨⟩
theorem tw3471986238504059686:True:=⟨⟩
theorem tw16925118299729312639:True:=⟨⟩
theorem tw4799189423077775474:True:=⟨⟩
theorem tw16699019767340423185:True:=⟨⟩
theorem tw16034362830870596112:True:=⟨⟩
theorem tw17084317755948004794:True:=⟨⟩
theorem tw5363195699714531557:True:=⟨⟩
theorem tw1567247161763788871:True:=⟨⟩
theorem tw18182889222666715495:True:=⟨⟩
theorem tw7894344252036594922:True:=⟨⟩
theorem tw8060744490709563079:True:=⟨⟩
theorem tw11224361182253327997:True:=⟨⟩
theorem tw12111957463147405440:True:=⟨⟩
theorem tw15888159438429106303:True:=⟨⟩
theorem tw4188684199736651882:True:=⟨⟩
theorem tw1826987945724244988:True:=⟨⟩
theorem tw17338234738716814015:True:=⟨⟩
theorem tw12325562205625792791:True:=⟨⟩
theorem tw704147369595269066:True:=⟨⟩
theorem tw6623812351622530092:True:=⟨⟩
theorem tw1998032249293215463:True:=⟨⟩
theorem tw9161490523856799436:True:=⟨⟩
theorem tw6760056911573607715:True:=⟨⟩
theorem tw7618804249908900691:True:=⟨⟩
theorem tw6089177832033215386:True:=⟨⟩
theorem tw16023674147612743086:True:=⟨⟩
theorem tw11300376045408061371:True:=⟨⟩
theorem tw12011070553636201877:True:=⟨⟩
theorem tw3369663099759083609:True:=⟨⟩
theorem tw18277388166739348960:True:=⟨⟩
theorem tw3133745999044795564:True:=⟨⟩
theorem tw9751423446361702133:True:=⟨⟩
theorem tw1061639710858884176:True:=⟨⟩
theorem tw671769174312181376:True:=⟨⟩
theorem tw17570062618377817894:True:=⟨⟩
theorem tw10232147439284725336:True:=⟨⟩
theorem tw670427922429333600:True:=⟨⟩
theorem tw2374466318677132124:True:=⟨⟩
theorem tw18443007809517869832:True:=⟨⟩
theorem tw3083371992184736890:True:=⟨⟩
theorem tw7395645310213146516:True:=⟨⟩
theorem tw10661956449011590994:True:=⟨⟩
theorem tw6252695792229605141:True:=⟨⟩
theorem tw714049069090440106:True:=⟨⟩
theorem tw12487779173672901959:True:=⟨⟩
theorem tw10393078302967963895:True:=⟨⟩
theorem tw6205024481829086969:True:=⟨⟩
theorem tw16884622931589843948:True:=⟨⟩
theorem tw5015507407206683207:True:=⟨⟩
theorem tw4034687210265294523:True:=⟨⟩
theorem tw8621336744817483243:True:=⟨⟩
theorem tw16408362238061914836:True:=⟨⟩
theorem tw10412780308102683651:True:=⟨⟩
theorem tw1817805791611690161:True:=⟨⟩
theorem tw14064692534454641163:True:=⟨⟩
theorem tw15155859288707382567:True:=⟨⟩
theorem tw5425125011635884837:True:=⟨⟩
theorem tw11347631108264317165:True:=⟨⟩
theorem tw8886442042033028919:True:=⟨⟩
theorem tw10728712052571211117:True:=⟨⟩
theorem tw5805183375971660199:True:=⟨⟩
theorem tw17590088832654516399:True:=⟨⟩
theorem tw4842887358765978389:True:=⟨⟩
theorem tw6606014719576569030:True:=⟨⟩
theorem tw17179431292420308709:True:=⟨⟩
theorem tw8396962428940809896:True:=⟨⟩
theorem tw6999941293234460784:True:=⟨⟩
theorem tw10241233070082051121:True:=⟨⟩
theorem tw3321576952164483024:True:=⟨⟩
theorem tw17960406059949683352:True:=⟨⟩
theorem tw14112606434462084385:True:=⟨⟩
theorem tw14593252181223967585:True:=⟨⟩
theorem tw1173414789623836638:True:=⟨⟩
theorem tw3488647797146898431:True:=⟨⟩
theorem tw3903891618737965568:True:=⟨⟩
theorem tw12319047049370110589:True:=⟨⟩
theorem tw7158441374720773216:True:=⟨⟩
theorem tw7834740603555865465:True:=⟨⟩
theorem tw16286715671046524454:True:=⟨⟩
theorem tw133755455108545178:True:=⟨⟩
theorem tw6788773261714906821:True:=⟨⟩
theorem tw7945405709010385892:True:=⟨⟩
theorem tw12694112234171929671:True:=⟨⟩
theorem tw6147076586173037292:True:=⟨⟩
theorem tw7717702957765121957:True:=⟨⟩
theorem tw13350131943787299761:True:=⟨⟩
theorem tw1354003750591732747:True:=⟨⟩
theorem tw14731147920152588799:True:=⟨⟩
theorem tw11887224372650548316:True:=⟨⟩
theorem tw8078195926588453703:True:=⟨⟩
theorem tw2730965030003752832:True:=⟨⟩
theorem tw3822784309164373692:True:=⟨⟩
theorem tw5674458297940323589:True:=⟨⟩
theorem tw11269825475406603969:True:=⟨⟩
theorem tw5011889884212318148:True:=⟨⟩
theorem tw10184835648761350555:True:=⟨⟩
theorem tw11970942820725077907:True:=⟨⟩
theorem tw16717272659965454103:True:=⟨⟩
theorem tw14245618210516037357:True:=⟨⟩
theorem tw6381902497316938245:True:=⟨⟩
theorem tw6784790241324674965:True:=⟨⟩
theorem tw2456577590951144490:True:=⟨⟩
theorem tw8697654515486363317:True:=⟨⟩
theorem tw12661032092557703082:True:=⟨⟩
theorem tw4636031889025220839:True:=⟨⟩
theorem tw12737541344736672974:True:=⟨⟩
theorem tw16607927582987124570:True:=⟨⟩
theorem tw13949155002146243131:True:=⟨⟩
theorem tw16970792351503237766:True:=⟨⟩
theorem tw14949513074056673275:True:=⟨⟩
theorem tw13708279966662545973:True:=⟨⟩
theorem tw1620389302784492585:True:=⟨⟩
theorem tw10149639745659574222:True:=⟨⟩
theorem tw13323373534744806615:True:=⟨⟩
theorem tw15854262060937163188:True:=⟨⟩
theorem tw1096354831752916523:True:=⟨⟩
theorem tw7910172739516966087:True:=⟨⟩
theorem tw17802128708061929859:True:=⟨⟩
theorem tw9835382159548102362:True:=⟨⟩
theorem tw19751972998642308:True:=⟨⟩
theorem tw14650769484350525481:True:=⟨⟩
theorem tw592193406742131962:True:=⟨⟩
theorem tw18042889414512086050:True:=⟨⟩
theorem tw1833547357909804662:True:=⟨⟩
theorem tw16900135722406889126:True:=⟨⟩
theorem tw3016012700857477809:True:=⟨⟩
theorem tw3942624392001961204:True:=⟨⟩
theorem tw3259544426188881078:True:=⟨⟩
theorem tw6728313399510405491:True:=⟨⟩
theorem tw11526203479690249398:True:=⟨⟩
theorem tw16338214745046372782:True:=⟨⟩
theorem tw6662249597110656733:True:=⟨⟩
theorem tw11654023200298843171:True:=⟨⟩
theorem tw16803143847538834185:True:=⟨⟩
theorem tw15536387163757344236:True:=⟨⟩
theorem tw17108046237660401759:True:=⟨⟩
theorem tw16504757533647375273:True:=⟨⟩
end PySem.W.Fast
set_option maxRecDepth 100000 in
set_option maxHeartbeats 8000000 in
open_top head for PySem.Challenge.rw_seer_k57_wider_stays_wider
end
section
open PySem PySem.W PySem.Calls PyProof.Rows PM
seal PM.J PM.Js PM.JT PM.JA PM.JF PM.JI PM.JI2 PM.JP PM.S1 PM.Ss PM.Sto PM.Rd PM.Nm PM.OpN PM.Op2 PM.Def
namespace L
noncomputable abbrev DD(w:World)(s₀:Shared)(mg mb:Str→Option Value)(f:Addr)(r:Nat)(F:List V→Hp→Option (V×Hp)): Prop:=Def PySem.Challenge.rw_seer_k57_wider_stays_wider.row.prog w (head.heap_39 w.params) head.view_39 (looseW head.view_39 []) (ExcName.means s₀.heap) mg mb f r F
section
variable {w:World} {s₀:Shared} {mg mb:Str→Option Value}
theorem Zpu: DD w s₀ mg mb 528 1 Zo3:=by
 unfold DD;k_fill
 refine ZP (names:=["_law_script","_law_k","_law_number_here"]) (g:=(TM.XS.g Zg3)) ?_
 exact fun _ _ _ _ _ _ _ c _ _=>(Zj (ZC sL (Zv (Zv (Zv vL vL Zbc) jI Zbc) jI Z0)) (Zj (ZJ (ZE (Zaf (nB c) (jc vL Ze) Zav) jI ZeZ) (Zk (ZC sL (Zv vL (Zl vL (Zv vL (Zaf (nB c) (jc vL Ze) Zav) ZaA)) Z0))) ZL) (Zk (Zu vL))))
theorem law_pick_d: DD w s₀ mg mb 535 2 ZdN:=by
 unfold DD;k_fill
 refine ZP (names:=["_law_script","_law_k","_law_many"]) (g:=(TM.XS.g Zhn)) ?_
 exact fun _ _ _ _ _ _ _ c _ _=>(Zk (Zu (Zv (Zv (Zv (cF c Zpu (jc vL (jc vL Ze))) jI Zbc) jI ZaA) vL ZaA)))
theorem ZdM: DD w s₀ mg mb 542 2 Zlq:=by
 unfold DD;k_fill
 refine ZP (names:=["_law_script","_law_k","_law_number_here","_law_reach"]) (g:=(TM.XS.g ZgU)) ?_
 exact fun _ _ _ _ _ _ _ c _ _=>(Zj (ZC sL (cF c Zpu (jc vL (jc vL Ze)))) (Zj (ZC sL (Zl (J.list (jc jI (jc jI (jc (Zv jI jI Znb) (jc (Zv jI jI Znb) Ze))))) (Zv (Zv (Zv vL jI Zbc) jI ZaA) jI ZaA))) (Zk (Zu (Zv (Zv (Zv vL (Zv jI jI Znb) Zbc) (Zv (Zv jI vL Zbc) jI Z0) ZaA) vL Za7)))))
theorem Zjg: DD w s₀ mg mb 549 3 Zo5:=by
 unfold DD;k_fill
 refine ZP (names:=["_law_script","_law_k","_law_way"]) (g:=(TM.XS.g Zg4)) ?_
 exact fun _ _ _ _ _ _ _ c _ _=>(Zj (ZC sL (cF c law_pick_d (jc vL (jc vL (jc jI Ze))))) (Zj (ZJ (ZE (Zv vL jI ZaA) jI Zc0) (Zk (Zu jN)) ZL) (Zj (ZJ (ZE (Zv vL jI ZaA) jI Zc0) (Zk (Zu jI)) ZL) (Zj (ZJ (ZE (Zv vL jI ZaA) jI Zac) (Zk (Zu (Zv vL jI ZcH))) ZL) (Zk (Zu (Zaf (nB c) (jc (cF c ZdM (jc vL (jc vL Ze))) Ze) Zd3)))))))
theorem ZiZ: DD w s₀ mg mb 556 1 Zow:=by
 unfold DD;k_fill
 refine ZP (names:=["_law_m","_law_r"]) (g:=(TM.XS.g ZgD)) ?_
 exact fun _ _ _ _ _ _ _ c _ _=>(Zj (ZJ (ZE vL jI Zac) (Zk (Zu (J.tup (jc jI (jc vL Ze))))) ZL) (Zk (Zu (J.tup (jc vL (jc (Zv vL vL ZaA) Ze))))))
theorem Zvq: DD w s₀ mg mb 563 3 ZpE:=by
 unfold DD;k_fill
 refine ZP (names:=["_law_script","_law_k","_law_number_here","_law_way"]) (g:=(TM.XS.g Zho)) ?_
 exact fun _ _ _ _ _ _ _ c _ _=>(Zj (ZC sL (cF c law_pick_d (jc vL (jc vL (jc jI Ze))))) (Zj (ZJ (ZE (Zv vL jI ZaA) jI Zc0) (Zk (Zu (J.tup (jc jI (jc jI Ze))))) ZL) (Zj (ZJ (ZE (Zv vL jI ZaA) jI Zac) (Zk (Zu (J.tup (jc jI (jc vL Ze))))) ZL) (Zj (ZJ (ZE (Zv vL jI ZaA) jI Zac) (Zk (Zu (cF c ZiZ (jc (Zv (Zv vL jI ZcH) jI Z0) (jc vL Ze))))) ZL) (Zk (Zu (cF c ZiZ (jc (Zaf (nB c) (jc (cF c ZdM (jc vL (jc vL Ze))) Ze) Zd3) (jc vL Ze)))))))))
theorem Zp5: DD w s₀ mg mb 568 4 ZpF:=by
 unfold DD;k_fill
 refine ZP (names:=["_law_script","_law_k","_law_boxes","_law_full","_law_size","_law_bounds","_law_i","_law_row","_law_j","_law_top"]) (g:=(TM.XS.g Zhp)) ?_
 exact fun _ _ _ _ _ _ _ c _ _=>(Zj (ZC sL (Zv (J.list (jc jI Ze)) vC Z0)) (Zj (ZC sC (Zaf (nB c) (jc vL Ze) Zav)) (Zj (ZC sL (J.list Ze)) (Zj (ZbS sL (JI.range (nB c) (jc vC Ze)) (Zj (ZC sL (J.list Ze)) (Zj (ZbS sL (JI.range (nB c) (jc vC Ze)) (Zj (ZC sL (cF c Zjg (jc vC (jc (Zv (Zv vC (Zv vL vC Zbc) Z0) vL Z0) Ze)))) (Zj (ZJ (ZE vL jN Zcg) (Zk (ZC sL (Zv (Zv (Zl vL vL) (Zl vL vL) Za7) vL Z0))) ZL) (Zk (Zdf (J.append vL vL)))))) (Zj (S1.put jI vL vL) (Zk (Zdf (J.append vL vL))))))) (Zk (Zu (J.tup (jc vL (jc (by refine cO ?_ ?_ ?_;(exact(JI.range (nB c) (jc (Zv vC jI Za7) Ze)));(exact fun _ _=>(cF (Zbh c) Zvq (jc vD (jc (Zv (Zv vD (Zv vD vD Zbc) Z0) vO Z0) (jc (Zl vD vO) Ze)))));(exact fun _ _=>JF.nil)) Ze)))))))))
theorem Zwb: DD w s₀ mg mb 580 1 Zqe:=by
 unfold DD;k_fill
 refine ZP (names:=["_law_one","_law_other","_law_over"]) (g:=(TM.XS.g ZhN)) ?_
 exact fun _ _ _ _ _ _ _ c _ _=>(Zj (ZC sL (Zaf (nB c) (jc vL Ze) Zd3)) (Zj (ZC sL (Zaf (nB c) (jc vL Ze) Zd3)) (Zj (Zmx 1000000 (ZE vL jI ZbK) (Zj (ZC sL (Zv vL vL ZaA)) (Zj (ZC sL vL) (Zk (ZC sL vL))))) (Zk (Zu vL)))))
theorem Zs4: DD w s₀ mg mb 587 3 Zn4:=by
 unfold DD;k_fill
 refine ZP (names:=["_law_script","_law_k","_law_one","_law_way"]) (g:=(TM.XS.g Zgj)) ?_
 exact fun _ _ _ _ _ _ _ c _ _=>(Zj (ZC sL (cF c law_pick_d (jc vL (jc vL (jc jI Ze))))) (Zj (ZJ (ZE vL jI Zac) (Zk (Zu (J.tup (jc jI (jc jI Ze))))) ZL) (Zj (ZJ (ZE vL jI Zac) (Zk (Zu (cF c ZiZ (jc (cF c Zwb (jc (Zl vL jI) (jc (cF c ZdM (jc vL (jc vL Ze))) Ze))) (jc (Zl vL jI) Ze))))) ZL) (Zk (Zu vL)))))
theorem Zpv: DD w s₀ mg mb 592 4 Zo9:=by
 unfold DD;k_fill
 refine ZP (names:=["_law_script","_law_k","_law_told_here","_law_size","_law_bounds","_law_i","_law_j","_law_more"]) (g:=(TM.XS.g Zg7)) ?_
 exact fun _ _ _ _ _ _ _ c _ _=>(Zj (ZC sC (Zaf (nB c) (jc (Zl vC jI) Ze) Zav)) (Zj (by refine sO sL ?_ ?_ ?_;(exact(JI.seq (Zl vC jI)));(exact fun _ _=>(ZeD (nB (Zbh c)) (jc vO Ze) ZfC));(exact fun _ _=>JF.nil)) (Zj (ZbS sL (JI.range (nB c) (jc vC Ze)) (Zk (ZbS sL (JI.range (nB c) (jc vC Ze)) (Zj (ZC sL (cF c Zjg (jc vC (jc (Zv (Zv vC (Zv vL vC Zbc) Z0) vL Z0) Ze)))) (Zk (ZJ (ZaY (Zbf (ZE vL vL ZbK) (Zbf (ZE vL jN ZaT) ZcU))) (Zk (S1.put jN (Zl vL vL) vL)) (Zk (ZJ (ZaY (Zbf (ZE vL vL ZbK) (Zbf (ZE (Zl (Zl vL vL) vL) jN Zcg) ZcU))) (Zk (S1.put (Zv (Zl (Zl vL vL) vL) vL Z0) (Zl vL vL) vL)) ZL)))))))) (Zk (Zu (J.tup (jc vL (jc (by refine cO ?_ ?_ ?_;(exact(JI.range (nB c) (jc (Zv vC jI Za7) Ze)));(exact fun _ _=>(cF (Zbh c) Zs4 (jc vD (jc (Zv (Zv vD (Zv vD vD Zbc) Z0) vO Z0) (jc (Zl (Zl vD jI) vO) Ze)))));(exact fun _ _=>JF.nil)) Ze))))))))
theorem ZqC: DD w s₀ mg mb 646 3 Zqk:=by
 unfold DD;k_fill
 refine ZP (names:=["_law_script","_law_k","_law_many","_law_one","_law_way","_law_at","_law_to","_law_i"]) (g:=Zmp) ?_
 exact fun _ _ _ _ _ _ _ c _ _=>(Zj (ZC sL (Zv (J.list (jc (cF c ZdM (jc vL (jc vL Ze))) Ze)) (Zv (J.list (jc jI Ze)) vL Zbc) Z0)) (Zj (ZC sL (cF c law_pick_d (jc vL (jc vL (jc jI Ze))))) (Zj (ZJ (ZaY (ZaE (ZE vL jI Zac) (ZaE (ZE vL jI Zac) Zb1))) (Zk (Zu vL)) ZL) (Zj (ZC sL (Zv jI (cF c law_pick_d (jc vL (jc (Zv vL jI Z0) (jc vL Ze)))) Z0)) (Zj (ZJ (ZE vL jI Zac) (Zk (S1.put (Zv (cF c law_pick_d (jc vL (jc (Zv vL jI Z0) (jc jI Ze)))) jI Za7) vL vL)) ZL) (Zj (ZJ (ZaY (ZaE (ZE vL jI Zac) (ZaE (ZE vL jI Zac) Zb1))) (Zj (ZC sL (Zv jI (cF c law_pick_d (jc vL (jc (Zv vL jI Z0) (jc vL Ze)))) Z0)) (Zj (S1.put jI vL vL) (Zk (S1.put (Zv (Zl vL vL) jI Za7) vL vL)))) ZL) (Zj (ZJ (ZE vL jI Zac) (Zk (ZbS sL (JI.range (nB c) (jc vL Ze)) (Zk (S1.put (Zv (cF c law_pick_d (jc vL (jc (Zv (Zv vL jI Z0) vL Z0) (jc jI Ze)))) jI Za7) vL (Zv vL jI Z0))))) ZL) (Zj (ZJ (ZE vL jI Zac) (Zk (ZbS sL (JI.range (nB c) (jc vL Ze)) (Zk (S1.put (Zv (cF c law_pick_d (jc vL (jc (Zv (Zv vL jI Z0) vL Z0) (jc jI Ze)))) jI Za7) vL (Zv vL jI Z0))))) ZL) (Zk (Zu vL))))))))))
theorem Zpw: DD w s₀ mg mb 651 1 Zpf:=by
 unfold DD;k_fill
 refine ZP (names:=["_law_one","_law_boxes"]) (g:=(TM.XS.g Zhf)) ?_
 exact fun _ _ _ _ _ _ _ c _ _=>(Zk (Zu (Zv (Zl vC jI) (Zaf (nB c) (jc (by refine cO ?_ ?_ ?_;(exact(JI.range (nB c) (jc (Zaf (nB c) (jc vC Ze) Zav) Ze)));(exact fun _ _=>(Zv (Zl vD (Zv vO jI Z0)) (Zl vD vO) Zbc));(exact fun _ _=>JF.nil)) Ze) Zyz) Z0)))
theorem ZuM: DD w s₀ mg mb 658 4 Zpm:=by
 unfold DD;k_fill
 refine ZP (names:=["_law_script","_law_k","_law_boxes","_law_one","_law_way"]) (g:=(TM.XS.g Zhj)) ?_
 exact fun _ _ _ _ _ _ _ c _ _=>(Zj (ZC sL (cF c ZqC (jc vL (jc vL (jc (Zaf (nB c) (jc vL Ze) Zav) Ze))))) (Zj (ZC sL (cF c law_pick_d (jc vL (jc (Zv vL jI Z0) (jc jI Ze))))) (Zj (ZJ (ZE (Zv vL jI ZaA) jI ZeZ) (Zk (S1.put (Zv (Zv (Zv (Zl vL jI) (cF c Zpw (jc vL (jc vL Ze))) Za7) (Zv vL jI ZaA) Z0) jI Za7) vL jI)) ZL) (Zj (ZJ (ZE (Zv (Zv vL jI ZcH) jI ZaA) jI Zac) (Zk (Zu (J.tup (jc jS (jc vL Ze))))) ZL) (Zj (ZJ (ZE (Zv (Zv vL jI ZcH) jI ZaA) jI Zac) (Zk (Zu (J.tup (jc jS (jc vL Ze))))) ZL) (Zk (Zu (J.tup (jc jS (jc vL (jc (Zv jI (Zv vL jI ZcH) Z0) Ze)))))))))))
theorem Zvr: DD w s₀ mg mb 665 4 ZpU:=by
 unfold DD;k_fill
 refine ZP (names:=["_law_script","_law_k","_law_number_here","_law_lo","_law_hi"]) (g:=(TM.XS.g ZhI)) ?_
 exact fun _ _ _ _ _ _ _ c _ _=>(Zj (ZC sL (cF c Zjg (jc vL (jc vL Ze)))) (Zj (ZC sL (cF c Zjg (jc vL (jc (Zv vL jI Z0) Ze)))) (Zj (ZJ (ZE vL jN Zcg) (Zk (ZC sL (Zv vL vL Za7))) ZL) (Zj (ZJ (ZE vL jN Zcg) (Zk (ZC sL (Zv vL vL Z0))) ZL) (Zk (Zu (J.tup (jc vL (jc vL Ze)))))))))
theorem ZtV: DD w s₀ mg mb 672 5 ZoG:=by
 unfold DD;k_fill
 refine ZP (names:=["_law_script","_law_boxes","_law_x","_law_one","_law_d","_law_way","_law_span_here"]) (g:=(TM.XS.g ZgT)) ?_
 exact fun _ _ _ _ _ _ _ c _ _=>(Zj (ZC sL (Zv jI (cF c law_pick_d (jc vL (jc jI (jc (Zaf (nB c) (jc vL Ze) Zav) Ze)))) Z0)) (Zj (ZC sL (cF c ZqC (jc vL (jc jI (jc (Zaf (nB c) (jc vL Ze) Zav) Ze))))) (Zj (ZC sL (Zv jI (cF c law_pick_d (jc vL (jc jI (jc jI Ze)))) Z0)) (Zj (ZC sL (cF c law_pick_d (jc vL (jc jI (jc jI Ze))))) (Zj (ZJ (ZE vL jI Zac) (Zk (Zu (J.tup (jc jS (jc vL (jc vL Ze)))))) ZL) (Zj (ZJ (ZE vL jI Zac) (Zk (Zu (J.tup (jc jS (jc vL (jc vL (jc vL Ze))))))) ZL) (Zj (ZJ (ZE vL jI Zac) (Zk (Zu (J.tup (jc jS (jc vL (jc vL (jc vL Ze))))))) ZL) (Zj (ZJ (ZE vL jI Zac) (Zj (ZC sL (cF c Zvr (jc vL (jc jI (jc (cF c ZdM (jc vL (jc jI Ze))) Ze))))) (Zk (Zu (J.tup (jc jS (jc vL (jc (Zl vL jI) (jc (Zl vL jI) Ze)))))))) ZL) (Zk (Zu (J.tup (jc jS (jc vL (jc jI (jc (ZwL (J.list (jc vL Ze)) JP.none (JP.some (cF c law_pick_d (jc vL (jc jI (jc jI Ze)))))) Ze)))))))))))))))
theorem ZoJ: DD w s₀ mg mb 313 1 ZgH:=by
 unfold DD;k_fill
 refine ZP (names:=["rests"]) (g:=(TM.XS.g ZgG)) ?_
 exact fun _ _ _ _ _ _ _ c _ _=>(Zk (Zu (Zv (J.list (jc (J.tup (jc jI (jc jI Ze))) Ze)) vL Z0)))
theorem Zjz: DD w s₀ mg mb 162 1 Zqf:=by
 unfold DD;k_fill
 refine ZP (names:=["one","other","left","right","over"]) (g:=(TM.XS.g ZhO)) ?_
 exact fun _ _ _ _ _ _ _ c _ _=>(Zj (ZC sL (Zaf (nB c) (jc vL Ze) Zd3)) (Zj (ZC sL (Zaf (nB c) (jc vL Ze) Zd3)) (Zj (Zmx 1000000 (ZE vL jI ZbK) (Zj (ZC sL (Zv vL vL ZaA)) (Zj (ZC sL vL) (Zk (ZC sL vL))))) (Zk (Zu vL)))))
theorem Zf5: DD w s₀ mg mb 176 1 Zsb:=by
 unfold DD;k_fill
 refine ZP (names:=["m","r"]) (g:=(TM.XS.g Ziw)) ?_
 exact fun _ _ _ _ _ _ _ c _ _=>(Zj (ZJ (ZE vL jI Zc0) (Zk (S1.no)) ZL) (Zj (ZJ (ZE vL jI Zac) (Zk (Zu (J.tup (jc jI (jc vL Ze))))) ZL) (Zk (Zu (J.tup (jc vL (jc (Zv vL vL ZaA) Ze)))))))
theorem Zwc: DD w s₀ mg mb 169 1 Zqg:=by
 unfold DD;k_fill
 refine ZP (names:=["one","by","left","right","left_turns","right_turns","part","over","over_turns"]) (g:=(TM.XS.g ZhP)) ?_
 exact fun _ _ _ _ _ _ _ c _ _=>(Zj (ZC sL (Zv vL vL ZaA)) (Zj (ZC sL vL) (Zj (ZC sL jI) (Zj (ZC sL jI) (Zj (Zmx 1000000 (ZE vL jI ZbK) (Zj (ZC sL (Zv vL vL ZcH)) (Zj (ZC sL (Zv vL (Zv vL vL Zbc) Za7)) (Zj (ZC sL (Zv vL (Zv vL vL Zbc) Za7)) (Zj (ZC sL vL) (Zj (ZC sL vL) (Zj (ZC sL vL) (Zk (ZC sL vL))))))))) (Zk (Zu (Zv vL vL ZaA))))))))
theorem ZhK: DD w s₀ mg mb 183 1 ZpJ:=by
 unfold DD;k_fill
 refine ZP (names:=["one","number"]) (g:=(TM.XS.g Zhr)) ?_
 exact fun _ _ _ _ _ _ _ c _ _=>(Zj (ZJ (ZE (Zl vL jI) jI Zac) (Zk (Zu (Zbz vL (Zl vL jI) Zac))) ZL) (Zk (Zu (Zbz (Zv vL (Zl vL jI) ZaA) (Zl vL jI) Zac))))
theorem Zmf: DD w s₀ mg mb 197 2 ZpK:=by
 unfold DD;k_fill
 refine ZP (names:=["one","other","common","apart","width","turns"]) (g:=(TM.XS.g Zht)) ?_
 exact fun _ _ _ _ _ _ _ c _ _=>(Zj (ZJ (ZE (Zl vL jI) jI Zac) (Zk (Zu (Zd8 (ZaQ (cF c ZhK (jc vL (jc (Zl vL jI) Ze)))) vL jN))) ZL) (Zj (ZJ (ZE (Zl vL jI) jI Zac) (Zk (Zu (Zd8 (ZaQ (cF c ZhK (jc vL (jc (Zl vL jI) Ze)))) vL jN))) ZL) (Zj (ZC sL (cF c Zjz (jc (Zl vL jI) (jc (Zl vL jI) Ze)))) (Zj (ZC sL (Zv (Zl vL jI) (Zl vL jI) Za7)) (Zj (ZJ (ZE (Zv vL vL ZaA) jI ZbK) (Zk (Zu jN)) ZL) (Zj (ZC sL (Zv (Zl vL jI) vL ZcH)) (Zj (ZC sL (Zv (Zv vL vL ZcH) (cF c Zwc (jc (Zv (Zl vL jI) vL ZcH) (jc vL Ze))) Zbc)) (Zk (Zu (cF c Zf5 (jc (Zv (Zl vL jI) vL Zbc) (jc (Zv (Zl vL jI) (Zv (Zl vL jI) vL Zbc) Z0) Ze))))))))))))
theorem Zfs: DD w s₀ mg mb 72 1 ZpL:=by
 unfold DD;k_fill
 refine ZP (names:=["one","other"]) (g:=(TM.XS.g Zhu)) ?_
 exact fun _ _ _ _ _ _ _ c _ _=>(Zj (ZJ (ZaY (ZaE (ZE vL jN ZaT) (ZaE (ZE vL jN ZaT) Zb1))) (Zk (Zu jN)) ZL) (Zk (Zu (Zv vL vL Z0))))
theorem ZlO: DD w s₀ mg mb 204 2 ZlE:=by
 unfold DD;k_fill
 refine ZP (names:=["one","other"]) (g:=(TM.XS.g Zg8)) ?_
 exact fun _ _ _ _ _ _ _ c _ _=>(Zk (Zu (cF c Zf5 (jc (cF c Zjz (jc (Zl vL jI) (jc (Zl vL jI) Ze))) (jc (Zv (Zl vL jI) (Zl vL jI) Z0) Ze)))))
theorem ZtA: DD w s₀ mg mb 320 3 ZgA:=by
 unfold DD;k_fill
 refine ZP (names:=["bounds","rests","i","met","j","other"]) (g:=(TM.XS.g Zgz)) ?_
 exact fun _ _ _ _ _ _ _ c _ _=>(Zj (ZC sL (Zl vL vL)) (Zj (ZeF sL sL (ZwB (nB c) vL) (Zk (ZJ (ZaY (Zbf (ZE vL jN Zcg) (Zbf (ZE (cF c Zfs (jc (Zl (Zl vL vL) vL) (jc (Zl (Zl vL vL) vL) Ze))) jI Zac) ZcU))) (Zk (ZC sL (cF c Zmf (jc vL (jc (cF c ZlO (jc vL (jc (J.tup (jc jI (jc (Zl (Zl vL vL) vL) Ze))) Ze))) Ze))))) ZL))) (Zk (Zu vL))))
theorem ZtW: DD w s₀ mg mb 306 4 ZdI:=by
 unfold DD;k_fill
 refine ZP (names:=["told","rests","met"]) (g:=ZgJ) ?_
 exact fun _ _ _ _ _ _ _ c _ _=>(Zj (ZJ (ZE vC jN ZaT) (Zk (Zu jN)) ZL) (Zj (ZC sC (cF c ZoJ (jc (Zl vC jI) Ze))) (Zj (by refine sO sL ?_ ?_ ?_;(exact(JI.range (nB c) (jc jI (jc (Zaf (nB c) (jc vC Ze) Zav) Ze))));(exact fun _ _=>(cF (Zbh c) ZtA (jc (Zl vD jI) (jc vD (jc vO Ze)))));(exact fun _ _=>JF.nil)) (Zj (ZJ (ZE jN vL ZiH) (Zk (Zu jN)) ZL) (Zk (Zu (J.tup (jc (Zl vC jI) (jc vL Ze)))))))))
theorem Zpx: DD w s₀ mg mb 114 1 Zo6:=by
 unfold DD;k_fill
 refine ZP (names:=["one","other"]) (g:=(TM.XS.g Zg5)) ?_
 exact fun _ _ _ _ _ _ _ c _ _=>(Zk (Zu (ZsR (Zbz vL jN ZaT) (ZeY (Zbz vL jN Zcg) (Zbz vL vL ZkA)))))
theorem Zrf: DD w s₀ mg mb 121 2 ZmE:=by
 unfold DD;k_fill
 refine ZP (names:=["one","other"]) (g:=(TM.XS.g Zh3)) ?_
 exact fun _ _ _ _ _ _ _ c _ _=>(Zk (Zu (Zd8 (ZaQ (cF c Zpx (jc vL (jc vL Ze)))) vL vL)))
theorem Zti: DD w s₀ mg mb 150 3 Zob:=by
 unfold DD;k_fill
 refine ZP (names:=["row","there","further"]) (g:=(TM.XS.g Zgp)) ?_
 exact fun _ _ _ _ _ _ _ c _ _=>(Zk (Zu (by refine cT ?_ ?_;(exact(JI2.zip (nB c) vL vL));(exact fun _ _=>(cF (Zbh c) Zrf (jc vO (jc (cF (Zbh c) Zfs (jc vD (jc vO Ze))) Ze)))))))
theorem ZuN: DD w s₀ mg mb 145 4 Zpb:=by
 unfold DD;k_fill
 refine ZP (names:=["bounds","mid"]) (g:=(TM.XS.g Zg9)) ?_
 exact fun _ _ _ _ _ _ _ c _ _=>(Zk (Zu (by refine cO ?_ ?_ ?_;(exact(JI.seq vC));(exact fun _ _=>(cF (Zbh c) Zti (jc vO (jc (Zl vO vD) (jc (Zl vD vD) Ze)))));(exact fun _ _=>JF.nil))))
theorem ZtB: DD w s₀ mg mb 155 1 Zom:=by
 unfold DD;k_fill
 refine ZP (names:=["bounds"]) (g:=(TM.XS.g Zgy)) ?_
 exact fun _ _ _ _ _ _ _ c _ _=>(Zk (Zu (Zaf (nB c) (jc (by refine cO ?_ ?_ ?_;(exact(JI.range (nB c) (jc (Zaf (nB c) (jc vC Ze) Zav) Ze)));(exact fun _ _=>(Zbz (Zl (Zl vD vO) vO) jI Zc0));(exact fun _ _=>JF.nil)) Ze) ZyF)))
theorem Zw9: DD w s₀ mg mb 140 5 ZfD:=by
 unfold DD;k_fill
 refine ZP (names:=["bounds","near","mid"]) (g:=(TM.XS.g Zh4)) ?_
 exact fun _ _ _ _ _ _ _ c _ _=>(Zj (ZC sL vL) (Zj (ZbS sL (JI.range (nB c) (jc (Zaf (nB c) (jc vL Ze) Zav) Ze)) (Zj (ZC sL (cF c ZuN (jc vL (jc vL Ze)))) (Zk (ZJ (ZaQ (cF c ZtB (jc vL Ze))) (Zk (Zu jN)) ZL)))) (Zk (Zu vL))))
theorem ZzH: DD w s₀ mg mb 301 6 Zd4:=by
 unfold DD;k_fill
 refine ZP (names:=["told","bounds"]) (g:=Zkn) ?_
 exact fun _ _ _ _ _ _ _ c _ _=>(Zj (ZJ (ZE vL jN ZaT) (Zk (Zu jN)) ZL) (Zj (ZC sL (cF c Zw9 (jc (Zl vL jI) Ze))) (Zj (ZJ (ZE vL jN ZaT) (Zk (Zu jN)) ZL) (Zk (Zu (J.tup (jc vL (jc (Zl vL jI) Ze))))))))
theorem Zsv: DD w s₀ mg mb 294 7 Zkp:=by
 unfold DD;k_fill
 refine ZP (names:=["told"]) (g:=Znp) ?_
 exact fun _ _ _ _ _ _ _ c _ _=>(Zk (Zu (cF c ZtW (jc (cF c ZzH (jc vL Ze)) Ze))))
theorem Zun: DD w s₀ mg mb 239 1 ZoO:=by
 unfold DD;k_fill
 refine ZP (names:=["one","top"]) (g:=(TM.XS.g ZgX)) ?_
 exact fun _ _ _ _ _ _ _ c _ _=>(Zj (ZJ (ZE (Zl vL jI) jI Zac) (Zk (Zu (Zd8 (ZE (Zl vL jI) vL ZkA) (Zl vL jI) jN))) ZL) (Zk (Zu (Zv vL (Zv (Zv vL (Zl vL jI) Za7) (Zl vL jI) ZaA) Za7))))
theorem Ztj: DD w s₀ mg mb 339 2 Zk2:=by
 unfold DD;k_fill
 refine ZP (names:=["bound","left"]) (g:=(TM.XS.g Zgq)) ?_
 exact fun _ _ _ _ _ _ _ c _ _=>(Zj (ZJ (ZE vL jN Zcg) (Zk (Zu (cF c Zun (jc vL (jc vL Ze))))) ZL) (Zj (ZJ (ZE (Zl vL jI) jI Zac) (Zk (Zu (Zl vL jI))) ZL) (Zk (Zu jN))))
theorem Zlz: DD w s₀ mg mb 211 2 Zls:=by
 unfold DD;k_fill
 refine ZP (names:=["one","k"]) (g:=(TM.XS.g ZgW)) ?_
 exact fun _ _ _ _ _ _ _ c _ _=>(Zk (Zu (cF c Zf5 (jc (Zv (Zl vL jI) (Zaf (nB c) (jc vL Ze) Zd3) Zbc) (jc (Zv (Zl vL jI) vL Zbc) Ze)))))
theorem ZtX: DD w s₀ mg mb 332 3 Zoz:=by
 unfold DD;k_fill
 refine ZP (names:=["row","left","rests","new","bound","other","low"]) (g:=Zle) ?_
 exact fun _ _ _ _ _ _ _ c _ _=>(Zj (ZC sL (J.list Ze)) (Zj (ZeF sL sL (JI2.zip (nB c) vL vL) (Zj (ZC sL (cF c Ztj (jc vL (jc (cF c ZlO (jc vL (jc (cF c Zlz (jc vL (jc (Zca jI Zb4) Ze))) Ze))) Ze)))) (Zj (ZJ (ZaY (Zbf (ZE vL jN ZaT) (Zbf (ZE vL jN Zcg) ZcU))) (Zk (Zu jN)) ZL) (Zk (Zdf (J.append vL vL)))))) (Zk (Zu vL))))
theorem Zwd: DD w s₀ mg mb 325 4 Zqi:=by
 unfold DD;k_fill
 refine ZP (names:=["told","rests","bounds"]) (g:=(TM.XS.g Zfw)) ?_
 exact fun _ _ _ _ _ _ _ c _ _=>(Zj (ZJ (ZE vL jN ZaT) (Zk (Zu jN)) ZL) (Zj (ZC sC (cF c ZoJ (jc (Zl vL jI) Ze))) (Zj (by refine sT sL ?_ ?_;(exact(JI2.zip (nB c) (Zl vL jI) vC));(exact fun _ _=>(cF (Zbh c) ZtX (jc vO (jc vO (jc vD Ze)))))) (Zj (ZJ (ZE jN vL ZiH) (Zk (Zu jN)) ZL) (Zk (Zu (J.tup (jc vL (jc (Zl vL jI) Ze)))))))))
theorem Zdy: DD w s₀ mg mb 287 8 Zj0:=by
 unfold DD;k_fill
 refine ZP (names:=["told"]) (g:=(TM.XS.g ZfN)) ?_
 exact fun _ _ _ _ _ _ _ c _ _=>(Zk (Zu (cF c Zsv (jc (cF c Zwd (jc (cF c Zsv (jc vL Ze)) Ze)) Ze))))
theorem Zft: DD w s₀ mg mb 280 3 Zl0:=by
 unfold DD;k_fill
 refine ZP (names:=["one","rests","whole","k","part"]) (g:=(TM.XS.g Zhw)) ?_
 exact fun _ _ _ _ _ _ _ c _ _=>(Zj (ZC sL (J.tup (jc jI (jc (Zl vL jI) Ze)))) (Zj (ZeF sL sL (JI2.zip (nB c) (Zke vL jI) vL) (Zk (ZC sL (cF c ZlO (jc vL (jc (cF c Zlz (jc vL (jc vL Ze))) Ze)))))) (Zk (Zu vL))))
theorem ZoK: DD w s₀ mg mb 133 1 ZoB:=by
 unfold DD;k_fill
 refine ZP (names:=["i","n"]) (g:=(TM.XS.g ZgM)) ?_
 exact fun _ _ _ _ _ _ _ c _ _=>(Zk (Zu (by refine cO ?_ ?_ ?_;(exact(JI.range (nB c) (jc (Zv vL jI Z0) Ze)));(exact fun _ _=>(Zd8 (ZE vD vO Zac) jI jN));(exact fun _ _=>JF.nil))))
theorem Zkx: DD w s₀ mg mb 26 1 Ziy:=by
 unfold DD;k_fill
 refine ZP (names:=["row","x","thing"]) (g:=Zkr) ?_
 exact fun _ _ _ _ _ _ _ c _ _=>(Zk (Zu (Zv (Zv (ZmR vL JP.none (JP.some (Zv vL jI Za7))) (J.list (jc vL Ze)) Z0) (ZmR vL (JP.some vL) JP.none) Z0)))
theorem Zvs: DD w s₀ mg mb 392 2 ZpO:=by
 unfold DD;k_fill
 refine ZP (names:=["bounds","x","loose"]) (g:=(TM.XS.g Zhy)) ?_
 exact fun _ _ _ _ _ _ _ c _ _=>(Zj (by refine sO sL ?_ ?_ ?_;(exact(JI.seq vL));(exact fun _ _=>(cF (Zbh c) Zkx (jc vO (jc (Zv vD jI Z0) (jc jN Ze)))));(exact fun _ _=>JF.nil)) (Zj (S1.put (cF c ZoK (jc vC (jc (Zv (Zaf (nB c) (jc vL Ze) Zav) jI Za7) Ze))) vL vC) (Zk (Zu vL))))
theorem Zhk: DD w s₀ mg mb 86 1 ZlK:=by
 unfold DD;k_fill
 refine ZP (names:=["end","k"]) (g:=(TM.XS.g Zhc)) ?_
 exact fun _ _ _ _ _ _ _ c _ _=>(Zj (ZJ (ZE vL jN ZaT) (Zk (Zu jN)) ZL) (Zk (Zu (Zv vL vL Zbc))))
theorem Zvt: DD w s₀ mg mb 346 2 ZpP:=by
 unfold DD;k_fill
 refine ZP (names:=["bounds","i","one"]) (g:=Zji) ?_
 exact fun _ _ _ _ _ _ _ c _ _=>(Zj (S1.put (Zl vL jI) (Zl vL vL) jI) (Zk (S1.put (cF c Zhk (jc (Zl vL jI) (jc (Zca jI Zb4) Ze))) (Zl vL jI) vL)))
theorem ZnD: DD w s₀ mg mb 387 9 ZiA:=by
 unfold DD;k_fill
 refine ZP (names:=["told","x","span","left","bounds"]) (g:=(TM.XS.g Ziz)) ?_
 exact fun _ _ _ _ _ _ _ c _ _=>(Zj (ZJ (ZE vL jN ZaT) (Zk (Zu jN)) ZL) (Zj (ZC sL (cF c Zvs (jc (Zl vL jI) (jc vL Ze)))) (Zj (Zdf (cF c Zvt (jc vL (jc vL (jc vL Ze))))) (Zk (Zu (cF c Zdy (jc (J.tup (jc vL (jc (cF c Zkx (jc (Zl vL jI) (jc vL (jc vL Ze)))) Ze))) Ze)))))))
theorem Ztk: DD w s₀ mg mb 363 1 Zod:=by
 unfold DD;k_fill
 refine ZP (names:=["one"]) (g:=(TM.XS.g Zgs)) ?_
 exact fun _ _ _ _ _ _ _ c _ _=>(Zk (Zu (Zbz (Zaf (nB c) (jc (by refine cO ?_ ?_ ?_;(exact(JI.seq (Zke vL jI)));(exact fun _ _=>vO);(exact fun _ _=>JF.one (ZE vO jI ZbK))) Ze) ZvK) (J.list (jc (Zca jI Zb4) (jc jI Ze))) Zac)))
theorem ZtC: DD w s₀ mg mb 65 2 Zop:=by
 unfold DD;k_fill
 refine ZP (names:=["one","other"]) (g:=(TM.XS.g ZgB)) ?_
 exact fun _ _ _ _ _ _ _ c _ _=>(Zk (Zu (J.tup (jc (cF c Zfs (jc (Zl vL jI) (jc (Zl vL jI) Ze))) (jc (cF c Zfs (jc (Zl vL jI) (jc (Zl vL jI) Ze))) Ze)))))
theorem Ztl: DD w s₀ mg mb 79 2 Zoc:=by
 unfold DD;k_fill
 refine ZP (names:=["one","k","lo","hi"]) (g:=(TM.XS.g Zgr)) ?_
 exact fun _ _ _ _ _ _ _ c _ _=>(Zj (ZJ (ZE vL jI Zac) (Zk (Zu (J.tup (jc jI (jc jI Ze))))) ZL) (Zj (ZC sL (cF c Zhk (jc (Zl vL jI) (jc vL Ze)))) (Zj (ZC sL (cF c Zhk (jc (Zl vL jI) (jc vL Ze)))) (Zj (ZJ (ZE vL jI Zc0) (Zk (Zu (J.tup (jc vL (jc vL Ze))))) ZL) (Zk (Zu (J.tup (jc vL (jc vL Ze)))))))))
theorem ZtY: DD w s₀ mg mb 273 3 ZoA:=by
 unfold DD;k_fill
 refine ZP (names:=["one","stretches","whole","k","part"]) (g:=(TM.XS.g ZgL)) ?_
 exact fun _ _ _ _ _ _ _ c _ _=>(Zj (ZC sL (J.tup (jc (Zl vL jI) (jc (Zl vL jI) Ze)))) (Zj (ZeF sL sL (JI2.zip (nB c) (Zke vL jI) vL) (Zk (ZC sL (cF c ZtC (jc vL (jc (cF c Ztl (jc vL (jc vL Ze))) Ze)))))) (Zk (Zu vL))))
theorem ZtD: DD w s₀ mg mb 351 2 Zoq:=by
 unfold DD;k_fill
 refine ZP (names:=["told","bounds"]) (g:=(TM.XS.g ZgC)) ?_
 exact fun _ _ _ _ _ _ _ c _ _=>(Zj (ZC sC (Zl vL jI)) (Zk (Zu (by refine cO ?_ ?_ ?_;(exact(JI.range (nB c) (jc jI (jc (Zaf (nB c) (jc vC Ze) Zav) Ze))));(exact fun _ _=>(J.tup (jc (cF (Zbh c) Zhk (jc (Zl (Zl vD jI) vO) (jc (Zca jI Zb4) Ze))) (jc (Zl (Zl vD vO) jI) Ze))));(exact fun _ _=>JF.nil)))))
theorem ZhL: DD w s₀ mg mb 358 4 Zl5:=by
 unfold DD;k_fill
 refine ZP (names:=["told","one"]) (g:=(TM.XS.g ZhA)) ?_
 exact fun _ _ _ _ _ _ _ c _ _=>(Zj (ZJ (ZaQ (cF c Ztk (jc vL Ze))) (Zk (Zu (cF c Zfs (jc (Zl (Zl (Zl vL jI) (J.index vL jI jI)) (J.index vL (Zca jI Zb4) jI)) (jc (Zl vL jI) Ze))))) ZL) (Zk (Zu (Zl (cF c ZtY (jc vL (jc (cF c ZtD (jc vL Ze)) Ze))) jI))))
theorem Zvu: DD w s₀ mg mb 254 1 ZpQ:=by
 unfold DD;k_fill
 refine ZP (names:=["one","other"]) (g:=(TM.XS.g ZhD)) ?_
 exact fun _ _ _ _ _ _ _ c _ _=>(Zk (Zu (by refine cT ?_ ?_;(exact(JI2.zip (nB c) vL vL));(exact fun _ _=>(Zv vO vO Z0)))))
theorem Zep: DD w s₀ mg mb 259 1 ZlL:=by
 unfold DD;k_fill
 refine ZP (names:=["one","k"]) (g:=(TM.XS.g Zhe)) ?_
 exact fun _ _ _ _ _ _ _ c _ _=>(Zk (Zu (by refine cO ?_ ?_ ?_;(exact(JI.seq vL));(exact fun _ _=>(Zv vO vD Zbc));(exact fun _ _=>JF.nil))))
theorem Zjr: DD w s₀ mg mb 266 2 Zl7:=by
 unfold DD;k_fill
 refine ZP (names:=["one","other"]) (g:=(TM.XS.g ZhE)) ?_
 exact fun _ _ _ _ _ _ _ c _ _=>(Zk (Zu (cF c Zvu (jc vL (jc (cF c Zep (jc vL (jc (Zca jI Zb4) Ze))) Ze)))))
theorem Zuo: DD w s₀ mg mb 380 5 ZoP:=by
 unfold DD;k_fill
 refine ZP (names:=["told","one","others"]) (g:=(TM.XS.g ZgY)) ?_
 exact fun _ _ _ _ _ _ _ c _ _=>(Zk (Zu (by refine cO ?_ ?_ ?_;(exact(JI.seq vL));(exact fun _ _=>(cF (Zbh c) ZhL (jc vD (jc (cF (Zbh c) Zjr (jc vD (jc vO Ze))) Ze))));(exact fun _ _=>JF.nil))))
theorem Zey: DD w s₀ mg mb 244 1 Zfy:=by
 unfold DD;k_fill
 refine ZP (names:=["i","n"]) (g:=(TM.XS.g ZhW)) ?_
 exact fun _ _ _ _ _ _ _ c _ _=>(Zk (Zu (by refine cO ?_ ?_ ?_;(exact(JI.range (nB c) (jc (Zv vL jI Z0) Ze)));(exact fun _ _=>(Zd8 (ZaY (Zbf (ZE vD jI ZeZ) (Zbf (ZE vO vD Zac) ZcU))) jI jI));(exact fun _ _=>JF.nil))))
theorem ZmQ: DD w s₀ mg mb 375 9 Zh6:=by
 unfold DD;k_fill
 refine ZP (names:=["told","sums","all_sums","bounds","rests"]) (g:=(TM.XS.g ZfF)) ?_
 exact fun _ _ _ _ _ _ _ c _ _=>(Zj (ZJ (ZE vC jN ZaT) (Zk (Zu jN)) ZL) (Zj (ZC sC (Zv (J.list (jc (cF c Zey (jc jI (jc (Zaf (nB c) (jc (Zl vC jI) Ze) Zav) Ze))) Ze)) vL Z0)) (Zj (by refine sO sL ?_ ?_ ?_;(exact(JI.seq vC));(exact fun _ _=>(cF (Zbh c) Zuo (jc vD (jc vO (jc vD Ze)))));(exact fun _ _=>JF.nil)) (Zj (by refine sO sL ?_ ?_ ?_;(exact(JI.seq vL));(exact fun _ _=>(cF (Zbh c) Zft (jc vO (jc (Zl vD jI) Ze))));(exact fun _ _=>JF.nil)) (Zk (Zu (cF c Zdy (jc (J.tup (jc vL (jc vL Ze))) Ze))))))))
theorem ZrY: DD w s₀ mg mb 370 5 Zm4:=by
 unfold DD;k_fill
 refine ZP (names:=["told","one"]) (g:=(TM.XS.g ZfP)) ?_
 exact fun _ _ _ _ _ _ _ c _ _=>(Zk (Zu (cF c Zhk (jc (cF c ZhL (jc vL (jc (cF c Zep (jc vL (jc (Zca jI Zb4) Ze))) Ze))) (jc (Zca jI Zb4) Ze)))))
theorem Zi5: DD w s₀ mg mb 100 1 Zi3:=by
 unfold DD;k_fill
 refine ZP (names:=["end","k"]) (g:=(TM.XS.g Zg1)) ?_
 exact fun _ _ _ _ _ _ _ c _ _=>(Zj (ZJ (ZE vL jN ZaT) (Zk (Zu jN)) ZL) (Zk (Zu (Zv vL vL ZcH))))
theorem Zoa: DD w s₀ mg mb 93 2 ZkZ:=by
 unfold DD;k_fill
 refine ZP (names:=["one","k"]) (g:=(TM.XS.g Zgl)) ?_
 exact fun _ _ _ _ _ _ _ c _ _=>(Zk (Zu (J.tup (jc (cF c Zi5 (jc (Zl vL jI) (jc vL Ze))) (jc (cF c Zi5 (jc (Zl vL jI) (jc vL Ze))) Ze)))))
theorem Zs5: DD w s₀ mg mb 107 3 Zk0:=by
 unfold DD;k_fill
 refine ZP (names:=["one","k","parts"]) (g:=(TM.XS.g Zgn)) ?_
 exact fun _ _ _ _ _ _ _ c _ _=>(Zj (ZC sL (cF c Zoa (jc vL (jc vL Ze)))) (Zj (ZJ (ZaY (Zbf (ZE (Zl vL jI) jN Zcg) (Zbf (ZE (Zl vL jI) (Zl vL jI) Zac) ZcU))) (Zk (Zu (J.tup (jc (Zv (Zl vL jI) vL ZaA) (jc (Zv (Zl vL jI) vL ZaA) Ze))))) ZL) (Zk (Zu (J.tup (jc jI (jc (Zv vL jI Za7) Ze)))))))
theorem ZtZ: DD w s₀ mg mb 225 2 Zlm:=by
 unfold DD;k_fill
 refine ZP (names:=["one","k","common"]) (g:=(TM.XS.g ZgP)) ?_
 exact fun _ _ _ _ _ _ _ c _ _=>(Zj (ZC sL (cF c Zjz (jc (Zl vL jI) (jc vL Ze)))) (Zj (ZJ (ZE vL vL Zac) (Zk (Zu (J.tup (jc jI (jc (Zv (Zl vL jI) vL ZaA) Ze))))) ZL) (Zk (Zu (cF c Zf5 (jc vL (jc (Zl vL jI) Ze)))))))
theorem Zt0: DD w s₀ mg mb 218 2 Zln:=by
 unfold DD;k_fill
 refine ZP (names:=["one","k"]) (g:=(TM.XS.g ZgR)) ?_
 exact fun _ _ _ _ _ _ _ c _ _=>(Zj (ZJ (ZE (Zv (Zl vL jI) vL ZaA) jI Zac) (Zk (Zu (cF c Zf5 (jc (Zv (Zl vL jI) vL ZcH) (jc (Zv (Zl vL jI) vL ZcH) Ze))))) ZL) (Zk (Zu (J.tup (jc jI (jc jI Ze))))))
theorem Zmg: DD w s₀ mg mb 249 2 ZhG:=by
 unfold DD;k_fill
 refine ZP (names:=["many","n"]) (g:=(TM.XS.g ZhF)) ?_
 exact fun _ _ _ _ _ _ _ c _ _=>(Zk (Zu (by refine cO ?_ ?_ ?_;(exact(JI.range (nB c) (jc jI (jc (Zv vL jI Z0) Ze))));(exact fun _ _=>(cF (Zbh c) Zey (jc vO (jc vD Ze))));(exact fun _ _=>JF.nil))))
theorem Zwe: DD w s₀ mg mb 521 10 Zqn:=by
 unfold DD;k_fill
 refine ZP (names:=["told","act","n","span","left"]) (g:=Zms) ?_
 exact fun _ _ _ _ _ _ _ c _ _=>(Zj (ZJ (ZE (Zl vL jI) jS Zac) (Zj (ZC sL (Zaf (nB c) (jc (Zl vL jI) Ze) Zav)) (Zk (Zu (cF c ZmQ (jc vL (jc (cF c Zkx (jc (cF c Zmg (jc vL (jc vL Ze))) (jc (Zl vL jI) (jc (Zl vL jI) Ze)))) Ze)))))) ZL) (Zj (ZJ (ZE (Zl vL jI) jS Zac) (Zk (Zu (cF c ZnD (jc vL (jc (Zl vL jI) (jc (J.tup (jc (Zl vL jI) (jc (Zl vL jI) Ze))) (jc (J.tup (jc jI (jc jI Ze))) Ze))))))) ZL) (Zj (ZC sL (J.tup (jc (cF c ZrY (jc vL (jc (Zl vL jI) Ze))) (jc (cF c ZhL (jc vL (jc (Zl vL jI) Ze))) Ze)))) (Zj (ZC sL (cF c Zft (jc (Zl vL jI) (jc (Zl vL jI) Ze)))) (Zj (ZJ (ZE (Zl vL jI) jS Zac) (Zk (Zu (cF c ZnD (jc vL (jc (Zl vL jI) (jc (cF c Zoa (jc vL (jc (Zl vL jI) Ze))) (jc (cF c Zt0 (jc vL (jc (Zl vL jI) Ze))) Ze))))))) ZL) (Zk (Zu (cF c ZnD (jc vL (jc (Zl vL jI) (jc (cF c Zs5 (jc vL (jc (Zl vL jI) Ze))) (jc (cF c ZtZ (jc vL (jc (Zl vL jI) Ze))) Ze))))))))))))
theorem Zrg: ∀n:Nat,Def PySem.Challenge.rw_seer_k57_wider_stays_wider.row.prog w (head.heap_39 w.params) head.view_39 (looseW head.view_39 []) (ExcName.means s₀.heap) mg mb 19 (n) (ZfE n)
 | 0=>ZwM
 | n+1=>by
  have ih:=Zrg n
  k_fill
  refine' Zr0 (names:=["thing"]) (n:=1) (room:=n) (g:=Zm3 (ZfE n)) (ho:=?ho) (hcd:=?hcd) (nd:=by decide) (hn:=by decide) (hbind:=?hb) (hkinds:=?hk) (hone:=?h1) (hco:=?z1) (hgen:=?z2) (hk:=?z3) (hbody:=?hbody)
  case ho=>k_is
  case z1=>rfl
  case z2=>rfl
  case z3=>rfl
  case hcd=>k_is
  case hb=>intro s xs hx;match xs,hx with | [x0],_=>exact BindsTo.of_eq rfl
  case hk=>decide
  case h1=>decide +kernel
  case hbody=>
   intro dp un gd L outer h₀ hu clr hd1 hu1
   exact(Zj (ZJ (ZaQ (Zds (nB clr) (nB clr) (.inr (.inr (.inl rfl))) vL)) (Zk (Zu (by refine cO ?_ ?_ ?_;(exact(JI.seq vL));(exact fun _ _=>(cF (Zbh clr) ih (jc vO Ze)));(exact fun _ _=>JF.nil)))) ZL) (Zj (ZJ (ZaQ (Zds (nB clr) (nB clr) (.inr (.inr (.inr rfl))) vL)) (Zk (Zu (ZeD (nB clr) (jc (by refine cO ?_ ?_ ?_;(exact(JI.seq vL));(exact fun _ _=>(cF (Zbh clr) ih (jc vO Ze)));(exact fun _ _=>JF.nil)) Ze) ZvD))) ZL) (Zk (Zu vL))))
theorem Zkd: Def PySem.Challenge.rw_seer_k57_wider_stays_wider.row.prog w (head.heap_39 w.params) head.view_39 (looseW head.view_39 []) (ExcName.means s₀.heap) mg mb 19 9 Zrw:=Zrg 9
theorem Zjs: DD w s₀ mg mb 128 3 Zhz:=by
 unfold DD;k_fill
 refine ZP (names:=["bounds","i","j","bound"]) (g:=Zjj) ?_
 exact fun _ _ _ _ _ _ _ c _ _=>(Zk (S1.put (cF c Zrf (jc (Zl (Zl vL vL) vL) (jc vL Ze))) (Zl vL vL) vL))
theorem ZoY: DD w s₀ mg mb 446 5 Zi2:=by
 unfold DD;k_fill
 refine ZP (names:=["told","part","one","top"]) (g:=(TM.XS.g ZgZ)) ?_
 exact fun _ _ _ _ _ _ _ c _ _=>(Zk (Zu (cF c Zfs (jc (cF c ZhL (jc vL (jc (cF c Zjr (jc vL (jc vL Ze))) Ze))) (jc vL Ze)))))
theorem Zt1: DD w s₀ mg mb 432 6 ZoD:=by
 unfold DD;k_fill
 refine ZP (names:=["bounds","told","one","top","n","i","j","apart"]) (g:=ZiV) ?_
 exact fun _ _ _ _ _ _ _ c _ _=>(Zj (ZC sL (Zaf (nB c) (jc (Zl vL jI) Ze) Zav)) (Zk (ZbS sL (JI.range (nB c) (jc (Zv vL jI Z0) Ze)) (Zk (ZbS sL (JI.range (nB c) (jc (Zv vL jI Z0) Ze)) (Zj (ZC sL (cF c Zjr (jc (cF c Zey (jc vL (jc vL Ze))) (jc (cF c Zey (jc vL (jc vL Ze))) Ze)))) (Zk (Zdf (cF c Zjs (jc vL (jc vL (jc vL (jc (cF c ZoY (jc vL (jc vL (jc vL (jc vL Ze))))) Ze)))))))))))))
theorem Zt2: DD w s₀ mg mb 439 6 ZoE:=by
 unfold DD;k_fill
 refine ZP (names:=["bounds","told","one","top","n","i","k","bound"]) (g:=ZiW) ?_
 exact fun _ _ _ _ _ _ _ c _ _=>(Zj (ZC sL (Zaf (nB c) (jc (Zl vL jI) Ze) Zav)) (Zk (ZbS sL (JI.range (nB c) (jc jI (jc (Zv vL jI Z0) Ze))) (Zj (ZC sL (Zl vL vL)) (Zj (ZC sL (cF c ZoY (jc vL (jc (cF c Zep (jc (cF c Zey (jc vL (jc vL Ze))) (jc vL Ze))) (jc vL (jc vL Ze)))))) (Zj (ZJ (ZE vL jI ZeZ) (Zk (Zdf (cF c Zjs (jc vL (jc vL (jc jI (jc (cF c Zi5 (jc vL (jc vL Ze))) Ze))))))) ZL) (Zk (ZJ (ZE vL jI Zc0) (Zk (Zdf (cF c Zjs (jc vL (jc jI (jc vL (jc (cF c Zi5 (jc vL (jc (Zca vL Zb4) Ze))) Ze))))))) ZL))))))))
theorem Zwf: DD w s₀ mg mb 58 1 Zqj:=by
 unfold DD;k_fill
 refine ZP (names:=["lo","hi"]) (g:=(TM.XS.g ZhR)) ?_
 exact fun _ _ _ _ _ _ _ c _ _=>(Zk (Zu (Zsa (Zbz vL jN Zcg) (ZeY (Zbz vL jN Zcg) (Zbz vL vL ZeZ)))))
theorem Zh2: DD w s₀ mg mb 425 10 Zqm:=by
 unfold DD;k_fill
 refine ZP (names:=["told","one","top","bounds"]) (g:=(TM.XS.g Zev)) ?_
 exact fun _ _ _ _ _ _ _ c _ _=>(Zj (ZJ (ZaY (ZaE (ZE vL jN ZaT) (ZaE (ZaQ (cF c Zwf (jc (cF c ZrY (jc vL (jc vL Ze))) (jc vL Ze)))) Zb1))) (Zk (Zu jN)) ZL) (Zj (ZC sL (cF c Zkd (jc (Zl vL jI) Ze))) (Zj (Zdf (cF c Zt1 (jc vL (jc vL (jc vL (jc vL Ze)))))) (Zj (Zdf (cF c Zt2 (jc vL (jc vL (jc vL (jc vL Ze)))))) (Zk (Zu (cF c Zdy (jc (J.tup (jc vL (jc (Zl vL jI) Ze))) Ze))))))))
theorem Zup: DD w s₀ mg mb 460 11 ZoR:=by
 unfold DD;k_fill
 refine ZP (names:=["told","one","truth"]) (g:=(TM.XS.g Zfg)) ?_
 exact fun _ _ _ _ _ _ _ c _ _=>(Zj (ZJ (ZaQ vL) (Zk (Zu (cF c Zh2 (jc vL (jc vL (jc (Zca jI Zb4) Ze)))))) ZL) (Zk (Zu (cF c Zh2 (jc vL (jc (cF c Zep (jc vL (jc (Zca jI Zb4) Ze))) (jc jI Ze)))))))
theorem Zok: DD w s₀ mg mb 232 2 Zoe:=by
 unfold DD;k_fill
 refine ZP (names:=["one","k"]) (g:=(TM.XS.g Zgt)) ?_
 exact fun _ _ _ _ _ _ _ c _ _=>(Zk (Zu (cF c Zf5 (jc (cF c Zjz (jc (Zl vL jI) (jc vL Ze))) (jc (Zl vL jI) Ze)))))
theorem Zt3: DD w s₀ mg mb 507 4 ZoF:=by
 unfold DD;k_fill
 refine ZP (names:=["rests","one","d","i","k","left","others"]) (g:=(TM.XS.g ZgO)) ?_
 exact fun _ _ _ _ _ _ _ c _ _=>(Zj (ZC sL (Zl vL vL)) (Zj (ZC sL (Zl vL (Zv vL jI Za7))) (Zj (ZJ (ZE (Zaf (nB c) (jc vL Ze) Zd3) jI ZbK) (Zk (Zu vL)) ZL) (Zj (ZC sL (cF c Zjr (jc vL (jc (cF c Zep (jc (cF c Zey (jc vL (jc (Zaf (nB c) (jc vL Ze) Zav) Ze))) (jc vL Ze))) Ze)))) (Zk (Zu (cF c Zmf (jc vL (jc (cF c Zok (jc (cF c Zlz (jc (cF c Zft (jc vL (jc vL Ze))) (jc (Zca vL Zb4) Ze))) (jc vL Ze))) Ze)))))))))
theorem Zpy: DD w s₀ mg mb 500 9 Zph:=by
 unfold DD;k_fill
 refine ZP (names:=["told","one","d","rests"]) (g:=(TM.XS.g Zfk)) ?_
 exact fun _ _ _ _ _ _ _ c _ _=>(Zj (ZJ (ZE vC jN ZaT) (Zk (Zu jN)) ZL) (Zj (by refine sO sL ?_ ?_ ?_;(exact(JI.range (nB c) (jc jI (jc (Zaf (nB c) (jc vC Ze) Zav) Ze))));(exact fun _ _=>(cF (Zbh c) Zt3 (jc (Zl vD jI) (jc vD (jc vD (jc vO Ze))))));(exact fun _ _=>JF.nil)) (Zj (ZJ (ZE jN vL ZiH) (Zk (Zu jN)) ZL) (Zk (Zu (cF c Zdy (jc (J.tup (jc (Zl vC jI) (jc vL Ze))) Ze)))))))
theorem Zpz: DD w s₀ mg mb 488 10 Zpj:=by
 unfold DD;k_fill
 refine ZP (names:=["told","one","d"]) (g:=(TM.XS.g Zfl)) ?_
 exact fun _ _ _ _ _ _ _ c _ _=>(Zj (ZJ (ZbR (ZaQ (cF c ZhK (jc (cF c Zok (jc (cF c Zft (jc vL (jc (Zl vL jI) Ze))) (jc vL Ze))) (jc jI Ze))))) (Zk (Zu jN)) ZL) (Zk (Zu (cF c Zpy (jc vL (jc vL (jc vL Ze)))))))
theorem Zt4: DD w s₀ mg mb 190 2 Zox:=by
 unfold DD;k_fill
 refine ZP (names:=["one","other"]) (g:=(TM.XS.g ZgE)) ?_
 exact fun _ _ _ _ _ _ _ c _ _=>(Zj (ZJ (ZE (Zl vL jI) jI Zac) (Zk (Zu (Zbz vL vL Zac))) ZL) (Zk (Zu (ZeY (Zbz (Zv (Zl vL jI) (Zl vL jI) ZaA) jI Zac) (cF c ZhK (jc vL (jc (Zl vL jI) Ze)))))))
theorem Ztm: DD w s₀ mg mb 495 11 Zog:=by
 unfold DD;k_fill
 refine ZP (names:=["told","one","d"]) (g:=(TM.XS.g Zej)) ?_
 exact fun _ _ _ _ _ _ _ c _ _=>(Zj (ZJ (ZaQ (cF c Zt4 (jc (cF c Zft (jc vL (jc (Zl vL jI) Ze))) (jc (J.tup (jc vL (jc jI Ze))) Ze)))) (Zk (Zu jN)) ZL) (Zj (ZJ (ZE vL jI Zac) (Zk (Zu (cF c Zpz (jc vL (jc (Zv (J.list (jc (Zv (Zl vL jI) jI Z0) Ze)) (Zke vL jI) Z0) (jc jI Ze)))))) ZL) (Zk (Zu (cF c Zkd (jc vL Ze))))))
theorem ZuO: DD w s₀ mg mb 467 11 Zpl:=by
 unfold DD;k_fill
 refine ZP (names:=["told","one","held"]) (g:=(TM.XS.g Zhh)) ?_
 exact fun _ _ _ _ _ _ _ c _ _=>(Zj (ZJ (ZbR (ZaQ (cF c ZhK (jc (cF c Zft (jc vL (jc (Zl vL jI) Ze))) (jc jI Ze))))) (Zk (Zu jN)) ZL) (Zj (ZC sL (cF c Zh2 (jc (cF c Zh2 (jc vL (jc vL (jc jI Ze)))) (jc (cF c Zep (jc vL (jc (Zca jI Zb4) Ze))) (jc jI Ze))))) (Zk (Zu (cF c Zpy (jc vL (jc vL (jc jI Ze))))))))
theorem Zp6: DD w s₀ mg mb 481 11 ZpR:=by
 unfold DD;k_fill
 refine ZP (names:=["told","one"]) (g:=(TM.XS.g Zeq)) ?_
 exact fun _ _ _ _ _ _ _ c _ _=>(Zj (ZJ (ZaY (Zbf (ZE vL jN Zcg) (Zbf (ZaQ (cF c Zpx (jc (cF c ZhL (jc vL (jc vL Ze))) (jc jI Ze)))) ZcU))) (Zk (Zu (cF c Zh2 (jc vL (jc vL (jc (Zca jI Zb4) Ze)))))) ZL) (Zk (Zu vL)))
theorem Ztn: DD w s₀ mg mb 474 12 Zoh:=by
 unfold DD;k_fill
 refine ZP (names:=["told","one"]) (g:=(TM.XS.g Zgu)) ?_
 exact fun _ _ _ _ _ _ _ c _ _=>(Zk (Zu (cF c Zkd (jc (cF c Zp6 (jc (cF c Zp6 (jc vL (jc vL Ze))) (jc (cF c Zep (jc vL (jc (Zca jI Zb4) Ze))) Ze))) Ze))))
theorem ZzI: DD w s₀ mg mb 453 13 Zsf:=by
 unfold DD;k_fill
 refine ZP (names:=["told","claim","truth"]) (g:=(TM.XS.g ZeT)) ?_
 exact fun _ _ _ _ _ _ _ c _ _=>(Zj (ZJ (ZE vL jN ZaT) (Zk (Zu jN)) ZL) (Zj (ZJ (ZE (Zl vL jI) jS Zac) (Zk (Zu (cF c Zup (jc vL (jc (Zl vL jI) (jc vL Ze)))))) ZL) (Zj (ZJ (ZE (Zl vL jI) jS Zac) (Zk (Zu (Zd8 (ZaQ vL) (cF c ZuO (jc vL (jc (Zl vL jI) Ze))) (cF c Ztn (jc vL (jc (Zl vL jI) Ze)))))) ZL) (Zk (Zu (Zd8 (ZaQ vL) (cF c Zpz (jc vL (jc (Zl vL jI) (jc (Zl vL jI) Ze)))) (cF c Ztm (jc vL (jc (Zl vL jI) (jc (Zl vL jI) Ze))))))))))
theorem Zs6: DD w s₀ mg mb 411 10 Zn5:=by
 unfold DD;k_fill
 refine ZP (names:=["bounds","at","other","new","i","row","j","bound"]) (g:=(TM.XS.g Zgk)) ?_
 exact fun _ _ _ _ _ _ _ c _ _=>(Zj (ZC sL (cF c Zkd (jc vL Ze))) (Zj (ZeF sL sL (JI2.zip (nB c) vL vL) (Zk (ZeF sL sL (JI2.zip (nB c) vL vL) (Zk (Zdf (cF c Zjs (jc vL (jc vL (jc vL (jc vL Ze)))))))))) (Zk (Zu vL))))
theorem Zwg: DD w s₀ mg mb 404 11 Zmo:=by
 unfold DD;k_fill
 refine ZP (names:=["told","at","other","rests","i","left"]) (g:=(TM.XS.g ZhV)) ?_
 exact fun _ _ _ _ _ _ _ c _ _=>(Zj (ZC sL (ZeD (nB c) (jc (Zl vL jI) Ze) ZfC)) (Zj (ZeF sL sL (JI2.zip (nB c) vL (Zl vL jI)) (Zk (S1.put (cF c Zmf (jc (Zl vL (Zv vL jI Za7)) (jc vL Ze))) vL (Zv vL jI Za7)))) (Zj (ZJ (ZE jN vL ZiH) (Zk (Zu jN)) ZL) (Zk (Zu (J.tup (jc (cF c Zs6 (jc (Zl vL jI) (jc (Zv (J.list (jc jI Ze)) vL Z0) (jc (Zl vL jI) Ze)))) (jc vL Ze))))))))
theorem Zwh: DD w s₀ mg mb 397 2 Zmn:=by
 unfold DD;k_fill
 refine ZP (names:=["told","more","n","bounds","new"]) (g:=(TM.XS.g ZhT)) ?_
 exact fun _ _ _ _ _ _ _ c _ _=>(Zj (ZC sC (Zaf (nB c) (jc (Zl vL jI) Ze) Zav)) (Zj (by refine sO sL ?_ ?_ ?_;(exact(JI.seq (Zl vL jI)));(exact fun _ _=>(Zv vO (Zv (J.list (jc jN Ze)) vD Zbc) Z0));(exact fun _ _=>JF.nil)) (Zj (by refine sO sL ?_ ?_ ?_;(exact(JI.range (nB c) (jc (Zv vC jI Z0) (jc (Zv (Zv vC vC Z0) jI Z0) Ze))));(exact fun _ _=>(cF (Zbh c) ZoK (jc vO (jc (Zv vD vD Z0) Ze))));(exact fun _ _=>JF.nil)) (Zk (Zu (J.tup (jc (Zv vL vL Z0) (jc (Zv (Zl vL jI) (Zv (J.list (jc (J.tup (jc jI (jc jI Ze))) Ze)) vC Zbc) Z0) Ze))))))))
theorem Zvv: DD w s₀ mg mb 418 12 ZpT:=by
 unfold DD;k_fill
 refine ZP (names:=["told","x","row","summary","sharpened","n","answer","given","both"]) (g:=Zl9) ?_
 exact fun _ _ _ _ _ _ _ c _ _=>(Zj (ZC sL (cF c Zdy (jc vL Ze))) (Zj (ZJ (ZaY (ZaE (ZE vL jN ZaT) (ZaE (ZE vL jN ZaT) Zb1))) (Zk (Zu jN)) ZL) (Zj (ZC sL (Zaf (nB c) (jc (Zl vL jI) Ze) Zav)) (Zj (ZC sL (Zv (Zv vL (Zaf (nB c) (jc vL Ze) Zav) Z0) jI Z0)) (Zj (ZC sL (cF c ZmQ (jc vL (jc (Zv (cF c Zmg (jc vL (jc vL Ze))) vL Z0) Ze)))) (Zj (ZJ (ZE vL jN ZaT) (Zk (Zu jN)) ZL) (Zj (ZC sL (cF c Zdy (jc (cF c Zwg (jc (cF c Zwh (jc vL (jc jI Ze))) (jc (ZxS (nB c) (nB c) (jc (Zv vL jI Z0) (jc (Zv vL jI Z0) Ze))) (jc vL Ze)))) Ze))) (Zk (Zu (cF c ZmQ (jc vL (jc (cF c Zkx (jc (cF c Zmg (jc vL (jc vL Ze))) (jc vL (jc (cF c Zey (jc vL (jc vL Ze))) Ze)))) Ze))))))))))))
theorem ZqD: DD w s₀ mg mb 514 14 Zqo:=by
 unfold DD;k_fill
 refine ZP (names:=["told","act","summaries","sharpened"]) (g:=(TM.XS.g ZcV)) ?_
 exact fun _ _ _ _ _ _ _ c _ _=>(Zj (ZC sL (cF c Zdy (jc vL Ze))) (Zj (ZJ (ZaY (ZaE (ZE vL jN ZaT) (ZaE (ZE (Zl vL jI) (J.tup (jc jS (jc jS Ze))) ZiH) Zb1))) (Zk (Zu vL)) ZL) (Zj (ZJ (ZE (Zl vL jI) jS Zac) (Zk (Zu (cF c ZzI (jc vL (jc (Zl vL jI) (jc (Zl vL jI) Ze)))))) ZL) (Zj (ZJ (ZE (Zl vL jI) jS Zac) (Zk (Zu (cF c Zvv (jc vL (jc (Zl vL jI) (jc (Zl vL jI) (jc (Zl vL (Zl vL jI)) Ze))))))) ZL) (Zk (Zu (cF c Zwe (jc vL (jc vL Ze)))))))))
theorem Zp7: DD w s₀ mg mb 573 1 ZpH:=by
 unfold DD;k_fill
 refine ZP (names:=["_law_told_here"]) (g:=ZlT) ?_
 exact fun _ _ _ _ _ _ _ c _ _=>(Zj (ZJ (ZE vL jN ZaT) (Zk (Zu jN)) ZL) (Zk (Zu (J.tup (jc (by refine cO ?_ ?_ ?_;(exact(JI.seq (Zl vL jI)));(exact fun _ _=>(ZeD (nB (Zbh c)) (jc vO Ze) ZfC));(exact fun _ _=>JF.nil)) (jc (ZeD (nB c) (jc (Zl vL jI) Ze) ZfC) Ze))))))
theorem ZlP: DD w s₀ mg mb 604 1 Zpd:=by
 unfold DD;k_fill
 refine ZP (names:=["_law_thing"]) (g:=(TM.XS.g Zha)) ?_
 exact fun _ _ _ _ _ _ _ c _ _=>(Zk (Zu (ZeY (Zds (nB c) (nB c) (.inl rfl) vL) (ZzJ (Zds (nB c) (nB c) (.inr (.inl rfl)) vL)))))
theorem Zvw: DD w s₀ mg mb 611 2 ZpM:=by
 unfold DD;k_fill
 refine ZP (names:=["_law_thing","_law_size","_law_i","_law_top"]) (g:=(TM.XS.g Zhv)) ?_
 exact fun _ _ _ _ _ _ _ c _ _=>(Zj (ZJ (ZaY (ZaE (ZbR (ZaQ (Zds (nB c) (nB c) (.inr (.inr (.inl rfl))) vL))) (ZaE (ZE (Zaf (nB c) (jc vL Ze) Zav) vL ZbK) Zb1))) (Zk (Zu jB)) ZL) (Zj (ZbS sL (JI.range (nB c) (jc vL Ze)) (Zj (ZJ (ZaY (ZaE (ZbR (ZaQ (Zds (nB c) (nB c) (.inr (.inr (.inl rfl))) (Zl vL vL)))) (ZaE (ZE (Zaf (nB c) (jc (Zl vL vL) Ze) Zav) vL ZbK) Zb1))) (Zk (Zu jB)) ZL) (Zj (ZbS sL (JI.seq (Zl vL vL)) (Zk (ZJ (ZaY (Zbf (ZE vL jN Zcg) (Zbf (ZbR (ZaQ (cF c ZlP (jc vL Ze)))) ZcU))) (Zk (Zu jB)) ZL))) (Zk (ZJ (ZE (Zl (Zl vL vL) vL) jI ZbK) (Zk (Zu jB)) ZL))))) (Zk (Zu jB))))
theorem ZuP: DD w s₀ mg mb 618 3 Zpe:=by
 unfold DD;k_fill
 refine ZP (names:=["_law_thing","_law_many","_law_pair"]) (g:=(TM.XS.g Zhb)) ?_
 exact fun _ _ _ _ _ _ _ c _ _=>(Zj (ZJ (ZaY (ZaE (ZbR (ZaQ (Zds (nB c) (nB c) (.inr (.inr (.inr rfl))) vL))) (ZaE (ZE (Zaf (nB c) (jc vL Ze) Zav) jI ZbK) (ZaE (ZbR (ZaQ (cF c Zvw (jc (Zl vL jI) (jc (Zv vL jI Z0) Ze))))) Zb1)))) (Zk (Zu jB)) ZL) (Zj (ZJ (ZaY (ZaE (ZbR (ZaQ (Zds (nB c) (nB c) (.inr (.inr (.inl rfl))) (Zl vL jI)))) (ZaE (ZE (Zaf (nB c) (jc (Zl vL jI) Ze) Zav) vL ZbK) Zb1))) (Zk (Zu jB)) ZL) (Zj (ZbS sL (JI.seq (Zl vL jI)) (Zj (ZJ (ZaY (ZaE (ZbR (ZaQ (Zds (nB c) (nB c) (.inr (.inr (.inr rfl))) vL))) (ZaE (ZE (Zaf (nB c) (jc vL Ze) Zav) jI ZbK) Zb1))) (Zk (Zu jB)) ZL) (Zj (ZJ (ZaY (ZaE (ZbR (ZaQ (cF c ZlP (jc (Zl vL jI) Ze)))) (ZaE (ZbR (ZaQ (cF c ZlP (jc (Zl vL jI) Ze)))) Zb1))) (Zk (Zu jB)) ZL) (Zk (ZJ (ZaY (ZaE (ZE (Zl vL jI) jI Zc0) (ZaE (ZaY (Zbf (ZE (Zl vL jI) jI ZeZ) (Zbf (ZbR (ZwE jI (Zl vL jI) (Zl vL jI) ZkA Zc0)) ZcU))) Zb1))) (Zk (Zu jB)) ZL))))) (Zk (Zu jB)))))
theorem Zp8: DD w s₀ mg mb 679 4 ZpV:=by
 unfold DD;k_fill
 refine ZP (names:=["_law_found","_law_many"]) (g:=(TM.XS.g ZhJ)) ?_
 exact fun _ _ _ _ _ _ _ c _ _=>(Zk (Zu (ZsR (Zbz vL jN ZaT) (cF c ZuP (jc vL (jc vL Ze))))))
theorem Zt5: DD w s₀ mg mb 632 1 Zoy:=by
 unfold DD;k_fill
 refine ZP (names:=["_law_one","_law_other"]) (g:=(TM.XS.g ZgF)) ?_
 exact fun _ _ _ _ _ _ _ c _ _=>(Zj (ZJ (ZE (Zl vL jI) jI Zac) (Zk (Zu (Zbz vL vL Zac))) ZL) (Zk (Zu (ZeY (Zbz (Zv (Zl vL jI) (Zl vL jI) ZaA) jI Zac) (Zbz (Zv (Zv (Zl vL jI) (Zl vL jI) Za7) (Zl vL jI) ZaA) jI Zac)))))
theorem ZuQ: DD w s₀ mg mb 625 1 Zo8:=by
 unfold DD;k_fill
 refine ZP (names:=["_law_one","_law_other"]) (g:=(TM.XS.g Zg6)) ?_
 exact fun _ _ _ _ _ _ _ c _ _=>(Zj (ZJ (ZE vL jN ZaT) (Zk (Zu jB)) ZL) (Zk (Zu (ZeY (Zbz vL jN Zcg) (Zbz vL vL ZkA)))))
theorem ZoZ: DD w s₀ mg mb 639 2 ZoL:=by
 unfold DD;k_fill
 refine ZP (names:=["_law_one","_law_other","_law_i","_law_j","_law_t"]) (g:=(TM.XS.g Zel)) ?_
 exact fun _ _ _ _ _ _ _ c _ _=>(Zj (ZJ (ZaY (ZaE (ZE vL jN ZaT) (ZaE (ZE vL jN ZaT) Zb1))) (Zk (Zu (Zbz vL jN ZaT))) ZL) (Zj (ZbS sL (JI.range (nB c) (jc (Zaf (nB c) (jc (Zl vL jI) Ze) Zav) Ze)) (Zk (ZbS sL (JI.range (nB c) (jc (Zaf (nB c) (jc (Zl vL jI) Ze) Zav) Ze)) (Zk (ZJ (ZbR (ZaQ (cF c ZuQ (jc (Zl (Zl (Zl vL jI) vL) vL) (jc (Zl (Zl (Zl vL jI) vL) vL) Ze))))) (Zk (Zu jB)) ZL))))) (Zj (ZbS sL (JI.range (nB c) (jc (Zaf (nB c) (jc (Zl vL jI) Ze) Zav) Ze)) (Zk (ZJ (ZbR (ZaQ (cF c Zt5 (jc (Zl (Zl vL jI) vL) (jc (Zl (Zl vL jI) vL) Ze))))) (Zk (Zu jB)) ZL))) (Zk (Zu jB)))))
theorem Zol: DD w s₀ mg mb 686 15 Zoi:=by
 unfold DD;k_fill
 refine ZP (names:=["_law_one","_law_other","_law_act_here","_law_narrow","_law_wide","_law_many","_law_kept","_law_low","_law_high"]) (g:=(TM.XS.g Zgw)) ?_
 exact fun _ _ _ _ _ _ _ c _ _=>(Zj (ZC sL (Zaf (nB c) (jc (Zl vL jI) Ze) Zav)) (Zj (ZC sL (J.list (jc (cF c Zp7 (jc vL Ze)) (jc (cF c Zp7 (jc vL Ze)) Ze)))) (Zj (ZC sL (cF c ZqD (jc vL (jc vL (jc vL Ze))))) (Zj (ZC sL (cF c ZqD (jc vL (jc vL (jc vL Ze))))) (Zj (ZJ (ZaY (ZaE (ZE vL (Zl vL jI) ZbK) (ZaE (ZE vL (Zl vL jI) ZbK) Zb1))) (Zk (Zu jB)) ZL) (Zk (Zu (Zsa (cF c Zp8 (jc vL (jc vL Ze))) (ZeY (cF c Zp8 (jc vL (jc vL Ze))) (cF c ZoZ (jc vL (jc vL Ze))))))))))))
theorem Zuq: DD w s₀ mg mb 597 3 ZoN:=by
 unfold DD;k_fill
 refine ZP (names:=["_law_script","_law_k","_law_told_here","_law_bounds","_law_rests","_law_i","_law_j","_law_way","_law_t","_law_one"]) (g:=(TM.XS.g ZgV)) ?_
 exact fun _ _ _ _ _ _ _ c _ _=>(Zj (by refine sO sL ?_ ?_ ?_;(exact(JI.seq (Zl vL jI)));(exact fun _ _=>(ZeD (nB (Zbh c)) (jc vO Ze) ZfC));(exact fun _ _=>JF.nil)) (Zj (ZC sL (ZeD (nB c) (jc (Zl vL jI) Ze) ZfC)) (Zj (ZC sL (cF c law_pick_d (jc vL (jc vL (jc (Zaf (nB c) (jc vL Ze) Zav) Ze))))) (Zj (ZC sL (cF c law_pick_d (jc vL (jc (Zv vL jI Z0) (jc (Zaf (nB c) (jc vL Ze) Zav) Ze))))) (Zj (ZC sL (cF c law_pick_d (jc vL (jc (Zv vL jI Z0) (jc jI Ze))))) (Zj (ZJ (ZaY (Zbf (ZE vL jI Zc0) (Zbf (ZE vL vL ZbK) (Zbf (ZE (Zl (Zl vL vL) vL) jN ZaT) ZcU)))) (Zk (S1.put (cF c ZdM (jc vL (jc (Zv vL jI Z0) Ze))) (Zl vL vL) vL)) (Zk (ZJ (ZaY (Zbf (ZE vL jI Zc0) (Zbf (ZE vL vL ZbK) ZcU))) (Zk (S1.put (Zv (Zv (Zl (Zl vL vL) vL) jI Za7) (cF c law_pick_d (jc vL (jc (Zv vL jI Z0) (jc jI Ze)))) Za7) (Zl vL vL) vL)) (Zk (ZJ (ZE (Zaf (nB c) (jc vL Ze) Zav) jI ZeZ) (Zj (ZC sL (cF c law_pick_d (jc vL (jc vL (jc (Zaf (nB c) (jc vL Ze) Zav) Ze))))) (Zj (ZC sL (Zl vL vL)) (Zk (S1.put (cF c ZiZ (jc (Zv (Zl vL jI) (Zv jI (Zv vL jI ZaA) Z0) Zbc) (jc (Zv (Zl vL jI) (cF c law_pick_d (jc vL (jc (Zv vL jI Z0) (jc jI Ze)))) Z0) Ze))) vL vL)))) ZL))))) (Zk (Zu (J.tup (jc vL (jc vL Ze)))))))))))
end
end L
end
section
open PySem PySem.W PySem.Calls PyProof.Rows PM
open L
seal PySem.wpAny PM.J PM.Js PM.JT PM.JA PM.JF PM.JI PM.JI2 PM.JP PM.S1 PM.Ss PM.Sto PM.Rd PM.Nm PM.OpN PM.Op2 PM.Def
theorem PySem.Challenge.cw_seer_k57_wider_stays_wider_holds : PySem.Challenge.rw_seer_k57_wider_stays_wider.Holds :=
 head (by
  w_strict (k_go0;(rename Well _ _ _ _=>w9);(rename Frag.In _ _=>kx9);(rename Top _ _ _ _ _ _=>t9);(rename Fr _ _ _ _=>f9);(rename News _ _ _ _=>n9);(rename CellsAre _ _ _=>x9);(rename (PyData.layable0 _=true)=>hl9);(obtain⟨H9,e9⟩:=L.Zum (by omega) hl9);(refine' PM.Zxh (names:=["_law_script","_law_many","_law_boxes","_law_one","_law_other","_law_claim_here","_law_act_here","_law_some","_law_narrow","_law_wide"]) (g:=(TM.XS.g Zh7)) (room:=15) ?hb ?h1 ?h2 ?h3 ?h4 kx9 t9 w9 ?len f9 n9 x9 e9 ?post);(case h1=>decide);(case h2=>decide);(case h3=>rfl);(case h4=>rfl);(case len=>(rw[PM.ZaZ];omega));(case hb=>(intro dp un gd L a ccd outer h₀ hu clr hd1 hu1;exact(Zj (ZC sL (Zl (J.list (jc jI (jc jI (jc jI (jc jI (jc jI (jc jI (jc jI (jc jI (jc jI Ze)))))))))) (cF clr law_pick_d (jc vC (jc jI (jc jI Ze)))))) (Zj (ZC sC (by refine cO ?_ ?_ ?_;(exact(JI.range (nB clr) (jc vL Ze)));(exact fun _ _=>(cF (Zbh clr) ZdM (jc vD (jc (Zv jI vO Z0) Ze))));(exact fun _ _=>JF.nil))) (Zj (ZC sL (cF clr Zp5 (jc vC (jc jI (jc vC Ze))))) (Zj (ZJ (ZE (cF clr law_pick_d (jc vC (jc jI (jc jI Ze)))) jI Zac) (Zk (ZC sL (cF clr Zuq (jc vC (jc jI (jc vL Ze)))))) ZL) (Zj (ZC sL (cF clr Zpv (jc vC (jc jI (jc vL Ze))))) (Zj (ZJ (ZbR (ZaQ (cF clr ZoZ (jc (cF clr Zdy (jc vL Ze)) (jc (cF clr Zdy (jc vL Ze)) Ze))))) (Zk (Zu jB)) ZL) (Zj (ZC sL (cF clr ZuM (jc vC (jc jI (jc vC Ze))))) (Zj (ZJ (ZbR (ZaQ (cF clr Zol (jc vL (jc vL (jc (J.tup (jc jS (jc vL (jc (Zbz (cF clr law_pick_d (jc vC (jc jI (jc jI Ze)))) jI Zac) Ze)))) (jc (J.list Ze) (jc (J.list Ze) Ze)))))))) (Zk (Zu jB)) ZL) (Zj (ZC sL (cF clr ZtV (jc vC (jc vC Ze)))) (Zj (ZC sL (J.list (jc (cF clr ZdM (jc vC (jc jI Ze))) Ze))) (Zj (ZJ (ZE (Zl vL jI) jS Zac) (Zk (ZC sL (Zv (by refine cO ?_ ?_ ?_;(exact(JI.seq (Zl vL jI)));(exact fun _ _=>(cF (Zbh clr) Zpw (jc vO (jc vD Ze))));(exact fun _ _=>JF.nil)) vL Z0))) ZL) (Zj (ZC sL (cF clr Zp5 (jc vC (jc jI (jc vL Ze))))) (Zj (ZC sL (cF clr Zpv (jc vC (jc jI (jc vL Ze))))) (Zk (Zu (cF clr Zol (jc vL (jc vL (jc vL (jc (J.list (jc vL Ze)) (jc (J.list (jc vL Ze)) Ze)))))))))))))))))))))));(case post=>(intro h' tk' m' F';k_steps)))
  )
end
